/- Texts of mine, joined. -/
import Derived.OpenShut
import Derived.Test.YtncadccbepjekaaGreatDoorU1
import Derived.Test.YtncadccbepjekaaGreatDoorU2
set_option maxRecDepth 100000
set_option maxHeartbeats 400000
namespace Go.Proofs.YtncadccbepjekaaGreatDoor
open Go.RowKit
theorem aoR{w:World}{a:Addr}{v:Value}(h:w.cell? a=some v):a.block<w.heap.size:=by
 rcases Nat.lt_or_ge a.block w.heap.size with h1 | h1
 · exact h1
 · unfold World.cell? at h;rw[Array.getElem?_eq_none h1]at h;simp at h
theorem ajI{w:World}{a:Option Addr}{len cap:Nat}{zs:List Int}
 (h:(a=none/\len=0/\cap=0/\zs= [])\/
  ∃x,a=some x/\len<=cap/\cap<=maxLen/\zs.length=cap/\(∀i,i<zs.length->w.cell? (x.add i)=some (.int .u8 (zs.getD i 0)))/\∀n∈zs,(Lit.int .u8 n).wf=true):
 ∃bs:List UInt8,Rd w w.heap.size a len bs/\len<=cap/\cap<=maxLen/\(a=none->cap=0):=by
 rcases h with⟨rfl,rfl,rfl,rfl⟩ | ⟨x,rfl,hl,hm,hz,hc,hwf⟩
 · exact⟨[],Rd.nil_,Nat.le_refl _,Nat.zero_le _,fun _=>rfl⟩
 · refine⟨(zs.take len).map fun n=>UInt8.ofNat n.toNat,⟨by simp;omega,fun hn=> ?_⟩,hl,hm,fun h=>by cases h⟩;have h0:=hc 0 (by omega);obtain⟨b,off,spot⟩:=x;obtain rfl:spot=none:=by simpa[Addr.add]using World.cell?_spot h0
   refine⟨b,off,rfl,?_,fun j u hu=> ?_⟩
   · have:=aoR h0;simpa[Addr.add]using this
   · rw[List.getElem?_map,Option.map_eq_some_iff]at hu;obtain⟨n,hn1,rfl⟩:=hu;have hj:j<len:=by
      rcases Nat.lt_or_ge j len with h1 | h1
      · exact h1
      · rw[List.getElem?_eq_none (by rw[List.length_take];omega)]at hn1;cases hn1
     rw[List.getElem?_take_of_lt hj]at hn1;have hg:=hc j (by omega);have e:(⟨b,off,none⟩:Addr).add j=⟨b,off+j,none⟩:=by unfold Addr.add;split<;>simp_all
     rw[e]at hg;rw[hg,List.getD,hn1];have hb:=bounds_u8 (hwf n (List.mem_of_getElem? hn1));have h1:(UInt8.ofNat n.toNat).toNat=n.toNat:=by rw[UInt8.toNat_ofNat'];omega
     simp only[Option.getD_some,h1];congr 2;omega
theorem atc{a b:Nat}(h:a=b):Ending.returned (.int .u64 (a:Int))= .returned (.int .u64 (b:Int)):=by rw[h]
theorem agB (n:Nat) (h:n<18446744073709551616):IntKind.u64.wrap (n:Int)=(n:Int):=by
 rw[IntKind.wrap_u64];omega
theorem ak8 (bs:List UInt8) (k:Nat) (hl:k<bs.length) (h8:k<8):
 bits BinOp.or IntKind.u64 (↑(ab2 (bs.take k))) (IntKind.u64.wrap (IntKind.u64.wrap ↑bs[k].toNat*2^(8*k)))=((ab2 (bs.take (k+1)):Nat):Int):=by
 have hx:=bs[k].toNat_lt;have hlen:(bs.take k).length=k:=by rw[List.length_take];omega
 have ha:=agv (bs.take k);rw[hlen]at ha;have hk8:=ajD k (by omega);have hs:=adV (bs.take (k+1)) (by rw[List.length_take];omega);rw[aeA bs k hl]at hs;have e:(2:Int)^(8*k)=((256^k:Nat):Int):=by
  rw[Int.pow_mul];simp
 rw[agB _ (by omega),e,<-Int.natCast_mul,agB _ (by rw[Nat.mul_comm];omega),bits_or_u64_nat _ _ (by omega) (by rw[Nat.mul_comm];omega),aq8 _ _ _ ha,aeA bs k hl]
theorem ahP (A:Option Addr) (n c B:Nat) (bs:List UInt8) (w:World) (h:Rd w B A n bs) (hn:n<=8):
 Calls Tryz.prog 266 #[.slice A n c] w fun e w'=>e= .returned (.int .u64 (ab2 bs:Int))/\w=w':=by
 go_enter Tryz.func266,Tryz.ntmps266
 go_wp2
 go_loop [3,8] (fun v i=>∃k:Nat,k<=n/\i= .int .i64 k/\v= .int .u64 (ab2 (bs.take k):Int)) (fun _ i=>n-(intOf i).toNat)
 case atStart=>exact⟨0,Nat.zero_le _,rfl,rfl⟩
 case round=>
  obtain⟨k,hk,rfl,rfl⟩:=hrel;by_cases hlt:k<n
  · obtain⟨b,off,rfl,hb,hl,hc⟩:=h.at_ hlt;go_wp2
    go_round
    case rel=>exact⟨k+1,by omega,by go_num,by rw[ak8 bs k hl (by omega)]⟩
    case measure=>simp[intOf];omega
  · go_wp2
    go_ret
    exact⟨atc (by rw[List.take_of_length_le (by have:=h.1;omega)]),rfl⟩
theorem abk{a b:Bool}(h:a=b):Ending.returned (.bool a)= .returned (.bool b):=by rw[h]
theorem aoS (A:Option Addr) (len c:Nat) (p n:Nat) (w:World) (hl:len<=1000000) (h2:p+n<=len):
 Calls Tryz.prog 265 #[.slice A len c, .int .u64 (p:Int), .int .u64 (n:Int)] w fun e w'=>e= .returned (.bool true)/\w=w':=by
 have h3:n<=len:=by omega
 go_enter Tryz.func265,Tryz.ntmps265
 go_wp2
 go_ret
 exact⟨abk (decide_eq_true (by omega)),rfl⟩
theorem Rd.sub{w:World}{B b off n:Nat}{bs:List UInt8}(h:Rd w B (some ⟨b,off,none⟩) n bs) (k m:Nat) (hm:k+m<=n):
 Rd w B (some ⟨b,off+k,none⟩) m ((bs.drop k).take m):=by
 refine⟨by rw[List.length_take,List.length_drop,h.1];omega,fun hn=> ?_⟩;obtain⟨b',off',e,hb,hc⟩:=h.2 (by omega)
 cases e;refine⟨b,off+k,rfl,hb,fun j u hu=> ?_⟩;have hj:j<m:=by
  rcases Nat.lt_or_ge j m with h1 | h1
  · exact h1
  · rw[List.getElem?_eq_none (by rw[List.length_take];omega)]at hu
    cases hu
 rw[Nat.add_assoc];refine hc _ u ?_;rw[List.getElem?_take_of_lt hj,List.getElem?_drop]at hu;exact hu
theorem adY (A:Option Addr) (len c B:Nat) (bs:List UInt8) (p:Nat) (w:World) (h:Rd w B A len bs) (hlc:len<=c) (hl:len<=1000000) (h2:p+8<=len):
 Calls Tryz.prog 230 #[.slice A len c, .int .u64 (p:Int)] w fun e w'=>e= .returned (.tuple #[.int .u64 (ab2 ((bs.drop p).take 8):Int), .bool true])/\w=w':=by
 obtain⟨b,off,rfl,hb,_,_⟩:=h.at_ (k:=0) (by omega);have hs:=h.sub p 8 h2;go_enter Tryz.func230,Tryz.ntmps230
 go_wp2_with fail
 refine(aoS _ _ _ _ 8 _ hl h2).mono ?_;rintro e w' ⟨rfl,rfl⟩;go_wp2_with fail
 refine(ahP _ _ _ _ _ _ hs (by omega)).mono ?_;rintro e w' ⟨rfl,rfl⟩;go_wp2
 go_ret2
 exact⟨rfl,rfl⟩
theorem afq:(Tryz.prog.info? 5).map (fun i=>(i.zero,i.size,i.bytes))=some (some (.int .u8 0),1,1):=by kernel_rfl
def acn (k n v:Nat):List UInt8:=aaF k v++List.replicate (n-k) 0
theorem aiE (k n v:Nat) (h:k<n):(acn k n v)[k]?=some 0:=by
 rw[acn,List.getElem?_append_right (by rw[aag];omega),aag,Nat.sub_self,List.getElem?_replicate,if_pos (by omega)]
theorem aiF (k n v:Nat) (h:k<n):(acn k n v).set k (UInt8.ofNat (v/256^k%256))=acn (k+1) n v:=by
 unfold acn;rw[aoJ,List.set_append_right _ _ (by rw[aag];omega),aag,Nat.sub_self,List.append_assoc];obtain⟨m,hm⟩:∃m,n-k=m+1:=⟨n-k-1,by omega⟩;have hm':n-(k+1)=m:=by omega
 rw[hm,hm',List.replicate_succ];rfl
theorem auz (v k:Nat):Value.int .u8 ((v:Int)/2^(8*k)%256)=bv (UInt8.ofNat (v/256^k%256)):=by
 have e:(2:Int)^(8*k)=((256^k:Nat):Int):=by rw[Int.pow_mul];simp
 rw[bv,adU,e];simp
theorem ahQ (v n:Nat) (w:World) (hn:n<=8) (_hv:v<18446744073709551616):
 Calls Tryz.prog 182 #[.int .u64 (v:Int), .int .i64 (n:Int)] w fun e w'=>e= .returned (.slice (some ⟨w.heap.size,0,none⟩) n n)/\Fill w' w.heap.size 5 (aaF n v)/\Below w.heap.size w w':=by
 have hmk:=fun W=>run_make_row' (P:=Tryz.prog) 37 5 (.int .u8 0) 1 Tryz.underlying37 afq rfl .i64 .i64 n (by omega) (by omega) W;go_enter Tryz.func182,Tryz.ntmps182
 go_wp2
 rw[acE];have hst:Fill (w.alloc (.cells (acd (List.replicate n 0)) 5)) w.heap.size 5 (acn 0 n v):=Fill.made w 5 _;have hbl:Below w.heap.size w (w.alloc (.cells (acd (List.replicate n 0)) 5)):=(Below.refl _ _).alloc (Nat.le_refl _) _;clear hmk;generalize w.alloc (.cells (acd (List.replicate n 0)) 5)=w0 at*;go_loopw [11] (fun i wr=>∃k:Nat,k<=n/\i= .int .i64 k/\Fill wr w.heap.size 5 (acn k n v)/\Below w.heap.size w wr) (fun i _=>n-(intOf i).toNat)
 case atStart=>exact⟨0,Nat.zero_le _,rfl,hst,hbl⟩
 case round=>
  obtain⟨k,hk,rfl,hf,hb⟩:=hrel;by_cases hlt:k<n
  · have hc:wr.cell? ⟨w.heap.size,k,none⟩=some (.int .u8 0):=by rw[hf.cell,aiE k n v hlt];rfl
    have hz:=hf.thaw k;have hput:=hf.put k (UInt8.ofNat (v/256^k%256));rw[aiF k n v hlt]at hput;go_wp2
    go_roundw
    case rel=>rw[auz];exact⟨k+1,by omega,by go_num,hput,hb.setCell (Nat.le_refl _) _⟩
    case measure=>simp[intOf];omega
  · go_wp2
    go_ret
    obtain rfl:k=n:=by omega
    exact⟨rfl,by simpa[acn]using hf,hb⟩
theorem agC (v:Nat) (w:World) (hv:v<18446744073709551616):
 Calls Tryz.prog 120 #[.int .u64 (v:Int)] w fun e w'=>e= .returned (.slice (some ⟨w.heap.size,0,none⟩) 8 8)/\Fill w' w.heap.size 5 (aaF 8 v)/\Below w.heap.size w w':=by
 go_enter Tryz.func120,Tryz.ntmps120
 go_wp2_with fail
 refine(ahQ v 8 _ (by omega) hv).mono ?_;rintro e w' ⟨rfl,hf,hb⟩;go_wp2
 go_ret
 exact⟨rfl,hf,hb⟩
theorem amr (A:Option Addr) (len c B:Nat) (bs:List UInt8) (p:Nat) (w:World) (h:Rd w B A len bs) (hlc:len<=c) (hl:len<=1000000) (h2:p+4<=len):
 Calls Tryz.prog 274 #[.slice A len c, .int .u64 (p:Int)] w fun e w'=>e= .returned (.tuple #[.int .u32 (ab2 ((bs.drop p).take 4):Int), .bool true])/\w=w':=by
 obtain⟨b,off,rfl,hb,_,_⟩:=h.at_ (k:=0) (by omega);have hs:=h.sub p 4 h2;have hlt:ab2 ((bs.drop p).take 4)<4294967296:=by
  have:=agv ((bs.drop p).take 4);rw[hs.1]at this;exact this
 go_enter Tryz.func274,Tryz.ntmps274
 go_wp2_with fail
 refine(aoS _ _ _ _ 4 _ hl h2).mono ?_;rintro e w' ⟨rfl,rfl⟩;go_wp2_with fail
 refine(ahP _ _ _ _ _ _ hs (by omega)).mono ?_;rintro e w' ⟨rfl,rfl⟩;go_wp2
 go_ret2
 exact⟨rfl,rfl⟩
theorem aiG (v:Nat) (w:World) (hv:v<4294967296):
 Calls Tryz.prog 183 #[.int .u32 (v:Int)] w fun e w'=>e= .returned (.slice (some ⟨w.heap.size,0,none⟩) 4 4)/\Fill w' w.heap.size 5 (aaF 4 v)/\Below w.heap.size w w':=by
 go_enter Tryz.func183,Tryz.ntmps183
 go_wp2_with fail
 refine(ahQ v 4 _ (by omega) (by omega)).mono ?_;rintro e w' ⟨rfl,hf,hb⟩;go_wp2
 go_ret
 exact⟨rfl,hf,hb⟩
def LaterS (S:Nat->Prop) (w:World):Type:={w':World//Tch S w w'}
def LaterS.val{S:Nat->Prop}{w:World}(x:LaterS S w):World:=x.1
theorem LaterS.ext{S:Nat->Prop}{w:World}(x:LaterS S w):Tch S w x.val:=x.2
instance (S:Nat->Prop) (w:World):Nonempty (LaterS S w):=⟨⟨w,Tch.refl _ _⟩⟩
def agD (S:Nat->Prop) (w:World) (w':World):Prop:=∃x:LaterS S w,w'=x.val
attribute [go_sem] agD
theorem Tch.cell{S:Nat->Prop}{w w':World}(h:Tch S w w'){a:Addr}{v:Value}(hc:w.cell? a=some v) (hn:¬S a.block):w'.cell? a=some v:=
 (World.cell?_of_block (h.block a.block (cell_size hc) hn)).trans hc
where cell_size {w:World} {a:Addr} {v:Value} (h:w.cell? a=some v):a.block<w.heap.size:=by
        unfold World.cell? at h;rcases Nat.lt_or_ge a.block w.heap.size with h1 | h1
        · exact h1
        · rw[Array.getElem?_eq_none h1]at h;simp at h
section
variable {P:Program} {ops:Array Oper} {Q:Exit->Act->World->Prop} {T:List Nat}
def wpS (P:Program) (ops:Array Oper) (Q:Exit->Act->World->Prop) (last T:List Nat):List (List Nat × Nat)->(Nat->Prop)->Act->World->Prop
 | [],S,a,w=>wpQuiet P ops (agD S w) (fun a'=>wpList P ops Q (pick ops T) a' w) (pick ops last) a
 | (rs,i)::more,S,a,w=>wpQuiet P ops (agD S w) (fun a'=>wpOp P ops Q i (fun a'' w''=>Tch S w w''/\∃S':Nat->Prop,(∀k,k<w.heap.size->S' k->S k)/\wpS P ops Q last T more S' a'' w'') a' w) (pick ops rs) a
theorem aiH (hsel:Region.noSelect ops=true) (hQ:∀c a t v w,Q (.panic c) (Act.put a (some t) v) w->Q (.panic c) a w) (S:Nat->Prop) (w:World) (K:Act->Prop) (n:Nat):
 ∀(rs:List Nat) (l:Array Bool) (a:Act),aoB ops T l rs=true->wpQuiet P ops (agD S w) K (pick ops rs) a->
  (∀a',K a'->abU P ops Q (Tch S w) T n (ajA l rs) a' w)->abU P ops Q (Tch S w) T (n+rs.length) l a w
 | [],l,a,_,h,hk=>hk a h
 | i::r,l,a,hc,h,hk=>by
  simp only[aoB,Bool.and_eq_true]at hc;obtain⟨h1,h2,h3,h5,h4⟩:=hc;simp only[ak2,Bool.and_eq_true,Bool.or_eq_true]at h5
  cases ho:ops[i]? with
  | none=>simp[ho]at h3
  | some o=>
   simp only[ho,Option.map_some,Option.getD_some]at h3;simp only[pick,ho]at h;have step:∃v,YieldsIf P ops (Tch S w) o v a/\wpQuiet P ops (agD S w) K (pick ops r) (a.put o.dst v):=by
    unfold wpQuiet at h;by_cases hw:Region.wanted o (yielded ops a.tmps)=true
    · rw[if_pos hw]at h;obtain⟨v,hv,hn⟩:=h;refine⟨v, .inl ⟨hw,fun w' hw'=> ?_⟩,hn⟩;have hq:=hv w' ⟨⟨w',hw'⟩,rfl⟩;unfold Oper.quietAt at hq;generalize hr:(execOp a.eval o).run P w'=res at hq
      cases res with
      | ok m w1=>
       obtain⟨x,rfl⟩:=ajB h3 hr;simp only[Oper.quietUpon]at hq;rw[hq.1,hq.2]
      | halt x w1=>simp only[Oper.quietUpon]at hq
    · rw[if_neg hw]at h;exact⟨undef, .inr ⟨by simpa using hw,rfl⟩,h⟩
   obtain⟨v,hy,hn⟩:=step;have ih:=aiH hsel hQ S w K n r (l.setIfInBounds i true) (a.put o.dst v) h4 hn hk;have hQ':∀c a w,Q (.panic c) (a.put o.dst v) w->Q (.panic c) a w:=fun c a' w' hh=>by
    cases hd:o.dst with
    | none=>rw[hd]at hh;exact hh
    | some t=>rw[hd]at hh;exact hQ c a' t v w' hh
   have hy':YieldsIf P ops (fun w'=>mv ops i=true\/Tch S w w') o v a:=by
    rcases hy with⟨hw,hv⟩ | hy
    · refine .inl ⟨hw,fun w' hw'=> ?_⟩;rcases hw' with hw' | hw'
      · obtain⟨o',x,ho',hx⟩:=as7 hw';obtain rfl:o'=o:=Option.some.inj (ho'.symm.trans ho);have e:=hv w (Tch.refl _ _);rw[aoH hx]at e ⊢;injection e with e1 e2;injection e1 with e1;rw[e1]
      · exact hv w' hw'
    · exact .inr hy
   have:=ata (Q:=Q) (S:=Tch S w) (T:=T) ho hsel hQ' (h5.imp id fun g=>⟨g.1,fun j hj=>by have:=List.all_eq_true.1 g.2.2 j hj;simpa using this⟩) (n+r.length) l a w (Region.free_spec ho h2) (h5.imp id fun g k hk=>by have:=List.all_eq_true.1 g.2.1 k hk;simpa using this) (by simpa using h1) hy' (.inr (Tch.refl _ _)) ih;simpa[Nat.add_assoc]using this
theorem ajJ (hsel:Region.noSelect ops=true) (hQ:∀c a t v w,Q (.panic c) (Act.put a (some t) v) w->Q (.panic c) a w) (last:List Nat):
 ∀(p:List (List Nat × Nat)) (l:Array Bool) (S:Nat->Prop) (a:Act) (w:World),aiB ops last T l p=true->wpS P ops Q last T p S a w->abU P ops Q (Tch S w) T (ads last T p) l a w
 | [],l,S,a,w,hc,h=>by
  simp only[aiB,Bool.and_eq_true]at hc;exact aiH hsel hQ S w _ T.length last l a hc.1 h (fun a' ha=>aeS (fun _ h=>h) T _ a' w (fun _ h=>h) hc.2 ha)
 | (rs,i)::more,l,S,a,w,hc,h=>by
  simp only[aiB,Bool.and_eq_true,beq_iff_eq]at hc;obtain⟨h1,⟨h2,h6⟩,h3⟩:=hc;refine aiH hsel hQ S w _ (1+ads last T more) rs l a h1 h (fun a' ha=> ?_);rw[Nat.add_comm];refine⟨fun h0=>(by rw[h2]at h0;cases h0),fun j hj=> ?_⟩;rw[h2]at hj;obtain rfl:j=i:=by simpa using hj
  refine wpOp_mono (fun a'' w'' hh=>⟨fun _ _=>hh.1,fun hm=>by simp[hm]at h6,?_⟩) ha;obtain⟨hb,S',hS,hm⟩:=hh;exact aa7 (fun w3 h4=>hb.trans h4 hS) _ _ _ _ (ajJ hsel hQ last more _ S' a'' w'' h3 hm)
theorem aa0{id:Nat}{a:Act}{w:World}(S:Nat->Prop) (p:List (List Nat × Nat)) (last T:List Nat) (hm:P.follows .mixedOrders=true) (hsel:Region.noSelect ops=true)
 (hc:(aiB ops last T (Array.replicate ops.size false) p&&ads last T p==ops.size)=true) (hQ:∀c a t v w,Q (.panic c) (Act.put a (some t) v) w->Q (.panic c) a w)
 (h:wpS P ops Q last T p S a w.drew):(Code.region id ops true).wp P Q a w:=by
 simp only[Bool.and_eq_true,beq_iff_eq]at hc;have:=ajJ hsel hQ last p _ S a w.drew hc.1 h;rw[hc.2]at this;exact wp_region_any hm (ac7 _ _ _ _ this)
theorem abF{rs:List Nat}{i:Nat}{more:List (List Nat × Nat)}{last:List Nat}{S:Nat->Prop}{a:Act}{w:World}{l:List Oper}(hl:pick ops rs=l)
 (h:wpQuiet P ops (agD S w) (fun a'=>wpOp P ops Q i (fun a'' w''=>Tch S w w''/\∃S':Nat->Prop,(∀k,k<w.heap.size->S' k->S k)/\wpS P ops Q last T more S' a'' w'') a' w) l a):wpS P ops Q last T ((rs,i)::more) S a w:=by
 subst hl;exact h
theorem acX{last:List Nat}{S:Nat->Prop}{a:Act}{w:World}{l t:List Oper}(hl:pick ops last=l) (ht:pick ops T=t)
 (h:wpQuiet P ops (agD S w) (fun a'=>wpList P ops Q t a' w) l a):wpS P ops Q last T [] S a w:=by
 subst hl ht;exact h
theorem abO{i:Nat}{S:Nat->Prop}{dst:Option Tmp}{f:FuncId}{args:Array Operand}{tys:Array TypeId}{ty:TypeId}{pos:String}{after:Array Edge}{guard:Option (Nat × Bool)}{a:Act}{w:World}{K:(Nat->Prop)->Act->World->Prop}
 (hf:∀(xs:Array Value) (w:World),(callFunc f xs).run P w= .ok (.enter f xs) w)
 (ho:ops[i]?=some {dst:=dst,op:= .call {callee:= .value (.func f),args:=args,argTypes:=tys},type:=ty,pos:=pos,after:=after,guard:=guard})
 (hw:Region.wanted {dst:=dst,op:= .call {callee:= .value (.func f),args:=args,argTypes:=tys},type:=ty,pos:=pos,after:=after,guard:=guard} (yielded ops a.tmps)=true)
 {vs:Array Value} (hvl:args.toList.map a.eval=vs.toList)
 {R:Value->World->Prop} (hc:Calls P f vs w (fun e w'=>∃v,e= .returned v/\Tch S w w'/\R v w')) (hk:∀v w',Tch S w w'->R v w'->∃S':Nat->Prop,(∀k,k<w.heap.size->S' k->S k)/\K S' (a.put dst v) w'):
 wpOp P ops Q i (fun a'' w''=>Tch S w w''/\∃S':Nat->Prop,(∀k,k<w.heap.size->S' k->S k)/\K S' a'' w'') a w:=by
 unfold wpOp;simp only[ho];rw[if_pos hw];refine .inl ?_;have hvs:args.map a.eval=vs:=Array.ext' (by simpa using hvl);subst hvs;unfold Oper.wp;rw[execOp_call_go,hf];simp only[Oper.upon,Array.empty_append,Array.append_empty];refine hc.mono fun e w' hh=> ?_;obtain⟨v,rfl,h1,h2⟩:=hh;exact⟨h1,hk v w' h1 h2⟩
end
end Go.Proofs.YtncadccbepjekaaGreatDoor
