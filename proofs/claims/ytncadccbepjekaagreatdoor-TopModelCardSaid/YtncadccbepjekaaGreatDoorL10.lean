/- Texts of mine, joined. -/
import Derived.Maps.AppendAt
import Derived.RegionTactic
import Derived.ChangeAlike
import Derived.BigRegion
import Derived.Test.YtncadccbepjekaaGreatDoorL9
set_option maxRecDepth 100000
set_option maxHeartbeats 8000000
namespace Go.Proofs.YtncadccbepjekaaGreatDoor
open Go.RowKit
def ac2 (l:List Cl) (most:Nat):Bool:=decide (l.length<=most)&&l.all fun x=>decide (x.b.length<=2000)
theorem ahf (w:World) (A:Option Addr) (k:Nat) (l:List Cl) (hL:ClRd w w.heap.size A l) (hm:l.length<=9223372036854775807) (most:Nat) (h1:most<=1000):
 Calls Tryz.prog 14 #[.slice A l.length k, .int .i64 (most:Int)] w fun e w'=>e= .returned (.int .i64 (if ac2 l most=true then 1 else 0))/\w=w':=by
 by_cases hl:most<l.length
 · have e:ac2 l most=false:=by unfold ac2;rw[decide_eq_false (by omega)];rfl
   rw[e];have g1:decide (most<l.length)=true:=decide_eq_true hl;clear e hL;go_enter Tryz.func14,Tryz.ntmps14
   go_wp2
   go_ret
   exact⟨rfl,rfl⟩
 · have g1:decide (most<l.length)=false:=decide_eq_false hl;have HE:Hid (∀j,(∀i x,i<j->l[i]?=some x->x.b.length<=2000)->(j=l.length->ac2 l most=true)/\∀x,l[j]?=some x->2000<x.b.length->ac2 l most=false):=fun j hj=>by
    refine⟨fun e=> ?_,fun x hx hb=> ?_⟩
    · unfold ac2;rw[decide_eq_true (by omega),Bool.true_and,List.all_eq_true];intro x hx;obtain⟨i,hi⟩:=List.mem_iff_getElem?.1 hx;exact decide_eq_true (hj i x (by have:=aau hi;omega) hi)
    · unfold ac2;have:(l.all fun x=>decide (x.b.length<=2000))=false:=by
       rw[List.all_eq_false];exact⟨x,List.mem_of_getElem? hx,by simp;omega⟩
      rw[this,Bool.and_false]
   obtain⟨n,hn⟩:=nmE l.length;rw[hn]at g1 hl hm ⊢;have HN:=hE0 hn;obtain⟨v,hv⟩:∃v:Int,(if ac2 l most=true then (1:Int) else 0)=v:=⟨_,rfl⟩;have HV:=hE0 hv;rw[hv];have HL:=hE0 hL;clear hL hn hv;go_enter Tryz.func14,Tryz.ntmps14
   go_wp2
   go_loopw [5] (fun i wr=>∃j:Nat,i= .int .i64 (j:Int)/\j<=n/\(∀i x,i<j->l[i]?=some x->x.b.length<=2000)/\w=wr) (fun i _=>n-(intOf i).toNat)
   case atStart=>exact⟨0,rfl,Nat.zero_le _,fun i x hi=>absurd hi (Nat.not_lt_zero _),rfl⟩
   case round=>
    obtain⟨j,rfl,hj,hs,rfl⟩:=hrel;obtain⟨hE1,hE2⟩:=HE.out j hs;by_cases hlt:j<n
    · obtain⟨x,hx⟩:∃x,l[j]?=some x:=⟨l[j]'(by rw[HN.out];exact hlt),List.getElem?_eq_getElem _⟩;obtain⟨b,o,rfl,_,hc⟩:=HL.out (by rw[HN.out];omega);obtain⟨⟨c0,c1,c2,c3,c4,c5,c6⟩,_⟩:=hc j x hx;have hE3:=hE2 x hx;obtain⟨bl,hbl⟩:=nmE x.b.length;rw[hbl]at c6 hE3;have HX:=hE0 hx;have HBL:=hE0 hbl;have HS:=hE0 hs;by_cases hb:2000<bl
      · have g3:decide ((2000:Int)<(bl:Int))=true:=decide_eq_true (by omega);have e:=hE3 hb;have HV0:Hid (v=0):=(show v=0 by rw[<-HV.out,e];rfl);clear hE1 hE2 hE3 hc hx hbl hs e;go_wp2
        go_ret
        rw[HV0.out];exact⟨rfl,rfl⟩
      · have g3:decide ((2000:Int)<(bl:Int))=false:=decide_eq_false (by omega);have HS2:Hid (∀i z,i<j+1->l[i]?=some z->z.b.length<=2000):=fun i z hi hz=>by
         by_cases e:i<j
         · exact HS.out i z e hz
         · obtain rfl:i=j:=by omega
           rw[HX.out]at hz;injection hz with hz;rw[<-hz,HBL.out];omega
        clear hE1 hE2 hE3 hc hx hbl hs;go_wp2
        go_roundw
        case rel=>exact⟨j+1,by go_num,by omega,HS2.out,trivial⟩
        case measure=>simp only[intOf];omega
    · have e:=hE1 (by rw[HN.out];omega);have HV1:Hid (v=1):=(show v=1 by rw[<-HV.out,e];rfl);clear hE1 hE2 hs e;go_wp2
      go_ret
      rw[HV1.out];exact⟨rfl,rfl⟩
theorem auq:(Tryz.prog.info? 25).map (fun i=>(i.zero,i.size,i.bytes))=some (some (.int .u64 0),1,8):=by kernel_rfl
theorem Tl.own{w:World}{B:Nat}{A:Option Addr}{c:Nat}{told:List Nat}(h:w.ownsRow B 25 1 (.slice A told.length c) told.length (told.map uV)):Tl w B A told:=fun hn=>by
 rcases h.2 with⟨h',_⟩ | ⟨g,_,_,h',_⟩
 · injection h' with _ e _;omega
 · injection h' with e;subst e;refine⟨g,rfl,(h.lt g rfl).1,(h.lt g rfl).2,fun j v hv=> ?_⟩;have:=h.cellAt j (by have:=aau hv;omega);rw[this,List.getElem?_map,hv];rfl
def Oth (w:World) (k:Nat):Prop:=∃cs ty,w.heap[k]?=some (.cells cs ty (0,0))/\ty≠132/\ty≠195/\ty≠5
section
variable {B:Nat} {w w':World} {q g base cap c:Nat} {A:Option Addr} {bs:List UInt8} {H H':Hp} {k:Nat}
theorem PH.oth (h:PH w q g base cap A c bs H) (ho:Oth w k):¬(k=q\/foot g A k):=by
 obtain⟨cs,ty,hk,n1,n2,n3⟩:=ho;rintro(rfl | rfl | ⟨a,ea,rfl⟩)
 · have h1:=h.obj;rw[hk]at h1;injection h1 with h1;injection h1 with _ h2 _;exact n1 h2
 · have h1:=h.ar.obj;rw[hk]at h1;injection h1 with h1;injection h1 with _ h2 _;exact n2 h2
 · obtain⟨h',e,cur,hg,_⟩:=h.ar.row ea;subst e;rw[hk]at hg;injection hg with hg;injection hg with _ h2 _;exact n3 h2
theorem PH.keepO (h:PH w q g base cap A c bs H){S:Nat->Prop}(ht:Tch S w w') (hS:∀k,(k=q\/foot g A k)->¬S k):PH w' q g base cap A c bs H:=
 ⟨(ht.block q h.lt (hS q (.inl rfl))).trans h.obj,h.ar.tch ht (fun k hk=>hS k (.inr hk)),h.rd,h.cp,h.c16,h.b62⟩
theorem Hv.keepO (h:Hv B w q g base cap A c bs H){S:Nat->Prop}(ht:Tch S w w') (hS:∀k,(k=q\/foot g A k)->¬S k):Hv B w' q g base cap A c bs H:=⟨h.ph.keepO ht hS,h.qB,h.gB,h.aB⟩
theorem PH.locO (h:PH w q g base cap A c bs H) (ht:Tch (foot g A) w w'){cs:Array Value}{ty:TypeId}(hk:w.heap[k]?=some (.cells cs ty (0,0))) (n1:ty≠132) (n2:ty≠195) (n3:ty≠5):w'.heap[k]?=some (.cells cs ty (0,0)):=
 (ht.block k (aae hk) (fun hf=>h.oth ⟨cs,ty,hk,n1,n2,n3⟩ (.inr hf))).trans hk
theorem PH.ownO (h:PH w q g base cap A c bs H) (ht:Tch (foot g A) w w'){n:Nat}{ty:TypeId}{v:Value}{xs:List Value}(ho:w.ownsRow B ty 1 v n xs) (n1:ty≠132) (n2:ty≠195) (n3:ty≠5):w'.ownsRow B ty 1 v n xs:=by
 refine⟨ho.1,?_⟩;rcases ho.2 with h2 | ⟨g',cap',cur,hv,hg,hh,r⟩
 · exact .inl h2
 · exact .inr ⟨g',cap',cur,hv,hg,h.locO ht hh n1 n2 n3,r⟩
end
section
variable {B:Nat} {w w':World} {cap q1 g1 c1 q2 g2 c2:Nat} {A1 A2:Option Addr} {b1 b2:List UInt8} {H1 H2 H':Hp}
end
section
variable {H:Hp}
end
section
variable {bs:List UInt8} {H:Hp}
theorem atd (h:RtD bs H) (hc:H.cap<=16384) (n:Nat) (x:UInt8):(H.get n x).1.1<18446744073709551616:=by
 unfold Hp.get
 cases hs:acn n with
 | none=>exact Nat.zero_lt_succ _
 | some s=>
  dsimp only
  cases hq:(H.take s).1 with
  | none=>exact Nat.zero_lt_succ _
  | some o=>
   dsimp only;obtain⟨y,y1,y2,y3,y4,y5,y6⟩:=h.rt.what (ac3 hs) hq;have hok:=(h.rt.ok hc h.dl).take hc (ac3 hs);have hm:=(aak _ _ _ hok.tl).2 y y1;have:=hok.le;omega
theorem aqM (h:RtD bs H) (hc:H.cap<=16384) (n m:Nat):(H.calloc n m).1.1<18446744073709551616:=by
 unfold Hp.calloc;split
 · exact Nat.zero_lt_succ _
 · exact atd h hc _ _
theorem aoj (h:RtD bs H) (hc:H.cap<=16384) (p n:Nat):(H.realloc p n).1.1<18446744073709551616:=by
 unfold Hp.realloc;split
 · exact Nat.zero_lt_succ _
 · cases hs:acn n with
   | none=>exact Nat.zero_lt_succ _
   | some s=>
    dsimp only;split
    · rename_i he;dsimp only;rcases ad9 he with e | e
      · rename_i hh;obtain⟨h8,h2,_⟩:=adA hh;omega
      · obtain⟨y,y1,y2,y3,y4,y5,y6⟩:=h.rt.what (ac3 hs) e;have hok:=(h.rt.ok hc h.dl).take hc (ac3 hs);have hm:=(aak _ _ _ hok.tl).2 y y1;have:=hok.le;omega
    · exact Nat.zero_lt_succ _
end
theorem aqN{w:World}{B n c:Nat}{A:Option Addr}{xs:List Value}(h:w.ownsRow B 25 1 (.slice A n c) n xs){k:Nat}(hk:(Value.slice A n c).ownBlock=some k):Oth w k:=by
 rcases h.2 with⟨h',_⟩ | ⟨g',cap',cur,hv,hg,hh,r⟩
 · injection h' with e _ _;subst e
   cases hk
 · injection hv with e _ _;subst e;have e2:g'=k:=by simpa[Value.ownBlock]using hk
   subst e2;exact⟨_,_,hh,by decide,by decide,by decide⟩
section
variable {w w':World} {q g base cap c:Nat} {A:Option Addr} {bs out:List UInt8} {H H':Hp}
theorem aur (h:PH w q g base cap A c bs H) (hE:ET w) (h0:¬foot g A 0) (op:Nat) (hop:op<9) (p n m a bl k:Nat) (B:Option Addr) (b:List UInt8) (hp:p<18446744073709551616) (hn:n<18446744073709551616) (hm:m<18446744073709551616) (ha:a<18446744073709551616) (hbl:b.length=bl) (hr:Rd w w.heap.size B b.length b) (hb6:bl<=1000000):
 Calls Tryz.prog 20 #[.pointer (some ⟨q,0,none⟩),abo (op:Int) p n m a B bl k] w fun e w'=>adj (H.doC (op:Int) p n m a b).1 w e w'/\PTurn g base cap A (H.doC (op:Int) p n m a b).2 w w':=by
 have ho:op=0\/op=1\/op=2\/op=3\/op=4\/op=5\/op=6\/op=7\/op=8:=by omega
 rcases ho with rfl | rfl | rfl | rfl | rfl | rfl | rfl | rfl | rfl
 · exact av7 h hE h0 p n m a bl k B b
 · exact av8 h hE h0 p n m a bl k B b hn
 · exact av9 h hE h0 p n m a bl k B b hn hm
 · exact awa h hE h0 p n m a bl k B b hp
 · exact awb h hE h0 p n m a bl k B b hp hn
 · exact awc h hE h0 p n m a bl k B b hp
 · exact(aun h hE h0 p n m a bl k B b hp ha hn).mono fun e w' h=>⟨h.1,h.2.1⟩
 · exact awd h hE h0 p n m a bl k B b hp ha hbl hr hb6
 · exact awe h hE h0 p n m a bl k B b
theorem aus{op:Nat}(hop:op<9){p n m a:Nat}{b:List UInt8}:(H.doC (op:Int) p n m a b).2.cap=H.cap:=by
 have ho:op=0\/op=1\/op=2\/op=3\/op=4\/op=5\/op=6\/op=7\/op=8:=by omega
 rcases ho with rfl | rfl | rfl | rfl | rfl | rfl | rfl | rfl | rfl
 · have e:H.doC ((0:Nat):Int) p n m a b=_:=asy (H:=H) p n m a b;rw[e]
 · have e:H.doC ((1:Nat):Int) p n m a b=_:=aoe (H:=H) p n m a b;rw[e];exact aqG
 · have e:H.doC ((2:Nat):Int) p n m a b=_:=asz (H:=H) p n m a b;rw[e];exact aog
 · have e:H.doC ((3:Nat):Int) p n m a b=_:=aqB (H:=H) p n m a b;rw[e];exact aqH
 · have e:H.doC ((4:Nat):Int) p n m a b=_:=asA (H:=H) p n m a b;rw[e];exact al9
 · have e:H.doC ((5:Nat):Int) p n m a b=_:=asB (H:=H) p n m a b;rw[e]
 · have e:H.doC ((6:Nat):Int) p n m a b=_:=aof (H:=H) p n m a b;rw[e]
 · have e:H.doC ((7:Nat):Int) p n m a b=_:=aqC (H:=H) p n m a b;rw[e];exact aoh
 · have e:H.doC ((8:Nat):Int) p n m a b=_:=asC (H:=H) p n m a b;rw[e]
theorem ate (h:RtD bs H) (hc:H.cap<=16384){op:Nat}(hop:op<9) (p n m a:Nat) (b:List UInt8):(H.doC (op:Int) p n m a b).1.hd<18446744073709551616:=by
 have ho:op=0\/op=1\/op=2\/op=3\/op=4\/op=5\/op=6\/op=7\/op=8:=by omega
 rcases ho with rfl | rfl | rfl | rfl | rfl | rfl | rfl | rfl | rfl
 · have e:H.doC ((0:Nat):Int) p n m a b=_:=asy (H:=H) p n m a b;rw[e];exact Nat.zero_lt_succ _
 · have e:H.doC ((1:Nat):Int) p n m a b=_:=aoe (H:=H) p n m a b;rw[e];exact atd h hc n 165
 · have e:H.doC ((2:Nat):Int) p n m a b=_:=asz (H:=H) p n m a b;rw[e];exact aqM h hc n m
 · have e:H.doC ((3:Nat):Int) p n m a b=_:=aqB (H:=H) p n m a b;rw[e];exact Nat.zero_lt_succ _
 · have e:H.doC ((4:Nat):Int) p n m a b=_:=asA (H:=H) p n m a b;rw[e];exact aoj h hc p n
 · have e:H.doC ((5:Nat):Int) p n m a b=_:=asB (H:=H) p n m a b;rw[e];exact Nat.zero_lt_succ _
 · have e:H.doC ((6:Nat):Int) p n m a b=_:=aof (H:=H) p n m a b;rw[e];exact Nat.zero_lt_succ _
 · have e:H.doC ((7:Nat):Int) p n m a b=_:=aqC (H:=H) p n m a b;rw[e];exact Nat.zero_lt_succ _
 · have e:H.doC ((8:Nat):Int) p n m a b=_:=asC (H:=H) p n m a b;rw[e];exact Nat.zero_lt_succ _
end
section
variable {B:Nat} {w w' w1 wB:World} {q g base cap c p:Nat} {A:Option Addr} {bs out:List UInt8} {H H1 H2 H':Hp} {F G:Nat->Prop}
end
theorem aeA{ops:Array Oper}{rest:List Oper}{o:Oper}{a:Act}{w:World}{Q:Exit->Act->World->Prop}(hgd:o.guard=none) (s x:Operand) (ho:o.op= .call {callee:= .builtin .append,args:= #[s,x],argTypes:= #[41,41]})
 (base:Nat) (v:Value) (n:Nat) (bs:List Nat) (hs:a.eval s=v) (hown:w.ownsRow base 25 1 v n (bs.map uV))
 (ad:Addr) (c:Nat) (u:Nat) (hx:a.eval x= .slice (some ad) 1 c) (hr:w.cell? ad=some (uV u))
 (hb:n+1<=1000000) (hbase:base<=w.heap.size)
 (h:∀v' w',w'.ownsRow base 25 1 v' (n+1) ((bs++ [u]).map uV)->w.grownBy w' v.ownBlock->(v'.ownBlock=v.ownBlock\/v'.ownBlock=some w.heap.size)->wpList Tryz.prog ops Q rest (a.put o.dst v') w'):wpList Tryz.prog ops Q (o::rest) a w:=by
 obtain⟨i0,hi,hz0,hz1,hz2⟩:=info_parts auq;refine wpList_append_own_at w hgd s x 41 ho base 25 i0 (.int .u64 0) 1 8 Tryz.underlying41 hi hz0 hz1 hz2 rfl (by decide) v n _ hs hown ad 1 c ([u].map uV) hx (by simp) (fun j y hy=> ?_) (fun y hy=> ?_) (by unfold maxLen;omega) (by omega) hbase ?_
 · cases j with
   | zero=>
    simp at hy;subst hy;have e:ad.add 0=ad:=by unfold Addr.add;split<;>simp_all
    rw[e];exact hr
   | succ j=>simp at hy
 · simp at hy;subst hy;rfl
 · intro v' w' h1 h2 _ h4;exact h v' w' (by simpa using h1) h2 h4
section
variable {B:Nat} {w w':World} {q g base cap c p:Nat} {A:Option Addr} {bs:List UInt8} {H1 H2:Hp} {F G:Nat->Prop}
end
structure Dst where
 bs:List UInt8
 wt:List (Nat × List UInt8)
 left:Int
 off:Bool
def dwr (s:Dst) (p:Nat) (d:List UInt8):Nat × Dst:=if s.off=true\/s.left=0 then (6,{s with off:=true}) else (0,{s with wt:=s.wt++ [(p,d)],left:=ab1 s.left 1})
def dfl (s:Dst):Nat × Dst:=if s.off=true then (6,s) else (0,{s with bs:=aeH s.bs s.wt,wt:= []})
def aio (s:Dst) (p:Nat) (b:List UInt8):Nat × Dst:=
 (if wk (need b.length) s.left s.off<need b.length then 6 else 0,{s with wt:=s.wt++agC p b (wk (need b.length) s.left s.off),left:=ab1 s.left (wk (need b.length) s.left s.off),off:=s.off || decide (wk (need b.length) s.left s.off<need b.length)})
section
variable {N:Nat} {S S':Nat->Prop} {w w1 w2:World} {g:Nat} {s:Dst}
end
def andThen (r:Nat × Dst) (f:Dst->Nat × Dst):Nat × Dst:=if r.1=0 then f r.2 else r
def adL (p:Nat) (b rec:List UInt8) (s:Dst):Nat × Dst:=
 andThen (andThen (andThen (andThen (andThen (dwr s p (List.replicate 512 0)) dfl) (fun s=>aio s (p+1) b)) dfl) (fun s=>dwr s p rec)) dfl
def asG (x y:Sk) (half:Nat) (b:List UInt8) (s:Dst):Nat × Dst:=
 if 512*(half-1)<b.length\/4611686018427387904<=max x.G y.G then (7,s) else
 adL ((if agJ x y=0 then 1 else 0)*half) b (abQ (max x.G y.G+1) b.length (abZ 0 b)) s
theorem aaC{r:Nat × Dst}{f:Dst->Nat × Dst}(h:r.1=0):andThen r f=f r.2:=if_pos h
theorem abq{r:Nat × Dst}{f:Dst->Nat × Dst}(h:r.1≠0):andThen r f=r:=if_neg h
theorem asH (l:Int) (j:Nat):ab1 l j<=l:=by unfold ab1;split<;>omega
theorem avp (s:Dst):(dfl s).2.wt.length<=s.wt.length/\(dfl s).2.left<=s.left:=by
 unfold dfl;split
 · exact⟨Nat.le_refl _,Int.le_refl _⟩
 · exact⟨Nat.zero_le _,Int.le_refl _⟩
theorem aut (s:Dst) (p:Nat) (b:List UInt8):(aio s p b).2.wt.length<=s.wt.length+need b.length/\(aio s p b).2.left<=s.left:=by
 unfold aio;refine⟨?_,asH _ _⟩;dsimp only;rw[List.length_append,agD];have:wk (need b.length) s.left s.off<=need b.length:=by unfold wk;split;omega;split;omega;omega
 omega
section
variable {N:Nat} {S:Nat->Prop} {w w1 w2:World} {g:Nat} {s:Dst}
end
def DS (N:Nat) (S:Nat->Prop) (w:World) (g:Nat) (s:Dst):Prop:=
 ∃h c W cw ws,Dk S w g h c W cw s.bs ws s.left s.off/\ws.map Wr.two=s.wt/\s.bs.length=512*N/\∀j,S j->j<w.heap.size
section
variable {N:Nat} {S S':Nat->Prop} {w w1 w2:World} {g:Nat} {s:Dst}
theorem DS.below (h:DS N S w g s) (hb:Below w.heap.size w w1):DS N S w1 g s:=by
 obtain⟨q,c,W,cw,ws,k,e1,e2,hs⟩:=h;exact⟨q,c,W,cw,ws,k.below hb,e1,e2,fun j hj=>Nat.lt_of_lt_of_le (hs j hj) hb.size⟩
theorem DS.tch{R:Nat->Prop}(h:DS N S w g s) (ht:Tch R w w1) (hd:∀j,S j->¬R j):DS N S w1 g s:=by
 obtain⟨q,c,W,cw,ws,k,e1,e2,hs⟩:=h;exact⟨q,c,W,cw,ws,k.tch ht hd,e1,e2,fun j hj=>Nat.lt_of_lt_of_le (hs j hj) ht.size⟩
theorem DS.regrow (h:DS N (ad2 (ad2 S w w1) w1 w2) w2 g s) (h1:w.heap.size<=w1.heap.size) (h2:w1.heap.size<=w2.heap.size):DS N (ad2 S w w2) w2 g s:=by
 obtain⟨q,c,W,cw,ws,k,e1,e2,hs⟩:=h;exact⟨q,c,W,cw,ws,k.regrow h1 h2,e1,e2,fun j hj=>by
  rcases hj with h | h
  · exact hs j (.inl (.inl h))
  · exact h.2⟩
theorem DS.grown (h:DS N S w1 g s) (_ht:Tch S w w1):DS N (ad2 S w w1) w1 g s:=by
 obtain⟨q,c,W,cw,ws,k,e1,e2,hs⟩:=h;exact⟨q,c,W,cw,ws,k.more fun j hj=> .inl (k.foot hj).1,e1,e2,fun j hj=>by
  rcases hj with h | h
  · exact hs j h
  · exact h.2⟩
def StpD (N:Nat) (S:Nat->Prop) (w:World) (g:Nat) (r:Nat × Dst) (e:Ending) (w':World):Prop:=e= .returned (ajt r.1)/\DS N (ad2 S w w') w' g r.2/\Tch S w w'
theorem DS.flush (h:DS N S w g s) (hN2:N<=128):
 Calls Tryz.prog 209 #[.pointer (some ⟨g,0,none⟩)] w fun e w'=>StpD N S w g (dfl s) e w':=by
 obtain⟨q,c,W,cw,ws,k,e1,e2,hs⟩:=h;obtain⟨bs,wt,left,off⟩:=s;dsimp only at k e1 e2
 cases off with
 | true=>
  refine(anC k).mono ?_;rintro e w' ⟨rfl,rfl⟩;exact⟨rfl,DS.grown ⟨q,c,W,cw,ws,k,e1,e2,hs⟩ (Tch.refl _ _),Tch.refl _ _⟩
 | false=>
  have hf:=k.fits;refine(apt k (by omega)).mono ?_;rintro e w' ⟨rfl,k',ht⟩;refine⟨rfl,DS.grown ⟨q,c,none,0,[],?_,rfl,?_,fun j hj=>Nat.lt_of_lt_of_le (hs j hj) ht.size⟩ ht,ht⟩
  · unfold dfl;rw[if_neg Bool.false_ne_true,<-e1];exact k'
  · unfold dfl;rw[if_neg Bool.false_ne_true,<-e1];dsimp only;rw[abY _ _ hf];exact e2
theorem DS.outs (h:DS N S w g s) (hN2:N<=128) (hw:s.wt.length<=100000) (hl:s.left<=9223372036854775807) (p:Nat) (A:Option Addr) (cA:Nat) (b:List UInt8) (hr:Rd w w.heap.size A b.length b) (hbc:b.length<=cA) (hcm:cA<=9223372036854775807) (hA:0<b.length->∀a,A=some a->¬S a.block) (hp:p+need b.length<=N):
 Calls Tryz.prog 208 #[.pointer (some ⟨g,0,none⟩), .int .i64 (p:Int), .slice A b.length cA] w fun e w'=>StpD N S w g (aio s p b) e w':=by
 obtain⟨q,c,W,cw,ws,k,e1,e2,hs⟩:=h;obtain⟨bs,wt,left,off⟩:=s;dsimp only at k e1 e2 hw hl;have hws:ws.length<=100000:=by have:=congrArg List.length e1;simp at this;omega
 refine(anG k N e2 hN2 hws hl p A cA b hr hbc hcm hA _ rfl hp _ rfl).mono ?_;rintro e w' ⟨rfl,⟨W',cw',vs,k',hv⟩,ht⟩;unfold aio;refine⟨?_,⟨q,c,W',cw',vs,k',?_,e2,fun j hj=> ?_⟩,ht⟩
 · dsimp only;split
   · rfl
   · rfl
 · rw[hv,e1]
 · rcases hj with h | h
   · exact Nat.lt_of_lt_of_le (hs j h) ht.size
   · exact h.2
theorem DS.two{r:Nat × Dst}{P:Ending->World->Prop}{f:FuncId}{vs:Array Value}(ht:Tch S w w1) (hc:Calls Tryz.prog f vs w1 fun e w2=>StpD N (ad2 S w w1) w1 g r e w2) (h1:w.heap.size<=w1.heap.size) (hP:∀e w2,e= .returned (ajt r.1)->DS N (ad2 S w w2) w2 g r.2->Tch S w w2->P e w2):Calls Tryz.prog f vs w1 P:=
 hc.mono fun e w2 h=>hP e w2 h.1 (h.2.1.regrow h1 h.2.2.size) (ht.regrow h.2.2)
theorem StpD.from{r:Nat × Dst}{e:Ending}(hb:Below w.heap.size w w1) (h0:e= .returned (ajt r.1)) (h1:DS N (ad2 S w1 w2) w2 g r.2) (h2:Tch S w1 w2):StpD N S w g r e w2:=by
 refine⟨h0,?_,(Tch.of_below (S:=S) hb).trans h2 fun i hi hg=>hg⟩;obtain⟨q,c,W,cw,ws,k,e1,e2,hs⟩:=h1;have hg:∀j,ad2 S w1 w2 j->ad2 S w w2 j:=fun j hj=>by
  rcases hj with h | h
  · exact .inl h
  · exact .inr ⟨Nat.le_trans hb.size h.1,h.2⟩
 refine⟨q,c,W,cw,ws,k.more fun j hj=>hg j (k.foot hj).1,e1,e2,fun j hj=> ?_⟩;rcases hj with h | h
 · exact hs j (.inl h)
 · exact h.2
theorem DS.read (h:DS N S w g s) (hN2:N<=128) (ho:s.off=false) (p:Nat) (hp:p<N):
 Calls Tryz.prog 204 #[.pointer (some ⟨g,0,none⟩), .int .i64 (p:Int)] w fun e w'=>arp (abB s.bs s.wt p) w e w':=by
 obtain⟨q,c,W,cw,ws,k,e1,e2,hs⟩:=h;rw[ho]at k;rw[<-e1];exact amB k (by omega) p (by omega)
theorem DS.reads (h:DS N S w g s) (hN2:N<=128) (ho:s.off=false) (p n:Nat) (hp:p+need n<=N):
 Calls Tryz.prog 206 #[.pointer (some ⟨g,0,none⟩), .int .i64 (p:Int), .int .i64 (n:Int)] w fun e w'=>arp ((adw s.bs s.wt p (need n)).take n) w e w':=by
 obtain⟨q,c,W,cw,ws,k,e1,e2,hs⟩:=h;rw[<-e1];exact apv k N e2 hN2 p n _ rfl hp (fun e=>by rw[ho]at e;cases e) _ rfl
end
def akY (s:Dst):Prop:=s.off=false/\s.left<0
section
variable {s:Dst}
theorem agi (h:akY s) (p:Nat) (d:List UInt8):(dwr s p d).1=0/\akY (dwr s p d).2:=by
 unfold dwr;rw[if_neg (by rintro(e | e);· rw[h.1]at e;cases e
                          · have:=h.2;omega)]
 exact⟨rfl,h.1,by show ab1 _ _<0;unfold ab1;rw[if_pos h.2];exact h.2⟩
theorem afh (h:akY s):(dfl s).1=0/\akY (dfl s).2/\(dfl s).2.wt= []:=by
 unfold dfl;rw[if_neg (by rw[h.1];decide)];exact⟨rfl,h,rfl⟩
theorem akN (h:akY s) (p:Nat) (b:List UInt8):(aio s p b).1=0/\akY (aio s p b).2:=by
 have e:wk (need b.length) s.left s.off=need b.length:=by unfold wk;rw[if_neg (by rw[h.1];decide),if_pos h.2]
 unfold aio;rw[e];refine⟨if_neg (Nat.lt_irrefl _),?_,?_⟩
 · show(s.off || decide (need b.length<need b.length))=false;rw[h.1];simp
 · show ab1 _ _<0;unfold ab1;rw[if_pos h.2];exact h.2
theorem aok (h:akY s) (p:Nat) (b rec:List UInt8):(adL p b rec s).1=0/\akY (adL p b rec s).2/\(adL p b rec s).2.wt= []:=by
 obtain⟨a1,h1⟩:=agi h p (List.replicate 512 0);obtain⟨a2,h2,_⟩:=afh h1;obtain⟨a3,h3⟩:=akN h2 (p+1) b;obtain⟨a4,h4,_⟩:=afh h3;obtain⟨a5,h5⟩:=agi h4 p rec;unfold adL;rw[aaC a1,aaC a2,aaC a3,aaC a4,aaC a5];exact afh h5
theorem am3 (p:Nat) (d:List UInt8) (hd:d.length=512):aio s p d=dwr s p d:=by
 have hn:need d.length=1:=by rw[hd];rfl
 have hp:agB d 0=d:=by
  unfold agB;rw[hd,Nat.zero_mul,List.drop_zero,List.take_of_length_le (by omega)];simp
 obtain⟨bs,wt,left,off⟩:=s;unfold aio dwr;rw[hn];dsimp only;by_cases hb:off=true\/left=0
 · have e:wk 1 left off=0:=by
    unfold wk;split
    · rfl
    · rcases hb with h | h
      · rename_i h2;exact absurd h h2
      · subst h;rfl
   rw[if_pos hb,e,if_pos (by omega),ahU];simp[agC]
 · have e:wk 1 left off=1:=by
    unfold wk;rw[if_neg (fun h=>hb (.inl h))];split
    · rfl
    · have:left≠0:=fun h=>hb (.inr h);omega
   have ho:off=false:=by cases off;rfl;exact absurd (.inl rfl) hb
   subst ho;rw[if_neg hb,e,if_neg (by omega)];simp[agC,hp,List.range_succ]
end
theorem am4 (b:List UInt8) (half:Nat) (a:Nat->List UInt8):(amG b half a).ok=true->aew ((amG b half a).n:Int) (amG b half a).l (amG b half a).d=true:=by
 unfold amG;split
 · exact fun h=>by cases h
 split
 · exact fun h=>by cases h
 unfold arU;split
 · rename_i h;intro _;have hg:ae9 (a (slN b))=(0,(ae9 (a (slN b))).2.1,(ae9 (a (slN b))).2.2.1,(ae9 (a (slN b))).2.2.2):=by rw[<-h.1]
   exact(apC hg).put.2
 · exact fun h=>by cases h
theorem auu (x y:Sk):(agJ x y=0->x.ok=true)/\(agJ x y=1->y.ok=true):=by
 unfold agJ;constructor
 · split
   · rename_i h;exact fun _=>h.1
   · split
     · intro h;cases h
     · intro h;cases h
 · split
   · intro h;cases h
   · split
     · rename_i h;exact fun _=>h
     · intro h;cases h
def Find (s:Sk) (w:World) (e:Ending) (w':World):Prop:=
 ∃A1 c1 A2 c2,e= .returned (.tuple #[skV s A1 c1 A2 c2, .nilIface])/\RkRd w' w'.heap.size A1 s.l/\DtRd w' w'.heap.size A2 s.d/\(∀a,A2=some a->w.heap.size<=a.block)/\Below w.heap.size w w'
theorem Find.plain{w w':World}(G N S:Nat){e:Ending}(he:e= .returned (.tuple #[.agg #[.int .u64 (G:Int), .int .u64 (N:Int), .int .u32 (S:Int), .bool false, .int .i64 0, .slice none 0 0, .slice none 0 0], .nilIface])) (hb:Below w.heap.size w w'):Find ⟨G,N,S,false,0,[],[]⟩ w e w':=
 ⟨none,0,none,0,he,fun h=>absurd h (by simp),fun h=>absurd h (by simp),fun _ h=>(by cases h),hb⟩
theorem aqO{fn:Func}{R:Ending->World->Prop}{a:Act}{w:World}{p u:Tmp}{g:Nat}{x y0 y1 y2 y3 y4 y5 y6:Value}(hres:fn.results= #[.cell p 148, .tmp u]) (hp:a.tmps.getD p undef= .pointer (some ⟨g,0,none⟩)) (hx:a.tmps.getD u undef=x) (hd:a.defers= [])
 (hg:w.heap[g]?=some (.cells #[y0,y1,y2,y3,y4,y5,y6] 148 (0,0))) (hR:R (.returned (.tuple #[.agg #[y0,y1,y2,y3,y4,y5,y6],x])) w):bodyPost Tryz.prog fn R .ret a w:=by
 obtain⟨⟨c0,c1,c2,c3,c4,c5,c6⟩,_⟩:=ahR hg;refine bodyPost_ret (v:= .tuple #[.agg #[y0,y1,y2,y3,y4,y5,y6],x]) ?_ hd hR;rw[results_cell_tmp hres,hp,hx];simp[go_sem,c0,c1,c2,c3,c4,c5,c6]
theorem asI{b:List UInt8}(h:(ae9 b).1≠0):(ae9 b).2=(0,[],[]):=by
 unfold ae9 at h ⊢;repeat' split
 all_goals first
  | rfl
  | (exfalso;simp_all)
theorem am5{G N S s:Nat}{Γ:Nat × Nat × List Rk × List (List UInt8)}(h:¬(Γ.1=0/\s=S)):arU G N S s Γ=⟨G,N,S,false,0,[],[]⟩:=if_neg h
section
variable {N:Nat} {S:Nat->Prop} {w:World} {g:Nat} {s:Dst}
theorem DS.sectors (h:DS N S w g s) (hN2:N<=128):Calls Tryz.prog 147 #[.pointer (some ⟨g,0,none⟩)] w fun e w'=>e= .returned (.int .i64 (N:Int))/\w=w':=by
 obtain⟨q,c,W,cw,ws,k,e1,e2,hs⟩:=h;have:=ad3 k (by omega);rw[e2,Nat.mul_div_cancel_left _ (by omega)]at this;exact this
theorem ahg (h:DS N S w g s) (hN2:N<=128) (half:Nat) (hh:N/2=half):
 Calls Tryz.prog 83 #[.pointer (some ⟨g,0,none⟩)] w fun e w'=>e= .returned (.int .i64 (half:Int))/\w=w':=by
 have HS:=hE0 (h.sectors hN2);have hhi:(N:Int)/2=(half:Int):=by omega
 clear h;go_enter Tryz.func83,Tryz.ntmps83
 go_wp2_with fail
 refine HS.out.mono ?_;rintro e w1 ⟨rfl,rfl⟩;go_wp2
 go_ret
 exact⟨app (by omega),rfl⟩
theorem akO (h:DS N S w g s) (hN2:N<=128) (half M:Nat) (hh:N/2=half) (h1:1<=half) (hM:512*(half-1)=M):
 Calls Tryz.prog 80 #[.pointer (some ⟨g,0,none⟩)] w fun e w'=>e= .returned (.int .i64 (M:Int))/\w=w':=by
 have HS:=hE0 (ahg h hN2 half hh);clear h;go_enter Tryz.func80,Tryz.ntmps80
 go_wp2_with fail
 refine HS.out.mono ?_;rintro e w1 ⟨rfl,rfl⟩;go_wp2
 go_ret
 exact⟨app (by omega),rfl⟩
end
theorem atf{fn:Func}{R:Ending->World->Prop}{a:Act}{w:World}{p u:Tmp}{g:Nat}{x y0 y1 y2:Value}(hres:fn.results= #[.cell p 107, .tmp u]) (hp:a.tmps.getD p undef= .pointer (some ⟨g,0,none⟩)) (hx:a.tmps.getD u undef=x) (hd:a.defers= [])
 (hg:w.heap[g]?=some (.cells #[y0,y1,y2] 107 (0,0))) (hR:R (.returned (.tuple #[.agg #[y0,y1,y2],x])) w):bodyPost Tryz.prog fn R .ret a w:=by
 obtain⟨⟨c0,c1,c2⟩,_⟩:=ad1 hg;refine bodyPost_ret (v:= .tuple #[.agg #[y0,y1,y2],x]) ?_ hd hR;rw[results_cell_tmp hres,hp,hx];simp[go_sem,c0,c1,c2]
theorem aol (w:World) (A:Option Addr) (n c:Nat) (b:List UInt8) (hr:Rd w w.heap.size A n b) (hnc:n<=c) (hc:c<=9223372036854775807) (hn:n<=900000) (G Q M:Nat) (hM:M<4294967296) (k:Sk) (hk:arU G Q M (abZ 0 b) (ae9 b)=k):
 Calls Tryz.prog 207 #[.slice A n c, .int .u32 (M:Int)] w fun e w'=>∃A1 c1 A2 c2,e= .returned (.tuple #[.agg #[.int .i64 (k.n:Int), .slice A1 k.l.length c1, .slice A2 k.d.length c2], .bool k.ok])/\RkRd w' w'.heap.size A1 k.l/\DtRd w' w'.heap.size A2 k.d/\(∀a,A2=some a->w.heap.size<=a.block)/\Below w.heap.size w w':=by
 obtain⟨w1,ha1,n1,b1⟩:=aj4 w 107 (.int .i64 0) (.slice none 0 0) (.slice none 0 0);have hr1:=(hr.below b1.out).more b1.out.size;obtain⟨sm,hsm⟩:=nmE (abZ 0 b);have hsml:sm<4294967296:=by rw[<-hsm];exact aeh _ _
 have hs:=agq A n c w1.heap.size b w1 hr1 (by omega);rw[hsm]at hs hk;have HS:=hE0 hs;have HG:=hE0 (anK w1 A n c w1.heap.size b hr1 (Nat.le_refl _) hnc hc hn);obtain⟨Γ,hΓ⟩:=nmE (ae9 b);have hge:Γ.1≠0->Γ.2=(0,[],[]):=by rw[<-hΓ];exact asI
 rw[hΓ]at HG hk;have HK:=hE0 hk;have HGE:=hE0 hge;clear hr hr1 hs hsm hΓ hk hge;obtain⟨kd,im,il,id⟩:=Γ;dsimp only at HG HK HGE;obtain⟨i1,hi1⟩:=nmE il.length;obtain⟨i2,hi2⟩:=nmE id.length;rw[hi1,hi2]at HG;have HI1:=hE0 hi1;have HI2:=hE0 hi2;clear hi1 hi2;by_cases he:sm=M
 · subst he;have gs:((sm:Int)==(sm:Int))=true:=by simp
   go_enter Tryz.func207,Tryz.ntmps207
   go_wp2_with (first | (rw[ha1.out]) | fail)
   refine HS.out.mono ?_;rintro e w2 ⟨rfl,rfl⟩;go_wp2_with fail
   refine HG.out.mono ?_;rintro e w2 ⟨A9,B9,a9,c9,rfl,hr9,hd9,hA9,b9⟩;have n2:=hE0 ((b9.block _ (aaa n1.out)).trans n1.out);have HA9:Hid (∀a,B9=some a->w.heap.size<a.block):=(show ∀a,_->_ from fun a e=>by have:=hA9 a e;have:=aaa n1.out;omega);have HB2:=hE0 (b1.out.trans (b9.mono b1.out.size));obtain⟨wa,ha2,m2,b2⟩:=aj4 w2 107 (.int .i64 0) (.slice none 0 0) (.slice none 0 0);obtain⟨wb,hp2,m3,b3,⟨z0,z1,z2⟩,⟨e0,e1,e2⟩,hle⟩:=auH m2 (.int .i64 (im:Int)) (.slice A9 i1 a9) (.slice B9 i2 c9);have hb23:=b3.out w2.heap.size w2 (Nat.le_refl _) b2.out;have HB3:=hE0 (HB2.out.trans (hb23.mono HB2.out.size));have n3:=hE0 ((hb23.block _ (aaa n2.out)).trans n2.out);have HIM:Hid (RkRd wb wb.heap.size A9 il/\DtRd wb wb.heap.size B9 id):=⟨(hr9.below hb23).more hb23.size,(hd9.below hb23).more hb23.size⟩;clear hr9 hd9 hA9 b9 hb23 HG;have hev:(ajt kd= .nilIface/\kd=0)\/(ajt kd= .iface 130 (.int .i64 (kd:Int))/\kd≠0):=by
    unfold ajt;by_cases h:kd=0
    · exact .inl ⟨if_pos h,h⟩
    · exact .inr ⟨if_neg h,h⟩
   rcases hev with⟨e,h0⟩ | ⟨e,h0⟩;all_goals
    rw[e];have H0:=hE0 h0;clear e h0;go_wp2_with (first | (rw[ha2.out]) | (rw[hp2.out]) | fail)
    clear z0 z1 z2 e0 e1 e2 hle;obtain⟨⟨t0,t1,t2⟩,_,hlt⟩:=ad1 m3.out;obtain⟨wz,hz,nz,bz,⟨u0,u1,u2⟩,⟨g0,g1,g2⟩,hlu⟩:=auH n3 (.int .i64 (im:Int)) (.slice A9 i1 a9) (.slice B9 i2 c9);have HFIN:Hid (RkRd wz wz.heap.size A9 il/\DtRd wz wz.heap.size B9 id):=atG HIM.out (fun a e=>by have:=HA9.out a e;omega) n3.out (by rw[<-hz.out];simp[World.setCell]) (fun k hk=>by rw[<-hz.out,heap_setCell_other _ _ _ _ hk,heap_setCell_other _ _ _ _ hk,heap_setCell_other _ _ _ _ hk]);go_region
    all_goals
     go_wp2_with (first | (rw[hz.out]) | fail)
    refine atf (g:=w.heap.size) Tryz.results207 rfl rfl rfl nz.out ?_;have hk:=HK.out;have hbd:Below wz.heap.size wz wz.drew:=(Below.refl _ _).drew;first
     | (have h0:kd=0:=H0.out
        unfold arU at hk;rw[if_pos ⟨h0,rfl⟩]at hk;subst hk;exact⟨A9,a9,B9,c9,by dsimp only;rw[HI1.out,HI2.out];rfl,HFIN.out.1.below hbd,HFIN.out.2.below hbd,(fun a e=>Nat.le_of_lt (HA9.out a e)),(bz.out _ _ (Nat.le_refl _) HB3.out).drew⟩)
     | (have h0:kd≠0:=H0.out
        rw[am5 (fun h=>h0 h.1)]at hk;subst hk;have he:=HGE.out h0;injection he with e1 e2;injection e2 with e2 e3;subst e1 e2 e3;exact⟨A9,a9,B9,c9,by dsimp only;rw[HI1.out,HI2.out];rfl,HFIN.out.1.below hbd,HFIN.out.2.below hbd,(fun a e=>Nat.le_of_lt (HA9.out a e)),(bz.out _ _ (Nat.le_refl _) HB3.out).drew⟩)
 · have gs:((sm:Int)==(M:Int))=false:=by rw[beq_eq_false_iff_ne];omega
   have hk:=HK.out;rw[am5 (fun h=>he h.2)]at hk;subst hk;obtain⟨wz,hz,nz,bz,⟨u0,u1,u2⟩,⟨g0,g1,g2⟩,hlu⟩:=auH n1 (.int .i64 0) (.slice none 0 0) (.slice none 0 0);clear he HK HGE HG;go_enter Tryz.func207,Tryz.ntmps207
   go_wp2_with (first | (rw[ha1.out]) | fail)
   refine HS.out.mono ?_;rintro e w2 ⟨rfl,rfl⟩;go_wp2_with (first | (rw[hz.out]) | fail)
   (try simp only[Exit.inBlock,Exit.then])
   refine atf (g:=w.heap.size) (x:= .bool false) Tryz.results207 ?_ ?_ ?_ nz.out ?_
   · rfl
   · rfl
   · rfl
   · exact⟨none,0,none,0,rfl,fun h=>absurd h (by simp),fun h=>absurd h (by simp),fun _ h=>(by cases h),bz.out _ _ (Nat.le_refl _) b1.out⟩
section
variable {N:Nat} {S:Nat->Prop} {w:World} {g:Nat} {s:Dst}
theorem am6 (h:DS N S w g s) (hN2:N<=128) (ho:s.off=false) (half:Nat) (hh:N/2=half) (h1:1<=half) (p:Nat) (hp2:p+half<=N) (sk:Sk) (hsk:amG (abB s.bs s.wt p) half (fun n=>(adw s.bs s.wt (p+1) (need n)).take n)=sk):
 Calls Tryz.prog 143 #[.pointer (some ⟨g,0,none⟩), .int .i64 (p:Int)] w fun e w'=>Find sk w e w':=by
 obtain⟨w1,ha1,n1,b1⟩:=apo w 148 (.int .u64 0) (.int .u64 0) (.int .u32 0) (.bool false) (.int .i64 0) (.slice none 0 0) (.slice none 0 0);have hrd:=(h.below b1.out).read hN2 ho p (by omega);obtain⟨b,hb⟩:=nmE (abB s.bs s.wt p);have hb5:b.length=512:=by
  obtain⟨_,_,_,_,ws,k,e1,e2,_⟩:=h;rw[<-hb,<-e1];exact acY _ _ _ k.fits (by omega)
 unfold arp at hrd;rw[hb,hb5]at hrd;rw[hb]at hsk;have HRD:=hE0 hrd;obtain⟨M,hM⟩:=nmE (512*(half-1));have hMl:M<=65536:=by omega
 have HROOM:=hE0 (fun W (hW:Below w.heap.size w W)=>akO (h.below hW) hN2 half M hh h1 hM);have HREADS:=hE0 (fun W (hW:Below w.heap.size w W) (Q:Nat) (hQ:Q<=M)=>(h.below hW).reads hN2 ho (p+1) Q (by unfold need;omega));have HSK:=hE0 hsk;have HM:=hE0 hM;have hpl:p<=128:=by omega
 clear h hrd hb hsk hh h1 hp2 hM;go_enter Tryz.func143,Tryz.ntmps143
 go_wp2_with (first | (rw[ha1.out]) | fail)
 refine HRD.out.mono ?_;rintro e w2 ⟨A2,c2,rfl,o2,b2⟩;have hc2:=apy o2;unfold maxLen at hc2;have HB2:=hE0 (b1.out.trans (b2.mono b1.out.size));have HG:=hE0 (apm w2 A2 512 c2 b (acP o2) hc2.1);have n2:=hE0 ((b2.block _ (aaa n1.out)).trans n1.out);clear o2 b2 HRD hc2;go_wp2_with fail
 refine HG.out.mono ?_;rintro e w3 ⟨rfl,hb3⟩;obtain⟨ok,hok⟩:=nmE (acI b);obtain⟨G,hG⟩:=nmE (ahs b (slG b));obtain⟨Q,hQ⟩:=nmE (ahs b (slN b));obtain⟨C,hC⟩:=nmE (ahs b (slS b));have HOK:Hid (acI b=ok/\ahs b (slG b)=G/\ahs b (slN b)=Q/\ahs b (slS b)=C):=⟨hok,hG,hQ,hC⟩;rw[hok,hG,hQ,hC];have HB3:=hE0 (HB2.out.trans (hb3.mono HB2.out.size));have n3:=hE0 ((hb3.block _ (aaa n2.out)).trans n2.out);obtain⟨w4,ha4,m4,b4⟩:=aj4 w3 146 (.int .u64 0) (.int .u64 0) (.int .u32 0);obtain⟨w5,hp5,m5,b5,⟨z0,z1,z2⟩,⟨e0,e1,e2⟩,hle⟩:=auH m4 (.int .u64 (G:Int)) (.int .u64 (Q:Int)) (.int .u32 (C:Int));have hb5':=b5.out w3.heap.size w3 (Nat.le_refl _) b4.out;have HB5:=hE0 (HB3.out.trans (hb5'.mono HB3.out.size));have n5:=hE0 ((hb5'.block _ (aaa n3.out)).trans n3.out);clear hb3 hb5' HG hok hG hQ hC;have HPLAIN:Hid (acI b=false\/(acI b=true/\M<Q)->sk=⟨G,Q,C,false,0,[],[]⟩):=(show _->_ from fun hc=>by
  obtain⟨h1,h2,h3,h4⟩:=HOK.out;have hsk:=HSK.out;unfold amG at hsk;rcases hc with hc | ⟨hc,hf⟩
  · rw[if_pos hc]at hsk;subst hsk;have a1:=afx b (slG b) hc;have a2:=afx b (slN b) hc;have a3:=afx b (slS b) hc;have b1:G=0:=by omega
    have b2:Q=0:=by omega
    have b3:C=0:=by omega
    subst b1 b2 b3;rfl
  · obtain⟨-,f1,f2,f3⟩:=aiS hc;rw[f1]at h2;rw[f2]at h3;rw[f3]at h4;rw[if_neg (by rw[hc];decide),h2,h3,h4,if_pos (by rw[HM.out];exact hf)]at hsk;exact hsk.symm)
 go_wp2_with (first | (rw[ha4.out]) | (rw[hp5.out]) | fail)
 clear z0 z1 z2 e0 e1 e2 hle
 cases ok with
 | false=>
  have e:=HPLAIN.out (.inl HOK.out.1);subst e;clear HPLAIN;go_quiet (fail)
  obtain⟨wk,hwk⟩:=nmE (w5.drewN nq);have hbk:Below w5.heap.size w5 wk:=by rw[<-hwk];exact abN _ _
  have n6:=hE0 ((hbk.block _ (aaa n5.out)).trans n5.out);obtain⟨⟨v0,v1,v2⟩,_,hlv⟩:=ad1 ((hbk.block _ (aaa m5.out)).trans m5.out);have HB6:=hE0 (HB5.out.trans (hbk.mono HB5.out.size));rw[hwk];clear hwk hbk;obtain⟨wz,hz,nz,bz,⟨u0,u1,u2,u3,u4,u5,u6⟩,⟨g0,g1,g2,g3,g4,g5,g6⟩,hlu⟩:=auU n6 (.int .u64 (G:Int)) (.int .u64 (Q:Int)) (.int .u32 (C:Int)) (.bool false) (.int .i64 0) (.slice none 0 0) (.slice none 0 0);go_wp2_with (first | (rw[hz.out]) | fail)
  (try simp only[Exit.inBlock,Exit.then])
  refine aqO (g:=w.heap.size) (x:= .nilIface) Tryz.results143 ?_ ?_ ?_ nz.out ?_
  · rfl
  · rfl
  · rfl
  · exact Find.plain G Q C rfl (bz.out _ _ (Nat.le_refl _) HB6.out)
 | true=>
  have hrec:=as0 HOK.out.1;obtain⟨-,f1,f2,f3⟩:=aiS HOK.out.1;obtain⟨-,k1,k2,k3⟩:=HOK.out;have hQl:Q<=65536:=by rw[<-k2,f2];exact hrec.2
  have hCl:C<4294967296:=by rw[<-k3,f3];exact auT b
  have k1':slG b=G:=f1.symm.trans k1;have k2':slN b=Q:=f2.symm.trans k2;have k3':slS b=C:=f3.symm.trans k3;have HKK:Hid (slG b=G/\slN b=Q/\slS b=C):=⟨k1',k2',k3'⟩;clear hrec f1 f2 f3 k1 k2 k3 k1' k2' k3';obtain⟨y,gy⟩:=nmE (decide (M<Q));have gy':decide ((M:Int)<(Q:Int))=y:=by rw[<-gy];exact decide_eq_decide.2 (by omega)
  have GY:=hE0 gy;obtain⟨wd,hwd⟩:=nmE w5.drew;have hbd:=adE hwd;have n6:=hE0 ((hbd.block _ (aaa n5.out)).trans n5.out);have m6:=hE0 ((hbd.block _ (aaa m5.out)).trans m5.out);have HB6:=hE0 (HB5.out.trans (hbd.mono HB5.out.size));refine aao wd.heap.size [([0,1,2,3,4,5],6)] [7,8,9] [] (by kernel_rfl) (by kernel_rfl) (by kernel_rfl) (fun _ _ _ _ _ h=>h) ?_;rw[hwd];clear hwd hbd;obtain⟨⟨t0,t1,t2⟩,_,hlt⟩:=ad1 m6.out;have q1:=tfE t1 hlt;refine tail_cons (l:= ?segA) ?hsegA ?_
  case hsegA=>simp only[pick,lE1,lE2,lE3];rfl
  repeat (go_big_quiet_step (fail))
  refine wpQuiet_nil ?_;clear q1 t0 t1 t2 hlt;refine afq (vs:= #[.pointer (some ⟨g,0,none⟩)]) Tryz.call80 rfl rfl rfl (R:=fun r w'=>r= .int .i64 (M:Int)/\wd=w') ((HROOM.out wd HB6.out).mono ?_) ?_
  · rintro e w' ⟨rfl,rfl⟩;exact⟨_,rfl,Below.refl _ _,rfl,rfl⟩
  rintro r w' _ ⟨rfl,rfl⟩;refine⟨wd.heap.size,Nat.le_refl _,?_⟩;simp only[Act.put,lE4,lE5,lE6];refine aaH (l:= ?lastB) (t:= []) ?hlastB rfl ?_
  case hlastB=>simp only[pick,lE1,lE2,lE3];rfl
  repeat (go_big_quiet_step (fail))
  refine wpQuiet_nil ?_;clear gy gy'
  cases y with
  | true=>
   have e:=HPLAIN.out (.inr ⟨HOK.out.1,of_decide_eq_true GY.out⟩);subst e;clear HPLAIN;obtain⟨⟨v0,v1,v2⟩,_,hlv⟩:=ad1 m6.out;obtain⟨wz,hz,nz,bz,⟨u0,u1,u2,u3,u4,u5,u6⟩,⟨g0,g1,g2,g3,g4,g5,g6⟩,hlu⟩:=auU n6 (.int .u64 (G:Int)) (.int .u64 (Q:Int)) (.int .u32 (C:Int)) (.bool false) (.int .i64 0) (.slice none 0 0) (.slice none 0 0);go_wp2_with (first | (rw[hz.out]) | fail)
   (try simp only[Exit.inBlock,Exit.then])
   refine aqO (g:=w.heap.size) (x:= .nilIface) Tryz.results143 ?_ ?_ ?_ nz.out ?_
   · rfl
   · rfl
   · rfl
   · exact Find.plain G Q C rfl (bz.out _ _ (Nat.le_refl _) HB6.out)
  | false=>
   have hQM:Q<=M:=Nat.le_of_not_lt (of_decide_eq_false GY.out);obtain⟨o,hob⟩:=nmE ((adw s.bs s.wt (p+1) (need Q)).take Q);have hrds:=HREADS.out wd HB6.out Q hQM;unfold arp at hrds;rw[hob]at hrds;have hsk:arU G Q C (abZ 0 o) (ae9 o)=sk:=by
    have hsk:=HSK.out;obtain⟨k1,k2,k3⟩:=HKK.out;unfold amG at hsk;rw[if_neg (by rw[HOK.out.1];decide),k1,k2,k3,if_neg (by rw[HM.out];exact Nat.not_lt.2 hQM)]at hsk;dsimp only at hsk;rw[hob]at hsk;exact hsk
   have HSK2:=hE0 hsk;have HRDS:=hE0 hrds;have hQi:Hid (((p:Int)+1)=((p+1:Nat):Int)):=(show _=_ from rfl);obtain⟨ol,hol⟩:=nmE o.length;have holl:ol<=65536:=by rw[<-hol,<-hob,List.length_take];omega
   rw[hol]at HRDS;obtain⟨⟨v0,v1,v2⟩,_,hlv⟩:=ad1 m6.out;clear hrds hsk hob hol HREADS HROOM HPLAIN;go_wp2_with fail
   rw[hQi.out];refine HRDS.out.mono ?_;rintro e w8 ⟨A8,c8,rfl,o8,b8⟩;have hc8:=apy o8;unfold maxLen at hc8;have HB8:=hE0 (HB6.out.trans (b8.mono HB6.out.size));have n8:=hE0 ((b8.block _ (aaa n6.out)).trans n6.out);have m8:=hE0 ((b8.block _ (aaa m6.out)).trans m6.out);have HIM:=hE0 (aol w8 A8 ol c8 o (acP o8) hc8.1 (by omega) (by omega) G Q C hCl sk HSK2.out);obtain⟨⟨x0,x1,x2⟩,_,hlx⟩:=ad1 m8.out;clear v0 v1 v2 hlv o8 b8 hc8 HRDS;go_wp2_with fail
   refine HIM.out.mono ?_;rintro e w9 ⟨A9,a9,B9,c9,rfl,hr9,hd9,hA9,b9⟩;clear x0 x1 x2 hlx;have HS4:Hid (sk.G=G/\sk.N=Q/\sk.S=C):=(show _/\_ from by
    rw[<-HSK2.out];unfold arU;split<;>exact⟨rfl,rfl,rfl⟩)
   obtain⟨sG,sN,sS,so,sn,sl,sd⟩:=sk;obtain⟨rfl,rfl,rfl⟩:=HS4.out;dsimp only at hr9 hd9;dsimp only;have HA9:Hid (∀a,B9=some a->w.heap.size<a.block):=(show ∀a,_->_ from fun a e=>by have:=hA9 a e;have:=aaa n8.out;omega);obtain⟨wa,ha10,m10,b10⟩:=aj4 w9 107 (.int .i64 0) (.slice none 0 0) (.slice none 0 0);obtain⟨wb,hp11,m11,b11,⟨z0,z1,z2⟩,⟨e0,e1,e2⟩,hle⟩:=auH m10 (.int .i64 (sn:Int)) (.slice A9 sl.length a9) (.slice B9 sd.length c9);have hb911:=b11.out w9.heap.size w9 (Nat.le_refl _) b10.out;have hb811:=b9.trans (hb911.mono b9.size);have HB11:=hE0 (HB8.out.trans (hb811.mono HB8.out.size));have n11:=hE0 ((hb811.block _ (aaa n8.out)).trans n8.out);have r11:=hE0 ((hb811.block _ (aaa m8.out)).trans m8.out);have HIM11:Hid (RkRd wb wb.heap.size A9 sl/\DtRd wb wb.heap.size B9 sd):=⟨(hr9.below hb911).more hb911.size,(hd9.below hb911).more hb911.size⟩;obtain⟨⟨x0,x1,x2⟩,_,hlx⟩:=ad1 m11.out;obtain⟨⟨v0,v1,v2⟩,_,hlv⟩:=ad1 r11.out;obtain⟨wz,hz,nz,bz,⟨u0,u1,u2,u3,u4,u5,u6⟩,⟨g0,g1,g2,g3,g4,g5,g6⟩,hlu⟩:=auU n11 (.int .u64 (sG:Int)) (.int .u64 (sN:Int)) (.int .u32 (sS:Int)) (.bool so) (.int .i64 (sn:Int)) (.slice A9 sl.length a9) (.slice B9 sd.length c9);have HFIN:Hid (RkRd wz wz.heap.size A9 sl/\DtRd wz wz.heap.size B9 sd):=by
    have hz2:wz.heap.size=wb.heap.size:=by rw[<-hz.out];simp[World.setCell]
    have hk2:∀k,k≠w.heap.size->wz.heap[k]?=wb.heap[k]?:=fun k hk=>by
     rw[<-hz.out,heap_setCell_other _ _ _ _ hk,heap_setCell_other _ _ _ _ hk,heap_setCell_other _ _ _ _ hk,heap_setCell_other _ _ _ _ hk,heap_setCell_other _ _ _ _ hk,heap_setCell_other _ _ _ _ hk,heap_setCell_other _ _ _ _ hk]
    rw[hz2];exact⟨HIM11.out.1.offS n11.out hk2,HIM11.out.2.offS (fun a e=>by have:=HA9.out a e;omega) n11.out hk2⟩
   have HBZ:=hE0 (bz.out _ _ (Nat.le_refl _) HB11.out);clear hr9 hd9 hA9 b9 hb911 hb811 HIM;go_wp2_with (first | (rw[ha10.out]) | (rw[hp11.out]) | (rw[hz.out]) | fail)
   (try simp only[Exit.inBlock,Exit.then])
   refine aqO (g:=w.heap.size) (x:= .nilIface) Tryz.results143 ?_ ?_ ?_ nz.out ?_
   · rfl
   · rfl
   · rfl
   · exact⟨A9,a9,B9,c9,rfl,HFIN.out.1,HFIN.out.2,(fun a e=>Nat.le_of_lt (HA9.out a e)),HBZ.out⟩
end
theorem aci{w:World}{g:Nat}{t:TypeId}{y0 y1 y2 y3 y4 y5 y6 y7 y8 y9 y10 y11 y12 y13:Value}(h:w.heap[g]?=some (.cells #[y0,y1,y2,y3,y4,y5,y6,y7,y8,y9,y10,y11,y12,y13] t (0,0))):(w.cell? ⟨g,0,none⟩=some y0/\w.cell? ⟨g,1,none⟩=some y1/\w.cell? ⟨g,2,none⟩=some y2/\w.cell? ⟨g,3,none⟩=some y3/\w.cell? ⟨g,4,none⟩=some y4/\w.cell? ⟨g,5,none⟩=some y5/\w.cell? ⟨g,6,none⟩=some y6/\w.cell? ⟨g,7,none⟩=some y7/\w.cell? ⟨g,8,none⟩=some y8/\w.cell? ⟨g,9,none⟩=some y9/\w.cell? ⟨g,10,none⟩=some y10/\w.cell? ⟨g,11,none⟩=some y11/\w.cell? ⟨g,12,none⟩=some y12/\w.cell? ⟨g,13,none⟩=some y13)/\(w.frozen? ⟨g,0,none⟩=false/\w.frozen? ⟨g,1,none⟩=false/\w.frozen? ⟨g,2,none⟩=false/\w.frozen? ⟨g,3,none⟩=false/\w.frozen? ⟨g,4,none⟩=false/\w.frozen? ⟨g,5,none⟩=false/\w.frozen? ⟨g,6,none⟩=false/\w.frozen? ⟨g,7,none⟩=false/\w.frozen? ⟨g,8,none⟩=false/\w.frozen? ⟨g,9,none⟩=false/\w.frozen? ⟨g,10,none⟩=false/\w.frozen? ⟨g,11,none⟩=false/\w.frozen? ⟨g,12,none⟩=false/\w.frozen? ⟨g,13,none⟩=false)/\g<w.heap.size:=by
 have hc:∀(i:Nat) (v:Value),(#[y0,y1,y2,y3,y4,y5,y6,y7,y8,y9,y10,y11,y12,y13]:Array Value)[i]?=some v->w.cell? ⟨g,i,none⟩=some v:=fun i v e=>by rw[cell_of_row w g i _ _ (0,0) h];exact e
 have hf:∀i:Nat,w.frozen? ⟨g,i,none⟩=false:=fun i=>frozen_of_row w g i _ _ h;exact⟨⟨hc 0 _ rfl,hc 1 _ rfl,hc 2 _ rfl,hc 3 _ rfl,hc 4 _ rfl,hc 5 _ rfl,hc 6 _ rfl,hc 7 _ rfl,hc 8 _ rfl,hc 9 _ rfl,hc 10 _ rfl,hc 11 _ rfl,hc 12 _ rfl,hc 13 _ rfl⟩,⟨hf _,hf _,hf _,hf _,hf _,hf _,hf _,hf _,hf _,hf _,hf _,hf _,hf _,hf _⟩,aaa h⟩
theorem am7{w:World}{g:Nat}{t:TypeId}{y0 y1 y2 y3 y4 y5 y6 y7 y8 y9 y10 y11 y12 y13:Value}(h:Hid (w.heap[g]?=some (.cells #[y0,y1,y2,y3,y4,y5,y6,y7,y8,y9,y10,y11,y12,y13] t (0,0)))) (x0 x1 x2 x3 x4 x5 x6:Value):∃w',Hid ((((((((w.setCell ⟨g,0,none⟩ x0).setCell ⟨g,1,none⟩ x1).setCell ⟨g,2,none⟩ x2).setCell ⟨g,3,none⟩ x3).setCell ⟨g,4,none⟩ x4).setCell ⟨g,5,none⟩ x5).setCell ⟨g,6,none⟩ x6)=w')/\Hid (w'.heap[g]?=some (.cells #[x0,x1,x2,x3,x4,x5,x6,y7,y8,y9,y10,y11,y12,y13] t (0,0)))/\Hid (∀B v,B<=g->Below B v w->Below B v w')/\Hid (∀k,k≠g->w'.heap[k]?=w.heap[k]?)/\Hid (w'.heap.size=w.heap.size):=by
 have h0:=h.out;have h1:(_:Option Obj)=some (.cells #[x0,y1,y2,y3,y4,y5,y6,y7,y8,y9,y10,y11,y12,y13] t (0,0)):=heap_setCell_same _ g 0 _ _ x0 h0;have h2:(_:Option Obj)=some (.cells #[x0,x1,y2,y3,y4,y5,y6,y7,y8,y9,y10,y11,y12,y13] t (0,0)):=heap_setCell_same _ g 1 _ _ x1 h1;have h3:(_:Option Obj)=some (.cells #[x0,x1,x2,y3,y4,y5,y6,y7,y8,y9,y10,y11,y12,y13] t (0,0)):=heap_setCell_same _ g 2 _ _ x2 h2;have h4:(_:Option Obj)=some (.cells #[x0,x1,x2,x3,y4,y5,y6,y7,y8,y9,y10,y11,y12,y13] t (0,0)):=heap_setCell_same _ g 3 _ _ x3 h3;have h5:(_:Option Obj)=some (.cells #[x0,x1,x2,x3,x4,y5,y6,y7,y8,y9,y10,y11,y12,y13] t (0,0)):=heap_setCell_same _ g 4 _ _ x4 h4;have h6:(_:Option Obj)=some (.cells #[x0,x1,x2,x3,x4,x5,y6,y7,y8,y9,y10,y11,y12,y13] t (0,0)):=heap_setCell_same _ g 5 _ _ x5 h5;have h7:(_:Option Obj)=some (.cells #[x0,x1,x2,x3,x4,x5,x6,y7,y8,y9,y10,y11,y12,y13] t (0,0)):=heap_setCell_same _ g 6 _ _ x6 h6;exact⟨_,hE0 rfl,hE0 h7,hE0 (fun B v hB hv=>(Below.setCell (Below.setCell (Below.setCell (Below.setCell (Below.setCell (Below.setCell (Below.setCell hv (p:=⟨g,0,none⟩) hB _) (p:=⟨g,1,none⟩) hB _) (p:=⟨g,2,none⟩) hB _) (p:=⟨g,3,none⟩) hB _) (p:=⟨g,4,none⟩) hB _) (p:=⟨g,5,none⟩) hB _) (p:=⟨g,6,none⟩) hB _)),hE0 (fun k hk=>by rw[heap_setCell_other _ _ _ _ hk,heap_setCell_other _ _ _ _ hk,heap_setCell_other _ _ _ _ hk,heap_setCell_other _ _ _ _ hk,heap_setCell_other _ _ _ _ hk,heap_setCell_other _ _ _ _ hk,heap_setCell_other _ _ _ _ hk]),hE0 (by simp[World.setCell])⟩
theorem am8{w:World}{g:Nat}{t:TypeId}{y0 y1 y2 y3 y4 y5 y6 y7 y8 y9 y10 y11 y12 y13:Value}(h:Hid (w.heap[g]?=some (.cells #[y0,y1,y2,y3,y4,y5,y6,y7,y8,y9,y10,y11,y12,y13] t (0,0)))) (x0 x1 x2 x3 x4 x5 x6:Value):∃w',Hid ((((((((w.setCell ⟨g,7,none⟩ x0).setCell ⟨g,8,none⟩ x1).setCell ⟨g,9,none⟩ x2).setCell ⟨g,10,none⟩ x3).setCell ⟨g,11,none⟩ x4).setCell ⟨g,12,none⟩ x5).setCell ⟨g,13,none⟩ x6)=w')/\Hid (w'.heap[g]?=some (.cells #[y0,y1,y2,y3,y4,y5,y6,x0,x1,x2,x3,x4,x5,x6] t (0,0)))/\Hid (∀B v,B<=g->Below B v w->Below B v w')/\Hid (∀k,k≠g->w'.heap[k]?=w.heap[k]?)/\Hid (w'.heap.size=w.heap.size):=by
 have h0:=h.out;have h1:(_:Option Obj)=some (.cells #[y0,y1,y2,y3,y4,y5,y6,x0,y8,y9,y10,y11,y12,y13] t (0,0)):=heap_setCell_same _ g 7 _ _ x0 h0;have h2:(_:Option Obj)=some (.cells #[y0,y1,y2,y3,y4,y5,y6,x0,x1,y9,y10,y11,y12,y13] t (0,0)):=heap_setCell_same _ g 8 _ _ x1 h1;have h3:(_:Option Obj)=some (.cells #[y0,y1,y2,y3,y4,y5,y6,x0,x1,x2,y10,y11,y12,y13] t (0,0)):=heap_setCell_same _ g 9 _ _ x2 h2;have h4:(_:Option Obj)=some (.cells #[y0,y1,y2,y3,y4,y5,y6,x0,x1,x2,x3,y11,y12,y13] t (0,0)):=heap_setCell_same _ g 10 _ _ x3 h3;have h5:(_:Option Obj)=some (.cells #[y0,y1,y2,y3,y4,y5,y6,x0,x1,x2,x3,x4,y12,y13] t (0,0)):=heap_setCell_same _ g 11 _ _ x4 h4;have h6:(_:Option Obj)=some (.cells #[y0,y1,y2,y3,y4,y5,y6,x0,x1,x2,x3,x4,x5,y13] t (0,0)):=heap_setCell_same _ g 12 _ _ x5 h5;have h7:(_:Option Obj)=some (.cells #[y0,y1,y2,y3,y4,y5,y6,x0,x1,x2,x3,x4,x5,x6] t (0,0)):=heap_setCell_same _ g 13 _ _ x6 h6;exact⟨_,hE0 rfl,hE0 h7,hE0 (fun B v hB hv=>(Below.setCell (Below.setCell (Below.setCell (Below.setCell (Below.setCell (Below.setCell (Below.setCell hv (p:=⟨g,7,none⟩) hB _) (p:=⟨g,8,none⟩) hB _) (p:=⟨g,9,none⟩) hB _) (p:=⟨g,10,none⟩) hB _) (p:=⟨g,11,none⟩) hB _) (p:=⟨g,12,none⟩) hB _) (p:=⟨g,13,none⟩) hB _)),hE0 (fun k hk=>by rw[heap_setCell_other _ _ _ _ hk,heap_setCell_other _ _ _ _ hk,heap_setCell_other _ _ _ _ hk,heap_setCell_other _ _ _ _ hk,heap_setCell_other _ _ _ _ hk,heap_setCell_other _ _ _ _ hk,heap_setCell_other _ _ _ _ hk]),hE0 (by simp[World.setCell])⟩
def asJ (x y:Sk) (A1:Option Addr) (c1:Nat) (A2:Option Addr) (c2:Nat) (B1:Option Addr) (k1:Nat) (B2:Option Addr) (k2:Nat):Value:= .agg #[.int .u64 (x.G:Int), .int .u64 (x.N:Int), .int .u32 (x.S:Int), .bool x.ok, .int .i64 (x.n:Int), .slice A1 x.l.length c1, .slice A2 x.d.length c2, .int .u64 (y.G:Int), .int .u64 (y.N:Int), .int .u32 (y.S:Int), .bool y.ok, .int .i64 (y.n:Int), .slice B1 y.l.length k1, .slice B2 y.d.length k2]
def awu (x y:Sk) (w:World) (e:Ending) (w':World):Prop:=
 ∃A1 c1 A2 c2 B1 k1 B2 k2,e= .returned (.tuple #[asJ x y A1 c1 A2 c2 B1 k1 B2 k2, .nilIface])/\(RkRd w' w'.heap.size A1 x.l/\DtRd w' w'.heap.size A2 x.d)/\(RkRd w' w'.heap.size B1 y.l/\DtRd w' w'.heap.size B2 y.d)/\Below w.heap.size w w'
theorem avq{fn:Func}{R:Ending->World->Prop}{a:Act}{w:World}{p u:Tmp}{g:Nat}{x y0 y1 y2 y3 y4 y5 y6 y7 y8 y9 y10 y11 y12 y13:Value}(hres:fn.results= #[.cell p 149, .tmp u]) (hp:a.tmps.getD p undef= .pointer (some ⟨g,0,none⟩)) (hx:a.tmps.getD u undef=x) (hd:a.defers= [])
 (hg:w.heap[g]?=some (.cells #[y0,y1,y2,y3,y4,y5,y6,y7,y8,y9,y10,y11,y12,y13] 149 (0,0))) (hR:R (.returned (.tuple #[.agg #[y0,y1,y2,y3,y4,y5,y6,y7,y8,y9,y10,y11,y12,y13],x])) w):bodyPost Tryz.prog fn R .ret a w:=by
 obtain⟨⟨pc0,pc1,pc2,pc3,pc4,pc5,pc6,pc7,pc8,pc9,pc10,pc11,pc12,pc13⟩,⟨pf0,pf1,pf2,pf3,pf4,pf5,pf6,pf7,pf8,pf9,pf10,pf11,pf12,pf13⟩,hlp⟩:=aci hg;refine bodyPost_ret (v:= .tuple #[.agg #[y0,y1,y2,y3,y4,y5,y6,y7,y8,y9,y10,y11,y12,y13],x]) ?_ hd hR;rw[results_cell_tmp hres,hp,hx];simp[go_sem,pc0,pc1,pc2,pc3,pc4,pc5,pc6,pc7,pc8,pc9,pc10,pc11,pc12,pc13]
theorem RkRd.off14{w w':World}{B g:Nat}{A:Option Addr}{l:List Rk}{t:TypeId}{fr:Nat × Nat}{a0 a1 a2 a4 b0 b1 b2 b4:Int}{a3 b3:Bool}{S1 S2 S3 S4:Option Addr}{n1 m1 n2 m2 n3 m3 n4 m4:Nat}(h:RkRd w B A l) (hg:w.heap[g]?=some (.cells #[.int .u64 a0, .int .u64 a1, .int .u32 a2, .bool a3, .int .i64 a4, .slice S1 n1 m1, .slice S2 n2 m2, .int .u64 b0, .int .u64 b1, .int .u32 b2, .bool b3, .int .i64 b4, .slice S3 n3 m3, .slice S4 n4 m4] t fr)) (hk:∀k,k≠g->w'.heap[k]?=w.heap[k]?):RkRd w' B A l:=fun hn=>by
 obtain⟨b,o,e,hB,hc⟩:=h hn;have hbg:b≠g:=by
  intro e2;subst e2;obtain⟨x,hx⟩:∃x,l[0]?=some x:=⟨l[0]'hn,List.getElem?_eq_getElem _⟩;obtain⟨h0,h1,_⟩:=hc 0 x hx;rw[cell_of_row _ _ _ _ _ _ hg]at h0 h1;rcases o with _ | _ | _ | _ | _ | _ | _ | _ | _ | _ | _ | _ | _ | _ | o<;>simp at h0 h1
 refine⟨b,o,e,hB,fun j x hx=> ?_⟩;obtain⟨h0,h1,h2,h3⟩:=hc j x hx;have hh:=hk b hbg;refine⟨?_,?_,?_,h3⟩
 · rw[<-h0];simp[World.cell?,hh]
 · rw[<-h1];simp[World.cell?,hh]
 · rw[<-h2];simp[World.cell?,hh]
theorem DtRd.off14{w w':World}{B g:Nat}{A:Option Addr}{l:List (List UInt8)}{t:TypeId}{fr:Nat × Nat}{a0 a1 a2 a4 b0 b1 b2 b4:Int}{a3 b3:Bool}{S1 S2 S3 S4:Option Addr}{n1 m1 n2 m2 n3 m3 n4 m4:Nat}(h:DtRd w B A l) (hA:∀a,A=some a->a.block≠g) (hg:w.heap[g]?=some (.cells #[.int .u64 a0, .int .u64 a1, .int .u32 a2, .bool a3, .int .i64 a4, .slice S1 n1 m1, .slice S2 n2 m2, .int .u64 b0, .int .u64 b1, .int .u32 b2, .bool b3, .int .i64 b4, .slice S3 n3 m3, .slice S4 n4 m4] t fr)) (hk:∀k,k≠g->w'.heap[k]?=w.heap[k]?):DtRd w' B A l:=fun hn=>by
 obtain⟨b,o,e,hB,hc⟩:=h hn;refine⟨b,o,e,hB,fun j x hx=> ?_⟩;obtain⟨A',k,h1,h2,h3⟩:=hc j x hx;refine⟨A',k,by rw[<-h1];simp[World.cell?,hk b (hA _ e)],⟨h2.1,fun hn=> ?_⟩,h3⟩;obtain⟨b2,o2,e2,hB2,hc2⟩:=h2.2 hn;have hbg:b2≠g:=by
  intro e3;subst e3;obtain⟨u,hu⟩:∃u,x[0]?=some u:=⟨x[0]'hn,List.getElem?_eq_getElem _⟩;have h0:=hc2 0 u hu;rw[cell_of_row _ _ _ _ _ _ hg]at h0;rcases o2 with _ | _ | _ | _ | _ | _ | _ | _ | _ | _ | _ | _ | _ | _ | o2<;>simp at h0
 exact⟨b2,o2,e2,hB2,fun j u hu=>by rw[<-hc2 j u hu];simp[World.cell?,hk b2 hbg]⟩
section
variable {N:Nat} {S:Nat->Prop} {w:World} {g:Nat} {s:Dst}
theorem akP (h:DS N S w g s) (half:Nat) (hh:N/2=half) (h1:1<=half) (hN2:N<=128) (ho:s.off=false) (x y:Sk) (hx:ady s.bs s.wt half 0=x) (hy:ady s.bs s.wt half 1=y):
 Calls Tryz.prog 79 #[.pointer (some ⟨g,0,none⟩)] w fun e w'=>awu x y w e w':=by
 obtain⟨w1,ha1⟩:=nmE (w.alloc (.cells #[.int .u64 0, .int .u64 0, .int .u32 0, .bool false, .int .i64 0, .slice none 0 0, .slice none 0 0, .int .u64 0, .int .u64 0, .int .u32 0, .bool false, .int .i64 0, .slice none 0 0, .slice none 0 0] 149));have n1:=anE ha1;have b1:=abE ha1;obtain⟨w2,ha2⟩:=nmE (w1.alloc (.cells #[.int .u64 0, .int .u64 0, .int .u32 0, .bool false, .int .i64 0, .slice none 0 0, .slice none 0 0, .int .u64 0, .int .u64 0, .int .u32 0, .bool false, .int .i64 0, .slice none 0 0, .slice none 0 0] 149));have m2:=anE ha2;have b2:=abE ha2;have HB2:=hE0 (b1.trans (b2.mono b1.size));have n2:=hE0 ((b2.block _ (aaa n1)).trans n1);have M2:=hE0 m2;have HA1:=hE0 ha1;have HA2:=hE0 ha2;have hqr:Hid (w.heap.size<w1.heap.size):=(show _<_ from aaa n1);have HALF:=hE0 (fun W (hW:Below w.heap.size w W)=>ahg (h.below hW) hN2 half hh);have HF0:=hE0 (fun W (hW:Below w.heap.size w W)=>am6 (h.below hW) hN2 ho half hh h1 0 (by omega) x (by unfold ady at hx;rw[Nat.zero_mul]at hx;exact hx));have HF1:=hE0 (fun W (hW:Below w.heap.size w W)=>am6 (h.below hW) hN2 ho half hh h1 half (by omega) y (by unfold ady at hy;rw[Nat.one_mul]at hy;exact hy));obtain⟨xG,xN,xS,xo,xn,xl,xd⟩:=x;obtain⟨yG,yN,yS,yo,yn,yl,yd⟩:=y;clear h ha1 n1 b1 ha2 b2 ho m2 hx hy;obtain⟨q,hq⟩:=nmE w1.heap.size;rw[hq]at M2 hqr;have hh64:half<=64:=by omega
 clear hh;go_enter Tryz.func79,Tryz.ntmps79
 go_wp2_with (first | (rw[HA1.out]) | (rw[HA2.out]) | fail)
 (try rw[hq])
 go_loopw [8] (fun t W=>∃j:Nat,t= .int .i64 (j:Int)/\Below w.heap.size w W/\W.heap[w.heap.size]?=some (.cells #[.int .u64 0, .int .u64 0, .int .u32 0, .bool false, .int .i64 0, .slice none 0 0, .slice none 0 0, .int .u64 0, .int .u64 0, .int .u32 0, .bool false, .int .i64 0, .slice none 0 0, .slice none 0 0] 149 (0,0))/\((j=0/\W.heap[q]?=some (.cells #[.int .u64 0, .int .u64 0, .int .u32 0, .bool false, .int .i64 0, .slice none 0 0, .slice none 0 0, .int .u64 0, .int .u64 0, .int .u32 0, .bool false, .int .i64 0, .slice none 0 0, .slice none 0 0] 149 (0,0)))\/(j=1/\∃A1 c1 A2 c2,W.heap[q]?=some (.cells #[.int .u64 (xG:Int), .int .u64 (xN:Int), .int .u32 (xS:Int), .bool xo, .int .i64 (xn:Int), .slice A1 xl.length c1, .slice A2 xd.length c2, .int .u64 0, .int .u64 0, .int .u32 0, .bool false, .int .i64 0, .slice none 0 0, .slice none 0 0] 149 (0,0))/\(RkRd W W.heap.size A1 xl/\DtRd W W.heap.size A2 xd)/\∀a,A2=some a->q<a.block)\/(j=2/\∃A1 c1 A2 c2 B1 k1 B2 k2,W.heap[q]?=some (.cells #[.int .u64 (xG:Int), .int .u64 (xN:Int), .int .u32 (xS:Int), .bool xo, .int .i64 (xn:Int), .slice A1 xl.length c1, .slice A2 xd.length c2, .int .u64 (yG:Int), .int .u64 (yN:Int), .int .u32 (yS:Int), .bool yo, .int .i64 (yn:Int), .slice B1 yl.length k1, .slice B2 yd.length k2] 149 (0,0))/\((RkRd W W.heap.size A1 xl/\DtRd W W.heap.size A2 xd)/\∀a,A2=some a->q<a.block)/\(RkRd W W.heap.size B1 yl/\DtRd W W.heap.size B2 yd)/\∀a,B2=some a->q<a.block))) (fun t _=>2-(intOf t).toNat)
 case atStart=>exact⟨0,rfl,HB2.out,n2.out, .inl ⟨rfl,M2.out⟩⟩
 case round=>
  obtain⟨j,rfl,hbr,nr,hrel⟩:=hrel;have HBR:=hE0 hbr;have NR:=hE0 nr;have hlr:=aaa nr;clear hbr nr;rcases hrel with⟨rfl,mr⟩ | ⟨rfl,A1,c1,A2,c2,mr,ir,ar⟩ | ⟨rfl,A1,c1,A2,c2,B1,k1,B2,k2,mr,⟨ir,ar⟩,iy,ay⟩
  · have MR:=hE0 mr;have hlq:=aaa MR.out;clear mr;go_wp2_with fail
    refine(HALF.out wr HBR.out).mono ?_;rintro e w3 ⟨rfl,rfl⟩;go_wp2_with fail
    refine(HF0.out wr HBR.out).mono ?_;rintro e w3 ⟨A1,c1,A2,c2,rfl,hr3,hd3,hA3,hb3⟩;unfold skV;dsimp only at hr3 hd3;dsimp only;have n3:=(hb3.block _ (aaa NR.out)).trans NR.out;have m3:=(hb3.block _ (aaa MR.out)).trans MR.out;obtain⟨w4,ha4,m4,b4⟩:=apo w3 148 (.int .u64 0) (.int .u64 0) (.int .u32 0) (.bool false) (.int .i64 0) (.slice none 0 0) (.slice none 0 0);obtain⟨w5,hp5,m5,b5,⟨y0,y1,y2,y3,y4,y5,y6⟩,⟨f0,f1,f2,f3,f4,f5,f6⟩,hlz⟩:=auU m4 (.int .u64 (xG:Int)) (.int .u64 (xN:Int)) (.int .u32 (xS:Int)) (.bool xo) (.int .i64 (xn:Int)) (.slice A1 xl.length c1) (.slice A2 xd.length c2);have hb35:=b5.out w3.heap.size w3 (Nat.le_refl _) b4.out;have hbr5:=hb3.trans (hb35.mono hb3.size);have HB5:=hE0 (HBR.out.trans (hbr5.mono HBR.out.size));have n5:=hE0 ((hb35.block _ (aaa n3)).trans n3);have q5:=hE0 ((hb35.block _ (aaa m3)).trans m3);have HI5:Hid (RkRd w5 w5.heap.size A1 xl/\DtRd w5 w5.heap.size A2 xd):=⟨(hr3.below hb35).more hb35.size,(hd3.below hb35).more hb35.size⟩;have HA5:Hid (∀a,A2=some a->q<a.block):=(show ∀a,_->_ from fun a e=>by have:=hA3 a e;omega);obtain⟨⟨pc0,pc1,pc2,pc3,pc4,pc5,pc6,pc7,pc8,pc9,pc10,pc11,pc12,pc13⟩,⟨pf0,pf1,pf2,pf3,pf4,pf5,pf6,pf7,pf8,pf9,pf10,pf11,pf12,pf13⟩,hlp⟩:=aci q5.out;obtain⟨⟨v0,v1,v2,v3,v4,v5,v6⟩,_,hlv⟩:=ahR m5.out;obtain⟨w6,hp6,n6,b6,k6,s6⟩:=am7 q5 (.int .u64 (xG:Int)) (.int .u64 (xN:Int)) (.int .u32 (xS:Int)) (.bool xo) (.int .i64 (xn:Int)) (.slice A1 xl.length c1) (.slice A2 xd.length c2);clear n3 m3 hb3 hb35 hbr5 hr3 hd3 hA3;go_wp2_with (first | (rw[ha4.out]) | (rw[hp5.out]) | (rw[hp6.out]) | fail)
    go_roundw
    case rel=>
     have hqw:=hqr.out;refine⟨1,by go_num,b6.out _ _ (Nat.le_of_lt hqw) HB5.out,(k6.out _ (Nat.ne_of_lt hqw)).trans n5.out, .inr (.inl ⟨rfl,A1,c1,A2,c2,n6.out,⟨by rw[s6.out];exact HI5.out.1.off14 q5.out k6.out,by rw[s6.out];exact HI5.out.2.off14 (fun a e=>Nat.ne_of_gt (HA5.out a e)) q5.out k6.out⟩,HA5.out⟩)⟩
    case measure=>simp only[intOf];omega
  · have MR:=hE0 mr;have HIR:=hE0 ir;have HAR:=hE0 ar;have hlq:=aaa MR.out;clear mr ir ar;go_wp2_with fail
    refine(HALF.out wr HBR.out).mono ?_;rintro e w3 ⟨rfl,rfl⟩;go_wp2_with fail
    refine(HF1.out wr HBR.out).mono ?_;rintro e w3 ⟨B1,k1,B2,k2,rfl,hr3,hd3,hA3,hb3⟩;unfold skV;dsimp only at hr3 hd3;dsimp only;have n3:=(hb3.block _ (aaa NR.out)).trans NR.out;have m3:=(hb3.block _ (aaa MR.out)).trans MR.out;obtain⟨w4,ha4,m4,b4⟩:=apo w3 148 (.int .u64 0) (.int .u64 0) (.int .u32 0) (.bool false) (.int .i64 0) (.slice none 0 0) (.slice none 0 0);obtain⟨w5,hp5,m5,b5,⟨y0,y1,y2,y3,y4,y5,y6⟩,⟨f0,f1,f2,f3,f4,f5,f6⟩,hlz⟩:=auU m4 (.int .u64 (yG:Int)) (.int .u64 (yN:Int)) (.int .u32 (yS:Int)) (.bool yo) (.int .i64 (yn:Int)) (.slice B1 yl.length k1) (.slice B2 yd.length k2);have hb35:=b5.out w3.heap.size w3 (Nat.le_refl _) b4.out;have hbr5:=hb3.trans (hb35.mono hb3.size);have HB5:=hE0 (HBR.out.trans (hbr5.mono HBR.out.size));have n5:=hE0 ((hb35.block _ (aaa n3)).trans n3);have q5:=hE0 ((hb35.block _ (aaa m3)).trans m3);have HI5:Hid (RkRd w5 w5.heap.size B1 yl/\DtRd w5 w5.heap.size B2 yd):=⟨(hr3.below hb35).more hb35.size,(hd3.below hb35).more hb35.size⟩;have HA5:Hid (∀a,B2=some a->q<a.block):=(show ∀a,_->_ from fun a e=>by have:=hA3 a e;omega);have HX5:Hid (RkRd w5 w5.heap.size A1 xl/\DtRd w5 w5.heap.size A2 xd):=⟨(HIR.out.1.below hbr5).more hbr5.size,(HIR.out.2.below hbr5).more hbr5.size⟩;obtain⟨⟨pc0,pc1,pc2,pc3,pc4,pc5,pc6,pc7,pc8,pc9,pc10,pc11,pc12,pc13⟩,⟨pf0,pf1,pf2,pf3,pf4,pf5,pf6,pf7,pf8,pf9,pf10,pf11,pf12,pf13⟩,hlp⟩:=aci q5.out;obtain⟨⟨v0,v1,v2,v3,v4,v5,v6⟩,_,hlv⟩:=ahR m5.out;obtain⟨w6,hp6,n6,b6,k6,s6⟩:=am8 q5 (.int .u64 (yG:Int)) (.int .u64 (yN:Int)) (.int .u32 (yS:Int)) (.bool yo) (.int .i64 (yn:Int)) (.slice B1 yl.length k1) (.slice B2 yd.length k2);clear n3 m3 hb3 hb35 hbr5 hr3 hd3 hA3;go_wp2_with (first | (rw[ha4.out]) | (rw[hp5.out]) | (rw[hp6.out]) | fail)
    go_roundw
    case rel=>
     have hqw:=hqr.out;refine⟨2,by go_num,b6.out _ _ (Nat.le_of_lt hqw) HB5.out,(k6.out _ (Nat.ne_of_lt hqw)).trans n5.out, .inr (.inr ⟨rfl,A1,c1,A2,c2,B1,k1,B2,k2,n6.out,⟨⟨by rw[s6.out];exact HX5.out.1.off14 q5.out k6.out,by rw[s6.out];exact HX5.out.2.off14 (fun a e=>Nat.ne_of_gt (HAR.out a e)) q5.out k6.out⟩,HAR.out⟩,⟨by rw[s6.out];exact HI5.out.1.off14 q5.out k6.out,by rw[s6.out];exact HI5.out.2.off14 (fun a e=>Nat.ne_of_gt (HA5.out a e)) q5.out k6.out⟩,HA5.out⟩)⟩
    case measure=>simp only[intOf];omega
  · obtain⟨⟨pc0,pc1,pc2,pc3,pc4,pc5,pc6,pc7,pc8,pc9,pc10,pc11,pc12,pc13⟩,⟨pf0,pf1,pf2,pf3,pf4,pf5,pf6,pf7,pf8,pf9,pf10,pf11,pf12,pf13⟩,hlp⟩:=aci NR.out;obtain⟨⟨qc0,qc1,qc2,qc3,qc4,qc5,qc6,qc7,qc8,qc9,qc10,qc11,qc12,qc13⟩,⟨qf0,qf1,qf2,qf3,qf4,qf5,qf6,qf7,qf8,qf9,qf10,qf11,qf12,qf13⟩,hlq⟩:=aci mr;obtain⟨w6,hp6,n6,b6,k6,s6⟩:=am7 NR (.int .u64 (xG:Int)) (.int .u64 (xN:Int)) (.int .u32 (xS:Int)) (.bool xo) (.int .i64 (xn:Int)) (.slice A1 xl.length c1) (.slice A2 xd.length c2);obtain⟨w7,hp7,n7,b7,k7,s7⟩:=am8 n6 (.int .u64 (yG:Int)) (.int .u64 (yN:Int)) (.int .u32 (yS:Int)) (.bool yo) (.int .i64 (yn:Int)) (.slice B1 yl.length k1) (.slice B2 yd.length k2);have HIR:=hE0 ir;have HIY:=hE0 iy;have HAR:=hE0 ar;have HAY:=hE0 ay;clear mr ir ar iy ay;go_wp2_with (first | (rw[hp6.out,hp7.out]) | fail)
    (try simp only[Exit.inBlock,Exit.then])
    refine avq (g:=w.heap.size) Tryz.results79 rfl rfl rfl n7.out ?_;have hs:w7.heap.size=wr.heap.size:=s7.out.trans s6.out;have hkk:∀k,k≠w.heap.size->w7.heap[k]?=wr.heap[k]?:=fun k hk=>(k7.out k hk).trans (k6.out k hk);refine⟨A1,c1,A2,c2,B1,k1,B2,k2,rfl,?_,?_,b7.out _ _ (Nat.le_refl _) (b6.out _ _ (Nat.le_refl _) HBR.out)⟩
    · rw[hs];exact⟨HIR.out.1.off14 NR.out hkk,HIR.out.2.off14 (fun a e=>by have:=HAR.out a e;have:=hqr.out;omega) NR.out hkk⟩
    · rw[hs];exact⟨HIY.out.1.off14 NR.out hkk,HIY.out.2.off14 (fun a e=>by have:=HAY.out a e;have:=hqr.out;omega) NR.out hkk⟩
end
theorem aqP{w1 W:World}{a b:Array Value}{t:TypeId}(h:((w1.alloc (.cells a t)).alloc (.cells b t)).drew=W):W.heap[w1.heap.size]?=some (.cells a t (0,0))/\W.heap[w1.heap.size+1]?=some (.cells b t (0,0))/\Below w1.heap.size w1 W:=by
 have hs:(w1.alloc (.cells a t)).heap.size=w1.heap.size+1:=by simp
 have h1:Below w1.heap.size w1 (w1.alloc (.cells a t)):=(Below.refl _ _).alloc (Nat.le_refl _) _;have h2:Below (w1.alloc (.cells a t)).heap.size (w1.alloc (.cells a t)) ((w1.alloc (.cells a t)).alloc (.cells b t)):=(Below.refl _ _).alloc (Nat.le_refl _) _;subst h;refine⟨(h2.block _ (by rw[hs];omega)).trans (heap_alloc_new w1 _),?_,(h1.trans (h2.mono h1.size)).drew⟩;have:=heap_alloc_new (w1.alloc (.cells a t)) (.cells b t);rw[hs]at this;exact this
theorem ahh (w:World) (x y:Sk) (A1:Option Addr) (c1:Nat) (A2:Option Addr) (c2:Nat) (B1:Option Addr) (k1:Nat) (B2:Option Addr) (k2:Nat):
 Calls Tryz.prog 93 #[asJ x y A1 c1 A2 c2 B1 k1 B2 k2] w fun e w'=>e= .returned (.int .i64 (agJ x y))/\Below w.heap.size w w':=by
 unfold asJ;obtain⟨v,hv⟩:=nmE (agJ x y);rw[hv];obtain⟨xG,xN,xS,xo,xn,xl,xd⟩:=x;obtain⟨yG,yN,yS,yo,yn,yl,yd⟩:=y;dsimp only;obtain⟨w1,ha1⟩:=nmE (w.alloc (.cells #[.int .u64 (xG:Int), .int .u64 (xN:Int), .int .u32 (xS:Int), .bool xo, .int .i64 (xn:Int), .slice A1 xl.length c1, .slice A2 xd.length c2, .int .u64 (yG:Int), .int .u64 (yN:Int), .int .u32 (yS:Int), .bool yo, .int .i64 (yn:Int), .slice B1 yl.length k1, .slice B2 yd.length k2] 149));have n1:=anE ha1;have b1:=abE ha1;obtain⟨⟨pc0,pc1,pc2,pc3,pc4,pc5,pc6,pc7,pc8,pc9,pc10,pc11,pc12,pc13⟩,⟨pf0,pf1,pf2,pf3,pf4,pf5,pf6,pf7,pf8,pf9,pf10,pf11,pf12,pf13⟩,hlp⟩:=aci n1;have HA1:=hE0 ha1;have HB1:=hE0 b1;have HV:=hE0 hv;clear ha1 b1 hv;go_enter Tryz.func93,Tryz.ntmps93
 go_wp2_with (first | (rw[HA1.out]) | fail)
 have hF:∀(W:World) (u:Int),agJ ⟨xG,xN,xS,xo,xn,xl,xd⟩ ⟨yG,yN,yS,yo,yn,yl,yd⟩=u->Below w1.heap.size w1 W->Ending.returned (.int .i64 u)= .returned (.int .i64 v)/\Below w.heap.size w W:=fun W u hu hb=>⟨by rw[<-hu,HV.out],HB1.out.trans (hb.mono HB1.out.size)⟩;have HF:=hE0 hF;clear hF;go_region
 all_goals
  generalize hW:World.drew _=W;obtain⟨ra,rb,hbw⟩:=aqP hW;obtain⟨⟨a0,a1,a2,a3,a4,a5,a6⟩,_,hla⟩:=ahR ra;obtain⟨⟨b0,b1,b2,b3,b4,b5,b6⟩,_,hlb⟩:=ahR rb;have HBW:=hE0 hbw;clear hW ra rb hbw pc0 pc1 pc2 pc3 pc4 pc5 pc6 pc7 pc8 pc9 pc10 pc11 pc12 pc13 pf0 pf1 pf2 pf3 pf4 pf5 pf6 pf7 pf8 pf9 pf10 pf11 pf12 pf13 hlp;by_cases hge:yG<=xG
  · have gg:decide ((yG:Int)<=(xG:Int))=true:=decide_eq_true (by omega)
    cases xo<;>cases yo;all_goals
     go_wp2_with fail
     go_ret
     first | exact HF.out _ 0 (by simp[agJ,hge]) HBW.out | exact HF.out _ 1 (by simp[agJ,hge]) HBW.out | exact HF.out _ (-1) (by simp[agJ,hge]) HBW.out
  · have gg:decide ((yG:Int)<=(xG:Int))=false:=decide_eq_false (by omega)
    cases xo<;>cases yo;all_goals
     go_wp2_with fail
     go_ret
     first | exact HF.out _ 0 (by simp[agJ,hge]) HBW.out | exact HF.out _ 1 (by simp[agJ,hge]) HBW.out | exact HF.out _ (-1) (by simp[agJ,hge]) HBW.out
theorem aom (w:World) (x y:Sk) (A1:Option Addr) (c1:Nat) (A2:Option Addr) (c2:Nat) (B1:Option Addr) (k1:Nat) (B2:Option Addr) (k2:Nat):
 Calls Tryz.prog 82 #[asJ x y A1 c1 A2 c2 B1 k1 B2 k2] w fun e w'=>e= .returned (.int .i64 ((if agJ x y=0 then 1 else 0:Nat):Int))/\Below w.heap.size w w':=by
 have HNEW:=hE0 (fun W=>ahh W x y A1 c1 A2 c2 B1 k1 B2 k2);have hcs:=ahW x y;obtain⟨v,hv⟩:=nmE (agJ x y);rw[hv]at HNEW hcs;rw[hv];obtain⟨o,ho⟩:∃o:Nat,(if v=0 then 1 else 0)=o:=⟨_,rfl⟩;rw[ho];unfold asJ at HNEW ⊢;have HO:=hE0 ho;clear hv ho;obtain⟨xG,xN,xS,xo,xn,xl,xd⟩:=x;obtain⟨yG,yN,yS,yo,yn,yl,yd⟩:=y;dsimp only at HNEW ⊢;obtain⟨w1,ha1⟩:=nmE (w.alloc (.cells #[.int .u64 (xG:Int), .int .u64 (xN:Int), .int .u32 (xS:Int), .bool xo, .int .i64 (xn:Int), .slice A1 xl.length c1, .slice A2 xd.length c2, .int .u64 (yG:Int), .int .u64 (yN:Int), .int .u32 (yS:Int), .bool yo, .int .i64 (yn:Int), .slice B1 yl.length k1, .slice B2 yd.length k2] 149));have n1:=anE ha1;have b1:=abE ha1;obtain⟨⟨pc0,pc1,pc2,pc3,pc4,pc5,pc6,pc7,pc8,pc9,pc10,pc11,pc12,pc13⟩,⟨pf0,pf1,pf2,pf3,pf4,pf5,pf6,pf7,pf8,pf9,pf10,pf11,pf12,pf13⟩,hlp⟩:=aci n1;have HA1:=hE0 ha1;have HB1:=hE0 b1;have HCS:=hE0 hcs;clear ha1 b1 hcs;go_enter Tryz.func82,Tryz.ntmps82
 go_wp2_with (first | (rw[HA1.out]) | fail)
 refine(HNEW.out w1).mono ?_;rintro e w2 ⟨rfl,hb2⟩;have HB2:=hE0 (HB1.out.trans (hb2.mono HB1.out.size));clear hb2 pc0 pc1 pc2 pc3 pc4 pc5 pc6 pc7 pc8 pc9 pc10 pc11 pc12 pc13 pf0 pf1 pf2 pf3 pf4 pf5 pf6 pf7 pf8 pf9 pf10 pf11 pf12 pf13 hlp;rcases HCS.out with e | e | e;all_goals
  have ho:=HO.out;rw[e]at ho;obtain rfl:=ho;rw[e];clear e;go_wp2
  go_ret
  exact⟨rfl,HB2.out⟩
def avr (G:Nat × Nat × List Rk × List (List UInt8)) (base:Nat) (cap:Int) (w:World) (e:Ending) (w':World):Prop:=
 Below w.heap.size w w'/\if G.1=0 then ∃out H q g A c,ama (G.2.1:Int) G.2.2.1 G.2.2.2=some out/\e= .returned (.tuple #[.pointer (some ⟨q,0,none⟩), .nilIface])/\PH w' q g base cap.toNat A c out H/\w.heap.size<=q/\w.heap.size<=g/\∀a,A=some a->w.heap.size<=a.block else e= .returned (.tuple #[.pointer none,ajt G.1])
theorem aqQ{n:Int}:∀{l:List Rk}{e:Int}{f:Bool},abh n e f l=true->32*(l.length:Int)+e<=n
 | [],e,f,h=>by
  have h:(e==n)=true:=h;have:=beq_iff_eq.1 h;simp;omega
 | x::r,e,f,h=>by
  rw[abh]at h;simp only[Bool.and_eq_true]at h;have h1:=(aab _).1 h.2.1;have:=aqQ h.2.2.2.2;rw[List.length_cons];omega
theorem amb:∀{l:List Rk}{d:List (List UInt8)},datOk l d=true->d.length<=l.length
 | [],d,h=>by
  have h:d.isEmpty=true:=h;rw[List.isEmpty_iff]at h;subst h;exact Nat.le_refl _
 | x::r,d,h=>by
  rw[datOk.eq_def]at h;dsimp only at h;split at h
  · cases d with
    | nil=>cases h
    | cons y d=>
     dsimp only at h;rw[Bool.and_eq_true]at h;have:=amb h.2;simp;omega
  · have:=amb h;simp;omega
theorem aqR{n:Int}{l:List Rk}{d:List (List UInt8)}(h:aew n l d=true):l.length<=1000/\d.length<=1000/\ -9223372036854775808<=n/\n<=9223372036854775807:=by
 unfold aew at h;simp only[Bool.and_eq_true]at h;have h1:=(aaV n).1 h.1;have h2:=aqQ h.2.1;have h3:=amb h.2.2;omega
theorem akQ (w:World) (n:Int) (A1 A2:Option Addr) (k1 k2:Nat) (l:List Rk) (d:List (List UInt8)) (hr:RkRd w w.heap.size A1 l) (hd:DtRd w w.heap.size A2 d) (base:Nat) (hb:base<18446744073709551616) (cap:Int) (hc: -9223372036854775808<=cap/\cap<=9223372036854775807) (hm:aew n l d=true):
 Calls Tryz.prog 94 #[.agg #[.int .i64 n, .slice A1 l.length k1, .slice A2 d.length k2], .int .u64 (base:Int), .int .i64 cap] w fun e w'=>Below w.heap.size w w'/\∃P er,e= .returned (.tuple #[P,er])/\
  if ¬(base%16=0/\base<=4611686018427387904/\1024<=cap/\cap<=16384) then P= .pointer none/\er=ajt 1 else if cap<n then P= .pointer none/\er=ajt 10 else ∃out H q g A c,ama n l d=some out/\P= .pointer (some ⟨q,0,none⟩)/\er= .nilIface/\PH w' q g base cap.toNat A c out H/\w.heap.size<=q/\w.heap.size<=g/\∀a,A=some a->w.heap.size<=a.block:=by
 obtain⟨l1,l2,hn⟩:=aqR hm;by_cases hno:base%16=0/\base<=4611686018427387904/\1024<=cap/\cap<=16384
 · by_cases hlg:cap<n
   · refine(aoi w n hn A1 A2 k1 k2 l d hr hd (by omega) (by omega) base hb cap hc hm hno.1 hno.2.1 hno.2.2.1 hno.2.2.2 hlg).mono ?_;rintro e w' ⟨rfl,h⟩;refine⟨h,_,_,rfl,?_⟩;rw[if_neg (fun k=>k hno),if_pos hlg];exact⟨rfl,rfl⟩
   · refine(aup w n hn A1 A2 k1 k2 l d hr hd (by omega) (by omega) base hb cap hc hm hno.1 hno.2.1 hno.2.2.1 hno.2.2.2 (by omega)).mono ?_;rintro e w' ⟨out,H,q,g,A,c,hl,rfl,hp,f1,f2,f3,h⟩;refine⟨h,_,_,rfl,?_⟩;rw[if_neg (fun k=>k hno),if_neg hlg];exact⟨out,H,q,g,A,c,hl,rfl,rfl,hp,f1,f2,f3⟩
 · refine(aqL w n hn A1 A2 k1 k2 l d hr hd (by omega) (by omega) base hb cap hc hm (by omega)).mono ?_;rintro e w' ⟨rfl,h⟩;refine⟨h,_,_,rfl,?_⟩;rw[if_pos hno];exact⟨rfl,rfl⟩
section
variable {N:Nat} {S:Nat->Prop} {w:World} {g:Nat} {s:Dst}
theorem aqS (h:DS N S w g s) (half:Nat) (hh:N/2=half) (h1:1<=half) (hN2:N<=128) (ho:s.off=false) (x y:Sk) (hx:ady s.bs s.wt half 0=x) (hy:ady s.bs s.wt half 1=y) (base:Nat) (hb:base<18446744073709551616) (cap:Int) (hc: -9223372036854775808<=cap/\cap<=9223372036854775807) (G:Nat × Nat × List Rk × List (List UInt8)) (hG:auX x y base cap=G):
 Calls Tryz.prog 30 #[.pointer (some ⟨g,0,none⟩), .int .u64 (base:Int), .int .i64 cap] w fun e w'=>avr G base cap w e w':=by
 have HL:=hE0 (akP h half hh h1 hN2 ho x y hx hy);have hxm:x.ok=true->aew (x.n:Int) x.l x.d=true:=by rw[<-hx];exact am4 _ _ _
 have hym:y.ok=true->aew (y.n:Int) y.l y.d=true:=by rw[<-hy];exact am4 _ _ _
 have HNEW:=hE0 (fun W A1 c1 A2 c2 B1 k1 B2 k2=>ahh W x y A1 c1 A2 c2 B1 k1 B2 k2);obtain⟨v,hv⟩:=nmE (agJ x y);rw[hv]at HNEW;have hok:=auu x y;have hcs:=ahW x y;unfold auX at hG;rw[hv]at hG hok hcs;unfold asJ at HNEW;have HG:=hE0 hG;have HOK:=hE0 hok;have HCS:=hE0 hcs;have HXM:=hE0 hxm;have HYM:=hE0 hym;clear h hx hy hxm hym hv hok hcs hG hh h1 ho;go_enter Tryz.func30,Tryz.ntmps30
 go_wp2_with fail
 refine HL.out.mono ?_;rintro e w1 ⟨A1,c1,A2,c2,B1,k1,B2,k2,rfl,hix,hiy,hb1⟩;unfold asJ;obtain⟨xG,xN,xS,xo,xn,xl,xd⟩:=x;obtain⟨yG,yN,yS,yo,yn,yl,yd⟩:=y;dsimp only at hix hiy HNEW HG HOK HXM HYM;dsimp only;obtain⟨w2,ha2⟩:=nmE (w1.alloc (.cells #[.int .u64 0, .int .u64 0, .int .u32 0, .bool false, .int .i64 0, .slice none 0 0, .slice none 0 0, .int .u64 0, .int .u64 0, .int .u32 0, .bool false, .int .i64 0, .slice none 0 0, .slice none 0 0] 149));have n2:=anE ha2;have b2:=abE ha2;have N2:=hE0 n2;have HA2:=hE0 ha2;obtain⟨⟨pc0,pc1,pc2,pc3,pc4,pc5,pc6,pc7,pc8,pc9,pc10,pc11,pc12,pc13⟩,⟨pf0,pf1,pf2,pf3,pf4,pf5,pf6,pf7,pf8,pf9,pf10,pf11,pf12,pf13⟩,hlp⟩:=aci n2;obtain⟨w3,hp3,n3,b3,_,_⟩:=am7 N2 (.int .u64 (xG:Int)) (.int .u64 (xN:Int)) (.int .u32 (xS:Int)) (.bool xo) (.int .i64 (xn:Int)) (.slice A1 xl.length c1) (.slice A2 xd.length c2);obtain⟨w4,hp4,n4,b4,_,_⟩:=am8 n3 (.int .u64 (yG:Int)) (.int .u64 (yN:Int)) (.int .u32 (yS:Int)) (.bool yo) (.int .i64 (yn:Int)) (.slice B1 yl.length k1) (.slice B2 yd.length k2);have b14:=b4.out _ _ (Nat.le_refl _) (b3.out _ _ (Nat.le_refl _) b2);have HB4:=hE0 (hb1.trans (b14.mono hb1.size));have HI4:Hid ((RkRd w4 w4.heap.size A1 xl/\DtRd w4 w4.heap.size A2 xd)/\RkRd w4 w4.heap.size B1 yl/\DtRd w4 w4.heap.size B2 yd):=⟨⟨(hix.1.below b14).more b14.size,(hix.2.below b14).more b14.size⟩,(hiy.1.below b14).more b14.size,(hiy.2.below b14).more b14.size⟩;obtain⟨⟨qc0,qc1,qc2,qc3,qc4,qc5,qc6,qc7,qc8,qc9,qc10,qc11,qc12,qc13⟩,⟨qf0,qf1,qf2,qf3,qf4,qf5,qf6,qf7,qf8,qf9,qf10,qf11,qf12,qf13⟩,hlq⟩:=aci n4.out;clear ha2 b2 hb1 n2 hix hiy b14 HL;go_wp2_with (first | (rw[HA2.out]) | (rw[hp3.out,hp4.out]) | fail)
 clear pc0 pc1 pc2 pc3 pc4 pc5 pc6 pc7 pc8 pc9 pc10 pc11 pc12 pc13 pf0 pf1 pf2 pf3 pf4 pf5 pf6 pf7 pf8 pf9 pf10 pf11 pf12 pf13 hlp;refine(HNEW.out w4 A1 c1 A2 c2 B1 k1 B2 k2).mono ?_;rintro e w5 ⟨rfl,hb5⟩;have HB5:=hE0 (HB4.out.trans (hb5.mono HB4.out.size));have HI5:Hid ((RkRd w5 w5.heap.size A1 xl/\DtRd w5 w5.heap.size A2 xd)/\RkRd w5 w5.heap.size B1 yl/\DtRd w5 w5.heap.size B2 yd):=⟨⟨(HI4.out.1.1.below hb5).more hb5.size,(HI4.out.1.2.below hb5).more hb5.size⟩,(HI4.out.2.1.below hb5).more hb5.size,(HI4.out.2.2.below hb5).more hb5.size⟩;obtain⟨⟨rc0,rc1,rc2,rc3,rc4,rc5,rc6,rc7,rc8,rc9,rc10,rc11,rc12,rc13⟩,⟨rf0,rf1,rf2,rf3,rf4,rf5,rf6,rf7,rf8,rf9,rf10,rf11,rf12,rf13⟩,hlr⟩:=aci ((hb5.block _ (aaa n4.out)).trans n4.out);clear hb5 qc0 qc1 qc2 qc3 qc4 qc5 qc6 qc7 qc8 qc9 qc10 qc11 qc12 qc13 qf0 qf1 qf2 qf3 qf4 qf5 qf6 qf7 qf8 qf9 qf10 qf11 qf12 qf13 hlq HNEW;rcases HCS.out with e | e | e
 · subst e;have hG:=HG.out;rw[if_pos (by decide)]at hG;subst hG;go_wp2_with fail
   go_ret2
   refine⟨HB5.out,?_⟩;rw[if_neg (by decide)];rfl
 · subst e;have hm:=HXM.out (HOK.out.1 rfl);have hG:=HG.out;rw[if_neg (by decide)]at hG;go_wp2_with fail
   refine(akQ w5 (xn:Int) A1 A2 c1 c2 xl xd HI5.out.1.1 HI5.out.1.2 base hb cap hc hm).mono ?_;rintro e w6 ⟨hb6,h6⟩;have HB6:=hE0 (HB5.out.trans (hb6.mono HB5.out.size));have HH:=hE0 h6;have HGG:=hE0 hG;clear hb6 h6 hG hm rc0 rc1 rc2 rc3 rc4 rc5 rc6 rc7 rc8 rc9 rc10 rc11 rc12 rc13 rf0 rf1 rf2 rf3 rf4 rf5 rf6 rf7 rf8 rf9 rf10 rf11 rf12 rf13 hlr;obtain⟨P,er,rfl,hif⟩:=HH.out;have HIF:=hE0 hif;clear hif HH;go_wp2_with fail
   go_ret2
   refine⟨HB6.out,?_⟩;have hG:=HGG.out;have hif:=HIF.out;by_cases hno:¬(base%16=0/\base<=4611686018427387904/\1024<=cap/\cap<=16384)
   · rw[if_pos hno]at hG hif;obtain⟨rfl,rfl⟩:=hif;subst hG;rw[if_neg (by decide)];rfl
   · rw[if_neg hno]at hG hif;rw[if_pos trivial]at hG;by_cases hlg:cap<(xn:Int)
     · rw[if_pos hlg]at hG hif;obtain⟨rfl,rfl⟩:=hif;subst hG;rw[if_neg (by decide)];rfl
     · rw[if_neg hlg]at hG hif;obtain⟨out,H,q,ga,A,c,hl,rfl,rfl,hp,f1,f2,f3⟩:=hif;subst hG;rw[if_pos rfl];have hsz:=HB5.out.size;exact⟨out,H,q,ga,A,c,hl,rfl,hp,by omega,by omega,fun a e=>by have:=f3 a e;omega⟩
 · subst e;have hm:=HYM.out (HOK.out.2 rfl);have hG:=HG.out;rw[if_neg (by decide)]at hG;go_wp2_with fail
   refine(akQ w5 (yn:Int) B1 B2 k1 k2 yl yd HI5.out.2.1 HI5.out.2.2 base hb cap hc hm).mono ?_;rintro e w6 ⟨hb6,h6⟩;have HB6:=hE0 (HB5.out.trans (hb6.mono HB5.out.size));have HH:=hE0 h6;have HGG:=hE0 hG;clear hb6 h6 hG hm rc0 rc1 rc2 rc3 rc4 rc5 rc6 rc7 rc8 rc9 rc10 rc11 rc12 rc13 rf0 rf1 rf2 rf3 rf4 rf5 rf6 rf7 rf8 rf9 rf10 rf11 rf12 rf13 hlr;obtain⟨P,er,rfl,hif⟩:=HH.out;have HIF:=hE0 hif;clear hif HH;go_wp2_with fail
   go_ret2
   refine⟨HB6.out,?_⟩;have hG:=HGG.out;have hif:=HIF.out;by_cases hno:¬(base%16=0/\base<=4611686018427387904/\1024<=cap/\cap<=16384)
   · rw[if_pos hno]at hG hif;obtain⟨rfl,rfl⟩:=hif;subst hG;rw[if_neg (by decide)];rfl
   · rw[if_neg hno]at hG hif;rw[if_neg (by decide)]at hG;by_cases hlg:cap<(yn:Int)
     · rw[if_pos hlg]at hG hif;obtain⟨rfl,rfl⟩:=hif;subst hG;rw[if_neg (by decide)];rfl
     · rw[if_neg hlg]at hG hif;obtain⟨out,H,q,ga,A,c,hl,rfl,rfl,hp,f1,f2,f3⟩:=hif;subst hG;rw[if_pos rfl];have hsz:=HB5.out.size;exact⟨out,H,q,ga,A,c,hl,rfl,hp,by omega,by omega,fun a e=>by have:=f3 a e;omega⟩
end
def acy (p:Nat) (b:List UInt8) (s:Dst):Nat × Dst:=andThen (aio s p b) dfl
def awf (p:Nat) (b rec:List UInt8) (s:Dst):Nat × Dst:=andThen (andThen (acy p (List.replicate 512 0) s) (acy (p+1) b)) (acy p rec)
theorem aon (p:Nat) (b rec:List UInt8) (hr:rec.length=512) (s:Dst):awf p b rec s=adL p b rec s:=by
 unfold awf adL acy;rw[am3 p _ List.length_replicate];by_cases h1:(dwr s p (List.replicate 512 0)).1=0
 · simp only[aaC h1];by_cases h2:(dfl (dwr s p (List.replicate 512 0)).2).1=0
   · simp only[aaC h2];by_cases h3:(aio (dfl (dwr s p (List.replicate 512 0)).2).2 (p+1) b).1=0
     · simp only[aaC h3];by_cases h4:(dfl (aio (dfl (dwr s p (List.replicate 512 0)).2).2 (p+1) b).2).1=0
       · simp only[aaC h4];rw[am3 p _ hr]
       · simp only[abq h4]
     · simp only[abq h3]
   · simp only[abq h2]
 · simp only[abq h1]
theorem akR (p:Nat) (b:List UInt8) (s:Dst):(acy p b s).2.wt.length<=s.wt.length+need b.length/\(acy p b s).2.left<=s.left:=by
 have h1:=aut s p b;unfold acy;by_cases h:(aio s p b).1=0
 · rw[aaC h];have h2:=avp (aio s p b).2;omega
 · rw[abq h];omega
theorem ahi (k:Nat):(ajt k= .nilIface/\k=0)\/(ajt k= .iface 130 (.int .i64 (k:Int))/\k≠0):=by
 unfold ajt;by_cases h:k=0
 · exact .inl ⟨if_pos h,h⟩
 · exact .inr ⟨if_neg h,h⟩
section
variable {N:Nat} {S:Nat->Prop} {w:World} {g:Nat} {s:Dst}
theorem StpD.via{w1 w2 w3 w4:World}{r:Dst}(ht:Tch S w1 w2) (hb:Below w2.heap.size w2 w3) (h1:DS N (ad2 (ad2 S w1 w2) w3 w4) w4 g r) (h2:Tch (ad2 S w1 w2) w3 w4):DS N (ad2 S w1 w4) w4 g r/\Tch S w1 w4:=by
 have hs:=ht.size;have hbs:=hb.size;have h4:=h2.size;refine⟨?_,(ht.trans (Tch.of_below (S:=S) hb) fun _ _ h=>h).trans h2 fun i hi hg=> ?_⟩
 · obtain⟨q,c,W,cw,ws,k,e1,e2,hl⟩:=h1;refine⟨q,c,W,cw,ws,k.more fun j hj=> ?_,e1,e2,fun j hj=> ?_⟩
   · rcases(k.foot hj).1 with(h | h) | h
     · exact .inl h
     · exact .inr ⟨h.1,by omega⟩
     · exact .inr ⟨by omega,h.2⟩
   · rcases hj with h | h
     · exact hl j (.inl (.inl h))
     · exact h.2
 · rcases hg with h | h
   · exact h
   · exact absurd hi (Nat.not_lt.2 h.1)
theorem afC (h:DS N S w g s) (hN2:N<=128) (hw:s.wt.length<=90000) (hl:s.left<=9223372036854775807) (p:Nat) (A:Option Addr) (cA:Nat) (b:List UInt8) (hr:Rd w w.heap.size A b.length b) (hbc:b.length<=cA) (hcm:cA<=9223372036854775807) (hA:0<b.length->∀a,A=some a->¬S a.block) (hp:p+need b.length<=N):
 Calls Tryz.prog 144 #[.pointer (some ⟨g,0,none⟩), .int .i64 (p:Int), .slice A b.length cA] w fun e w'=>StpD N S w g (acy p b s) e w':=by
 have HW:=hE0 (h.outs hN2 (by omega) hl p A cA b hr hbc hcm hA hp);obtain⟨r,hr1⟩:=nmE (aio s p b);obtain⟨bl,hbl⟩:=nmE b.length;rw[hr1]at HW;have HE:Hid (acy p b s=andThen r dfl):=(show _=_ by unfold acy;rw[hr1]);rw[hbl]at HW;rw[hbl];clear h hr hbc hcm hA hp hr1 hbl;go_enter Tryz.func144,Tryz.ntmps144
 go_wp2_with fail
 refine HW.out.mono ?_;rintro e w1 ⟨rfl,hR,hT⟩;have HR:=hE0 hR;have HT:=hE0 hT;clear hR hT HW;rcases ahi r.1 with⟨e,h0⟩ | ⟨e,h0⟩
 · rw[e];have HC:=hE0 (HR.out.flush hN2);have HE2:Hid (acy p b s=dfl r.2):=(show _=_ by rw[HE.out,aaC h0]);clear e h0;go_wp2_with fail
   refine DS.two HT.out HC.out HT.out.size ?_;rintro e w2 rfl hR hT;have HF:=hE0 (And.intro hR hT);clear hR hT HC;go_wp2
   go_ret
   rw[HE2.out];exact⟨rfl,HF.out.1,HF.out.2⟩
 · have HE2:Hid (acy p b s=r):=(show _=_ by rw[HE.out,abq h0]);have HV:=hE0 e;rw[e];clear e h0;go_wp2_with fail
   go_ret
   rw[HE2.out];exact⟨by rw[HV.out];rfl,HR.out,HT.out⟩
theorem asK (h:DS N S w g s) (hN2:N<=128) (hw:s.wt.length<=50000) (hl:s.left<=9223372036854775807) (p half:Nat) (hph:p+half<=N) (A:Option Addr) (cA:Nat) (b:List UInt8) (hr:Rd w w.heap.size A b.length b) (hbc:b.length<=cA) (hcm:cA<=9223372036854775807) (hA:∀a,A=some a->¬S a.block) (h1:1<=half) (hfit:b.length<=512*(half-1)) (G:Nat) (hG:G<4611686018427387904):
 Calls Tryz.prog 81 #[.pointer (some ⟨g,0,none⟩), .int .i64 (p:Int), .slice A b.length cA, .int .u64 ((G+1:Nat):Int)] w fun e w'=>StpD N S w g (adL p b (abQ (G+1) b.length (abZ 0 b)) s) e w':=by
 obtain⟨rec,hrec⟩:=nmE (abQ (G+1) b.length (abZ 0 b));have hrl:rec.length=512:=by rw[<-hrec];exact ad0 _ _ _
 rw[hrec,<-aon p b rec hrl];unfold awf;obtain⟨z,hz⟩:=nmE (List.replicate 512 (0:UInt8));have hzl:z.length=512:=by rw[<-hz];simp
 have hmk:(Instr.makeSlice 37 (.int .i64 512) (.int .i64 512)).run Tryz.prog w= .ok (.slice (some ⟨w.heap.size,0,none⟩) 512 512) (w.alloc (.cells (acb z) 5)):=by
  have:=run_make_row' (P:=Tryz.prog) 37 5 (.int .u8 0) 1 Tryz.underlying37 afo rfl .i64 .i64 512 (by omega) (by omega) w;rw[acK,hz]at this;exact this
 obtain⟨v1,hv1⟩:=nmE (w.alloc (.cells (acb z) 5));have hfz:Fill v1 w.heap.size 5 z:=by rw[<-hv1];exact Fill.made w 5 _
 have hbv:=abE hv1;have hsl:∀j,S j->j<w.heap.size:=by obtain⟨_,_,_,_,_,_,_,_,hs⟩:=h;exact hs
 have hc1:=afC (h.below hbv) hN2 (by omega) hl p (some ⟨w.heap.size,0,none⟩) 512 z hfz.reads (by rw[hzl];omega) (by omega) (fun _ a e hs=>by injection e with e;have:=hsl _ hs;rw[<-e]at this;exact Nat.lt_irrefl _ this) (by rw[hzl];unfold need;omega);rw[hz];obtain⟨r1,hr1⟩:∃r,acy p z s=r:=⟨_,rfl⟩;have hok1:r1.2.wt.length<=50001/\r1.2.left<=9223372036854775807:=by
  have:=akR p z s;rw[hr1,hzl]at this;have e:need 512=1:=rfl;omega
 rw[hr1]at hc1;rw[hr1];rw[hzl]at hc1;obtain⟨o,ho⟩:=nmE (andThen (andThen r1 (acy (p+1) b)) (acy p rec));rw[ho];have HO:=hE0 ho;clear ho;have HC1:=hE0 hc1;have HBV:=hE0 hbv;have HV1:=hE0 hv1;have HRD:=hE0 ((hr.below hbv).more hbv.size);have HAS:Hid (∀a,A=some a->¬S a.block):=hA;have HAB:Hid (0<b.length->∀a,A=some a->a.block<w.heap.size):=(show _->∀a,_->_ from fun hn a e=>by obtain⟨k,o,e',hk,_⟩:=hr.2 hn;rw[e]at e';injection e' with e';rw[e'];exact hk);have HSL:Hid (∀j,S j->j<w.heap.size):=hsl;obtain⟨bl,hbl⟩:=nmE b.length;have HSUM:=hE0 (fun W (h:Rd W W.heap.size A bl b)=>agq A bl cA W.heap.size b W h (by omega));obtain⟨sm,hsm⟩:=nmE (abZ 0 b);have hsml:sm<4294967296:=by rw[<-hsm];exact aeh _ _
 rw[hsm]at HSUM;have HPUT:=hE0 (fun W=>amz W (G+1) bl sm hsml (by unfold akW;simp only[Bool.and_eq_true,decide_eq_true_eq];omega));rw[hbl,hsm]at hrec;rw[hrec]at HPUT;have HBL:=hE0 hbl;have hpi:(p:Int)+1=((p+1:Nat):Int):=rfl;have HPI:=hE0 hpi;have hneed:p+1+need bl<=N:=by unfold need;omega
 have hn2:need bl<=200:=by unfold need;omega
 have HRL:=hE0 hrl;have hbl6:bl<=65536:=by omega
 rw[hbl]at hbc HRD HAB;rw[hbl];clear h hfz hbv hv1 hc1 hr hA hsl hz hzl hr1 hbl hsm hrec hpi hrl hfit;go_enter Tryz.func81,Tryz.ntmps81
 go_wp2_with (first | (rw[HV1.out]) | fail)
 clear hmk;refine HC1.out.mono ?_;rintro e v2 ⟨rfl,hR,hT⟩;have HR:=hE0 hR;have HT:=hE0 hT;clear hR hT HC1;rcases ahi r1.1 with⟨e,h0⟩ | ⟨e,h0⟩
 · rw[e];have ho:=HO.out;rw[aaC h0]at ho;have hc:=afC HR.out hN2 (by omega) hok1.2 (p+1) A cA b (by rw[HBL.out];exact HRD.out.tch HT.out HAS.out) (by rw[HBL.out];exact hbc) hcm (fun hn a e hs=>by
    rcases hs with hs | hs
    · exact HAS.out a e hs
    · have h1:=HBV.out.size;have h2:=HAB.out (by rw[<-HBL.out];exact hn) a e;omega) (by rw[HBL.out];exact hneed)
   rw[HBL.out]at hc;obtain⟨r2,hr2⟩:∃r,acy (p+1) b r1.2=r:=⟨_,rfl⟩;have hok2:r2.2.wt.length<=60000/\r2.2.left<=9223372036854775807:=by
    have:=akR (p+1) b r1.2;rw[hr2,HBL.out]at this;omega
   rw[hr2]at hc ho;have HO2:=hE0 ho;have HC:=hE0 hc;clear hc hr2 e h0 ho HO;go_wp2_with fail
   rw[HPI.out];refine DS.two HT.out HC.out HT.out.size ?_;rintro e v3 rfl hR hT;have HR3:=hE0 hR;have HT3:=hE0 hT;clear hR hT HC HR HT;rcases ahi r2.1 with⟨e,h0⟩ | ⟨e,h0⟩
   · rw[e];have ho:=HO2.out;rw[aaC h0]at ho;clear e h0 HO2;have HS3:=hE0 (HSUM.out v3 (HRD.out.tch HT3.out HAS.out));go_wp2_with fail
     refine HS3.out.mono ?_;rintro e v4 ⟨rfl,rfl⟩;go_wp2_with fail
     refine(HPUT.out v3).mono ?_;rintro e v4 ⟨b4,rfl,hb4,hf4,hbl4⟩;have hd3:∀j,ad2 S v1 v3 j->j<v3.heap.size:=by obtain⟨_,_,_,_,_,_,_,_,hs⟩:=HR3.out;exact hs
     have hc:=afC (HR3.out.below hbl4) hN2 (by omega) hok2.2 p (some ⟨b4,0,none⟩) 512 rec hf4.reads (by rw[HRL.out];omega) (by omega) (fun _ a e hs=>by
      injection e with e;have:=hd3 _ hs;rw[<-e]at this;exact absurd this (Nat.not_lt.2 hb4)) (by rw[HRL.out];unfold need;omega)
     rw[HRL.out]at hc;obtain⟨r3,hr3⟩:∃r,acy p rec r2.2=r:=⟨_,rfl⟩;rw[hr3]at hc ho;subst ho;have HC:=hE0 hc;have HB4:=hE0 hbl4;clear hc hr3 hd3 hb4 hf4 hbl4;go_wp2_with fail
     refine HC.out.mono ?_;rintro e v5 ⟨rfl,hR,hT⟩;have HF:=hE0 (StpD.via HT3.out HB4.out hR hT);clear hR hT HC;go_wp2
     go_ret
     exact StpD.from HBV.out rfl HF.out.1 HF.out.2
   · have HV:=hE0 e;have ho:=HO2.out;rw[abq h0]at ho;subst ho;rw[e];clear e h0 HO2;go_wp2_with fail
     go_ret
     exact StpD.from HBV.out (by rw[HV.out];rfl) HR3.out HT3.out
 · have HV:=hE0 e;have ho:=HO.out;rw[abq h0,abq h0]at ho;subst ho;rw[e];clear e h0 HO;go_wp2_with fail
   go_ret
   exact StpD.from HBV.out (by rw[HV.out];rfl) HR.out HT.out
end
theorem awl (b:List UInt8) (half:Nat) (a:Nat->List UInt8):(amG b half a).G<=4611686018427387904:=by
 unfold amG;split
 · exact Nat.zero_le _
 · rename_i h;have h:acI b=true:=by cases e:acI b;exact absurd e h;rfl
   have:=(as0 h).1;split
   · exact this
   · unfold arU;split<;>exact this
section
variable {N:Nat} {S:Nat->Prop} {w:World} {g:Nat} {s:Dst} {q ga base cap c:Nat} {A:Option Addr} {bs:List UInt8} {H:Hp}
theorem DS.gz{s:Dst}(h:DS N S w g s):∀j,S j->j<w.heap.size:=by
 obtain⟨_,_,_,_,_,_,_,_,hs⟩:=h;exact hs
theorem aqT (h:DS N S w g s) (half:Nat) (hh:N/2=half) (h1:1<=half) (hN2:N<=128) (ho:s.off=false) (hwt:s.wt.length<=1000) (hleft:s.left<=9223372036854775807) (x y:Sk) (hx:ady s.bs s.wt half 0=x) (hy:ady s.bs s.wt half 1=y) (hp:PH w q ga base cap A c bs H) (o:Nat × Dst) (hO:asG x y half (aaZ bs.length (H.blks.map toR) (ofD bs H.blks)) s=o):
 Calls Tryz.prog 24 #[.pointer (some ⟨g,0,none⟩), .pointer (some ⟨q,0,none⟩)] w fun e w'=>StpD N S w g o e w':=by
 have HL:=hE0 (akP h half hh h1 hN2 ho x y hx hy);have hlen:=hp.len;have hm:=akJ hp.rd.rt.walk hlen hp.rd.rt.nfree.2.1;have hGx:x.G<=4611686018427387904:=by rw[<-hx];exact awl _ _ _
 have hGy:y.G<=4611686018427387904:=by rw[<-hy];exact awl _ _ _
 obtain⟨hl,hdl,_⟩:=aqR hm;have hfl:=(arH hm).1;have HAR:=hE0 (fun W (hW:Below w.heap.size w W)=>aod (hp.below hW));have HOF:=hE0 (fun W g' c' A' (ha:Ar W 195 g' base cap A' c' bs)=>auo W g' base cap c' A' bs H.blks ha hp.b62 hlen hp.rd.rt.chk hp.rd.rt.walk);have HPUT:=hE0 (fun W A1 A2 k1 k2 (hr:RkRd W W.heap.size A1 (H.blks.map toR)) (hd:DtRd W W.heap.size A2 (ofD bs H.blks))=>arG W bs.length (by omega) A1 A2 k1 k2 (H.blks.map toR) (ofD bs H.blks) hr hd hl hdl (by omega) hm);unfold imV at HPUT;rw[List.length_map]at HPUT;obtain⟨b,hb⟩:=nmE (aaZ bs.length (H.blks.map toR) (ofD bs H.blks));rw[hb]at HPUT hO;obtain⟨ll,hll⟩:=nmE H.blks.length;obtain⟨dl,hdl'⟩:∃dl,(ofD bs H.blks).length=dl:=⟨_,rfl⟩;obtain⟨nn,hnn⟩:=nmE bs.length;rw[hll,hdl',hnn]at HOF HPUT;have HOLD:=hE0 (fun W A1 c1 A2 c2 B1 k1 B2 k2=>aom W x y A1 c1 A2 c2 B1 k1 B2 k2);unfold asJ at HOLD;have HALF:=hE0 (fun W (hW:Below w.heap.size w W)=>ahg (h.below hW) hN2 half hh);obtain⟨M,hM⟩:=nmE (512*(half-1));have HROOM:=hE0 (fun W (hW:Below w.heap.size w W)=>akO (h.below hW) hN2 half M hh h1 hM);have HD:=hE0 h;obtain⟨m,hml⟩:=nmE b.length;rw[hml]at HPUT;have HM:=hE0 hml;obtain⟨tO,hto⟩:∃tO,(if agJ x y=0 then 1 else 0)=tO:=⟨_,rfl⟩;obtain⟨p,hpp⟩:=nmE (tO*half);have hto1:tO<=1:=by rw[<-hto];split<;>omega
 have hp2:p+half<=N:=by
  rw[<-hpp];rcases Nat.le_one_iff_eq_zero_or_eq_one.1 hto1 with e | e<;>rw[e]<;>omega
 have hpi:(tO:Int)*(half:Int)=(p:Int):=by rw[<-hpp];exact(Int.natCast_mul tO half).symm
 unfold asG at hO;rw[hM,hto,hpp,hml]at hO;rw[hto]at HOLD;obtain⟨xG,xN,xS,xo,xn,xl,xd⟩:=x;obtain⟨yG,yN,yS,yo,yn,yl,yd⟩:=y;dsimp only at HOLD hO hGx hGy;obtain⟨G,hG⟩:=nmE (max xG yG);rw[hG]at hO;have HO:=hE0 hO;have HG:=hE0 hG;have hGl:G<=4611686018427387904:=by omega
 have hMM:=hE0 hM;have hpq:p<=128:=by omega
 have hhl:half<=64:=by omega
 clear h hx hy hp hlen hm hl hdl hfl hb hll hdl' hnn hto hpp hto1 hO hG hml hM hGx hGy hh ho;go_enter Tryz.func24,Tryz.ntmps24
 go_wp2_with fail
 refine HL.out.mono ?_;rintro e w1 ⟨A1,c1,A2,c2,B1,k1,B2,k2,rfl,_,_,hb1⟩;unfold asJ;dsimp only;obtain⟨w2,ha2⟩:=nmE (w1.alloc (.cells #[.int .u64 0, .int .u64 0, .int .u32 0, .bool false, .int .i64 0, .slice none 0 0, .slice none 0 0, .int .u64 0, .int .u64 0, .int .u32 0, .bool false, .int .i64 0, .slice none 0 0, .slice none 0 0] 149));have n2:=anE ha2;have b2:=abE ha2;have N2:=hE0 n2;have HA2:=hE0 ha2;obtain⟨⟨pc0,pc1,pc2,pc3,pc4,pc5,pc6,pc7,pc8,pc9,pc10,pc11,pc12,pc13⟩,⟨pf0,pf1,pf2,pf3,pf4,pf5,pf6,pf7,pf8,pf9,pf10,pf11,pf12,pf13⟩,hlp⟩:=aci n2;obtain⟨w3,hp3,n3,b3,_,_⟩:=am7 N2 (.int .u64 (xG:Int)) (.int .u64 (xN:Int)) (.int .u32 (xS:Int)) (.bool xo) (.int .i64 (xn:Int)) (.slice A1 xl.length c1) (.slice A2 xd.length c2);obtain⟨w4,hp4,n4,b4,_,_⟩:=am8 n3 (.int .u64 (yG:Int)) (.int .u64 (yN:Int)) (.int .u32 (yS:Int)) (.bool yo) (.int .i64 (yn:Int)) (.slice B1 yl.length k1) (.slice B2 yd.length k2);have b14:=b4.out _ _ (Nat.le_refl _) (b3.out _ _ (Nat.le_refl _) b2);have HB4:=hE0 (hb1.trans (b14.mono hb1.size));clear ha2 b2 hb1 n2 b14 HL;go_wp2_with (first | (rw[HA2.out]) | (rw[hp3.out,hp4.out]) | fail)
 clear pc0 pc1 pc2 pc3 pc4 pc5 pc6 pc7 pc8 pc9 pc10 pc11 pc12 pc13 pf0 pf1 pf2 pf3 pf4 pf5 pf6 pf7 pf8 pf9 pf10 pf11 pf12 pf13 hlp;refine(HAR.out w4 HB4.out).mono ?_;rintro e w5 ⟨g5,A5,c5,rfl,ha5,hb5,_,_⟩;have HB5:=hE0 (HB4.out.trans (hb5.mono HB4.out.size));have n5:=hE0 ((hb5.block _ (aaa n4.out)).trans n4.out);have HF5:=hE0 (HOF.out w5 g5 c5 A5 ha5);clear ha5 hb5 HAR HOF;go_wp2_with fail
 refine HF5.out.mono ?_;rintro e w6 ⟨I1,I2,i1,i2,rfl,hr6,hd6,hb6⟩;obtain⟨w7,ha7,m7,b7⟩:=aj4 w6 107 (.int .i64 0) (.slice none 0 0) (.slice none 0 0);obtain⟨w8,hp8,m8,b8,⟨z0,z1,z2⟩,⟨e0,e1,e2⟩,hle⟩:=auH m7 (.int .i64 (nn:Int)) (.slice I1 ll i1) (.slice I2 dl i2);have hb68:=b8.out w6.heap.size w6 (Nat.le_refl _) b7.out;have hb58:=hb6.trans (hb68.mono hb6.size);have HB8:=hE0 (HB5.out.trans (hb58.mono HB5.out.size));have n8:=hE0 ((hb58.block _ (aaa n5.out)).trans n5.out);have HP8:=hE0 (HPUT.out w8 I1 I2 i1 i2 ((hr6.below hb68).more hb68.size) ((hd6.below hb68).more hb68.size));obtain⟨⟨t0,t1,t2⟩,_,hlt⟩:=ad1 m8.out;clear hr6 hd6 hb6 hb68 hb58 HF5 HPUT;go_wp2_with (first | (rw[ha7.out]) | (rw[hp8.out]) | fail)
 clear z0 z1 z2 e0 e1 e2 hle t0 t1 t2 hlt;refine HP8.out.mono ?_;rintro e w9 ⟨A9,c9,rfl,o9,b9⟩;have HB9:=hE0 (HB8.out.trans (b9.mono HB8.out.size));have n9:=hE0 ((b9.block _ (aaa n8.out)).trans n8.out);have hc9:=apy o9;unfold maxLen at hc9;have HR9:=hE0 (acP o9);have HA9:Hid (∀a,A9=some a->¬S a.block):=(show ∀a,_->_ from fun a e hs=>by
  have h1:=HD.out.gz _ hs;have h2:=aj1 o9 a.block (by rw[e];rfl);have h3:=HB8.out.size;omega)
 obtain⟨⟨qc0,qc1,qc2,qc3,qc4,qc5,qc6,qc7,qc8,qc9,qc10,qc11,qc12,qc13⟩,⟨qf0,qf1,qf2,qf3,qf4,qf5,qf6,qf7,qf8,qf9,qf10,qf11,qf12,qf13⟩,hlq⟩:=aci n9.out;clear o9 b9 HP8;have hmx:max (xG:Int) (yG:Int)=(G:Int):=by have:=HG.out;omega
 have ho:=HO.out;have HFIN:Hid (StpD N S w g (7,s) (.returned (ajt 7)) w9):=StpD.from HB9.out rfl ((HD.out.below HB9.out).grown (Tch.refl _ _)) (Tch.refl _ _);go_wp2_with fail
 refine(HROOM.out _ HB9.out).mono ?_;rintro e w10 ⟨rfl,rfl⟩;clear qc0 qc1 qc2 qc3 qc4 qc5 qc6 qc7 qc8 qc9 qc10 qc11 qc12 qc13 qf0 qf1 qf2 qf3 qf4 qf5 qf6 qf7 qf8 qf9 qf10 qf11 qf12 qf13 hlq;by_cases hfar:M<m\/4611686018427387904<=G
 · rw[if_pos hfar]at ho;subst ho;by_cases hf1:M<m
   · have g1:decide ((M:Int)<(m:Int))=true:=decide_eq_true (by omega);have g1':decide (M<m)=true:=decide_eq_true hf1;go_wp2_with fail
     go_ret
     exact HFIN.out
   · have g1:decide ((M:Int)<(m:Int))=false:=decide_eq_false (by omega);have g1':decide (M<m)=false:=decide_eq_false hf1;obtain rfl:G=4611686018427387904:=by omega
     go_wp2_with fail
     go_ret
     exact HFIN.out
 · rw[if_neg hfar]at ho;have g1:decide ((M:Int)<(m:Int))=false:=decide_eq_false (by omega);have g1':decide (M<m)=false:=decide_eq_false (by omega);have g2:((G:Int)==4611686018427387904)=false:=by rw[beq_eq_false_iff_ne];omega
   have hGl':G<4611686018427387904:=by omega
   have hmM:m<=M:=by omega
   have HO2:=hE0 ho;clear ho hfar HFIN HO;obtain⟨⟨qc0,qc1,qc2,qc3,qc4,qc5,qc6,qc7,qc8,qc9,qc10,qc11,qc12,qc13⟩,⟨qf0,qf1,qf2,qf3,qf4,qf5,qf6,qf7,qf8,qf9,qf10,qf11,qf12,qf13⟩,hlq⟩:=aci n9.out;go_wp2_with fail
   clear qc0 qc1 qc2 qc3 qc4 qc5 qc6 qc7 qc8 qc9 qc10 qc11 qc12 qc13 qf0 qf1 qf2 qf3 qf4 qf5 qf6 qf7 qf8 qf9 qf10 qf11 qf12 qf13 hlq;refine(HOLD.out _ A1 c1 A2 c2 B1 k1 B2 k2).mono ?_;rintro e w10 ⟨rfl,hb10⟩;have HB10:=hE0 (HB9.out.trans (hb10.mono HB9.out.size));have HR10:=hE0 ((HR9.out.below hb10).more hb10.size);clear hb10;go_wp2_with fail
   refine(HALF.out _ HB10.out).mono ?_;rintro e w11 ⟨rfl,rfl⟩;have hG1:((G:Int)+1)=((G+1:Nat):Int):=rfl;have HG1:=hE0 hG1;clear hG1;have HLAY:=hE0 (asK (HD.out.below HB10.out) hN2 (by omega) hleft p half hp2 A9 c9 b (by rw[HM.out];exact HR10.out) (by rw[HM.out];exact hc9.1) (by omega) HA9.out h1 (by rw[HM.out,hMM.out];exact hmM) G hGl');rw[HM.out,HO2.out]at HLAY;go_wp2_with fail
   rw[HG1.out];refine HLAY.out.mono ?_;rintro e w12 ⟨rfl,hR,hT⟩;have HF:=hE0 (StpD.from HB10.out rfl hR hT);clear hR hT HLAY;go_wp2
   go_ret
   exact HF.out
end
theorem ajq (p:Nat) (d:List UInt8) (hd:d.length=512):agC p d 1= [(p,d)]:=by
 have hp:agB d 0=d:=by
  unfold agB;rw[hd,Nat.zero_mul,List.drop_zero,List.take_of_length_le (by omega)];simp
 simp[agC,hp,List.range_succ]
theorem akS (n p:Nat) (b:List UInt8) (j:Nat) (h:(p+j)*512<=n):aps n (agC p b j):=by
 intro x hx;unfold agC at hx;obtain⟨i,hi,rfl⟩:=List.mem_map.1 hx;have:=List.mem_range.1 hi;exact⟨by dsimp only;omega,aeI _ _⟩
section
variable {s:Dst}
theorem am9 (h:akY s) (p:Nat) (d:List UInt8):(dwr s p d).2.wt=s.wt++ [(p,d)]/\(dwr s p d).2.bs=s.bs:=by
 unfold dwr;rw[if_neg (by rintro(e | e);· rw[h.1]at e;cases e
                          · have:=h.2;omega)]
 exact⟨rfl,rfl⟩
theorem aqU (h:akY s):(dfl s).2.bs=aeH s.bs s.wt:=by
 unfold dfl;rw[if_neg (by rw[h.1];decide)]
theorem aqV (h:akY s) (p:Nat) (b:List UInt8):(aio s p b).2.wt=s.wt++agC p b (need b.length)/\(aio s p b).2.bs=s.bs:=by
 have e:wk (need b.length) s.left s.off=need b.length:=by unfold wk;rw[if_neg (by rw[h.1];decide),if_pos h.2]
 unfold aio;rw[e];exact⟨rfl,rfl⟩
theorem asL (h:akY s) (hw:s.wt= []) (p:Nat) (b rec:List UInt8):(adL p b rec s).2.bs=aeH (aeH (aeH s.bs [(p,List.replicate 512 0)]) (agC (p+1) b (need b.length))) [(p,rec)]:=by
 obtain⟨a1,h1⟩:=agi h p (List.replicate 512 0);obtain⟨a2,h2,e2⟩:=afh h1;obtain⟨a3,h3⟩:=akN h2 (p+1) b;obtain⟨a4,h4,e4⟩:=afh h3;obtain⟨a5,h5⟩:=agi h4 p rec;unfold adL;rw[aaC a1,aaC a2,aaC a3,aaC a4,aaC a5,aqU h5,(am9 h4 _ _).1,(am9 h4 _ _).2,e4,aqU h3,(aqV h2 _ _).1,(aqV h2 _ _).2,e2,aqU h1,(am9 h _ _).1,(am9 h _ _).2,hw];rfl
theorem aip (h:akY s) (hw:s.wt= []) (p:Nat) (b rec:List UInt8) (hrec:rec.length=512) (hp:(p+1+need b.length)*512<=s.bs.length) (i:Nat):
 abB (adL p b rec s).2.bs [] i=if i=p then rec else if p+1<=i/\i<p+1+need b.length then agB b (i-(p+1)) else abB s.bs [] i:=by
 have e1:∀d:List UInt8,d.length=512->aps s.bs.length [(p,d)]:=fun d hd=>by rw[<-ajq p d hd];exact akS _ _ _ _ (by omega)
 have hz:(List.replicate 512 (0:UInt8)).length=512:=List.length_replicate;have l1:=abY _ _ (e1 _ hz);have e2:aps s.bs.length (agC (p+1) b (need b.length)):=akS _ _ _ _ hp;have l2:=abY (agC (p+1) b (need b.length)) (aeH s.bs [(p,List.replicate 512 0)]) (by rw[l1];exact e2);rw[asL h hw,aeJ _ _ _ (by rw[l2,l1];exact e1 _ hrec),<-ajq p rec hrec,adc,aeJ _ _ _ (by rw[l1];exact e2),adc,aeJ _ _ _ (e1 _ hz),<-ajq p _ hz,adc];by_cases hi:i=p
 · subst hi;rw[if_pos (by omega),if_pos rfl];unfold agB;rw[hrec,Nat.sub_self,Nat.zero_mul,List.drop_zero,List.take_of_length_le (by omega)];simp
 · rw[if_neg (by omega),if_neg hi];split
   · rfl
   · rw[if_neg (by omega)]
theorem aoo (h:akY s) (hw:s.wt= []) (half k G:Nat) (n:Nat) (l:List Rk) (d:List (List UInt8)) (hm:aew (n:Int) l d=true) (b:List UInt8) (hb:aaZ n l d=b) (hfit:b.length<=512*(half-1)) (h1:1<=half) (hl:(k*half+half)*512<=s.bs.length) (hG:1<=G/\G<=4611686018427387904) (h64:half<=64):
 ady (adL (k*half) b (abQ G b.length (abZ 0 b)) s).2.bs [] half k=⟨G,b.length,abZ 0 b,true,n,l,d⟩:=by
 have hok:akW G b.length=true:=by unfold akW;simp only[Bool.and_eq_true,decide_eq_true_eq];omega
 obtain⟨p1,p2,p3,p4⟩:=apn hok (aeh 0 b);obtain⟨-,f1,f2,f3⟩:=aiS p1;obtain⟨p,hp⟩:=nmE (k*half);rw[hp]at hl ⊢;have hn:need b.length<=half-1:=by unfold need;omega
 have hlast:=aip h hw p b (abQ G b.length (abZ 0 b)) (ad0 _ _ _) (by omega);unfold ady amG;rw[hp,hlast p,if_pos rfl,if_neg (by rw[p1];decide),<-f1,<-f2,<-f3,p2,p3,p4,if_neg (by omega)];have hr:adw (adL p b (abQ G b.length (abZ 0 b)) s).2.bs [] (p+1) (need b.length)=ae7 b (need b.length):=by
  rw[<-anH s.bs (p+1) b (need b.length)];refine agF _ _ fun i hi=> ?_;rw[hlast,if_neg (by omega),if_pos (by omega),adc,if_pos (by omega)]
 dsimp only;rw[hr,alp b _ rfl];have hg:=(als hm).got;rw[hb]at hg;rw[hg];unfold arU;rw[if_pos ⟨rfl,rfl⟩]
theorem amc (h:akY s) (hw:s.wt= []) (half k j:Nat) (b rec:List UInt8) (hrec:rec.length=512) (hkj:j*half+half<=k*half\/k*half+half<=j*half) (h1:1<=half) (hfit:b.length<=512*(half-1)) (hl:(k*half+half)*512<=s.bs.length):
 ady (adL (k*half) b rec s).2.bs [] half j=ady s.bs [] half j:=by
 have hn:need b.length<=half-1:=by unfold need;omega
 have hlast:=aip h hw (k*half) b rec hrec (by omega);have e0:abB (adL (k*half) b rec s).2.bs [] (j*half)=abB s.bs [] (j*half):=by rw[hlast,if_neg (by omega),if_neg (by omega)]
 unfold ady;rw[e0];unfold amG;split
 · rfl
 split
 · rfl
 · rename_i hq;dsimp only;have hq':need (slN (abB s.bs [] (j*half)))<=half-1:=by unfold need;omega
   rw[agF (bs:=(adL (k*half) b rec s).2.bs) (bs':=s.bs) (l:= []) (l':= []) (j*half+1) (need (slN (abB s.bs [] (j*half)))) fun i hi=>(by rw[hlast,if_neg (by omega),if_neg (by omega)])]
end
theorem amd (n i:Nat) (hi:i*512+512<=n):abB (List.replicate n 0) [] i=List.replicate 512 0:=by
 show((List.replicate n (0:UInt8)).drop (i*512)).take 512=_;rw[List.drop_replicate,List.take_replicate];congr 1;omega
theorem ahj (n half k:Nat) (hk:k*half*512+512<=n):ady (List.replicate n 0) [] half k=arb:=by
 unfold ady amG;rw[amd _ _ hk,if_pos alj]
section
variable {N:Nat} {S:Nat->Prop} {w w':World} {g:Nat} {s:Dst}
theorem DS.made{h c:Nat}{bs:List UInt8}(k:Dk (ad2 (fun _=>False) w w') w' g h c none 0 bs [] (-1) false) (hl:bs.length=512*N):DS N (ad2 (fun _=>False) w w') w' g ⟨bs,[],-1,false⟩:=
 ⟨h,c,none,0,[],k,rfl,hl,fun j hj=>by rcases hj with h | h;exact h.elim;exact h.2⟩
end
theorem ame{n:Int}{l:List Rk}{d:List (List UInt8)}{out:List UInt8}(h:aew n l d=true) (ho:ama n l d=some out):∃N:Nat,n=(N:Int)/\184<=N/\N<=16384/\ace out=true/\abI out=some (l.map toB)/\out.length=N/\ofD out (l.map toB)=d/\l=(l.map toB).map toR:=by
 have hlo:ab0 n=true:=by unfold aew at h;rw[Bool.and_eq_true]at h;exact h.1
 have hlB:=(aaV n).1 hlo;obtain⟨N,rfl⟩:∃N:Nat,n=(N:Int):=⟨n.toNat,by omega⟩;have hrow:abh (N:Int) 184 false l=true:=by unfold aew at h;simp only[Bool.and_eq_true]at h;exact h.2.1
 obtain⟨out',_,_,hre,h1,h2,h3,h4⟩:=ain h;unfold ama at ho;rw[Int.toNat_natCast,hre]at ho;injection ho with ho;subst ho;exact⟨N,rfl,by omega,by omega,h1,h2,h3,h4,(agf (o:=184) hrow).2.1⟩
theorem awg (x:Bk):toB (toR x)=x:=by
 unfold toB toR;simp
theorem avs (l:List Bk):(l.map toR).map toB=l:=by
 rw[List.map_map];exact(List.map_congr_left fun x _=>awg x).trans (List.map_id l)
theorem aqW{out:List UInt8}{H:Hp}(h:RtD out H){s:Nat}(hb:H.blks= [⟨184,s,true⟩]) (hc:H.cap<=16384):out.length=184+s/\aew ((184+s:Nat):Int) (H.blks.map toR) (ofD out H.blks)=true/\(aaZ out.length (H.blks.map toR) (ofD out H.blks)).length<=48+s:=by
 have hl:=h.rt.lenE;have hle:=h.rt.bound hc;rw[hb]at hl;have hl:out.length=184+s:=by
  rw[<-hl];unfold lenB;simp[abd]
 have hm:=akJ h.rt.walk hle.1 h.rt.nfree.2.1;refine⟨hl,by rw[<-hl];exact hm,?_⟩;unfold aew at hm;simp only[Bool.and_eq_true]at hm;have hf:=af7 hm.2.1 hm.2.2;rw[ahQ,List.length_map,hb];rw[hb]at hf;simp only[List.length_cons,List.length_nil];omega
theorem avt{bs:List UInt8}{H:Hp}(h:RtD bs H){n s:Nat}(x:UInt8) (hs:acn n=some s) (hz:aaG (s:Int)=true) (hr:s+anU H.blks<=H.cap):(H.get n x).1.2=0:=by
 have hr':=h.rt.room (s:=s) hz;rw[decide_eq_true hr,Bool.or_true]at hr'
 cases hq:(H.take s).1 with
 | none=>rw[hq]at hr';cases hr'
 | some o=>unfold Hp.get;rw[hs];dsimp only;rw[hq]
theorem atg{H:Hp}{s:Nat}(hb:H.blks= [⟨184,s,true⟩]):H.handleB 192=some 0:=by
 unfold Hp.handleB aa3;rw[hb];rfl
theorem avu{out:List UInt8}{H:Hp}(h:RtD out H){s:Nat}(hb:H.blks= [⟨184,s,true⟩]):∃d,H.ds= [d]/\ofD out H.blks= [d.2]:=by
 have hl:=h.dl;unfold Hp.Dl at hl;rw[hb]at hl;obtain⟨d,hd⟩:=List.length_eq_one_iff.1 hl;refine⟨d,hd,?_⟩;rw[am1 h,hb,hd];rfl
theorem asM{H:Hp}{s:Nat}(hb:H.blks= [⟨184,s,true⟩]):(H.give 0).blks= [⟨184,s,false⟩]/\(H.give 0).cap=H.cap:=by
 obtain⟨cap,blks,ds,lists⟩:=H;dsimp only at hb;subst hb;exact⟨rfl,rfl⟩
def up19A:Hp:=((aez 1024).get 100 165).2
def up19B:Hp:=(up19A.writeP 192 0 [1,2,3]).2
theorem up19_1:((aez 1024).doC 1 0 100 0 0 [])=(⟨0,192,0,[],St5.none⟩,up19A):=by
 rw[aoe];exact Prod.ext (by kernel_rfl) rfl
theorem avv:(up19A.doC 7 192 0 0 0 [1,2,3])=(Rp.err 0,up19B):=by
 rw[aqC];exact Prod.ext (by kernel_rfl) rfl
theorem avw:up19B.blks= [⟨184,128,true⟩]/\up19B.cap=1024:=by
 constructor<;>kernel_rfl
theorem avx{out:List UInt8}(h:RtD out up19B):ofD out up19B.blks= [1::2::3::List.replicate 109 165]:=by
 rw[am1 h];kernel_rfl
theorem avy{out:List UInt8}{H:Hp}(h:RtD out H) (hb:H.blks= [⟨184,128,true⟩]) (hd:ofD out H.blks= [1::2::3::List.replicate 109 165]):H.doC 6 192 4 0 0 []=(⟨0,0,0,[1,2,3,165],St5.none⟩,H):=by
 obtain⟨d,e1,e2⟩:=avu h hb;rw[hd]at e2;have e3:1::2::3::List.replicate 109 165=d.2:=(List.cons.inj e2).1;rw[aof];unfold Hp.readP;rw[atg hb,e1];dsimp only;rw[show([d].getD 0 acc)=d from rfl,<-e3];rfl
section
variable {B:Nat} {w w':World} {q g base cap c:Nat} {A:Option Addr} {bs:List UInt8} {H:Hp}
theorem Hv.do4_ (h:Hv B w q g base cap A c bs H) (hB:B<=w.heap.size) (hE:ET w) (h0:0<B) (op:Nat) (hop:op<9) (p n m a bl k:Nat) (V:Option Addr) (b:List UInt8) (hp:p<18446744073709551616) (hn:n<18446744073709551616) (hm:m<18446744073709551616) (ha:a<18446744073709551616) (hbl:b.length=bl) (hr:Rd w w.heap.size V b.length b) (hb6:bl<=1000000) (r:Rp × Hp) (hd:H.doC (op:Int) p n m a b=r):
 Calls Tryz.prog 20 #[.pointer (some ⟨q,0,none⟩),abo (op:Int) p n m a V bl k] w fun e w'=>adj r.1 w e w'/\∃A' c' bs',Hv B w' q g base cap A' c' bs' r.2/\Tch (foot g A) w w'/\Below B w w'/\(A'=A\/∀a,A'=some a->w.heap.size<=a.block):=by
 have hc:r.2.cap=cap:=by rw[<-hd];exact(aus hop).trans h.ph.cp
 refine(aur h.ph hE (fun hf=>absurd (h.fB hf) (by omega)) op hop p n m a bl k V b hp hn hm ha hbl hr hb6).mono ?_;rintro e w' ⟨h1,h2⟩;rw[hd]at h1 h2;obtain⟨A',c',bs',hv,t,h3⟩:=h.turn hB h2 hc;exact⟨h1,A',c',bs',hv,t,h.low hB t,h3⟩
theorem Hv.do_ (h:Hv B w q g base cap A c bs H) (hB:B<=w.heap.size) (hE:ET w) (h0:0<B) (op:Nat) (hop:op<9) (p n m a bl k:Nat) (V:Option Addr) (b:List UInt8) (hp:p<18446744073709551616) (hn:n<18446744073709551616) (hm:m<18446744073709551616) (ha:a<18446744073709551616) (hbl:b.length=bl) (hr:Rd w w.heap.size V b.length b) (hb6:bl<=1000000) (r:Rp × Hp) (hd:H.doC (op:Int) p n m a b=r):
 Calls Tryz.prog 20 #[.pointer (some ⟨q,0,none⟩),abo (op:Int) p n m a V bl k] w fun e w'=>adj r.1 w e w'/\∃A' c' bs',Hv B w' q g base cap A' c' bs' r.2/\Tch (foot g A) w w'/\Below B w w':=
 (h.do4_ hB hE h0 op hop p n m a bl k V b hp hn hm ha hbl hr hb6 r hd).mono fun _ _ ⟨h1,A',c',bs',h2,h3,h4,_⟩=>⟨h1,A',c',bs',h2,h3,h4⟩
end
def Hp.Has (H:Hp) (p:Nat) (b:List UInt8):Prop:=∃j x d,H.At j x d/\x.used=true/\p=x.off+8/\b=d.2
section
variable {bs out:List UInt8} {H H':Hp} {p q i s:Nat} {b b':List UInt8}
theorem Hp.Ok.one (h:H.Ok):H.One:=fun a c x y ha hc e=>by
 have hpw:=List.pairwise_iff_getElem.1 (adX _ _ _ h.tl);have e1:H.blks[a]'(aau ha)=x:=by have:=List.getElem?_eq_getElem (aau ha);rw[ha]at this;exact(Option.some.inj this).symm
 have e2:H.blks[c]'(aau hc)=y:=by have:=List.getElem?_eq_getElem (aau hc);rw[hc]at this;exact(Option.some.inj this).symm
 rcases Nat.lt_trichotomy a c with h' | h' | h'
 · exact absurd (by rw[e1,e2];exact e) (hpw a c (aau ha) (aau hc) h')
 · exact h'
 · exact absurd (by rw[e1,e2];exact e.symm) (hpw c a (aau hc) (aau ha) h')
theorem auv (h:H.One){j k:Nat}{x y:Bk}{d d':Dt}(h1:H.At j x d) (h2:H.At k y d') (e:x.off=y.off):j=k/\x=y/\d=d':=by
 obtain rfl:=h j k x y h1.1 h2.1 e;exact⟨rfl,Option.some.inj (h1.1.symm.trans h2.1),Option.some.inj (h1.2.symm.trans h2.2)⟩
theorem Hp.Has.uniq (h:H.One) (h1:H.Has p b) (h2:H.Has p b'):b=b':=by
 obtain⟨j,x,d,a1,_,e1,rfl⟩:=h1;obtain⟨k,y,d',a2,_,e2,rfl⟩:=h2;rw[(auv h a1 a2 (by omega)).2.2]
theorem aqX (h:H.Dl){x:Bk}(hx:x∈H.blks):∃j d,H.At j x d:=by
 obtain⟨j,hj⟩:=List.mem_iff_getElem?.1 hx;have h:H.ds.length=H.blks.length:=h;have:j<H.ds.length:=by rw[h];exact aau hj
 exact⟨j,_,hj,List.getElem?_eq_getElem this⟩
theorem Hp.Has.sz (h:RtD bs H) (h1:H.Has p b):p%16=0/\192<=p/\p+b.length+8<=bs.length/\16<=b.length:=by
 obtain⟨j,x,d,a1,u,rfl,rfl⟩:=h1;have hm:=List.mem_of_getElem? a1.1;have h2:=h.rt.sz hm;have h3:=(h.ho j x d a1 u).1;have h4:=((aak _ _ _ (aaj h.rt.walk).2.1).2 x hm).2.2.2;omega
theorem Hp.Has.apart (h:RtD bs H) (h1:H.Has p b) (h2:H.Has q b') (hne:p≠q):p+b.length<=q\/q+b'.length<=p:=by
 obtain⟨j,x,d,a1,u1,rfl,rfl⟩:=h1;obtain⟨k,y,d',a2,u2,rfl,rfl⟩:=h2;have e1:=(h.ho j x d a1 u1).1;have e2:=(h.ho k y d' a2 u2).1;rcases h.rt.apart (List.mem_of_getElem? a1.1) (List.mem_of_getElem? a2.1) (by omega)with e | e<;>omega
theorem Hp.Has.handle (h:RtD bs H) (hc:H.cap<=16384) (h1:H.Has p b):∃i,H.handleB p=some i/\(H.ds.getD i acc).2=b:=by
 obtain⟨j,x,d,a1,u,rfl,rfl⟩:=h1;have hm:=List.mem_of_getElem? a1.1;have h2:=h.rt.sz hm;have h3:=h.rt.len;obtain⟨i,hi,hil,hb⟩:=amL (aaj h.rt.walk).2.1 hm;have hx:H.blks[i]?=some x:=by rw[<-hb];exact aat hil
 obtain rfl:=h.rt.one i j x x hx a1.1 rfl;refine⟨i,?_,by rw[List.getD_eq_getElem?_getD,a1.2];rfl⟩;unfold Hp.handleB aa3;rw[if_neg (by omega),show((x.off+8:Nat):Int)-8=(x.off:Int) by omega,hi];dsimp only;rw[hb,if_pos u]
theorem afi (hd:H.Dl) (hh:H.handleB p=some i):∃x d,H.At i x d/\x.used=true/\p=x.off+8/\H.ds.getD i acc=d/\aal H.blks i=x:=by
 obtain⟨h8,_,hu⟩:=adA hh;obtain⟨h1,h2,h3⟩:=acw hu;have hd:H.ds.length=H.blks.length:=hd;have hl:i<H.ds.length:=by rw[hd];exact h1
 exact⟨aal H.blks i,H.ds[i],⟨aat h1,List.getElem?_eq_getElem hl⟩,h3,by omega,by rw[List.getD_eq_getElem?_getD,List.getElem?_eq_getElem hl];rfl,rfl⟩
theorem aop (hd:H.Dl) (hh:H.handleB p=some i):H.Has p (H.ds.getD i acc).2:=by
 obtain⟨x,d,a,u,e,e2,_⟩:=afi hd hh;exact⟨i,x,d,a,u,e,by rw[e2]⟩
theorem aqY (h:RtD bs H) (hc:H.cap<=16384) (hh:H.handleB p=none):¬H.Has p b:=fun h1=>by
 obtain⟨i,hi,_⟩:=h1.handle h hc;rw[hh]at hi
 cases hi
theorem Hp.Has.both (h1:H.One) (hd:H'.Dl){P:Nat->List UInt8->Prop}(fwd:∀p b,H'.Has p b->P p b\/H.Has p b){x:Bk}{d:Dt}{j:Nat}(ha:H.At j x d) (hu:x.used=true) (hx:x∈H'.blks) (hP:∀b,¬P (x.off+8) b):H'.Has (x.off+8) d.2:=by
 obtain⟨k,d',a'⟩:=aqX hd hx;have e:H'.Has (x.off+8) d'.2:=⟨k,x,d',a',hu,rfl,rfl⟩;rcases fwd _ _ e with h | h
 · exact absurd h (hP _)
 · have:=Hp.Has.uniq h1 h ⟨j,x,d,ha,hu,rfl,rfl⟩;rw[<-this];exact e
theorem asN (h:RtD bs H) (hh:H.handleB q=some i):∀p b,(H.give i).Has p b ↔ H.Has p b/\p≠q:=by
 obtain⟨x,d,ax,ux,ex,_,ebk⟩:=afi h.dl hh;have hil:=aau ax.1;have fwd:∀p b,(H.give i).Has p b->H.Has p b/\p≠q:=fun p b hb=>by
  obtain⟨j,y,e,ay,uy,ey,rfl⟩:=hb;obtain⟨j',hne,a'⟩:=ai7 hil ay uy;exact⟨⟨j',y,e,a',uy,ey,rfl⟩,fun e'=>hne (auv h.rt.one a' ax (by omega)).1⟩
 refine fun p b=>⟨fwd p b,fun⟨hb,hne⟩=> ?_⟩;obtain⟨j,y,e,ay,uy,rfl,rfl⟩:=hb;refine Hp.Has.both (P:=fun _ _=>False) h.rt.one h.dl.give (fun p b hb=> .inr (fwd p b hb).1) ay uy (ai5 hil (List.mem_of_getElem? ay.1) uy fun e'=>hne ?_) (fun _=>id);rw[e',ebk];exact ex.symm
theorem auw (h:RtD bs H) (hc:H.cap<=16384) (n:Nat) (v:UInt8) (h':RtD out (H.get n v).2) (hc':(H.get n v).2.cap<=16384):
 ((H.get n v).1=(0,5)/\(H.get n v).2=H)\/∃p m,(H.get n v).1=(p,0)/\n<=m/\m<n+48/\p≠0/\(∀b,¬H.Has p b)/\(H.get n v).2.Has p (List.replicate m v)/\∀p' b',(H.get n v).2.Has p' b' ↔ (p'=p/\b'=List.replicate m v)\/H.Has p' b':=by
 unfold Hp.get at h' hc' ⊢
 cases hs:acn n with
 | none=>exact .inl ⟨rfl,rfl⟩
 | some s=>
  rw[hs]at h' hc';dsimp only at h' hc' ⊢;have hsz:=ac3 hs
  cases hq:(H.take s).1 with
  | none=>exact .inl ⟨rfl,rfl⟩
  | some o=>
   right;rw[hq]at h' hc';dsimp only at h' hc' ⊢;obtain⟨y,y1,y2,y3,y4,y5,y6⟩:=h.rt.what hsz hq;have hok:=(h.rt.ok hc h.dl).take hc hsz;have hone:=hok.one;have hdl:(H.take s).2.Dl:=h.dl.take;have hfr:=fun j hj=>by obtain⟨a,_,c⟩:=h.rt.found (s:=s) (i:=j) hsz hj;exact(⟨a,c⟩:j<H.blks.length/\(aal H.blks j).used=false)
   obtain⟨k,dk,ak⟩:=aqX hdl y1;obtain⟨i,hi,hil,hb⟩:=amL hok.tl y1;rw[y2]at hi;have hiy:(H.take s).2.blks[i]?=some y:=by rw[<-hb];exact aat hil
   obtain rfl:=hone i k y y hiy ak.1 rfl;rw[hi]at h' hc' ⊢;dsimp only at h' hc' ⊢;have hdl':(H.take s).2.ds.length=(H.take s).2.blks.length:=hdl;have ebl:(((H.take s).2.wipe i).fill i v).blks=(H.take s).2.blks:=rfl;have eds:(((H.take s).2.wipe i).fill i v).ds=((H.take s).2.ds.set i acc).set i (.slice none 0 0,List.replicate (y.size-16) v):=by
    show((H.take s).2.ds.set i acc).set i (.slice none 0 0,acT ((((H.take s).2.wipe i)).ds.getD i acc).2 ((aal (H.take s).2.blks i).size-16) v)=_;rw[akm,hb];unfold acT;simp
   have hss:=(aab _).1 hsz;have hn:n+16<=s/\s<=n+32:=by
    unfold acn at hs;split at hs
    · injection hs with hs;omega
    · cases hs
   have hnot:∀b,¬H.Has (o+8) b:=fun b hb=>by
    obtain⟨j,x,d,a,u,e,rfl⟩:=hb;have h1:=y6 x (List.mem_of_getElem? a.1) u;have h2:=h.rt.sz (List.mem_of_getElem? a.1);omega
   have hnew:(((H.take s).2.wipe i).fill i v).Has (o+8) (List.replicate (y.size-16) v):=
    ⟨i,y,(.slice none 0 0,List.replicate (y.size-16) v),⟨hiy,by rw[eds,List.getElem?_set_self (by rw[List.length_set,hdl'];exact hil)]⟩,y3,by rw[y2],rfl⟩
   have fwd:∀p' b',(((H.take s).2.wipe i).fill i v).Has p' b'->(p'=o+8/\b'=List.replicate (y.size-16) v)\/H.Has p' b':=fun p' b' hb'=>by
    obtain⟨j,x,d,a,u,rfl,rfl⟩:=hb';by_cases e:j=i
    · left;subst e;have e1:x=y:=Option.some.inj ((show(H.take s).2.blks[j]?=some x from a.1).symm.trans hiy);subst e1;exact⟨by rw[y2],Hp.Has.uniq h'.rt.one ⟨j,x,d,a,u,rfl,rfl⟩ (by rw[y2];exact hnew)⟩
    · right;have a2:=a.2;rw[eds,List.getElem?_set_ne (fun e'=>e e'.symm),List.getElem?_set_ne (fun e'=>e e'.symm)]at a2;rcases ai8 h.dl hfr ⟨a.1,a2⟩ u with e' | ⟨j',b'⟩
      · rw[hq]at e';injection e' with e';exact absurd (hone j i x y a.1 hiy (by omega)) e
      · exact⟨j',x,d,b',u,rfl,rfl⟩
   refine⟨o+8,y.size-16,rfl,by omega,by omega,by omega,hnot,hnew,fun p' b'=>⟨fwd p' b',fun hb'=> ?_⟩⟩;rcases hb' with⟨rfl,rfl⟩ | hb'
   · exact hnew
   · have hne:∀b,¬(p'=o+8/\b=List.replicate (y.size-16) v):=fun b e=>hnot b' (by rw[<-e.1];exact hb');obtain⟨j,x,d,a,u,rfl,rfl⟩:=hb';exact Hp.Has.both (P:=fun p b=>p=o+8/\b=List.replicate (y.size-16) v) h.rt.one h'.dl fwd a u (afc (by rw[h.rt.lenE];exact(aaj h.rt.walk).2.1) hsz hfr (List.mem_of_getElem? a.1) u) hne
theorem amf (h:RtD bs H) (hc:H.cap<=16384) (n:Nat) (hh:H.handleB q=some i) (h':RtD out (H.realloc q n).2):
 ((H.realloc q n).1=(0,5)/\(H.realloc q n).2=H)\/∃p m,(H.realloc q n).1=(p,0)/\n<=m/\p≠0/\(∀b,p≠q->¬H.Has p b)/\(H.realloc q n).2.Has p (acT (H.ds.getD i acc).2 m 165)/\∀p' b',(H.realloc q n).2.Has p' b' ↔ (p'=p/\b'=acT (H.ds.getD i acc).2 m 165)\/(H.Has p' b'/\p'≠q):=by
 obtain⟨xq,dq,aq,uq,eq,edq,ebq⟩:=afi h.dl hh;obtain⟨h8,_,hus⟩:=adA hh;unfold Hp.realloc at h' ⊢;rw[hh]at h' ⊢;dsimp only at h' ⊢
 cases hs:acn n with
 | none=>exact .inl ⟨rfl,rfl⟩
 | some s=>
  rw[hs]at h';dsimp only at h' ⊢;have hsz:=ac3 hs;obtain⟨o,ho⟩:∃o:Int,(q:Int)-8=o:=⟨_,rfl⟩;rw[ho]at h' hus ⊢;by_cases he:(H.resize o s).1.2=0
  · right;rw[if_pos he]at h' ⊢;dsimp only at h' ⊢;have hok:=h.rt.ok hc h.dl;have hok2:=hok.take hc hsz;have hT:=hok2.one;obtain⟨y,y1,y3,y2,y4⟩:=h.rt.rezHas hok hsz he;have hdl:(H.resize o s).2.Dl:=h.dl.resize;have hdl':(H.resize o s).2.ds.length=(H.resize o s).2.blks.length:=hdl;have hone:(H.resize o s).2.One:=by
     intro a c x z ha hc e
     cases hi:atB ((H.resize o s).1.1:Int) (H.resize o s).2.blks with
     | none=>rw[hi]at h';exact h'.rt.one a c x z ha hc e
     | some i=>rw[hi]at h';exact h'.rt.one a c x z ha hc e
    obtain⟨k,hk⟩:=aeD y1;rw[y2]at hk;obtain⟨y',e1,e2⟩:=abM hk;obtain⟨k2,dk,ak⟩:=aqX hdl y1;obtain rfl:k=k2:=hone _ _ _ _ e1 ak.1 (by omega);obtain rfl:y'=y:=Option.some.inj (e1.symm.trans ak.1);rw[hk]at h' ⊢;dsimp only at h' ⊢;have hfr:=fun j hj=>by obtain⟨a,_,c⟩:=h.rt.found (s:=s) (i:=j) hsz hj;exact(⟨a,c⟩:j<H.blks.length/\(aal H.blks j).used=false)
    have hmv:=h.rt.movesU hsz (o:=o) hT;have hplace:=ad9 he;have hap:(y'.off:Int)≠o->∀x∈H.blks,x.used=true->y'.off≠x.off:=fun hne x hx hu e=>by
     rcases hplace with e3 | e3
     · omega
     · obtain⟨z,z1,z2,z3,z4,z5,z6⟩:=h.rt.what hsz e3;have h1:=z6 x hx hu;have h2:=h.rt.sz hx;have ss:=(aab _).1 hsz;omega
    obtain⟨j0,x0,a0,u0,hx0⟩:=afd h.dl h.rt.one he hfr hT hmv ak y3;have ho0:(x0.off:Int)=o:=by
     rcases hx0 with⟨e,hne⟩ | ⟨e,_⟩
     · exfalso;subst e;exact hap hne x0 (List.mem_of_getElem? a0.1) u0 rfl
     · exact e
    have hd0:=(auv h.rt.one a0 aq (by omega)).2.2;subst hd0;have ebl:((H.resize o s).2.fill k 165).blks=(H.resize o s).2.blks:=rfl;have eds:((H.resize o s).2.fill k 165).ds=(H.resize o s).2.ds.set k (.slice none 0 0,acT dk.2 (y'.size-16) 165):=by
     show(H.resize o s).2.ds.set k (.slice none 0 0,acT ((H.resize o s).2.ds.getD k acc).2 ((aal (H.resize o s).2.blks k).size-16) 165)=_;rw[aaX ak.1,List.getD_eq_getElem?_getD,ak.2];rfl
    have hn:n+16<=s:=by
     unfold acn at hs;split at hs
     · injection hs with hs;omega
     · cases hs
    rw[edq];have hnew:((H.resize o s).2.fill k 165).Has ((H.resize o s).1.1+8) (acT dk.2 (y'.size-16) 165):=
     ⟨k,y',(.slice none 0 0,acT dk.2 (y'.size-16) 165),⟨ak.1,by rw[eds,List.getElem?_set_self (by rw[hdl'];exact aau ak.1)]⟩,y3,by rw[y2],rfl⟩
    have fwd:∀p' b',((H.resize o s).2.fill k 165).Has p' b'->(p'=(H.resize o s).1.1+8/\b'=acT dk.2 (y'.size-16) 165)\/(H.Has p' b'/\p'≠q):=fun p' b' hb'=>by
     obtain⟨j,x,d,a,u,rfl,rfl⟩:=hb';by_cases e:j=k
     · left;subst e;have e1:x=y':=Option.some.inj ((show(H.resize o s).2.blks[j]?=some x from a.1).symm.trans ak.1);subst e1;exact⟨by rw[y2],Hp.Has.uniq h'.rt.one ⟨j,x,d,a,u,rfl,rfl⟩ (by rw[y2];exact hnew)⟩
     · right;have a2:=a.2;rw[eds,List.getElem?_set_ne (fun e'=>e e'.symm)]at a2;obtain⟨j3,x3,a3,au3,hx3⟩:=afd h.dl h.rt.one he hfr hT hmv (⟨a.1,a2⟩:(H.resize o s).2.At j x d) u;rcases hx3 with⟨rfl,hne3⟩ | ⟨_,e3⟩
       · exact⟨⟨j3,x3,d,a3,u,rfl,rfl⟩,by omega⟩
       · exact absurd (hone j k x y' a.1 ak.1 (by omega)) e
    refine⟨(H.resize o s).1.1+8,y'.size-16,rfl,by omega,by omega,fun b hne hb=> ?_,hnew,fun p' b'=>⟨fwd p' b',fun hb'=> ?_⟩⟩
    · obtain⟨j,x,d,a,u,e,rfl⟩:=hb;exact hap (by omega) x (List.mem_of_getElem? a.1) u (by omega)
    · rcases hb' with⟨rfl,rfl⟩ | ⟨hb',hne⟩
      · exact hnew
      · obtain⟨j,x,d,a,u,rfl,rfl⟩:=hb';refine Hp.Has.both (P:=fun p b=>p=(H.resize o s).1.1+8/\b=acT dk.2 (y'.size-16) 165) h.rt.one h'.dl (fun p b hb=>(fwd p b hb).imp id (·.1)) a u (h.rt.rezMem hok hsz (List.mem_of_getElem? a.1) u (by omega)) (fun b e=> ?_);by_cases e4:(y'.off:Int)=o
        · omega
        · exact hap e4 x (List.mem_of_getElem? a.1) u (by omega)
  · left;obtain⟨r1,r2,r3⟩:=aeO H o s he;rw[if_neg he];refine⟨?_,r2⟩;have r4:(H.resize o s).1.2≠3:=fun e=>by
     unfold Hp.resize at e;rw[hus]at e;dsimp only at e;repeat' split at e
     all_goals (dsimp only at e;omega)
    have r5:(H.resize o s).1.2=5:=r3.resolve_left r4;rw[r5]
theorem asO (h:RtD bs H) (hh:H.handleB q=some i) (V:Value) (L:List UInt8):∀p b,(H.dset i (V,L)).Has p b ↔ (p=q/\b=L)\/(H.Has p b/\p≠q):=by
 obtain⟨x,d,ax,ux,ex,_,ebk⟩:=afi h.dl hh;have hd:H.ds.length=H.blks.length:=h.dl;have hl:i<H.ds.length:=by rw[hd];exact aau ax.1
 refine fun p b=>⟨fun hb=> ?_,fun hb=> ?_⟩
 · obtain⟨j,y,e,ay,uy,rfl,rfl⟩:=hb;obtain⟨a1,a2⟩:=ay;have a1:H.blks[j]?=some y:=a1;have a2:(H.ds.set i (V,L))[j]?=some e:=a2;by_cases hj:j=i
   · subst hj;rw[List.getElem?_set_self hl]at a2;injection a2 with a2;subst a2;obtain rfl:x=y:=Option.some.inj (ax.1.symm.trans a1);exact .inl ⟨ex.symm,rfl⟩
   · rw[List.getElem?_set_ne (fun e'=>hj e'.symm)]at a2;exact .inr ⟨⟨j,y,e,⟨a1,a2⟩,uy,rfl,rfl⟩,fun e'=>hj (h.rt.one _ _ _ _ a1 ax.1 (by omega))⟩
 · rcases hb with⟨rfl,rfl⟩ | ⟨⟨j,y,e,⟨a1,a2⟩,uy,rfl,rfl⟩,hne⟩
   · exact⟨i,x,(V,b),⟨ax.1,by show(H.ds.set i _)[i]?=_;rw[List.getElem?_set_self hl]⟩,ux,ex,rfl⟩
   · refine⟨j,y,e,⟨a1,?_⟩,uy,rfl,rfl⟩;show(H.ds.set i _)[j]?=_;rw[List.getElem?_set_ne (fun e'=>by subst e';obtain rfl:x=y:=Option.some.inj (ax.1.symm.trans a1);omega)];exact a2
end
structure Mp (H:Hp) (l:List (Nat × List UInt8)):Prop where
 nd:(l.map Prod.fst).Nodup
 all:∀p b,(p,b)∈l ↔ H.Has p b
section
variable {bs out:List UInt8} {H H':Hp} {p q i s:Nat} {b b':List UInt8} {l:List (Nat × List UInt8)}
theorem Mp.len (h:Mp H l) (hr:RtD bs H) (hc:H.cap<=16384):l.length<=512:=by
 have h1:=aem (r:=H.blks.map fun x=>x.off+8) h.nd fun a ha=>by
  obtain⟨⟨p,b⟩,he,rfl⟩:=List.mem_map.1 ha;obtain⟨j,x,d,a1,u,e,_⟩:=(h.all p b).1 he;exact List.mem_map.2 ⟨x,List.mem_of_getElem? a1.1,e.symm⟩
 rw[List.length_map,List.length_map]at h1;exact Nat.le_trans h1 (asb (aaj hr.rt.walk).2.1 (Nat.le_trans hr.rt.len hc))
theorem Mp.nil (h:H.blks= []):Mp H []:=⟨List.nodup_nil,fun p b=>⟨fun h=>by(cases h),fun⟨j,x,d,a,_⟩=>by have:=a.1;rw[h]at this;cases this⟩⟩
theorem afj{α:Type}{l:List α}{i:Nat}{x:α}(h:l[i]?=some x){y:α}:y∈l ↔ y=x\/y∈l.take i++l.drop (i+1):=by
 conv=>lhs;rw[aeZ h]
 simp only[List.mem_append,List.mem_cons];constructor
 · rintro(h | h | h)
   · exact .inr (.inl h)
   · exact .inl h
   · exact .inr (.inr h)
 · rintro(h | h | h)
   · exact .inr (.inl h)
   · exact .inl h
   · exact .inr (.inr h)
theorem Mp.cut (h:Mp H l){x:Nat × List UInt8}(hx:l[i]?=some x):((l.take i++l.drop (i+1)).map Prod.fst).Nodup/\(∀y∈l.take i++l.drop (i+1),y.1≠x.1)/\∀p b,(p,b)∈l.take i++l.drop (i+1) ↔ H.Has p b/\p≠x.1:=by
 have hn:=h.nd;have e:=aeZ hx;rw[e,List.map_append,List.map_cons]at hn;have h1:=List.nodup_append.1 hn;have h2:=List.nodup_cons.1 h1.2.1;have hne:∀y∈l.take i++l.drop (i+1),y.1≠x.1:=fun y hy e=>by
  rcases List.mem_append.1 hy with hy | hy
  · exact h1.2.2 y.1 (List.mem_map.2 ⟨y,hy,rfl⟩) x.1 (List.mem_cons_self ..) e
  · exact h2.1 (List.mem_map.2 ⟨y,hy,e⟩)
 refine⟨?_,hne,fun p b=>⟨fun hb=>⟨(h.all p b).1 ((afj hx).2 (.inr hb)),hne _ hb⟩,fun⟨hb,hn⟩=> ?_⟩⟩
 · rw[List.map_append];exact List.nodup_append.2 ⟨h1.1,h2.2,fun a ha c hc e=>h1.2.2 a ha c (List.mem_cons_of_mem _ hc) e⟩
 · rcases(afj hx).1 ((h.all p b).2 hb)with e | h
   · rw[<-e]at hn;exact absurd rfl hn
   · exact h
theorem Mp.snoc{l:List (Nat × List UInt8)}(hn:(l.map Prod.fst).Nodup) (x:Nat × List UInt8) (hne:∀y∈l,y.1≠x.1) (h:∀p b,H'.Has p b ↔ (p=x.1/\b=x.2)\/(p,b)∈l):Mp H' (l++ [x]):=by
 refine⟨?_,fun p b=> ?_⟩
 · rw[List.map_append,List.map_singleton];refine List.nodup_append.2 ⟨hn,by simp,fun a ha c hc e=> ?_⟩;obtain⟨y,hy,rfl⟩:=List.mem_map.1 ha;rw[List.mem_singleton]at hc;exact hne y hy (e.trans hc)
 · rw[h,List.mem_append,List.mem_singleton];constructor
   · rintro(h | h)
     · exact .inr h
     · exact .inl ⟨congrArg Prod.fst h,congrArg Prod.snd h⟩
   · rintro(⟨h1,h2⟩ | h)
     · exact .inr (Prod.ext h1 h2)
     · exact .inl h
end
structure Hq where
 p:Nat
 A:Option Addr
 c:Nat
 b:List UInt8
def Hq.two (x:Hq):Nat × List UInt8:=(x.p,x.b)
def iB (x:UInt8):Value:= .int .i64 (x.toNat:Int)
def abc:List Hq->List Value
 | []=> []
 | x::r=> .int .u64 (x.p:Int):: .slice x.A x.b.length x.c::abc r
theorem afR:∀l:List Hq,(abc l).length=l.length*2
 | []=>rfl
 | x::r=>by simp[abc,afR r];omega
theorem aef (a b:List Hq):abc (a++b)=abc a++abc b:=by
 induction a with
 | nil=>rfl
 | cons x r ih=>simp[abc,ih]
theorem akT:∀(l:List Hq) (i:Nat) (x:Hq),l[i]?=some x->(abc l)[i*2]?=some (.int .u64 (x.p:Int))/\(abc l)[i*2+1]?=some (.slice x.A x.b.length x.c)
 | [],_,_,h=>by simp at h
 | y::r,0,x,h=>by
  simp at h;subst h;exact⟨rfl,rfl⟩
 | y::r,i+1,x,h=>by
  have:=akT r i x (by simpa using h);have e:(i+1)*2=i*2+1+1:=by omega
  rw[e];exact⟨by simpa[abc]using this.1,by simpa[abc]using this.2⟩
theorem aeg:∀(l:List Hq),∀u∈abc l,u.oneCell'=true
 | [],u,h=>by cases h
 | x::r,u,h=>by
  rcases List.mem_cons.1 h with rfl | h
  · rfl
  · rcases List.mem_cons.1 h with rfl | h
    · rfl
    · exact aeg r u h
def QRd (w:World) (A:Option Addr) (b:List UInt8):Prop:=0<b.length->∃(g:Nat) (cur:Array Value),A=some ⟨g,0,none⟩/\w.heap[g]?=some (.cells cur 3 (0,0))/\∀(j:Nat) (u:UInt8),b[j]?=some u->cur[j]?=some (iB u)
structure Hs (B:Nat) (w:World) (A:Option Addr) (c:Nat) (l:List Hq):Prop where
 own:w.ownsRow B 114 2 (.slice A l.length c) l.length (abc l)
 row:∀x∈l,QRd w x.A x.b
section
variable {B:Nat} {w w':World} {A:Option Addr} {c:Nat} {l:List Hq} {b:List UInt8}
theorem QRd.keep (h:QRd w A b) (hk:∀(k:Nat) (cs:Array Value),w.heap[k]?=some (.cells cs 3 (0,0))->w'.heap[k]?=w.heap[k]?):QRd w' A b:=fun hn=>by
 obtain⟨g,cur,e,hg,hc⟩:=h hn;exact⟨g,cur,e,(hk g cur hg).trans hg,hc⟩
theorem QRd.below (h:QRd w A b) (hb:Below w.heap.size w w'):QRd w' A b:=h.keep fun k _ hk=>hb.block k (aae hk)
theorem QRd.at_ (h:QRd w A b){j:Nat}{u:UInt8}(hu:b[j]?=some u):∃g,A=some ⟨g,0,none⟩/\w.cell? ⟨g,j,none⟩=some (iB u):=by
 obtain⟨g,cur,e,hg,hc⟩:=h (by have:=aau hu;omega);exact⟨g,e,(cell_of_row w g j _ _ (0,0) hg).trans (hc j u hu)⟩
theorem Hs.keep (h:Hs B w A c l) (hk:∀(k:Nat) (cs:Array Value) (ty:TypeId),w.heap[k]?=some (.cells cs ty (0,0))->ty=114\/ty=3->w'.heap[k]?=w.heap[k]?):Hs B w' A c l:=by
 refine⟨?_,fun x hx=>(h.row x hx).keep fun k cs h1=>hk k cs _ h1 (.inr rfl)⟩;refine⟨h.own.1,?_⟩;rcases h.own.2 with h2 | ⟨g,cap,cur,hv,hg,hh,r⟩
 · exact .inl h2
 · exact .inr ⟨g,cap,cur,hv,hg,(hk g cur _ hh (.inl rfl)).trans hh,r⟩
theorem Hs.below (h:Hs B w A c l) (hb:Below w.heap.size w w'):Hs B w' A c l:=h.keep fun k _ _ hk _=>hb.block k (aae hk)
theorem Hs.nil (B:Nat) (w:World):Hs B w none 0 []:=⟨World.ownsRow_nil _ _ _ _,fun x hx=>by cases hx⟩
theorem Hs.at_ (h:Hs B w A c l){i:Nat}{x:Hq}(hx:l[i]?=some x):∃g,A=some ⟨g,0,none⟩/\B<=g/\g<w.heap.size/\l.length<=c/\w.cell? ⟨g,i*2,none⟩=some (.int .u64 (x.p:Int))/\w.cell? ⟨g,i*2+1,none⟩=some (.slice x.A x.b.length x.c):=by
 have hi:i<l.length:=aau hx;have hf:=afR l;rcases h.own.2 with⟨_,h0⟩ | ⟨g,cap,cur,hv,hg,hh,hnc,_⟩
 · omega
 · injection hv with e1 _ e3;subst e1 e3;obtain⟨f0,f1⟩:=akT l i x hx;refine⟨g,rfl,hg,aae hh,hnc,?_,?_⟩
   · rw[h.own.cellAt _ (by omega)];exact f0
   · rw[h.own.cellAt _ (by omega)];exact f1
theorem Hs.heapO{q g base cap ch:Nat}{Ah:Option Addr}{bs:List UInt8}{H:Hp}(h:Hs B w A c l) (hp:PH w q g base cap Ah ch bs H) (ht:Tch (foot g Ah) w w'):Hs B w' A c l:=by
 refine h.keep fun k cs ty hk hty=> ?_;have:=hp.locO ht hk (by rcases hty with rfl | rfl<;>decide) (by rcases hty with rfl | rfl<;>decide) (by rcases hty with rfl | rfl<;>decide);rw[this,hk]
theorem Hs.cap (h:Hs B w A c l):l.length<=c/\c<=maxLen/\(A=none->c=0):=by
 rcases h.own.2 with⟨h',h0⟩ | ⟨g,cap,cur,hv,hg,hh,hnc,hcm,_⟩
 · injection h' with e1 e2 e3;subst e3;exact⟨by omega,Nat.zero_le _,fun _=>rfl⟩
 · injection hv with e1 e2 e3;subst e1 e3;exact⟨hnc,hcm,fun e=>by cases e⟩
end
end Go.Proofs.YtncadccbepjekaaGreatDoor
