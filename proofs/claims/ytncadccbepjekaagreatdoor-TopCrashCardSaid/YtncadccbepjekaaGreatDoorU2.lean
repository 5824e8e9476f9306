/- Texts of mine, joined. -/
import Derived.KernelRfl
import Derived.WalkKit
import Derived.Below
import Derived.Laws.OwnMore
import Derived.Laws.BytesArg
import Derived.Deep.Draws
import Derived.Lib.Hide
import Derived.Laws.Rows
import Derived.Deep.OwnRows
import Derived.Maps.AppendAt
import Derived.Laws.AppendOwnNone
import Derived.Lib.AppendZerosOnto
import Derived.Laws.CopyOwn
import Derived.Test.YtncadccbepjekaaGreatDoorChecked
import Derived.IntWalk
import Derived.Outline
import Derived.WalkSpells
import Derived.Deep.QuietTactic
import Derived.BigQuiet
import Derived.Deep.RegionWith
import Derived.Deep.RegionHeld3
set_option maxHeartbeats 400000
namespace Go.Proofs.YtncadccbepjekaaGreatDoor
def ab2:List UInt8->Nat
 | []=>0
 | x::xs=>x.toNat+256*ab2 xs
def aaF:Nat->Nat->List UInt8
 | 0,_=> []
 | n+1,v=>UInt8.ofNat (v%256)::aaF n (v/256)
theorem aag (n v:Nat):(aaF n v).length=n:=by
 induction n generalizing v with
 | zero=>rfl
 | succ n ih=>simp[aaF,ih]
theorem agv (bs:List UInt8):ab2 bs<256^bs.length:=by
 induction bs with
 | nil=>simp[ab2]
 | cons x xs ih=>
  have:=x.toNat_lt;simp only[ab2,List.length_cons,Nat.pow_succ];omega
theorem ak3 (a b:List UInt8):ab2 (a++b)=ab2 a+256^a.length*ab2 b:=by
 induction a with
 | nil=>simp[ab2]
 | cons x xs ih=>
  simp only[List.cons_append,ab2,ih,List.length_cons,Nat.pow_succ,Nat.mul_add];have:256*(256^xs.length*ab2 b)=256^xs.length*256*ab2 b:=by
   rw[<-Nat.mul_assoc,Nat.mul_comm 256 (256^xs.length)]
  omega
theorem adU (v:Nat):(UInt8.ofNat (v%256)).toNat=v%256:=by
 simp[UInt8.toNat_ofNat']
theorem acl (n v:Nat):ab2 (aaF n v)=v%256^n:=by
 induction n generalizing v with
 | zero=>simp[aaF,ab2,Nat.mod_one]
 | succ n ih=>
  simp only[aaF,ab2,ih,adU];rw[Nat.pow_succ,Nat.mul_comm (256^n) 256,Nat.mod_mul]
theorem agw (bs:List UInt8):aaF bs.length (ab2 bs)=bs:=by
 induction bs with
 | nil=>rfl
 | cons x xs ih=>
  have hx:=x.toNat_lt;have h1:(x.toNat+256*ab2 xs)%256=x.toNat:=by omega
  have h2:(x.toNat+256*ab2 xs)/256=ab2 xs:=by omega
  simp only[List.length_cons,aaF,ab2,h1,h2,ih];simp
theorem aoJ (n v:Nat):aaF (n+1) v=aaF n v++ [UInt8.ofNat (v/256^n%256)]:=by
 induction n generalizing v with
 | zero=>simp[aaF]
 | succ n ih=>
  show UInt8.ofNat (v%256)::aaF (n+1) (v/256)=(UInt8.ofNat (v%256)::aaF n (v/256))++_;rw[ih,Nat.div_div_eq_div_mul,Nat.pow_succ,Nat.mul_comm 256 (256^n)];rfl
theorem aeA (bs:List UInt8) (k:Nat) (h:k<bs.length):ab2 (bs.take (k+1))=ab2 (bs.take k)+256^k*bs[k].toNat:=by
 rw[List.take_succ_eq_append_getElem h,ak3,List.length_take,Nat.min_eq_left (by omega)];simp[ab2]
theorem aq8 (a x k:Nat) (ha:a<256^k):a ||| (x*256^k)=a+256^k*x:=by
 have e:256^k=2^(8*k):=by rw[Nat.pow_mul]
 rw[e]at ha ⊢;rw[Nat.or_comm,Nat.mul_comm x,<-Nat.two_pow_add_eq_or_of_lt ha];omega
theorem ajD (k:Nat) (h:k<=8):256^k<=18446744073709551616:=
 (Nat.pow_le_pow_right (by omega) h:256^k<=256^8)
theorem adV (bs:List UInt8) (h:bs.length<=8):ab2 bs<18446744073709551616:=
 Nat.lt_of_lt_of_le (agv bs) (ajD _ h)
def aaB (n:Int):Bool:=decide (32<=n)&&(decide (n<=16384)&&n%16==0)
theorem aab (n:Int):aaB n=true ↔ 32<=n/\n<=16384/\n%16=0:=by simp[aaB]
def acf (s:Int) (u:Bool):Nat:=if aaB s=true then s.toNat+(if u=true then 1 else 0) else 0
def adT (w:Nat):Option (Nat × Bool):=if w<=20000/\aaB ((w-w%2:Nat):Int)=true then some (w-w%2,w%2==1) else none
def acU (n:Nat):Option Nat:=if n<=16368 then some (max 32 ((n+31)/16*16)) else none
def aaq (s:Int):Int:=if aaB s=false then-1 else if s<=256 then s/16-2 else if s<512 then 15 else if s<1024 then 16 else if s<2048 then 17 else if s<4096 then 18 else if s<8192 then 19 else if s<16384 then 20 else 21
theorem af6 (s:Int) (u:Bool):acf s u<=16385:=by
 unfold acf;split
 · rename_i h;rw[aab]at h;split<;>omega
 · omega
theorem ac8{w s:Nat}{u:Bool}(h:adT w=some (s,u)):aaB (s:Int)=true/\w=s+(if u=true then 1 else 0):=by
 unfold adT at h;split at h
 · rename_i hc;injection h with h;injection h with h1 h2;subst h1 h2;refine⟨hc.2,?_⟩;rcases Nat.mod_two_eq_zero_or_one w with h | h<;>simp[h];omega
 · cases h
theorem aoK{s:Nat}(hs:aaB (s:Int)=true) (u:Bool):adT (s+(if u=true then 1 else 0))=some (s,u):=by
 have h:=(aab _).1 hs;unfold adT
 cases u
 · have e2:(s+0)%2=0:=by omega
   simp only[Bool.false_eq_true,if_false,e2];rw[if_pos ⟨by omega,hs⟩];rfl
 · have e2:(s+1)%2=1:=by omega
   simp only[if_true,e2];rw[if_pos ⟨by omega,hs⟩];rfl
theorem afp{s:Int}(hs:aaB s=true) (u:Bool):adT (acf s u)=some (s.toNat,u):=by
 have h:=(aab _).1 hs;obtain⟨n,rfl⟩:∃n:Nat,s=(n:Int):=⟨s.toNat,by omega⟩;unfold acf;rw[if_pos hs];exact aoK hs u
theorem acy (s:Int): -1<=aaq s/\aaq s<=21:=by
 unfold aaq;by_cases h:aaB s=false
 · rw[if_pos h];omega
 · have h':=(aab s).1 (by simpa using h);rw[if_neg h];repeat' split
   all_goals omega
theorem ahO (s:Int):aaq s<0 ↔ aaB s=false:=by
 unfold aaq;by_cases h:aaB s=false
 · simp[h]
 · have h':=(aab s).1 (by simpa using h);rw[if_neg h];refine⟨fun hh=> ?_,fun hh=>absurd hh h⟩;exfalso;revert hh
   repeat' split
   all_goals omega
def aiC (r:Nat):Nat:=r/2^^^(if r%2=1 then 3988292384 else 0)
def ak4:Nat->Nat->Nat
 | 0,r=>r
 | k+1,r=>ak4 k (aiC r)
def aq9 (r x:Nat):Nat:=ak4 8 (r^^^x)
def ahB (r:Nat):List UInt8->Nat
 | []=>r
 | x::xs=>ahB (aq9 r x.toNat) xs
def abd (s:Nat) (bs:List UInt8):Nat:=4294967295-ahB (4294967295-s) bs
theorem ano (k r:Nat):ak4 (k+1) r=aiC (ak4 k r):=by
 induction k generalizing r with
 | zero=>rfl
 | succ k ih=>exact ih (aiC r)
theorem af7{a b:Nat}(ha:a<4294967296) (hb:b<4294967296):a^^^b<4294967296:=
 Nat.xor_lt_two_pow (n:=32) ha hb
theorem ara{r:Nat}(h:r<4294967296):aiC r<4294967296:=by
 unfold aiC;exact af7 (by omega) (by split<;>omega)
theorem amm (k:Nat){r:Nat}(h:r<4294967296):ak4 k r<4294967296:=by
 induction k generalizing r with
 | zero=>exact h
 | succ k ih=>exact ih (ara h)
theorem arb{r x:Nat}(h:r<4294967296) (hx:x<256):aq9 r x<4294967296:=
 amm 8 (af7 h (by omega))
theorem arc{r:Nat}(bs:List UInt8) (h:r<4294967296):ahB r bs<4294967296:=by
 induction bs generalizing r with
 | nil=>exact h
 | cons x xs ih=>exact ih (arb h x.toNat_lt)
theorem ajE (r:Nat) (a b:List UInt8):ahB r (a++b)=ahB (ahB r a) b:=by
 induction a generalizing r with
 | nil=>rfl
 | cons x xs ih=>exact ih _
theorem aei (s:Nat) (bs:List UInt8):abd s bs<4294967296:=by unfold abd;omega
open Go.RowKit
def Rd (w:World) (B:Nat) (A:Option Addr) (n:Nat) (bs:List UInt8):Prop:=
 bs.length=n/\(0<n->∃b off,A=some ⟨b,off,none⟩/\b<B/\∀j u,bs[j]?=some u->w.cell? ⟨b,off+j,none⟩=some (.int .u8 (u.toNat:Int)))
section
variable {w w':World} {B B' n:Nat} {A:Option Addr} {bs:List UInt8}
theorem Rd.nil_:Rd w B A 0 []:=⟨rfl,fun h=>absurd h (by omega)⟩
theorem Rd.keep (h:Rd w B A n bs) (hk:∀p:Addr,p.block<B->w'.cell? p=w.cell? p):Rd w' B A n bs:=
 ⟨h.1,fun hn=>by
  obtain⟨b,off,e,hb,hc⟩:=h.2 hn;exact⟨b,off,e,hb,fun j u hu=>(hk ⟨b,off+j,none⟩ hb).trans (hc j u hu)⟩⟩
theorem Rd.more (h:Rd w B A n bs) (hB:B<=B'):Rd w B' A n bs:=
 ⟨h.1,fun hn=>by
  obtain⟨b,off,e,hb,hc⟩:=h.2 hn;exact⟨b,off,e,by omega,hc⟩⟩
theorem Rd.below (h:Rd w B A n bs) (hb:Below B w w'):Rd w' B A n bs:=h.keep fun _ hp=>hb.cell hp
theorem Rd.drew (h:Rd w B A n bs):Rd w.drew B A n bs:=h
theorem Rd.at_{k:Nat}(h:Rd w B A n bs) (hk:k<n):
 ∃b off,A=some ⟨b,off,none⟩/\b<B/\∃hl:k<bs.length,w.cell? ⟨b,off+k,none⟩=some (.int .u8 ((bs[k]'hl).toNat:Int)):=by
 obtain⟨b,off,e,hb,hc⟩:=h.2 (by omega);have hl:k<bs.length:=by have:=h.1;omega
 exact⟨b,off,e,hb,hl,hc k _ (List.getElem?_eq_getElem hl)⟩
end
def bv (u:UInt8):Value:= .int .u8 (u.toNat:Int)
def acd (bs:List UInt8):Array Value:=(bs.map bv).toArray
theorem ard (bs:List UInt8) (i:Nat):(acd bs)[i]?=(bs[i]?).map bv:=by
 simp[acd]
theorem adW (bs:List UInt8):(acd bs).size=bs.length:=by simp[acd]
theorem arf (bs:List UInt8) (i:Nat) (u:UInt8):(acd bs).setIfInBounds i (bv u)=acd (bs.set i u):=by
 simp[acd,List.map_set]
theorem acE (n:Nat):madeCells #[Value.int .u8 0] n=acd (List.replicate n 0):=by
 apply Array.ext
 · simp[madeCells,acd]
 · intro i h1 h2;simp[madeCells,acd,bv,Nat.mod_one]
def Fill (w:World) (g:Nat) (t:TypeId) (bs:List UInt8):Prop:=w.heap[g]?=some (.cells (acd bs) t (0,0))
section
variable {w w':World} {g:Nat} {t:TypeId} {bs:List UInt8}
theorem Fill.lt (h:Fill w g t bs):g<w.heap.size:=by
 unfold Fill at h;rcases Nat.lt_or_ge g w.heap.size with h1 | h1
 · exact h1
 · rw[Array.getElem?_eq_none h1]at h;cases h
theorem Fill.cell (h:Fill w g t bs) (i:Nat):w.cell? ⟨g,i,none⟩=(bs[i]?).map bv:=by
 rw[cell_of_row w g i _ t (0,0) h,ard]
theorem Fill.thaw (h:Fill w g t bs) (i:Nat):w.frozen? ⟨g,i,none⟩=false:=by
 unfold Fill at h;simp[World.frozen?,h]
theorem Fill.made (w:World) (t:TypeId) (bs:List UInt8):Fill (w.alloc (.cells (acd bs) t)) w.heap.size t bs:=heap_alloc_new w _
theorem Fill.put (h:Fill w g t bs) (i:Nat) (u:UInt8):Fill (w.setCell ⟨g,i,none⟩ (bv u)) g t (bs.set i u):=by
 unfold Fill at h ⊢;simp only[World.setCell,Array.getElem?_modify,h];simp[arf]
theorem Fill.below{B:Nat}(h:Fill w g t bs) (hb:Below B w w') (hg:g<B):Fill w' g t bs:=(hb.block g hg).trans h
theorem Fill.reads (h:Fill w g t bs):Rd w w.heap.size (some ⟨g,0,none⟩) bs.length bs:=
 ⟨rfl,fun _=>⟨g,0,rfl,h.lt,fun j u hu=>by rw[Nat.zero_add,h.cell,hu];rfl⟩⟩
end
theorem adt{w:World}{B m:Nat}{ad:Addr}{cs:List UInt8}(h:Rd w B (some ad) m cs):∀j u,(cs.map bv)[j]?=some u->w.cell? (ad.add j)=some u:=by
 intro j u hu;rw[List.getElem?_map,Option.map_eq_some_iff]at hu;obtain⟨x,hx,rfl⟩:=hu;have hj:j<cs.length:=by
  rcases Nat.lt_or_ge j cs.length with h1 | h1
  · exact h1
  · rw[List.getElem?_eq_none h1]at hx;cases hx
 obtain⟨b,off,e,_,hc⟩:=h.2 (by have:=h.1;omega)
 cases e;have e:(⟨b,off,none⟩:Addr).add j=⟨b,off+j,none⟩:=by unfold Addr.add;split<;>simp_all
 rw[e];exact hc j x hx
theorem afO (bs:List UInt8):∀u∈bs.map bv,u.oneCell'=true:=by
 intro u hu;obtain⟨x,_,rfl⟩:=List.mem_map.1 hu;rfl
section
variable {P:Program} {w:World} {ops:Array Oper} {rest:List Oper} {o:Oper} {a:Act} {Q:Exit->Act->World->Prop}
theorem acm (hgd:o.guard=none) (s x:Operand) (t e:TypeId) (ho:o.op= .call {callee:= .builtin .append,args:= #[s,x],argTypes:= #[t,t]})
 (ht:P.underlying t=some (.slice e)) (hinfo:(P.info? e).map (fun i=>(i.zero,i.size,i.bytes))=some (some (.int .u8 0),1,1))
 (base:Nat) (v:Value) (n:Nat) (bs:List UInt8) (hs:a.eval s=v) (hown:w.ownsRow base e 1 v n (bs.map bv))
 (B:Nat) (A:Option Addr) (m c:Nat) (cs:List UInt8) (hx:a.eval x= .slice A m c) (hr:Rd w B A m cs) (hA:A=none->c=0)
 (hb:n+m<=140737488355328) (hbase:base<=w.heap.size)
 (h:∀v' w',w'.ownsRow base e 1 v' (n+m) ((bs++cs).map bv)->Below base w w'->w.grownBy w' v.ownBlock->wpList P ops Q rest (a.put o.dst v') w'):wpList P ops Q (o::rest) a w:=by
 obtain⟨i0,hi,hz0,hz1,hz2⟩:=info_parts hinfo;rcases A with _ | ad
 · obtain rfl:=hA rfl;have hm:m=0:=by
    rcases Nat.eq_zero_or_pos m with h0 | h0
    · exact h0
    · obtain⟨_,_,e1,_⟩:=hr.2 h0
      cases e1
   subst hm;obtain rfl:cs= []:=List.eq_nil_of_length_eq_zero hr.1;refine wpList_append_own_none hgd s x t ho base e i0 1 ht hi v n _ hs hown hx ?_;exact h v w (by simpa using hown) (Below.refl _ _) (World.grownBy.refl w _)
 · refine wpList_append_own w hgd s x t ho base e i0 (.int .u8 0) 1 1 ht hi hz0 hz1 hz2 rfl (by decide) v n _ hs hown ad m c (cs.map bv) hx (by simp[hr.1]) (adt hr) (afO cs) (by unfold maxLen;omega) (by omega) hbase ?_;intro v' w' h1 h2 _;exact h v' w' (by simpa using h1) ((Below.refl _ _).grown h2 hbase (fun k hk=>(hown.lt k hk).1)) h2
theorem acG{w':World}{base n:Nat}{e:TypeId}{v:Value}{xs:List Value}(h:w.ownsRow base e 1 v n xs) (hb:Below w.heap.size w w'):w'.ownsRow base e 1 v n xs:=by
 refine⟨h.1,?_⟩;rcases h.2 with h2 | ⟨g,cap,cur,hv,hg,hh,r⟩
 · exact .inl h2
 · refine .inr ⟨g,cap,cur,hv,hg,?_,r⟩;have:=(h.lt g (by rw[hv];rfl)).2;rw[hb.block g this];exact hh
theorem amn{base n:Nat}{e:TypeId}{v:Value}{bs:List UInt8}(h:w.ownsRow base e 1 v n (bs.map bv)) (hn:0<n):
 ∃g cap,v= .slice (some ⟨g,0,none⟩) n cap/\n<=cap/\Rd w w.heap.size (some ⟨g,0,none⟩) n bs:=by
 have hlen:bs.length=n:=by have:=h.1;simpa using this
 rcases h.2 with⟨_,h0⟩ | ⟨g,cap,cur,rfl,hg,hh,hnc,_,_,hcur⟩
 · omega
 · refine⟨g,cap,rfl,hnc,hlen,fun _=>⟨g,0,rfl,(h.lt g rfl).2,fun j u hu=> ?_⟩⟩;have hj:j<n:=by
    rcases Nat.lt_or_ge j n with h1 | h1
    · exact h1
    · rw[List.getElem?_eq_none (by omega)]at hu;cases hu
   rw[Nat.zero_add,h.cellAt j (by omega),List.getElem?_map,hu];rfl
theorem agx{base n:Nat}{e:TypeId}{v:Value}{bs:List UInt8}(h:w.ownsRow base e 1 v n (bs.map bv)):
 ∃A cap,v= .slice A n cap/\n<=cap/\Rd w w.heap.size A n bs:=by
 have hlen:bs.length=n:=by have:=h.1;simpa using this
 rcases Nat.eq_zero_or_pos n with h0 | h0
 · subst h0;obtain rfl:bs= []:=List.eq_nil_of_length_eq_zero hlen;rcases h.2 with⟨rfl,_⟩ | ⟨g,cap,cur,rfl,_⟩
   · exact⟨none,0,rfl,Nat.le_refl _,Rd.nil_⟩
   · exact⟨_,cap,rfl,Nat.zero_le _,Rd.nil_⟩
 · obtain⟨g,cap,hv,hc,hr⟩:=amn h h0;exact⟨_,cap,hv,hc,hr⟩
end
structure Tch (S:Nat->Prop) (w w':World):Prop where
 os:w'.os=w.os
 tape:w'.tape=w.tape
 output:w'.output=w.output
 size:w.heap.size<=w'.heap.size
 block:∀k,k<w.heap.size->¬S k->w'.heap[k]?=w.heap[k]?
section
variable {S S':Nat->Prop} {w w1 w2 w':World} {B:Nat}
theorem Tch.refl (S:Nat->Prop) (w:World):Tch S w w:=⟨rfl,rfl,rfl,Nat.le_refl _,fun _ _ _=>rfl⟩
theorem Tch.trans (h:Tch S w w1) (k:Tch S' w1 w2) (hS:∀i,i<w.heap.size->S' i->S i):Tch S w w2:=
 ⟨k.os.trans h.os,k.tape.trans h.tape,k.output.trans h.output,Nat.le_trans h.size k.size,fun i hi hn=>
  (k.block i (Nat.lt_of_lt_of_le hi h.size) (fun h'=>hn (hS i hi h'))).trans (h.block i hi hn)⟩
theorem Tch.of_below (h:Below w.heap.size w w'):Tch S w w':=⟨h.os,h.tape,h.output,h.size,fun k hk _=>h.block k hk⟩
theorem Tch.below (h:Tch S w w') (hS:∀k,S k->B<=k) (hB:B<=w.heap.size):Below B w w':=
 ⟨h.os,h.tape,h.output,h.size,fun k hk=>h.block k (by omega) (fun hs=>by have:=hS k hs;omega)⟩
theorem Tch.drew (h:Tch S w w'):Tch S w w'.drew:=⟨h.os,h.tape,h.output,h.size,h.block⟩
theorem Tch.of_drew (h:Tch S w.drew w'):Tch S w w':=⟨h.os,h.tape,h.output,h.size,h.block⟩
theorem Tch.set (w:World) (a:Addr) (u:Value) (hS:S a.block):Tch S w (w.setCell a u):=
 ⟨rfl,rfl,rfl,by simp[World.setCell],fun k _ hn=>Below.heap_setCell w a u k (fun e=>hn (e▸hS))⟩
theorem Tch.grown{row:Option Nat}(h:w.grownBy w' row) (hS:∀k,row=some k->S k):Tch S w w':=
 ⟨h.os,h.tape,h.output,h.size,fun k hk hn=>h.block k hk (fun e=>hn (hS k e.symm))⟩
end
def foot (g:Nat) (A:Option Addr) (k:Nat):Prop:=k=g\/∃a,A=some a/\k=a.block
structure Ar (w:World) (t:TypeId) (g base cap:Nat) (A:Option Addr) (c:Nat) (bs:List UInt8):Prop where
 obj:w.heap[g]?=some (.cells #[.int .u64 (base:Int), .int .i64 (cap:Int), .slice A bs.length c] t (0,0))
 own:w.ownsRow 0 5 1 (.slice A bs.length c) bs.length (bs.map bv)
section
variable {w w':World} {t:TypeId} {g base cap c:Nat} {A:Option Addr} {bs:List UInt8}
theorem aae{o:Obj}(h:w.heap[g]?=some o):g<w.heap.size:=by
 rcases Nat.lt_or_ge g w.heap.size with h1 | h1
 · exact h1
 · rw[Array.getElem?_eq_none h1]at h;cases h
theorem Ar.lt (h:Ar w t g base cap A c bs):g<w.heap.size:=aae h.obj
theorem Ar.c0 (h:Ar w t g base cap A c bs):w.cell? ⟨g,0,none⟩=some (.int .u64 (base:Int)):=by rw[cell_of_row w g 0 _ t (0,0) h.obj];rfl
theorem Ar.c1 (h:Ar w t g base cap A c bs):w.cell? ⟨g,1,none⟩=some (.int .i64 (cap:Int)):=by rw[cell_of_row w g 1 _ t (0,0) h.obj];rfl
theorem Ar.c2 (h:Ar w t g base cap A c bs):w.cell? ⟨g,2,none⟩=some (.slice A bs.length c):=by rw[cell_of_row w g 2 _ t (0,0) h.obj];rfl
theorem Ar.thaw (h:Ar w t g base cap A c bs) (i:Nat):w.frozen? ⟨g,i,none⟩=false:=frozen_of_row w g i _ t h.obj
theorem Ar.drew (h:Ar w t g base cap A c bs):Ar w.drew t g base cap A c bs:=⟨h.obj,h.own⟩
theorem Ar.drewN (h:Ar w t g base cap A c bs) (k:Nat):Ar (w.drewN k) t g base cap A c bs:=⟨h.obj,h.own⟩
theorem Ar.alt (h:Ar w t g base cap A c bs){a:Addr}(e:A=some a):a.block<w.heap.size:=by subst e;exact(h.own.lt a.block rfl).2
theorem Ar.row (h:Ar w t g base cap A c bs){a:Addr}(e:A=some a):∃h',a=⟨h',0,none⟩/\∃cur:Array Value,w.heap[h']?=some (.cells cur 5 (0,0))/\bs.length<=c/\c<=maxLen/\cur.size=c/\cur.toList.take bs.length=bs.map bv:=by
 subst e;rcases h.own.2 with⟨h',_⟩ | ⟨g',cap',cur,h',_,hg,h1,h2,h3,h4⟩
 · cases h'
 · injection h' with e1 e2 e3;injection e1 with e1;subst e1 e3;exact⟨g',rfl,cur,hg,h1,h2,by simpa using h3,by simpa using h4⟩
theorem Ar.none_ (h:Ar w t g base cap none c bs):bs= []/\c=0:=by
 rcases h.own.2 with⟨h',h0⟩ | ⟨g',cap',cur,h',_⟩
 · injection h' with _ _ e;exact⟨List.eq_nil_of_length_eq_zero h0,e⟩
 · injection h' with e;cases e
theorem Ar.le (h:Ar w t g base cap A c bs):bs.length<=c:=by
 rcases A with _ | a
 · obtain⟨rfl,rfl⟩:=h.none_;simp
 · obtain⟨_,_,_,_,h1,_⟩:=h.row rfl;exact h1
theorem Ar.reads (h:Ar w t g base cap A c bs):Rd w w.heap.size A bs.length bs:=by
 obtain⟨A',c',e,_,hr⟩:=agx h.own;injection e with e1;subst e1;exact hr
theorem Ar.keep (h:Ar w t g base cap A c bs) (hk:∀k,foot g A k->w'.heap[k]?=w.heap[k]?):Ar w' t g base cap A c bs:=by
 refine⟨(hk g (.inl rfl)).trans h.obj,h.own.1,?_⟩;rcases h.own.2 with h2 | ⟨g',cap',cur,hv,hg,hh,r⟩
 · exact .inl h2
 · refine .inr ⟨g',cap',cur,hv,hg,?_,r⟩;injection hv with e;exact(hk g' (.inr ⟨_,e,rfl⟩)).trans hh
theorem Ar.foot_lt (h:Ar w t g base cap A c bs){k:Nat}(hk:foot g A k):k<w.heap.size:=by
 rcases hk with rfl | ⟨a,e,rfl⟩
 · exact h.lt
 · exact h.alt e
theorem Ar.tch{S:Nat->Prop}(h:Ar w t g base cap A c bs) (ht:Tch S w w') (hd:∀k,foot g A k->¬S k):Ar w' t g base cap A c bs:=
 h.keep fun k hk=>ht.block k (h.foot_lt hk) (hd k hk)
theorem Ar.below (h:Ar w t g base cap A c bs) (hb:Below w.heap.size w w'):Ar w' t g base cap A c bs:=
 h.keep fun k hk=>hb.block k (h.foot_lt hk)
theorem Rd.tch{S:Nat->Prop}{n:Nat}(h:Rd w w.heap.size A n bs) (ht:Tch S w w') (hd:∀a,A=some a->¬S a.block):Rd w' w'.heap.size A n bs:=by
 refine⟨h.1,fun hn=> ?_⟩;obtain⟨b,off,e,hb,hc⟩:=h.2 hn;refine⟨b,off,e,Nat.lt_of_lt_of_le hb ht.size,fun j u hu=> ?_⟩;exact(World.cell?_of_block (w:=w) (a:=⟨b,off+j,none⟩) (ht.block b hb (hd _ e))).trans (hc j u hu)
end
theorem ak5 (w:World) (n:Nat) (hn:n<18446744073709551616):
 Calls Tryz.prog 49 #[.int .u64 (n:Int)] w fun e w'=>e= .returned (.int .u64 ((n%288230376151711744*16:Nat):Int))/\w=w':=by
 have k1:0<=(n:Int)%288230376151711744:=by omega
 have k2:(n:Int)%288230376151711744<=288230376151711743:=by omega
 go_enter Tryz.func49,Tryz.ntmps49
 go_wp2
 go_ret
 exact⟨by simp,rfl⟩
end Go.Proofs.YtncadccbepjekaaGreatDoor
