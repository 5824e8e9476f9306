/- Texts of mine, joined. -/
import Derived.Test.YtncadccbepjekaaGreatDoorU6
import Derived.Test.YtncadccbepjekaaGreatDoorU7
set_option maxRecDepth 100000
set_option maxHeartbeats 400000
namespace Go.Proofs.YtncadccbepjekaaGreatDoor
open Go.RowKit
section
variable {w w1 w2:World} {t:TypeId} {g base cap c B:Nat} {A:Option Addr} {bs:List UInt8}
theorem Became.after (h:Became t g base cap A bs w1 w2) (hb:Below w.heap.size w w1):Became t g base cap A bs w w2:=by
 obtain⟨A',c',h1,h2,h3⟩:=h;refine⟨A',c',h1,(Tch.of_below (S:=foot g A) hb).trans h2 (fun _ _ h=>h),h3.imp id fun h a ha=>Nat.le_trans hb.size (h a ha)⟩
theorem Became.below (h:Became t g base cap A bs w w1) (hg:B<=g) (hA:∀a,A=some a->B<=a.block) (hB:B<=w.heap.size):
 ∃A' c',Ar w1 t g base cap A' c' bs/\Below B w w1/\∀a,A'=some a->B<=a.block:=by
 obtain⟨A',c',h1,h2,h3⟩:=h;refine⟨A',c',h1,h2.below (fun k hk=> ?_) hB,fun a ha=> ?_⟩
 · rcases hk with rfl | ⟨a,e,rfl⟩
   · exact hg
   · exact hA a e
 · rcases h3 with h3 | h3
   · exact hA a (h3▸ha)
   · exact Nat.le_trans hB (h3 a ha)
theorem afr (h:Ar w 195 g base cap A c bs) (hl:bs.length<=1000000) (x d v:Nat) (hx:x<18446744073709551616) (hv:v<18446744073709551616) (h1:base<=x) (hd:x-base=d) (h2:d+8<=bs.length):
 Calls Tryz.prog 261 #[.pointer (some ⟨g,0,none⟩), .int .u64 (x:Int), .int .u64 (v:Int)] w fun e w'=>e= .returned .nilIface/\Became 195 g base cap A (lay bs d (aaF 8 v)) w w':=by
 have HD:=Lib.hid hd;clear hd;go_enter Tryz.func261,Tryz.ntmps261
 go_wp2_with fail
 refine(agC v _ hv).mono ?_;rintro e w1 ⟨rfl,hf,hb⟩;have hr:=hf.reads;have HS:=aiI (h.below hb) hl x d (some ⟨w.heap.size,0,none⟩) 8 (aaF 8 v) w1.heap.size hr hx h1 HD.out (by rw[aag];exact h2);rw[aag]at HS;have HS:=Lib.hid HS;have HB:=Lib.hid hb;clear hf hr hb;go_wp2_with fail
 refine HS.out.mono ?_;rintro e w2 ⟨rfl,hbe⟩;have HE:=Lib.hid (hbe.after HB.out);clear hbe;go_wp2
 go_ret
 exact⟨rfl,HE.out⟩
theorem anr (h:Ar w 195 g base cap A c bs) (hl:bs.length<=1000000) (x v:Nat) (hx:x<18446744073709551616) (hv:v<18446744073709551616) (h2:base<=x->bs.length<x-base+8):
 Calls Tryz.prog 261 #[.pointer (some ⟨g,0,none⟩), .int .u64 (x:Int), .int .u64 (v:Int)] w fun e w'=>e= .returned (.iface 130 (.int .i64 2))/\Below w.heap.size w w':=by
 have HD:=Lib.hid h2;clear h2;go_enter Tryz.func261,Tryz.ntmps261
 go_wp2_with fail
 refine(agC v _ hv).mono ?_;rintro e w1 ⟨rfl,hf,hb⟩;have HS:=Lib.hid (arn (h.below hb) hl x 8 (some ⟨w.heap.size,0,none⟩) 8 hx (by omega) HD.out);have HB:=Lib.hid hb;clear hf hb;go_wp2_with fail
 refine HS.out.mono ?_;rintro e w2 ⟨rfl,rfl⟩;go_wp2
 go_ret
 exact⟨rfl,HB.out⟩
end
theorem arq (w:World):Calls Tryz.prog 23 #[.nilIface] w fun e w'=>e= .returned (.int .i64 0)/\w=w':=by
 go_enter Tryz.func23,Tryz.ntmps23
 go_wp2
 go_ret
 exact⟨rfl,rfl⟩
theorem amv (W:World) (k j:Int):(binOp .eql 31 (.iface 130 (.int .i64 k)) (.iface 130 (.int .i64 j))).run Tryz.prog W= .ok (.bool (k==j)) W:=by rfl
theorem amw (w:World) (k:Nat) (h1:1<=k) (h2:k<=10):Calls Tryz.prog 23 #[.iface 130 (.int .i64 (k:Int))] w fun e w'=>e= .returned (.int .i64 (k:Int))/\w=w':=by
 go_enter Tryz.func23,Tryz.ntmps23
 go_wp2
 go_loop [3] (fun i=>∃j:Nat,1<=j/\j<=k/\i= .int .i64 j) (fun i=>k-(intOf i).toNat)
 case atStart=>exact⟨1,by omega,h1,rfl⟩
 case round=>
  obtain⟨j,hj1,hj2,rfl⟩:=hrel;by_cases hlt:j<k
  · have q:((k:Int)==(j:Int))=false:=by rw[beq_eq_false_iff_ne];omega
    have q2:∀W:World,(binOp .eql 31 (.iface 130 (.int .i64 (k:Int))) (.iface 130 (.int .i64 (j:Int)))).run Tryz.prog W= .ok (.bool false) W:=fun W=>by rw[amv,q]
    go_wp2
    go_round
    case rel=>exact⟨j+1,by omega,by omega,by go_num⟩
    case measure=>simp[intOf];omega
  · obtain rfl:k=j:=by omega
    have q2:∀W:World,(binOp .eql 31 (.iface 130 (.int .i64 (k:Int))) (.iface 130 (.int .i64 (k:Int)))).run Tryz.prog W= .ok (.bool true) W:=fun W=>by rw[amv,beq_self_eq_true]
    go_wp2
    go_ret
    exact⟨rfl,rfl⟩
section
variable {w:World} {g base cap c:Nat} {A:Option Addr} {bs:List UInt8}
theorem ajM (h:Ar w 195 g base cap A c bs) (hl:bs.length<=1000000) (hbase:base<=4611686018427387904):
 Calls Tryz.prog 34 #[.pointer (some ⟨g,0,none⟩)] w fun e w'=>amu bs w e w':=by
 have hk:=ala h hl base bs.length 0 (by omega) (Nat.le_refl _) (by omega) (by omega);rw[List.drop_zero,List.take_length]at hk;have HK:=Lib.hid hk;clear hk;go_enter Tryz.func34,Tryz.ntmps34
 go_wp2_with fail
 refine(ab4 h).mono ?_;rintro e w1 ⟨rfl,rfl⟩;go_wp2_with fail
 refine(abL h).mono ?_;rintro e w1 ⟨rfl,rfl⟩;go_wp2_with fail
 refine HK.out.mono ?_;rintro e w1 ⟨A',c',rfl,ho,hb⟩;have HO:=Lib.hid ho;clear ho;go_wp2
 go_ret
 exact⟨A',c',rfl,HO.out,hb⟩
end
structure Bk where
 off:Nat
 size:Nat
 used:Bool
deriving DecidableEq
def aaf (bs:List UInt8) (o:Nat):Nat:=ab2 ((bs.drop o).take 8)
def word? (bs:List UInt8) (o:Int):Option Nat:=if 0<=o/\o+8<=bs.length then some (aaf bs o.toNat) else none
def alb (n:Nat) (o size:Int):Bool:=decide (184<=o)&&(o%16==8&&(decide (o<=n)&&decide (size<=n-o)))
theorem aa1 (n:Nat) (o size:Int):alb n o size=true ↔ 184<=o/\o%16=8/\o<=n/\size<=n-o:=by simp[alb]
def aa6 (bs:List UInt8) (o:Int):Option Bk:=
 if alb bs.length o 8=false then none else
 match adT (aaf bs o.toNat)with
 | none=>none
 | some (s,u)=>if alb bs.length o s=false then none else if aaf bs (o.toNat+s-8)=aaf bs o.toNat then some ⟨o.toNat,s,u⟩ else none
def abN (bs:List UInt8) (o:Int):Option Bk:=
 if o<184\/(bs.length:Int)<o then none else
 match adT (aaf bs (o.toNat-8))with
 | none=>none
 | some (s,u)=>match aa6 bs (o-s)with
  | none=>none
  | some x=>if x.size=s/\x.used=u then some x else none
def ada (bs:List UInt8):Nat->Nat->Option (List Bk)
 | 0,_=>none
 | k+1,o=>if o<bs.length then (match aa6 bs (o:Int)with
  | none=>none
  | some x=>(ada bs k (o+x.size)).map (x:: ·)) else some []
def abG (bs:List UInt8):Option (List Bk):=if bs.length<184 then none else ada bs (bs.length+1) 184
theorem aan (bs:List UInt8) (o:Nat):aaf bs o<18446744073709551616:=adV _ (by rw[List.length_take];omega)
theorem aaw{bs:List UInt8}{o:Int}{x:Bk}(h:aa6 bs o=some x):o=(x.off:Int)/\184<=x.off/\x.off%16=8/\x.off+x.size<=bs.length/\aaB (x.size:Int)=true/\adT (aaf bs x.off)=some (x.size,x.used)/\aaf bs (x.off+x.size-8)=aaf bs x.off:=by
 unfold aa6 at h;split at h
 · cases h
 · rename_i hc;have hc':=(aa1 _ _ _).1 (by simpa using hc);split at h
   · cases h
   · rename_i s u hu;split at h
     · cases h
     · rename_i hc2;have hc2':=(aa1 _ _ _).1 (by simpa using hc2);split at h
       · rename_i hw;injection h with h;subst h;have:=ac8 hu;refine⟨by dsimp only;omega,by dsimp only;omega,by dsimp only;omega,by dsimp only;omega,this.1,hu,hw⟩
       · cases h
theorem alc{bs:List UInt8}{x:Bk}(h1:184<=x.off) (h2:x.off%16=8) (h3:x.off+x.size<=bs.length) (h4:adT (aaf bs x.off)=some (x.size,x.used)) (h5:aaf bs (x.off+x.size-8)=aaf bs x.off):aa6 bs (x.off:Int)=some x:=by
 have hs:=(aab _).1 (ac8 h4).1;unfold aa6;rw[if_neg (by rw[(aa1 _ _ _).2 (by omega)];simp)];rw[Int.toNat_natCast,h4];dsimp only;rw[if_neg (by rw[(aa1 _ _ _).2 (by omega)];simp),if_pos h5]
def lyN (bs:List UInt8) (o v:Nat):List UInt8:=bs.take o++(aaF 8 v++bs.drop (o+8))
theorem aah (bs:List UInt8) (o v:Nat) (h:o+8<=bs.length):(lyN bs o v).length=bs.length:=by
 unfold lyN;rw[List.length_append,List.length_append,aag,List.length_take,List.length_drop];omega
theorem ad0 (bs:List UInt8) (o v i:Nat) (h:o+8<=bs.length) (hi:i<o\/o+8<=i):(lyN bs o v)[i]?=bs[i]?:=by
 unfold lyN;have e1:(bs.take o).length=o:=by rw[List.length_take];omega
 rcases hi with hi | hi
 · rw[List.getElem?_append_left (by omega),List.getElem?_take_of_lt hi]
 · rw[List.getElem?_append_right (by omega),e1,List.getElem?_append_right (by rw[aag];omega),aag,List.getElem?_drop];congr 1;omega
theorem abH (bs:List UInt8) (o v:Nat) (h:o+8<=bs.length) (hv:v<18446744073709551616):aaf (lyN bs o v) o=v:=by
 have e1:(bs.take o).length=o:=by rw[List.length_take];omega
 have e:((lyN bs o v).drop o).take 8=aaF 8 v:=by
  unfold lyN;rw[List.drop_append,e1,List.drop_eq_nil_of_le (by omega),List.nil_append,Nat.sub_self,List.drop_zero];have:=aag 8 v;rw[List.take_append_of_le_length (by omega),List.take_of_length_le (by omega)]
 unfold aaf;rw[e,acl];exact Nat.mod_eq_of_lt hv
theorem aaL (bs bs':List UInt8) (p:Nat) (h:∀i,p<=i->i<p+8->bs'[i]?=bs[i]?):aaf bs' p=aaf bs p:=by
 unfold aaf;congr 1;apply List.ext_getElem?;intro i;rcases Nat.lt_or_ge i 8 with hi | hi
 · rw[List.getElem?_take_of_lt hi,List.getElem?_take_of_lt hi,List.getElem?_drop,List.getElem?_drop];exact h _ (by omega) (by omega)
 · rw[List.getElem?_eq_none (by rw[List.length_take];omega),List.getElem?_eq_none (by rw[List.length_take];omega)]
theorem aax (bs:List UInt8) (o v p:Nat) (h:o+8<=bs.length) (hd:p+8<=o\/o+8<=p):aaf (lyN bs o v) p=aaf bs p:=
 aaL _ _ _ fun i h1 h2=>ad0 bs o v i h (by omega)
theorem abW (bs bs':List UInt8) (x:Bk) (hl:bs'.length=bs.length) (hx:aa6 bs (x.off:Int)=some x) (h1:aaf bs' x.off=aaf bs x.off) (h2:aaf bs' (x.off+x.size-8)=aaf bs (x.off+x.size-8)):aa6 bs' (x.off:Int)=some x:=by
 obtain⟨_,g1,g2,g3,g4,g5,g6⟩:=aaw hx;exact alc g1 g2 (by omega) (by rw[h1];exact g5) (by rw[h1,h2];exact g6)
def aco (w c:Nat):Bool:=w/2^c%2==1
theorem acH (w c:Nat):aco w (c+1)=aco (w/2) c:=by
 unfold aco;rw[Nat.pow_succ,Nat.mul_comm,Nat.div_div_eq_div_mul]
theorem aiJ (w c:Nat) (h:aco w c=false) (d:Nat):aco (w+2^c) d=if d=c then true else aco w d:=by
 induction c generalizing w d with
 | zero=>
  have h0:w%2=0:=by
   unfold aco at h;simp at h;omega
  cases d with
  | zero=>simp[aco];omega
  | succ d=>
   rw[if_neg (by omega),acH,acH];congr 1;simp;omega
 | succ c ih=>
  rw[acH]at h;have e:(w+2^(c+1))/2=w/2+2^c:=by rw[Nat.pow_succ];omega
  cases d with
  | zero=>
   rw[if_neg (by omega)];simp only[aco,Nat.pow_zero,Nat.div_one];rw[Nat.pow_succ];congr 1;omega
  | succ d=>
   rw[acH,e,ih (w/2) h d,acH w d];by_cases hd:d=c
   · rw[if_pos hd,if_pos (by omega)]
   · rw[if_neg hd,if_neg (by omega)]
theorem aiK (w c:Nat) (h:aco w c=true):2^c<=w:=by
 unfold aco at h;rw[beq_iff_eq]at h;rcases Nat.lt_or_ge w (2^c)with h1 | h1
 · rw[Nat.div_eq_of_lt h1]at h;cases h
 · exact h1
theorem afs (w c:Nat) (h:aco w c=true):aco (w-2^c) c=false:=by
 have hg:=aiK w c h;have hp:0<2^c:=Nat.two_pow_pos c;unfold aco at h ⊢;rw[beq_iff_eq]at h;have e:w/2^c=(w-2^c)/2^c+1:=by
  conv=>lhs;rw[<-Nat.sub_add_cancel hg]
  rw[Nat.add_div_right _ hp]
 rw[e]at h;rw[beq_eq_false_iff_ne];omega
theorem amx (w c:Nat) (h:aco w c=true) (d:Nat):aco (w-2^c) d=if d=c then false else aco w d:=by
 have hg:=aiK w c h;have h0:=afs w c h;have:=aiJ (w-2^c) c h0 d;rw[Nat.sub_add_cancel hg]at this;by_cases hd:d=c
 · rw[if_pos hd,hd];exact h0
 · rw[if_neg hd]at this ⊢;exact this.symm
theorem ald (w c:Nat) (hc:c<64) (hw:w<18446744073709551616) (h:aco w c=false):w+2^c<18446744073709551616:=by
 have e:(18446744073709551616:Nat)=2^(63-c)*2*2^c:=by
  rw[<-Nat.pow_succ,<-Nat.pow_add,show(63-c).succ+c=64 by omega]
 have hp:0<2^c:=Nat.two_pow_pos c;have h1:w/2^c<2^(63-c)*2:=by
  rw[Nat.div_lt_iff_lt_mul hp,<-e];exact hw
 have h2:w/2^c%2=0:=by
  unfold aco at h;rw[beq_eq_false_iff_ne]at h;omega
 have h3:w/2^c+2<=2^(63-c)*2:=by omega
 have h4:=Nat.div_add_mod w (2^c);have h5:=Nat.mod_lt w hp;have h6:(w/2^c+2)*2^c<=2^(63-c)*2*2^c:=Nat.mul_le_mul_right _ h3;rw[<-e,Nat.add_mul,Nat.mul_comm (w/2^c)]at h6;omega
def ans (bs:List UInt8) (o:Int):Nat:=(word? bs o).getD 0
def aaX (bs:List UInt8) (o:Int):Int:=match aa6 bs o with
 | some x=>if x.used=true then-1 else aaq x.size
 | none=> -1
def aap (bs:List UInt8) (p:Nat) (c:Int):Bool:=decide (p<=20000)&&(match aa6 bs (p:Int)with
 | some x=> !x.used&&aaq x.size==c
 | none=>false)
def abM (bs:List UInt8) (c:Nat):List UInt8:=
 if aco (aaf bs 0) c=true/\aaf bs (8+8*c)=0 then lyN bs 0 (aaf bs 0-2^c)
 else if aco (aaf bs 0) c=false/\aaf bs (8+8*c)≠0 then lyN bs 0 (aaf bs 0+2^c) else bs
def ahS (bs:List UInt8) (o:Int):Option (List UInt8):=
 if aaX bs o<0 then none else
 let c:=(aaX bs o).toNat
 let f:=aaf bs (8+8*c)
 if (f:Int)=o\/(f≠0/\aap bs f (c:Int)=false) then none else
 let b1:=lyN (lyN bs (o.toNat+8) f) (o.toNat+16) 0
 let b2:=if f≠0 then lyN b1 (f+16) o.toNat else b1
 some (abM (lyN b2 (8+8*c) o.toNat) c)
def aeC (bs:List UInt8) (o:Int):Option (List UInt8):=
 if aaX bs o<0 then none else
 let c:=(aaX bs o).toNat
 let n:=aaf bs (o.toNat+8)
 let p:=aaf bs (o.toNat+16)
 if p=0/\(aaf bs (8+8*c):Int)≠o then none
 else if p≠0/\(aap bs p (c:Int)=false\/(aaf bs (p+8):Int)≠o) then none
 else if n≠0/\(aap bs n (c:Int)=false\/(aaf bs (n+16):Int)≠o) then none
 else
  let b1:=if p=0 then lyN bs (8+8*c) n else lyN bs (p+8) n
  let b2:=if n≠0 then lyN b1 (n+16) p else b1
  let b3:=if p≠0/\(aaf bs (8+8*c):Int)=o then lyN b2 (8+8*c) n else b2
  some (abM b3 c)
def ael (bs:List UInt8) (c:Nat):Nat->Nat->Nat->Option (List Nat)
 | k,last,p=>if p=0 then some [] else match k with
  | 0=>none
  | k+1=>if aap bs p (c:Int)=true/\aaf bs (p+16)=last then (ael bs c k p (aaf bs (p+8))).map (p:: ·) else none
def afn (bs:List UInt8) (c:Nat):Option (List Nat):=
 if bs.length<184 then none
 else if aco (aaf bs 0) c≠decide (aaf bs (8+8*c)≠0) then none
 else ael bs c 1024 0 (aaf bs (8+8*c))
structure Stands (bs:List UInt8) (P:List Bk):Prop where
 at_:∀x∈P,aa6 bs (x.off:Int)=some x
 apart:∀x∈P,∀y∈P,x=y\/x.off+x.size<=y.off\/y.off+y.size<=x.off
def aoW (bs:List UInt8):Nat->List Nat->Nat->Prop
 | _,[],_=>True
 | p,o::r,n=>aaf bs (o+16)=p/\aaf bs (o+8)=r.headD n/\aoW bs o r n
structure Lists (bs:List UInt8) (P:List Bk) (L:Nat->List Nat):Prop where
 len:184<=bs.length
 small:bs.length<=16384
 st:Stands bs P
 head:∀c,c<22->aaf bs (8+8*c)=(L c).headD 0
 bit:∀c,c<22->aco (aaf bs 0) c= !(L c).isEmpty
 mem:∀c,c<22->∀o∈L c,∃x∈P,x.off=o/\x.used=false/\aaq x.size=(c:Int)
 links:∀c,c<22->aoW bs 0 (L c) 0
 nodup:∀c,c<22->(L c).Nodup
theorem adu (bs:List UInt8) (l1 l2:List Nat) (p n:Nat):aoW bs p (l1++l2) n ↔ aoW bs p l1 (l2.headD n)/\aoW bs (l1.getLastD p) l2 n:=by
 induction l1 generalizing p with
 | nil=>simp[aoW]
 | cons o r ih=>
  have e:(r++l2).headD n=r.headD (l2.headD n):=by cases r<;>rfl
  have e2:(o::r).getLastD p=r.getLastD o:=by cases r<;>rfl
  simp only[List.cons_append,aoW,e,e2,ih];constructor
  · rintro⟨a,b,c,d⟩;exact⟨⟨a,b,c⟩,d⟩
  · rintro⟨⟨a,b,c⟩,d⟩;exact⟨a,b,c,d⟩
theorem abX{bs bs':List UInt8}:∀(l:List Nat) (p n:Nat),(∀o∈l,aaf bs' (o+16)=aaf bs (o+16)/\aaf bs' (o+8)=aaf bs (o+8))->aoW bs p l n->aoW bs' p l n
 | [],_,_,_,_=>trivial
 | o::r,p,n,h,hl=>by
  obtain⟨h1,h2⟩:=h o (by simp);obtain⟨a,b,c⟩:=hl;exact⟨h1.trans a,h2.trans b,abX r o n (fun q hq=>h q (by simp[hq])) c⟩
section
variable {bs:List UInt8} {P:List Bk} {L:Nat->List Nat}
theorem Stands.facts (h:Stands bs P){x:Bk}(hx:x∈P):184<=x.off/\x.off%16=8/\x.off+x.size<=bs.length/\32<=x.size/\x.size%16=0/\aaB (x.size:Int)=true:=by
 obtain⟨_,g1,g2,g3,g4,_⟩:=aaw (h.at_ x hx);have:=(aab _).1 g4;exact⟨g1,g2,g3,by omega,by omega,g4⟩
theorem Stands.uniq (h:Stands bs P){x y:Bk}(hx:x∈P) (hy:y∈P) (e:x.off=y.off):x=y:=by
 have h1:=h.at_ x hx;rw[e,h.at_ y hy]at h1;injection h1 with h1;exact h1.symm
theorem Stands.lay (h:Stands bs P) (q v:Nat) (hq:q+8<=184\/∃y∈P,y.off+8<=q/\q+8<=y.off+y.size-8) (hl:184<=bs.length):Stands (lyN bs q v) P:=by
 have hqb:q+8<=bs.length:=by
  rcases hq with hq | ⟨y,hy,h1,h2⟩
  · omega
  · have:=h.facts hy;omega
 refine⟨fun x hx=> ?_,h.apart⟩;have hf:=h.facts hx;refine abW bs _ x (aah _ _ _ hqb) (h.at_ x hx) (aax _ _ _ _ hqb ?_) (aax _ _ _ _ hqb ?_)
 · rcases hq with hq | ⟨y,hy,h1,h2⟩
   · omega
   · have hy':=h.facts hy;rcases h.apart x hx y hy with rfl | h3 | h3
     · omega
     · omega
     · omega
 · rcases hq with hq | ⟨y,hy,h1,h2⟩
   · omega
   · have hy':=h.facts hy;rcases h.apart x hx y hy with rfl | h3 | h3
     · omega
     · omega
     · omega
theorem Lists.member (h:Lists bs P L){c o:Nat}(hc:c<22) (ho:o∈L c):aap bs o (c:Int)=true/\∃x∈P,x.off=o/\x.used=false/\aaq x.size=(c:Int):=by
 obtain⟨x,hx,rfl,hu,hcl⟩:=h.mem c hc o ho;have hf:=h.st.facts hx;have hs:=h.small;refine⟨?_,x,hx,rfl,hu,hcl⟩;unfold aap;rw[h.st.at_ x hx];simp[hu,hcl];omega
theorem ajN (h:Lists bs P L){c:Nat}(hc:c<22):∀(l:List Nat) (k p:Nat),(∀o∈l,o∈L c)->l.length<=k->aoW bs p l 0->ael bs c k p (l.headD 0)=some l
 | [],k,_,_,_,_=>by cases k<;>simp[ael]
 | o::r,0,_,_,hk,_=>by simp at hk
 | o::r,k+1,p,hm,hk,hl=>by
  obtain⟨l1,l2,l3⟩:=hl;obtain⟨m1,x,hx,rfl,_⟩:=h.member hc (hm o (by simp));have hf:=h.st.facts hx;have ih:=ajN h hc r k x.off (fun q hq=>hm q (by simp[hq])) (by simpa using hk) l3;show ael bs c (k+1) p x.off=_;unfold ael;rw[if_neg (by omega)];dsimp only;rw[if_pos ⟨m1,l1⟩,l2,ih];rfl
theorem Lists.all (h:Lists bs P L){c:Nat}(hc:c<22) (hl:(L c).length<=1024):afn bs c=some (L c):=by
 have hlen:=h.len;unfold afn;rw[if_neg (by omega),h.head c hc,h.bit c hc];have e:(!(L c).isEmpty)=decide ((L c).headD 0≠0):=by
  cases hL:L c with
  | nil=>rfl
  | cons o r=>
   obtain⟨_,x,hx,e,_⟩:=h.member hc (o:=o) (by rw[hL];simp);have hf:=h.st.facts hx;have:o≠0:=by omega
   simp[this]
 rw[if_neg (by rw[e];simp)];exact ajN h hc (L c) 1024 0 (fun _ h=>h) hl (h.links c hc)
end
theorem acz (bs:List UInt8) (q v p:Nat) (h:q+8<=bs.length) (hv:v<18446744073709551616) (hp:p%8=0) (hq:q%8=0):aaf (lyN bs q v) p=if p=q then v else aaf bs p:=by
 by_cases e:p=q
 · rw[if_pos e,e];exact abH bs q v h hv
 · rw[if_neg e];exact aax bs q v p h (by omega)
theorem ahT (bs:List UInt8) (c:Nat) (hc:c<22) (hl:184<=bs.length):
 (abM bs c).length=bs.length/\(∀p,p%8=0->p≠0->aaf (abM bs c) p=aaf bs p)/\(∀d,aco (aaf (abM bs c) 0) d=if d=c then decide (aaf bs (8+8*c)≠0) else aco (aaf bs 0) d)/\
 (∀P,Stands bs P->Stands (abM bs c) P)/\∀i,8<=i->(abM bs c)[i]?=bs[i]?:=by
 have hw:=aan bs 0;unfold abM;by_cases h1:aco (aaf bs 0) c=true/\aaf bs (8+8*c)=0
 · rw[if_pos h1];have hv:aaf bs 0-2^c<18446744073709551616:=Nat.lt_of_le_of_lt (Nat.sub_le _ _) hw;refine⟨aah _ _ _ (by omega),fun p hp h0=> ?_,fun d=> ?_,fun P hP=>hP.lay 0 _ (.inl (by omega)) hl,fun i hi=>ad0 _ _ _ _ (by omega) (by omega)⟩
   · rw[acz _ _ _ _ (by omega) hv hp rfl,if_neg h0]
   · rw[abH _ _ _ (by omega) hv,amx _ _ h1.1,h1.2];simp
 · rw[if_neg h1];by_cases h2:aco (aaf bs 0) c=false/\aaf bs (8+8*c)≠0
   · rw[if_pos h2];have hv:=ald (aaf bs 0) c (by omega) hw h2.1;refine⟨aah _ _ _ (by omega),fun p hp h0=> ?_,fun d=> ?_,fun P hP=>hP.lay 0 _ (.inl (by omega)) hl,fun i hi=>ad0 _ _ _ _ (by omega) (by omega)⟩
     · rw[acz _ _ _ _ (by omega) hv hp rfl,if_neg h0]
     · rw[abH _ _ _ (by omega) hv,aiJ _ _ h2.1];simp[h2.2]
   · rw[if_neg h2];refine⟨rfl,fun _ _ _=>rfl,fun d=> ?_,fun P hP=>hP,fun _ _=>rfl⟩;by_cases hd:d=c
     · rw[if_pos hd,hd]
       cases hb:aco (aaf bs 0) c with
       | true=>
        have:aaf bs (8+8*c)≠0:=fun e=>h1 ⟨hb,e⟩;simp[this]
       | false=>
        have:aaf bs (8+8*c)=0:=by
         rcases Nat.eq_zero_or_pos (aaf bs (8+8*c))with e | e
         · exact e
         · exact absurd ⟨hb,by omega⟩ h2
        simp[this]
     · rw[if_neg hd]
def Kept (P:List Bk) (bs bs':List UInt8):Prop:=∀i,184<=i->(∀y∈P,y.used=false->i<y.off+8\/y.off+24<=i)->bs'[i]?=bs[i]?
theorem Kept.refl (P:List Bk) (bs:List UInt8):Kept P bs bs:=fun _ _ _=>rfl
theorem Kept.trans{P:List Bk}{b1 b2 b3:List UInt8}(h:Kept P b1 b2) (k:Kept P b2 b3):Kept P b1 b3:=fun i h1 h2=>(k i h1 h2).trans (h i h1 h2)
theorem Kept.ly (P:List Bk) (bs:List UInt8) (q v:Nat) (h:q+8<=bs.length) (hq:q+8<=184\/∃y∈P,y.used=false/\(q=y.off+8\/q=y.off+16)):Kept P bs (lyN bs q v):=fun i h1 h2=>by
 refine ad0 _ _ _ _ h ?_;rcases hq with hq | ⟨y,hy,hu,hq⟩
 · omega
 · have:=h2 y hy hu;omega
def aga (L:Nat->List Nat) (c:Nat) (l:List Nat) (d:Nat):List Nat:=if d=c then l else L d
section
variable {bs:List UInt8} {P:List Bk} {L:Nat->List Nat}
theorem abq{x:Bk}(hs:aaB (x.size:Int)=true):∃c:Nat,aaq (x.size:Int)=(c:Int)/\c<22:=by
 have h1:=acy (x.size:Int);have h2:¬aaq (x.size:Int)<0:=by rw[ahO];simp[hs]
 exact⟨(aaq (x.size:Int)).toNat,by omega,by omega⟩
theorem Lists.put (h:Lists bs P L){x:Bk}(hx:x∈P) (hu:x.used=false){c:Nat}(hc:aaq (x.size:Int)=(c:Int)) (hc22:c<22) (hn:x.off∉L c):
 ∃bs',ahS bs (x.off:Int)=some bs'/\Lists bs' P (aga L c (x.off::L c))/\bs'.length=bs.length/\Kept P bs bs':=by
 have hf:=h.st.facts hx;have hlen:=h.len;have hsm:=h.small;have hfr:aaX bs (x.off:Int)=(c:Int):=by unfold aaX;rw[h.st.at_ x hx];simp[hu,hc]
 have hhead:=h.head c hc22;obtain⟨f,hfe⟩:=nmE (aaf bs (8+8*c));have hflt:f<18446744073709551616:=by rw[<-hfe];exact aan _ _
 rw[hfe]at hhead;have hcase:(L c= []/\f=0)\/∃y∈P,∃r,L c=f::r/\y.off=f/\y.used=false/\aap bs f (c:Int)=true:=by
  cases hL:L c with
  | nil=>left;rw[hL]at hhead;exact⟨rfl,hhead⟩
  | cons o r=>
   right;rw[hL]at hhead;obtain rfl:f=o:=hhead;obtain⟨m1,y,hy,e,yu,_⟩:=h.member hc22 (o:=f) (by rw[hL];simp);exact⟨y,hy,r,rfl,e,yu,m1⟩
 have hput:ahS bs (x.off:Int)=some (abM (lyN (if f≠0 then lyN (lyN (lyN bs (x.off+8) f) (x.off+16) 0) (f+16) x.off else lyN (lyN bs (x.off+8) f) (x.off+16) 0) (8+8*c) x.off) c):=by
  unfold ahS;rw[hfr,if_neg (by omega)];simp only[Int.toNat_natCast,hfe];rw[if_neg];rintro(e | ⟨e1,e2⟩)
  · rcases hcase with⟨_,e0⟩ | ⟨y,hy,r,hL,_⟩
    · omega
    · exact hn (by rw[hL,show x.off=f by omega];simp)
  · rcases hcase with⟨_,e0⟩ | ⟨y,hy,r,hL,_,_,m⟩
    · exact e1 e0
    · rw[m]at e2;cases e2
 obtain⟨b1,hb1⟩:=nmE (lyN (lyN bs (x.off+8) f) (x.off+16) 0);have l0:(lyN bs (x.off+8) f).length=bs.length:=aah _ _ _ (by omega);have l1:b1.length=bs.length:=by rw[<-hb1,aah _ _ _ (by omega)];exact l0
 have st1:Stands b1 P:=by
  rw[<-hb1];exact(h.st.lay (x.off+8) f (.inr ⟨x,hx,by omega,by omega⟩) hlen).lay _ _ (.inr ⟨x,hx,by omega,by omega⟩) (by omega)
 have w1:∀p,p%8=0->aaf b1 p=if p=x.off+16 then 0 else if p=x.off+8 then f else aaf bs p:=fun p hp=>by
  rw[<-hb1,acz _ _ _ _ (by omega) (by omega) hp (by omega),acz _ _ _ _ (by omega) hflt hp (by omega)]
 have k1:Kept P bs b1:=by
  rw[<-hb1];exact(Kept.ly P bs _ _ (by omega) (.inr ⟨x,hx,hu, .inl rfl⟩)).trans (Kept.ly P _ _ _ (by omega) (.inr ⟨x,hx,hu, .inr rfl⟩))
 rw[hb1]at hput;obtain⟨b2,hb2⟩:=nmE ((if f≠0 then lyN b1 (f+16) x.off else b1));have hb2f:b2.length=bs.length/\Stands b2 P/\(∀p,p%8=0->aaf b2 p=if f≠0/\p=f+16 then x.off else aaf b1 p)/\Kept P b1 b2:=by
  rcases hcase with⟨_,e0⟩ | ⟨y,hy,r,hL,hyf,hyu,_⟩
  · rw[if_neg (by omega)]at hb2;subst hb2;exact⟨l1,st1,fun p _=>by rw[if_neg (by omega)],Kept.refl _ _⟩
  · have hy':=h.st.facts hy;rw[if_pos (by omega)]at hb2;subst hb2;refine⟨by rw[aah _ _ _ (by omega)];exact l1,st1.lay _ _ (.inr ⟨y,hy,by omega,by omega⟩) (by omega),fun p hp=> ?_,Kept.ly P _ _ _ (by omega) (.inr ⟨y,hy,hyu, .inr (by omega)⟩)⟩;rw[acz _ _ _ _ (by omega) (by omega) hp (by omega)];by_cases e:p=f+16
    · rw[if_pos e,if_pos ⟨by omega,e⟩]
    · rw[if_neg e,if_neg (fun h=>e h.2)]
 obtain⟨l2,st2,w2,k2⟩:=hb2f;rw[hb2]at hput;obtain⟨b3,hb3⟩:=nmE (lyN b2 (8+8*c) x.off);have l3:b3.length=bs.length:=by rw[<-hb3,aah _ _ _ (by omega)];exact l2
 have st3:Stands b3 P:=by rw[<-hb3];exact st2.lay _ _ (.inl (by omega)) (by omega)
 have w3:∀p,p%8=0->aaf b3 p=if p=8+8*c then x.off else aaf b2 p:=fun p hp=>by
  rw[<-hb3,acz _ _ _ _ (by omega) (by omega) hp (by omega)]
 have k3:Kept P b2 b3:=by rw[<-hb3];exact Kept.ly P _ _ _ (by omega) (.inl (by omega))
 rw[hb3]at hput;obtain⟨m1,m2,m3,m4,m5⟩:=ahT b3 c hc22 (by omega);refine⟨_,hput,⟨by omega,by omega,m4 P st3,fun d hd=> ?_,fun d hd=> ?_,fun d hd o ho=> ?_,fun d hd=> ?_,fun d hd=> ?_⟩,by omega,((k1.trans k2).trans k3).trans fun i h1 _=>m5 i (by omega)⟩
 ·
  rw[m2 _ (by omega) (by omega),w3 _ (by omega)];unfold aga;by_cases hdc:d=c
  · rw[if_pos (by omega),if_pos hdc];rfl
  · rw[if_neg (by omega),if_neg hdc,w2 _ (by omega),<-h.head d hd];have hn1:¬(f≠0/\8+8*d=f+16):=by
     rintro⟨h1,h2⟩;rcases hcase with⟨_,e0⟩ | ⟨y,hy,_,_,hyf,_⟩
     · exact h1 e0
     · have:=h.st.facts hy;omega
    rw[if_neg hn1,w1 _ (by omega),if_neg (by omega),if_neg (by omega)]
 ·
  rw[m3 d];unfold aga;by_cases hdc:d=c
  · rw[if_pos hdc,if_pos hdc,w3 _ (by omega),if_pos rfl];have:x.off≠0:=by omega
    simp[this]
  · rw[if_neg hdc,if_neg hdc,<-h.bit d hd,w3 _ rfl,if_neg (by omega),w2 _ rfl];have hn1:¬(f≠0/\0=f+16):=by omega
    rw[if_neg hn1,w1 _ rfl,if_neg (by omega),if_neg (by omega)]
 ·
  unfold aga at ho;by_cases hdc:d=c
  · subst hdc;rw[if_pos rfl]at ho;rcases List.mem_cons.1 ho with rfl | ho
    · exact⟨x,hx,rfl,hu,hc⟩
    · exact h.mem d hd o ho
  · rw[if_neg hdc]at ho;exact h.mem d hd o ho
 ·
  have hw:∀o,(∃y∈P,y.off=o/\o≠x.off)->∀k,k=8\/k=16->aaf (abM b3 c) (o+k)=if f≠0/\o=f/\k=16 then x.off else aaf bs (o+k):=by
   rintro o ⟨y,hy,rfl,hne⟩ k hk;have hy':=h.st.facts hy;have hap:=h.st.apart x hx y hy;have hne2:y.off+k≠x.off+8/\y.off+k≠x.off+16:=by
    rcases hap with e | e | e
    · rw[e]at hne;exact absurd rfl hne
    · omega
    · omega
   rw[m2 _ (by omega) (by omega),w3 _ (by omega),if_neg (by omega),w2 _ (by omega),w1 _ (by omega),if_neg hne2.2,if_neg hne2.1];by_cases e:f≠0/\y.off=f/\k=16
   · rw[if_pos e,if_pos ⟨e.1,by omega⟩]
   · rw[if_neg e,if_neg];rintro⟨e1,e2⟩;rcases hcase with⟨_,e0⟩ | ⟨z,hz,r,hL,hzf,_⟩
     · exact e1 e0
     · have hz':=h.st.facts hz;refine e ⟨e1,?_,?_⟩
       · omega
       · omega
  unfold aga;by_cases hdc:d=c
  · subst hdc;rw[if_pos rfl];refine⟨?_,?_,?_⟩
    · rw[m2 _ (by omega) (by omega),w3 _ (by omega),if_neg (by omega),w2 _ (by omega)];rw[if_neg (by
       rintro⟨e1,e2⟩;rcases hcase with⟨_,e0⟩ | ⟨z,hz,r,hL,hzf,_⟩
       · exact e1 e0
       · exact hn (by rw[hL,show x.off=f by omega];simp)),w1 _ (by omega),if_pos rfl]
    · rw[m2 _ (by omega) (by omega),w3 _ (by omega),if_neg (by omega),w2 _ (by omega)];rw[if_neg (by
       rintro⟨e1,e2⟩;rcases hcase with⟨_,e0⟩ | ⟨z,hz,r,hL,hzf,_⟩
       · exact e1 e0
       · have hz':=h.st.facts hz;have hap:=h.st.apart x hx z hz;rcases hap with e | e | e
         · rw[e]at e2;omega
         · omega
         · omega),w1 _ (by omega),if_neg (by omega),if_pos rfl]
      rw[hhead]
    · have hl:=h.links d hd
      cases hL:L d with
      | nil=>trivial
      | cons o r=>
       rw[hL]at hl hhead;obtain rfl:f=o:=hhead;obtain⟨_,l2',l3'⟩:=hl;have hof:∃y∈P,y.off=f/\f≠x.off:=by
        obtain⟨y,hy,e,_⟩:=h.mem d hd f (by rw[hL];simp);exact⟨y,hy,e,fun e2=>hn (by rw[hL,e2];simp)⟩
       have hf0:f≠0:=by
        obtain⟨y,hy,e,_⟩:=hof;have:=h.st.facts hy;omega
       refine⟨?_,?_,?_⟩
       · rw[hw f hof 16 (.inr rfl),if_pos ⟨hf0,rfl,rfl⟩]
       · rw[hw f hof 8 (.inl rfl),if_neg (by omega)];exact l2'
       · refine abX r _ _ (fun q hq=> ?_) l3';have hnd:=h.nodup d hd;rw[hL]at hnd;have hqf:q≠f:=fun e=>(List.nodup_cons.1 hnd).1 (e▸hq);have hqo:∃y∈P,y.off=q/\q≠x.off:=by
          obtain⟨y,hy,e,_⟩:=h.mem d hd q (by rw[hL];simp[hq]);exact⟨y,hy,e,fun e2=>hn (by rw[hL,<-e2];simp[hq])⟩
         rw[hw q hqo 16 (.inr rfl),hw q hqo 8 (.inl rfl),if_neg (by omega),if_neg (by omega)];exact⟨rfl,rfl⟩
  · rw[if_neg hdc];refine abX (L d) _ _ (fun q hq=> ?_) (h.links d hd);obtain⟨y,hy,e,_,hcl⟩:=h.mem d hd q hq;have hqx:q≠x.off:=fun e2=>by
     have:=h.st.uniq hy hx (by omega);subst this;rw[hc]at hcl;omega
    have hqf:¬(f≠0/\q=f/\(16:Nat)=16):=by
     rintro⟨e1,e2,_⟩;rcases hcase with⟨_,e0⟩ | ⟨z,hz,r,hL,hzf,_⟩
     · exact e1 e0
     · obtain⟨z2,hz2,e3,_,hcl2⟩:=h.mem c hc22 f (by rw[hL];simp);have:=h.st.uniq hy hz2 (by omega);subst this;rw[hcl]at hcl2;omega
    rw[hw q ⟨y,hy,e,hqx⟩ 16 (.inr rfl),hw q ⟨y,hy,e,hqx⟩ 8 (.inl rfl),if_neg hqf,if_neg (by omega)];exact⟨rfl,rfl⟩
 · unfold aga;by_cases hdc:d=c
   · subst hdc;rw[if_pos rfl];exact List.nodup_cons.2 ⟨hn,h.nodup d hd⟩
   · rw[if_neg hdc];exact h.nodup d hd
end
end Go.Proofs.YtncadccbepjekaaGreatDoor
