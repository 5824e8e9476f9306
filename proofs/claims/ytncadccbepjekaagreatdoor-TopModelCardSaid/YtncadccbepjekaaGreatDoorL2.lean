/- Texts of mine, joined. -/
import Derived.Laws.BitsAllLaws
import Derived.Laws.ResultCell
import Derived.Test.YtncadccbepjekaaGreatDoorChecked
import Derived.Deep.QuietTactic
import Derived.BigQuiet
import Derived.WalkSpells
import Derived.IntWalk
import Derived.Deep.Grids
import Derived.Deep.Fields
import Derived.Lib.SmallJoins
import Derived.Lib.Strings
import Derived.Lib.Slices
import Derived.Lib.Small
import Derived.Lib.Walk
import Derived.Lib.BitFns
import Derived.Test.YtncadccbepjekaaGreatDoorL1
set_option maxRecDepth 100000
set_option maxHeartbeats 4000000
namespace Go.Proofs.YtncadccbepjekaaGreatDoor
open Go.RowKit
theorem auN{k:IntKind}{a b:Int}(h:a=b):Ending.returned (.int k a)= .returned (.int k b):=by rw[h]
theorem asW{a b:Bool}(h:a=b):Ending.returned (.bool a)= .returned (.bool b):=by rw[h]
section
variable (w:World)
def aoO (o:Option (Nat × Bool)):Value:=match o with
 | some (s,u)=> .tuple #[.int .i64 (s:Int), .bool u, .bool true]
 | none=> .tuple #[.int .i64 0, .bool false, .bool false]
def anl (o:Option Nat):Value:=match o with
 | some s=> .tuple #[.int .i64 (s:Int), .bool true]
 | none=> .tuple #[.int .i64 0, .bool false]
end
theorem anm (v:Nat) (hv:v<=16385):wrap64 (bits .andNot .u64 (v:Int) 1)=((v-v%2:Nat):Int):=by
 have h:bits .andNot .u64 (v:Int) ((1:Nat):Int)=((v&&&(18446744073709551615-1):Nat):Int):=by
  have hx:v&&&(18446744073709551615-1)<2^64:=Nat.and_lt_two_pow _ (by omega);show IntKind.u64.wrap ((BitVec.ofInt 64 (v:Int)&&&~~~BitVec.ofInt 64 ((1:Nat):Int)).toNat:Int)=_;rw[BitVec.toNat_and,BitVec.toNat_not,ofInt_u64 v (by omega),ofInt_u64 1 (by omega),IntKind.wrap_u64];have e:2^64-1-1=18446744073709551615-1:=by omega
  rw[e];omega
 have h2:v&&&(18446744073709551615-1)=v-v%2:=by
  rw[nat_hi64_1,Nat.mod_eq_of_lt (by omega)];omega
 have h3:bits .andNot .u64 (v:Int) 1=((v-v%2:Nat):Int):=by rw[<-h2];exact h
 rw[h3];have h4:=Nat.sub_le v (v%2);unfold wrap64;omega
theorem atr (v:Nat) (hv:v<18446744073709551616):(bits .and .u64 (v:Int) 1==1)=(v%2==1):=by
 have h:bits .and .u64 (v:Int) 1=((v&&&1:Nat):Int):=u64_and_nat v 1 hv (by omega);rw[h,Nat.and_one_is_mod,Bool.eq_iff_iff,beq_iff_eq,beq_iff_eq];omega
section
variable (w:World)
theorem adp (n:Int) (hn: -9223372036854775808<=n/\n<=9223372036854775807) (b:Bool) (hb:aaG n=b):
 Calls Tryz.prog 184 #[.int .i64 n] w fun e w'=>e= .returned (.bool b)/\w=w':=by
 by_cases h1:32<=n
 · by_cases h2:n<=16384
   · have e:(n%16==0)=b:=by rw[<-hb];simp[aaG,h1,h2]
     have HE:=hE0 e;clear hb e;go_enter Tryz.func184,Tryz.ntmps184
     go_wp2
     go_ret
     exact⟨asW HE.out,rfl⟩
   · obtain rfl:false=b:=by rw[<-hb];simp[aaG,h2]
     clear hb;go_enter Tryz.func184,Tryz.ntmps184
     go_wp2
     go_ret
     exact⟨rfl,rfl⟩
 · obtain rfl:false=b:=by rw[<-hb];simp[aaG,h1]
   clear hb;go_enter Tryz.func184,Tryz.ntmps184
   go_wp2
   go_ret
   exact⟨rfl,rfl⟩
theorem ac7 (s:Int) (u:Bool) (hs: -9223372036854775808<=s/\s<=9223372036854775807) (m:Nat) (hm:acf s u=m):
 Calls Tryz.prog 122 #[.int .i64 s, .bool u] w fun e w'=>e= .returned (.int .u64 (m:Int))/\w=w':=by
 cases hb:aaG s
 · obtain rfl:0=m:=by rw[<-hm];simp[acf,hb]
   have HI:=hE0 (adp w s hs false hb);clear hm hb;go_enter Tryz.func122,Tryz.ntmps122
   go_wp2_with fail
   with_reducible refine HI.out.mono ?_
   rintro e w1 ⟨rfl,rfl⟩;go_wp2
   go_ret
   exact⟨rfl,rfl⟩
 · have h:=(aab s).1 hb;have HI:=hE0 (adp w s hs true hb);obtain⟨n,rfl⟩:∃n:Nat,s=(n:Int):=⟨s.toNat,by omega⟩;have hn:n<=16384:=by omega
   have HM:Hid (n+(if u=true then 1 else 0)=m):=(show _=_ by rw[<-hm];simp[acf,hb]);clear hm hb h
   cases u
   · go_enter Tryz.func122,Tryz.ntmps122
     go_wp2_with fail
     with_reducible refine HI.out.mono ?_
     rintro e w1 ⟨rfl,rfl⟩;go_wp2
     go_ret
     exact⟨auN (by have:=HM.out;simp at this;omega),rfl⟩
   · go_enter Tryz.func122,Tryz.ntmps122
     go_wp2_with fail
     with_reducible refine HI.out.mono ?_
     rintro e w1 ⟨rfl,rfl⟩;go_wp2
     go_ret
     exact⟨auN (by have:=HM.out;simp at this;omega),rfl⟩
theorem abl (v:Nat) (hv:v<18446744073709551616):
 Calls Tryz.prog 187 #[.int .u64 (v:Int)] w fun e w'=>e= .returned (aoO (adM v))/\w=w':=by
 by_cases h0:16385<v
 · have e:adM v=none:=by
    unfold adM;rw[if_neg];rintro⟨_,h⟩;have:=(aab _).1 h;omega
   rw[e];clear e;go_enter Tryz.func187,Tryz.ntmps187
   go_wp2
   go_ret3
   exact⟨rfl,rfl⟩
 · obtain⟨s,hs⟩:∃s:Nat,v-v%2=s:=⟨_,rfl⟩;have hs2:wrap64 (bits .andNot .u64 (v:Int) 1)=(s:Int):=by rw[anm v (by omega),hs]
   cases hb:aaG (s:Int)
   · have e:adM v=none:=by unfold adM;rw[hs,if_neg (by simp[hb])]
     rw[e];have HI:=hE0 (adp w (s:Int) (by have:=Nat.sub_le v (v%2);omega) false hb);have HS:=hE0 hs2;clear e hs hb hs2;go_enter Tryz.func187,Tryz.ntmps187
     go_wp2_with fail
     rw[HS.out]
     with_reducible refine HI.out.mono ?_
     rintro e w1 ⟨rfl,rfl⟩;go_wp2
     go_ret3
     exact⟨rfl,rfl⟩
   · have e:adM v=some (s,v%2==1):=by unfold adM;rw[hs,if_pos ⟨by omega,hb⟩]
     rw[e];have HI:=hE0 (adp w (s:Int) (by have:=Nat.sub_le v (v%2);omega) true hb);have HS:=hE0 hs2;have HB:=hE0 (atr v hv);clear e hs hb hs2;go_enter Tryz.func187,Tryz.ntmps187
     go_wp2_with fail
     rw[HS.out]
     with_reducible refine HI.out.mono ?_
     rintro e w1 ⟨rfl,rfl⟩;go_wp2
     go_ret3
     refine⟨?_,rfl⟩;rw[<-HB.out];rfl
end
structure Bk where
 off:Nat
 size:Nat
 used:Bool
deriving DecidableEq
def aaf (bs:List UInt8) (o:Nat):Nat:=ab2 ((bs.drop o).take 8)
def word? (bs:List UInt8) (o:Int):Option Nat:=if 0<=o/\o+8<=bs.length then some (aaf bs o.toNat) else none
def ak7 (n:Nat) (o size:Int):Bool:=decide (184<=o)&&(o%16==8&&(decide (o<=n)&&decide (size<=n-o)))
theorem aa5 (n:Nat) (o size:Int):ak7 n o size=true ↔ 184<=o/\o%16=8/\o<=n/\size<=n-o:=by simp[ak7]
def aa8 (bs:List UInt8) (o:Int):Option Bk:=
 if ak7 bs.length o 8=false then none else
 match adM (aaf bs o.toNat)with
 | none=>none
 | some (s,u)=>if ak7 bs.length o s=false then none else if aaf bs (o.toNat+s-8)=aaf bs o.toNat then some ⟨o.toNat,s,u⟩ else none
def abK (bs:List UInt8) (o:Int):Option Bk:=
 if o<184\/(bs.length:Int)<o then none else
 match adM (aaf bs (o.toNat-8))with
 | none=>none
 | some (s,u)=>match aa8 bs (o-s)with
  | none=>none
  | some x=>if x.size=s/\x.used=u then some x else none
def ac8 (bs:List UInt8):Nat->Nat->Option (List Bk)
 | 0,_=>none
 | k+1,o=>if o<bs.length then (match aa8 bs (o:Int)with
  | none=>none
  | some x=>(ac8 bs k (o+x.size)).map (x:: ·)) else some []
def abI (bs:List UInt8):Option (List Bk):=if bs.length<184 then none else ac8 bs (bs.length+1) 184
theorem aan (bs:List UInt8) (o:Nat):aaf bs o<18446744073709551616:=adO _ (by rw[List.length_take];omega)
theorem aay{bs:List UInt8}{o:Int}{x:Bk}(h:aa8 bs o=some x):o=(x.off:Int)/\184<=x.off/\x.off%16=8/\x.off+x.size<=bs.length/\aaG (x.size:Int)=true/\adM (aaf bs x.off)=some (x.size,x.used)/\aaf bs (x.off+x.size-8)=aaf bs x.off:=by
 unfold aa8 at h;split at h
 · cases h
 · rename_i hc;have hc':=(aa5 _ _ _).1 (by simpa using hc);split at h
   · cases h
   · rename_i s u hu;split at h
     · cases h
     · rename_i hc2;have hc2':=(aa5 _ _ _).1 (by simpa using hc2);split at h
       · rename_i hw;injection h with h;subst h;have:=ac4 hu;refine⟨by dsimp only;omega,by dsimp only;omega,by dsimp only;omega,by dsimp only;omega,this.1,hu,hw⟩
       · cases h
theorem ak8{bs:List UInt8}{x:Bk}(h1:184<=x.off) (h2:x.off%16=8) (h3:x.off+x.size<=bs.length) (h4:adM (aaf bs x.off)=some (x.size,x.used)) (h5:aaf bs (x.off+x.size-8)=aaf bs x.off):aa8 bs (x.off:Int)=some x:=by
 have hs:=(aab _).1 (ac4 h4).1;unfold aa8;rw[if_neg (by rw[(aa5 _ _ _).2 (by omega)];simp)];rw[Int.toNat_natCast,h4];dsimp only;rw[if_neg (by rw[(aa5 _ _ _).2 (by omega)];simp),if_pos h5]
def lyN (bs:List UInt8) (o v:Nat):List UInt8:=bs.take o++(aaJ 8 v++bs.drop (o+8))
theorem aah (bs:List UInt8) (o v:Nat) (h:o+8<=bs.length):(lyN bs o v).length=bs.length:=by
 unfold lyN;rw[List.length_append,List.length_append,aag,List.length_take,List.length_drop];omega
theorem adU (bs:List UInt8) (o v i:Nat) (h:o+8<=bs.length) (hi:i<o\/o+8<=i):(lyN bs o v)[i]?=bs[i]?:=by
 unfold lyN;have e1:(bs.take o).length=o:=by rw[List.length_take];omega
 rcases hi with hi | hi
 · rw[List.getElem?_append_left (by omega),List.getElem?_take_of_lt hi]
 · rw[List.getElem?_append_right (by omega),e1,List.getElem?_append_right (by rw[aag];omega),aag,List.getElem?_drop];congr 1;omega
theorem abC (bs:List UInt8) (o v:Nat) (h:o+8<=bs.length) (hv:v<18446744073709551616):aaf (lyN bs o v) o=v:=by
 have e1:(bs.take o).length=o:=by rw[List.length_take];omega
 have e:((lyN bs o v).drop o).take 8=aaJ 8 v:=by
  unfold lyN;rw[List.drop_append,e1,List.drop_eq_nil_of_le (by omega),List.nil_append,Nat.sub_self,List.drop_zero];have:=aag 8 v;rw[List.take_append_of_le_length (by omega),List.take_of_length_le (by omega)]
 unfold aaf;rw[e,acm];exact Nat.mod_eq_of_lt hv
theorem aaM (bs bs':List UInt8) (p:Nat) (h:∀i,p<=i->i<p+8->bs'[i]?=bs[i]?):aaf bs' p=aaf bs p:=by
 unfold aaf;congr 1;apply List.ext_getElem?;intro i;rcases Nat.lt_or_ge i 8 with hi | hi
 · rw[List.getElem?_take_of_lt hi,List.getElem?_take_of_lt hi,List.getElem?_drop,List.getElem?_drop];exact h _ (by omega) (by omega)
 · rw[List.getElem?_eq_none (by rw[List.length_take];omega),List.getElem?_eq_none (by rw[List.length_take];omega)]
theorem aaz (bs:List UInt8) (o v p:Nat) (h:o+8<=bs.length) (hd:p+8<=o\/o+8<=p):aaf (lyN bs o v) p=aaf bs p:=
 aaM _ _ _ fun i h1 h2=>adU bs o v i h (by omega)
theorem abV (bs bs':List UInt8) (x:Bk) (hl:bs'.length=bs.length) (hx:aa8 bs (x.off:Int)=some x) (h1:aaf bs' x.off=aaf bs x.off) (h2:aaf bs' (x.off+x.size-8)=aaf bs (x.off+x.size-8)):aa8 bs' (x.off:Int)=some x:=by
 obtain⟨_,g1,g2,g3,g4,g5,g6⟩:=aay hx;exact ak8 g1 g2 (by omega) (by rw[h1];exact g5) (by rw[h1,h2];exact g6)
def acC (w c:Nat):Bool:=w/2^c%2==1
theorem adV (w c:Nat):acC w (c+1)=acC (w/2) c:=by
 unfold acC;rw[Nat.pow_succ,Nat.mul_comm,Nat.div_div_eq_div_mul]
theorem aiF (w c:Nat) (h:acC w c=false) (d:Nat):acC (w+2^c) d=if d=c then true else acC w d:=by
 induction c generalizing w d with
 | zero=>
  have h0:w%2=0:=by
   unfold acC at h;simp at h;omega
  cases d with
  | zero=>simp[acC];omega
  | succ d=>
   rw[if_neg (by omega),adV,adV];congr 1;simp;omega
 | succ c ih=>
  rw[adV]at h;have e:(w+2^(c+1))/2=w/2+2^c:=by rw[Nat.pow_succ];omega
  cases d with
  | zero=>
   rw[if_neg (by omega)];simp only[acC,Nat.pow_zero,Nat.div_one];rw[Nat.pow_succ];congr 1;omega
  | succ d=>
   rw[adV,e,ih (w/2) h d,adV w d];by_cases hd:d=c
   · rw[if_pos hd,if_pos (by omega)]
   · rw[if_neg hd,if_neg (by omega)]
theorem aiG (w c:Nat) (h:acC w c=true):2^c<=w:=by
 unfold acC at h;rw[beq_iff_eq]at h;rcases Nat.lt_or_ge w (2^c)with h1 | h1
 · rw[Nat.div_eq_of_lt h1]at h;cases h
 · exact h1
theorem afr (w c:Nat) (h:acC w c=true):acC (w-2^c) c=false:=by
 have hg:=aiG w c h;have hp:0<2^c:=Nat.two_pow_pos c;unfold acC at h ⊢;rw[beq_iff_eq]at h;have e:w/2^c=(w-2^c)/2^c+1:=by
  conv=>lhs;rw[<-Nat.sub_add_cancel hg]
  rw[Nat.add_div_right _ hp]
 rw[e]at h;rw[beq_eq_false_iff_ne];omega
theorem amp (w c:Nat) (h:acC w c=true) (d:Nat):acC (w-2^c) d=if d=c then false else acC w d:=by
 have hg:=aiG w c h;have h0:=afr w c h;have:=aiF (w-2^c) c h0 d;rw[Nat.sub_add_cancel hg]at this;by_cases hd:d=c
 · rw[if_pos hd,hd];exact h0
 · rw[if_neg hd]at this ⊢;exact this.symm
theorem ak9 (w c:Nat) (hc:c<64) (hw:w<18446744073709551616) (h:acC w c=false):w+2^c<18446744073709551616:=by
 have e:(18446744073709551616:Nat)=2^(63-c)*2*2^c:=by
  rw[<-Nat.pow_succ,<-Nat.pow_add,show(63-c).succ+c=64 by omega]
 have hp:0<2^c:=Nat.two_pow_pos c;have h1:w/2^c<2^(63-c)*2:=by
  rw[Nat.div_lt_iff_lt_mul hp,<-e];exact hw
 have h2:w/2^c%2=0:=by
  unfold acC at h;rw[beq_eq_false_iff_ne]at h;omega
 have h3:w/2^c+2<=2^(63-c)*2:=by omega
 have h4:=Nat.div_add_mod w (2^c);have h5:=Nat.mod_lt w hp;have h6:(w/2^c+2)*2^c<=2^(63-c)*2*2^c:=Nat.mul_le_mul_right _ h3;rw[<-e,Nat.add_mul,Nat.mul_comm (w/2^c)]at h6;omega
def aos (bs:List UInt8) (o:Int):Nat:=(word? bs o).getD 0
def aa2 (bs:List UInt8) (o:Int):Int:=match aa8 bs o with
 | some x=>if x.used=true then-1 else aaq x.size
 | none=> -1
def aap (bs:List UInt8) (p:Nat) (c:Int):Bool:=decide (p<=20000)&&(match aa8 bs (p:Int)with
 | some x=> !x.used&&aaq x.size==c
 | none=>false)
def abJ (bs:List UInt8) (c:Nat):List UInt8:=
 if acC (aaf bs 0) c=true/\aaf bs (8+8*c)=0 then lyN bs 0 (aaf bs 0-2^c)
 else if acC (aaf bs 0) c=false/\aaf bs (8+8*c)≠0 then lyN bs 0 (aaf bs 0+2^c) else bs
def ahH (bs:List UInt8) (o:Int):Option (List UInt8):=
 if aa2 bs o<0 then none else
 let c:=(aa2 bs o).toNat
 let f:=aaf bs (8+8*c)
 if (f:Int)=o\/(f≠0/\aap bs f (c:Int)=false) then none else
 let b1:=lyN (lyN bs (o.toNat+8) f) (o.toNat+16) 0
 let b2:=if f≠0 then lyN b1 (f+16) o.toNat else b1
 some (abJ (lyN b2 (8+8*c) o.toNat) c)
def aeB (bs:List UInt8) (o:Int):Option (List UInt8):=
 if aa2 bs o<0 then none else
 let c:=(aa2 bs o).toNat
 let n:=aaf bs (o.toNat+8)
 let p:=aaf bs (o.toNat+16)
 if p=0/\(aaf bs (8+8*c):Int)≠o then none
 else if p≠0/\(aap bs p (c:Int)=false\/(aaf bs (p+8):Int)≠o) then none
 else if n≠0/\(aap bs n (c:Int)=false\/(aaf bs (n+16):Int)≠o) then none
 else
  let b1:=if p=0 then lyN bs (8+8*c) n else lyN bs (p+8) n
  let b2:=if n≠0 then lyN b1 (n+16) p else b1
  let b3:=if p≠0/\(aaf bs (8+8*c):Int)=o then lyN b2 (8+8*c) n else b2
  some (abJ b3 c)
def aeR (bs:List UInt8) (c:Nat):Nat->Nat->Nat->Option (List Nat)
 | k,last,p=>if p=0 then some [] else match k with
  | 0=>none
  | k+1=>if aap bs p (c:Int)=true/\aaf bs (p+16)=last then (aeR bs c k p (aaf bs (p+8))).map (p:: ·) else none
def afH (bs:List UInt8) (c:Nat):Option (List Nat):=
 if bs.length<184 then none
 else if acC (aaf bs 0) c≠decide (aaf bs (8+8*c)≠0) then none
 else aeR bs c 1024 0 (aaf bs (8+8*c))
structure Stands (bs:List UInt8) (P:List Bk):Prop where
 at_:∀x∈P,aa8 bs (x.off:Int)=some x
 apart:∀x∈P,∀y∈P,x=y\/x.off+x.size<=y.off\/y.off+y.size<=x.off
def aoP (bs:List UInt8):Nat->List Nat->Nat->Prop
 | _,[],_=>True
 | p,o::r,n=>aaf bs (o+16)=p/\aaf bs (o+8)=r.headD n/\aoP bs o r n
structure Lists (bs:List UInt8) (P:List Bk) (L:Nat->List Nat):Prop where
 len:184<=bs.length
 small:bs.length<=16384
 st:Stands bs P
 head:∀c,c<22->aaf bs (8+8*c)=(L c).headD 0
 bit:∀c,c<22->acC (aaf bs 0) c= !(L c).isEmpty
 mem:∀c,c<22->∀o∈L c,∃x∈P,x.off=o/\x.used=false/\aaq x.size=(c:Int)
 links:∀c,c<22->aoP bs 0 (L c) 0
 nodup:∀c,c<22->(L c).Nodup
theorem adq (bs:List UInt8) (l1 l2:List Nat) (p n:Nat):aoP bs p (l1++l2) n ↔ aoP bs p l1 (l2.headD n)/\aoP bs (l1.getLastD p) l2 n:=by
 induction l1 generalizing p with
 | nil=>simp[aoP]
 | cons o r ih=>
  have e:(r++l2).headD n=r.headD (l2.headD n):=by cases r<;>rfl
  have e2:(o::r).getLastD p=r.getLastD o:=by cases r<;>rfl
  simp only[List.cons_append,aoP,e,e2,ih];constructor
  · rintro⟨a,b,c,d⟩;exact⟨⟨a,b,c⟩,d⟩
  · rintro⟨⟨a,b,c⟩,d⟩;exact⟨a,b,c,d⟩
theorem abW{bs bs':List UInt8}:∀(l:List Nat) (p n:Nat),(∀o∈l,aaf bs' (o+16)=aaf bs (o+16)/\aaf bs' (o+8)=aaf bs (o+8))->aoP bs p l n->aoP bs' p l n
 | [],_,_,_,_=>trivial
 | o::r,p,n,h,hl=>by
  obtain⟨h1,h2⟩:=h o (by simp);obtain⟨a,b,c⟩:=hl;exact⟨h1.trans a,h2.trans b,abW r o n (fun q hq=>h q (by simp[hq])) c⟩
section
variable {bs:List UInt8} {P:List Bk} {L:Nat->List Nat}
theorem Stands.facts (h:Stands bs P){x:Bk}(hx:x∈P):184<=x.off/\x.off%16=8/\x.off+x.size<=bs.length/\32<=x.size/\x.size%16=0/\aaG (x.size:Int)=true:=by
 obtain⟨_,g1,g2,g3,g4,_⟩:=aay (h.at_ x hx);have:=(aab _).1 g4;exact⟨g1,g2,g3,by omega,by omega,g4⟩
theorem Stands.uniq (h:Stands bs P){x y:Bk}(hx:x∈P) (hy:y∈P) (e:x.off=y.off):x=y:=by
 have h1:=h.at_ x hx;rw[e,h.at_ y hy]at h1;injection h1 with h1;exact h1.symm
theorem Stands.lay (h:Stands bs P) (q v:Nat) (hq:q+8<=184\/∃y∈P,y.off+8<=q/\q+8<=y.off+y.size-8) (hl:184<=bs.length):Stands (lyN bs q v) P:=by
 have hqb:q+8<=bs.length:=by
  rcases hq with hq | ⟨y,hy,h1,h2⟩
  · omega
  · have:=h.facts hy;omega
 refine⟨fun x hx=> ?_,h.apart⟩;have hf:=h.facts hx;refine abV bs _ x (aah _ _ _ hqb) (h.at_ x hx) (aaz _ _ _ _ hqb ?_) (aaz _ _ _ _ hqb ?_)
 · rcases hq with hq | ⟨y,hy,h1,h2⟩
   · omega
   · have hy':=h.facts hy;rcases h.apart x hx y hy with rfl | h3 | h3
     · omega
     · omega
     · omega
 · rcases hq with hq | ⟨y,hy,h1,h2⟩
   · omega
   · have hy':=h.facts hy;rcases h.apart x hx y hy with rfl | h3 | h3
     · omega
     · omega
     · omega
theorem Lists.member (h:Lists bs P L){c o:Nat}(hc:c<22) (ho:o∈L c):aap bs o (c:Int)=true/\∃x∈P,x.off=o/\x.used=false/\aaq x.size=(c:Int):=by
 obtain⟨x,hx,rfl,hu,hcl⟩:=h.mem c hc o ho;have hf:=h.st.facts hx;have hs:=h.small;refine⟨?_,x,hx,rfl,hu,hcl⟩;unfold aap;rw[h.st.at_ x hx];simp[hu,hcl];omega
theorem ajI (h:Lists bs P L){c:Nat}(hc:c<22):∀(l:List Nat) (k p:Nat),(∀o∈l,o∈L c)->l.length<=k->aoP bs p l 0->aeR bs c k p (l.headD 0)=some l
 | [],k,_,_,_,_=>by cases k<;>simp[aeR]
 | o::r,0,_,_,hk,_=>by simp at hk
 | o::r,k+1,p,hm,hk,hl=>by
  obtain⟨l1,l2,l3⟩:=hl;obtain⟨m1,x,hx,rfl,_⟩:=h.member hc (hm o (by simp));have hf:=h.st.facts hx;have ih:=ajI h hc r k x.off (fun q hq=>hm q (by simp[hq])) (by simpa using hk) l3;show aeR bs c (k+1) p x.off=_;unfold aeR;rw[if_neg (by omega)];dsimp only;rw[if_pos ⟨m1,l1⟩,l2,ih];rfl
theorem Lists.all (h:Lists bs P L){c:Nat}(hc:c<22) (hl:(L c).length<=1024):afH bs c=some (L c):=by
 have hlen:=h.len;unfold afH;rw[if_neg (by omega),h.head c hc,h.bit c hc];have e:(!(L c).isEmpty)=decide ((L c).headD 0≠0):=by
  cases hL:L c with
  | nil=>rfl
  | cons o r=>
   obtain⟨_,x,hx,e,_⟩:=h.member hc (o:=o) (by rw[hL];simp);have hf:=h.st.facts hx;have:o≠0:=by omega
   simp[this]
 rw[if_neg (by rw[e];simp)];exact ajI h hc (L c) 1024 0 (fun _ h=>h) hl (h.links c hc)
end
theorem acF (bs:List UInt8) (q v p:Nat) (h:q+8<=bs.length) (hv:v<18446744073709551616) (hp:p%8=0) (hq:q%8=0):aaf (lyN bs q v) p=if p=q then v else aaf bs p:=by
 by_cases e:p=q
 · rw[if_pos e,e];exact abC bs q v h hv
 · rw[if_neg e];exact aaz bs q v p h (by omega)
theorem ahI (bs:List UInt8) (c:Nat) (hc:c<22) (hl:184<=bs.length):
 (abJ bs c).length=bs.length/\(∀p,p%8=0->p≠0->aaf (abJ bs c) p=aaf bs p)/\(∀d,acC (aaf (abJ bs c) 0) d=if d=c then decide (aaf bs (8+8*c)≠0) else acC (aaf bs 0) d)/\
 (∀P,Stands bs P->Stands (abJ bs c) P)/\∀i,8<=i->(abJ bs c)[i]?=bs[i]?:=by
 have hw:=aan bs 0;unfold abJ;by_cases h1:acC (aaf bs 0) c=true/\aaf bs (8+8*c)=0
 · rw[if_pos h1];have hv:aaf bs 0-2^c<18446744073709551616:=Nat.lt_of_le_of_lt (Nat.sub_le _ _) hw;refine⟨aah _ _ _ (by omega),fun p hp h0=> ?_,fun d=> ?_,fun P hP=>hP.lay 0 _ (.inl (by omega)) hl,fun i hi=>adU _ _ _ _ (by omega) (by omega)⟩
   · rw[acF _ _ _ _ (by omega) hv hp rfl,if_neg h0]
   · rw[abC _ _ _ (by omega) hv,amp _ _ h1.1,h1.2];simp
 · rw[if_neg h1];by_cases h2:acC (aaf bs 0) c=false/\aaf bs (8+8*c)≠0
   · rw[if_pos h2];have hv:=ak9 (aaf bs 0) c (by omega) hw h2.1;refine⟨aah _ _ _ (by omega),fun p hp h0=> ?_,fun d=> ?_,fun P hP=>hP.lay 0 _ (.inl (by omega)) hl,fun i hi=>adU _ _ _ _ (by omega) (by omega)⟩
     · rw[acF _ _ _ _ (by omega) hv hp rfl,if_neg h0]
     · rw[abC _ _ _ (by omega) hv,aiF _ _ h2.1];simp[h2.2]
   · rw[if_neg h2];refine⟨rfl,fun _ _ _=>rfl,fun d=> ?_,fun P hP=>hP,fun _ _=>rfl⟩;by_cases hd:d=c
     · rw[if_pos hd,hd]
       cases hb:acC (aaf bs 0) c with
       | true=>
        have:aaf bs (8+8*c)≠0:=fun e=>h1 ⟨hb,e⟩;simp[this]
       | false=>
        have:aaf bs (8+8*c)=0:=by
         rcases Nat.eq_zero_or_pos (aaf bs (8+8*c))with e | e
         · exact e
         · exact absurd ⟨hb,by omega⟩ h2
        simp[this]
     · rw[if_neg hd]
def Kept (P:List Bk) (bs bs':List UInt8):Prop:=∀i,184<=i->(∀y∈P,y.used=false->i<y.off+8\/y.off+24<=i)->bs'[i]?=bs[i]?
theorem Kept.refl (P:List Bk) (bs:List UInt8):Kept P bs bs:=fun _ _ _=>rfl
theorem Kept.trans{P:List Bk}{b1 b2 b3:List UInt8}(h:Kept P b1 b2) (k:Kept P b2 b3):Kept P b1 b3:=fun i h1 h2=>(k i h1 h2).trans (h i h1 h2)
theorem Kept.ly (P:List Bk) (bs:List UInt8) (q v:Nat) (h:q+8<=bs.length) (hq:q+8<=184\/∃y∈P,y.used=false/\(q=y.off+8\/q=y.off+16)):Kept P bs (lyN bs q v):=fun i h1 h2=>by
 refine adU _ _ _ _ h ?_;rcases hq with hq | ⟨y,hy,hu,hq⟩
 · omega
 · have:=h2 y hy hu;omega
def ahn (L:Nat->List Nat) (c:Nat) (l:List Nat) (d:Nat):List Nat:=if d=c then l else L d
section
variable {bs:List UInt8} {P:List Bk} {L:Nat->List Nat}
theorem abz{x:Bk}(hs:aaG (x.size:Int)=true):∃c:Nat,aaq (x.size:Int)=(c:Int)/\c<22:=by
 have h1:=acE (x.size:Int);have h2:¬aaq (x.size:Int)<0:=by rw[ahC];simp[hs]
 exact⟨(aaq (x.size:Int)).toNat,by omega,by omega⟩
theorem Lists.put (h:Lists bs P L){x:Bk}(hx:x∈P) (hu:x.used=false){c:Nat}(hc:aaq (x.size:Int)=(c:Int)) (hc22:c<22) (hn:x.off∉L c):
 ∃bs',ahH bs (x.off:Int)=some bs'/\Lists bs' P (ahn L c (x.off::L c))/\bs'.length=bs.length/\Kept P bs bs':=by
 have hf:=h.st.facts hx;have hlen:=h.len;have hsm:=h.small;have hfr:aa2 bs (x.off:Int)=(c:Int):=by unfold aa2;rw[h.st.at_ x hx];simp[hu,hc]
 have hhead:=h.head c hc22;obtain⟨f,hfe⟩:=nmE (aaf bs (8+8*c));have hflt:f<18446744073709551616:=by rw[<-hfe];exact aan _ _
 rw[hfe]at hhead;have hcase:(L c= []/\f=0)\/∃y∈P,∃r,L c=f::r/\y.off=f/\y.used=false/\aap bs f (c:Int)=true:=by
  cases hL:L c with
  | nil=>left;rw[hL]at hhead;exact⟨rfl,hhead⟩
  | cons o r=>
   right;rw[hL]at hhead;obtain rfl:f=o:=hhead;obtain⟨m1,y,hy,e,yu,_⟩:=h.member hc22 (o:=f) (by rw[hL];simp);exact⟨y,hy,r,rfl,e,yu,m1⟩
 have hput:ahH bs (x.off:Int)=some (abJ (lyN (if f≠0 then lyN (lyN (lyN bs (x.off+8) f) (x.off+16) 0) (f+16) x.off else lyN (lyN bs (x.off+8) f) (x.off+16) 0) (8+8*c) x.off) c):=by
  unfold ahH;rw[hfr,if_neg (by omega)];simp only[Int.toNat_natCast,hfe];rw[if_neg];rintro(e | ⟨e1,e2⟩)
  · rcases hcase with⟨_,e0⟩ | ⟨y,hy,r,hL,_⟩
    · omega
    · exact hn (by rw[hL,show x.off=f by omega];simp)
  · rcases hcase with⟨_,e0⟩ | ⟨y,hy,r,hL,_,_,m⟩
    · exact e1 e0
    · rw[m]at e2;cases e2
 obtain⟨b1,hb1⟩:=nmE (lyN (lyN bs (x.off+8) f) (x.off+16) 0);have l0:(lyN bs (x.off+8) f).length=bs.length:=aah _ _ _ (by omega);have l1:b1.length=bs.length:=by rw[<-hb1,aah _ _ _ (by omega)];exact l0
 have st1:Stands b1 P:=by
  rw[<-hb1];exact(h.st.lay (x.off+8) f (.inr ⟨x,hx,by omega,by omega⟩) hlen).lay _ _ (.inr ⟨x,hx,by omega,by omega⟩) (by omega)
 have w1:∀p,p%8=0->aaf b1 p=if p=x.off+16 then 0 else if p=x.off+8 then f else aaf bs p:=fun p hp=>by
  rw[<-hb1,acF _ _ _ _ (by omega) (by omega) hp (by omega),acF _ _ _ _ (by omega) hflt hp (by omega)]
 have k1:Kept P bs b1:=by
  rw[<-hb1];exact(Kept.ly P bs _ _ (by omega) (.inr ⟨x,hx,hu, .inl rfl⟩)).trans (Kept.ly P _ _ _ (by omega) (.inr ⟨x,hx,hu, .inr rfl⟩))
 rw[hb1]at hput;obtain⟨b2,hb2⟩:=nmE ((if f≠0 then lyN b1 (f+16) x.off else b1));have hb2f:b2.length=bs.length/\Stands b2 P/\(∀p,p%8=0->aaf b2 p=if f≠0/\p=f+16 then x.off else aaf b1 p)/\Kept P b1 b2:=by
  rcases hcase with⟨_,e0⟩ | ⟨y,hy,r,hL,hyf,hyu,_⟩
  · rw[if_neg (by omega)]at hb2;subst hb2;exact⟨l1,st1,fun p _=>by rw[if_neg (by omega)],Kept.refl _ _⟩
  · have hy':=h.st.facts hy;rw[if_pos (by omega)]at hb2;subst hb2;refine⟨by rw[aah _ _ _ (by omega)];exact l1,st1.lay _ _ (.inr ⟨y,hy,by omega,by omega⟩) (by omega),fun p hp=> ?_,Kept.ly P _ _ _ (by omega) (.inr ⟨y,hy,hyu, .inr (by omega)⟩)⟩;rw[acF _ _ _ _ (by omega) (by omega) hp (by omega)];by_cases e:p=f+16
    · rw[if_pos e,if_pos ⟨by omega,e⟩]
    · rw[if_neg e,if_neg (fun h=>e h.2)]
 obtain⟨l2,st2,w2,k2⟩:=hb2f;rw[hb2]at hput;obtain⟨b3,hb3⟩:=nmE (lyN b2 (8+8*c) x.off);have l3:b3.length=bs.length:=by rw[<-hb3,aah _ _ _ (by omega)];exact l2
 have st3:Stands b3 P:=by rw[<-hb3];exact st2.lay _ _ (.inl (by omega)) (by omega)
 have w3:∀p,p%8=0->aaf b3 p=if p=8+8*c then x.off else aaf b2 p:=fun p hp=>by
  rw[<-hb3,acF _ _ _ _ (by omega) (by omega) hp (by omega)]
 have k3:Kept P b2 b3:=by rw[<-hb3];exact Kept.ly P _ _ _ (by omega) (.inl (by omega))
 rw[hb3]at hput;obtain⟨m1,m2,m3,m4,m5⟩:=ahI b3 c hc22 (by omega);refine⟨_,hput,⟨by omega,by omega,m4 P st3,fun d hd=> ?_,fun d hd=> ?_,fun d hd o ho=> ?_,fun d hd=> ?_,fun d hd=> ?_⟩,by omega,((k1.trans k2).trans k3).trans fun i h1 _=>m5 i (by omega)⟩
 ·
  rw[m2 _ (by omega) (by omega),w3 _ (by omega)];unfold ahn;by_cases hdc:d=c
  · rw[if_pos (by omega),if_pos hdc];rfl
  · rw[if_neg (by omega),if_neg hdc,w2 _ (by omega),<-h.head d hd];have hn1:¬(f≠0/\8+8*d=f+16):=by
     rintro⟨h1,h2⟩;rcases hcase with⟨_,e0⟩ | ⟨y,hy,_,_,hyf,_⟩
     · exact h1 e0
     · have:=h.st.facts hy;omega
    rw[if_neg hn1,w1 _ (by omega),if_neg (by omega),if_neg (by omega)]
 ·
  rw[m3 d];unfold ahn;by_cases hdc:d=c
  · rw[if_pos hdc,if_pos hdc,w3 _ (by omega),if_pos rfl];have:x.off≠0:=by omega
    simp[this]
  · rw[if_neg hdc,if_neg hdc,<-h.bit d hd,w3 _ rfl,if_neg (by omega),w2 _ rfl];have hn1:¬(f≠0/\0=f+16):=by omega
    rw[if_neg hn1,w1 _ rfl,if_neg (by omega),if_neg (by omega)]
 ·
  unfold ahn at ho;by_cases hdc:d=c
  · subst hdc;rw[if_pos rfl]at ho;rcases List.mem_cons.1 ho with rfl | ho
    · exact⟨x,hx,rfl,hu,hc⟩
    · exact h.mem d hd o ho
  · rw[if_neg hdc]at ho;exact h.mem d hd o ho
 ·
  have hw:∀o,(∃y∈P,y.off=o/\o≠x.off)->∀k,k=8\/k=16->aaf (abJ b3 c) (o+k)=if f≠0/\o=f/\k=16 then x.off else aaf bs (o+k):=by
   rintro o ⟨y,hy,rfl,hne⟩ k hk;have hy':=h.st.facts hy;have hap:=h.st.apart x hx y hy;have hne2:y.off+k≠x.off+8/\y.off+k≠x.off+16:=by
    rcases hap with e | e | e
    · rw[e]at hne;exact absurd rfl hne
    · omega
    · omega
   rw[m2 _ (by omega) (by omega),w3 _ (by omega),if_neg (by omega),w2 _ (by omega),w1 _ (by omega),if_neg hne2.2,if_neg hne2.1];by_cases e:f≠0/\y.off=f/\k=16
   · rw[if_pos e,if_pos ⟨e.1,by omega⟩]
   · rw[if_neg e,if_neg];rintro⟨e1,e2⟩;rcases hcase with⟨_,e0⟩ | ⟨z,hz,r,hL,hzf,_⟩
     · exact e1 e0
     · have hz':=h.st.facts hz;refine e ⟨e1,?_,?_⟩
       · omega
       · omega
  unfold ahn;by_cases hdc:d=c
  · subst hdc;rw[if_pos rfl];refine⟨?_,?_,?_⟩
    · rw[m2 _ (by omega) (by omega),w3 _ (by omega),if_neg (by omega),w2 _ (by omega)];rw[if_neg (by
       rintro⟨e1,e2⟩;rcases hcase with⟨_,e0⟩ | ⟨z,hz,r,hL,hzf,_⟩
       · exact e1 e0
       · exact hn (by rw[hL,show x.off=f by omega];simp)),w1 _ (by omega),if_pos rfl]
    · rw[m2 _ (by omega) (by omega),w3 _ (by omega),if_neg (by omega),w2 _ (by omega)];rw[if_neg (by
       rintro⟨e1,e2⟩;rcases hcase with⟨_,e0⟩ | ⟨z,hz,r,hL,hzf,_⟩
       · exact e1 e0
       · have hz':=h.st.facts hz;have hap:=h.st.apart x hx z hz;rcases hap with e | e | e
         · rw[e]at e2;omega
         · omega
         · omega),w1 _ (by omega),if_neg (by omega),if_pos rfl]
      rw[hhead]
    · have hl:=h.links d hd
      cases hL:L d with
      | nil=>trivial
      | cons o r=>
       rw[hL]at hl hhead;obtain rfl:f=o:=hhead;obtain⟨_,l2',l3'⟩:=hl;have hof:∃y∈P,y.off=f/\f≠x.off:=by
        obtain⟨y,hy,e,_⟩:=h.mem d hd f (by rw[hL];simp);exact⟨y,hy,e,fun e2=>hn (by rw[hL,e2];simp)⟩
       have hf0:f≠0:=by
        obtain⟨y,hy,e,_⟩:=hof;have:=h.st.facts hy;omega
       refine⟨?_,?_,?_⟩
       · rw[hw f hof 16 (.inr rfl),if_pos ⟨hf0,rfl,rfl⟩]
       · rw[hw f hof 8 (.inl rfl),if_neg (by omega)];exact l2'
       · refine abW r _ _ (fun q hq=> ?_) l3';have hnd:=h.nodup d hd;rw[hL]at hnd;have hqf:q≠f:=fun e=>(List.nodup_cons.1 hnd).1 (e▸hq);have hqo:∃y∈P,y.off=q/\q≠x.off:=by
          obtain⟨y,hy,e,_⟩:=h.mem d hd q (by rw[hL];simp[hq]);exact⟨y,hy,e,fun e2=>hn (by rw[hL,<-e2];simp[hq])⟩
         rw[hw q hqo 16 (.inr rfl),hw q hqo 8 (.inl rfl),if_neg (by omega),if_neg (by omega)];exact⟨rfl,rfl⟩
  · rw[if_neg hdc];refine abW (L d) _ _ (fun q hq=> ?_) (h.links d hd);obtain⟨y,hy,e,_,hcl⟩:=h.mem d hd q hq;have hqx:q≠x.off:=fun e2=>by
     have:=h.st.uniq hy hx (by omega);subst this;rw[hc]at hcl;omega
    have hqf:¬(f≠0/\q=f/\(16:Nat)=16):=by
     rintro⟨e1,e2,_⟩;rcases hcase with⟨_,e0⟩ | ⟨z,hz,r,hL,hzf,_⟩
     · exact e1 e0
     · obtain⟨z2,hz2,e3,_,hcl2⟩:=h.mem c hc22 f (by rw[hL];simp);have:=h.st.uniq hy hz2 (by omega);subst this;rw[hcl]at hcl2;omega
    rw[hw q ⟨y,hy,e,hqx⟩ 16 (.inr rfl),hw q ⟨y,hy,e,hqx⟩ 8 (.inl rfl),if_neg hqf,if_neg (by omega)];exact⟨rfl,rfl⟩
 · unfold ahn;by_cases hdc:d=c
   · subst hdc;rw[if_pos rfl];exact List.nodup_cons.2 ⟨hn,h.nodup d hd⟩
   · rw[if_neg hdc];exact h.nodup d hd
end
theorem adW (w c:Nat):acC w c=w.testBit c:=by
 unfold acC;rw[Nat.testBit_eq_decide_div_mod_eq,Bool.eq_iff_iff,beq_iff_eq,decide_eq_true_eq]
theorem ala (c:Nat) (hc:c<22):2^c<=2097152:=Nat.pow_le_pow_right (n:=2) (by decide) (show c<=21 by omega)
def aeT (v c:Nat) (b:Bool):Nat:=if b then (if acC v c then v else v+2^c) else (if acC v c then v-2^c else v)
theorem aiH (v c:Nat) (hc:c<22) (hv:v<18446744073709551616) (b:Bool):aeT v c b<18446744073709551616:=by
 unfold aeT
 cases hb:acC v c with
 | true=>
  have:=Nat.sub_le v (2^c)
  cases b<;>simp<;>omega
 | false=>
  have:=ak9 v c (by omega) hv hb
  cases b<;>simp<;>omega
theorem aoQ (v c:Nat):acC (aeT v c false) c=false:=by
 unfold aeT
 cases hb:acC v c with
 | true=>simpa using afr v c hb
 | false=>simpa using hb
theorem aru (v c:Nat):aeT v c true=aeT v c false+2^c:=by
 unfold aeT
 cases hb:acC v c with
 | true=>
  have:=aiG v c hb;simp;omega
 | false=>simp
theorem att (v c:Nat) (hv:v<18446744073709551616) (hc:c<22):(bits .and .u64 (v:Int) ((2^c:Nat):Int) !=0)=acC v c:=by
 have hp:0<2^c:=Nat.two_pow_pos c;rw[u64_and_nat v (2^c) hv (by have:=ala c hc;omega),nat_bit];unfold acC;have h:v/2^c%2=0\/v/2^c%2=1:=by omega
 rcases h with h | h
 · rw[h];simp
 · rw[h,Nat.one_mul,Bool.eq_iff_iff,bne_iff_ne];simp only[beq_self_eq_true,iff_true];omega
theorem ahJ (v c:Nat) (hv:v<18446744073709551616) (hc:c<22):bits .andNot .u64 (v:Int) ((2^c:Nat):Int)=(aeT v c false:Int):=by
 have h22:=ala c hc;rw[u64_andNot_nat v (2^c) hv (by omega)];refine congrArg Int.ofNat (Nat.eq_of_testBit_eq fun d=> ?_);have e:18446744073709551615-2^c=2^64-(2^c+1):=by omega
 rw[Nat.testBit_and,e,Nat.testBit_two_pow_sub_succ (by omega),Nat.testBit_two_pow];unfold aeT;have hbig:64<=d->v.testBit d=false:=fun h=>Nat.testBit_lt_two_pow (Nat.lt_of_lt_of_le hv (Nat.pow_le_pow_right (n:=2) (by decide) h))
 cases hb:acC v c with
 | true=>
  have h2:=amp v c hb d;rw[adW,adW]at h2;simp only[if_true,Bool.false_eq_true,if_false];rw[h2];by_cases hd:d=c
  · rw[if_pos hd,hd];simp
  · rw[if_neg hd];by_cases h64:d<64
    · simp[h64,Ne.symm hd]
    · rw[hbig (by omega)];simp
 | false=>
  simp only[Bool.false_eq_true,if_false];by_cases hd:d=c
  · rw[adW]at hb;rw[hd,hb];simp
  · by_cases h64:d<64
    · simp[h64,Ne.symm hd]
    · rw[hbig (by omega)];simp
theorem auO (v c:Nat) (hv:v<18446744073709551616) (hc:c<22) (hb:acC v c=false):bits .or .u64 (v:Int) ((2^c:Nat):Int)=((v+2^c:Nat):Int):=by
 have h22:=ala c hc;rw[u64_or_nat v (2^c) hv (by omega)];refine congrArg Int.ofNat (Nat.eq_of_testBit_eq fun d=> ?_);have h2:=aiF v c hb d;rw[adW,adW]at h2;rw[Nat.testBit_or,Nat.testBit_two_pow,h2];by_cases hd:d=c
 · rw[if_pos hd,hd];simp
 · rw[if_neg hd];simp[Ne.symm hd]
theorem aiI (bs:List UInt8) (o:Nat) (h:o+8<=bs.length):lyN bs o (aaf bs o)=bs:=by
 have e:aaJ 8 (ab2 ((bs.drop o).take 8))=(bs.drop o).take 8:=by
  have:=agl ((bs.drop o).take 8);rwa [List.length_take,List.length_drop,Nat.min_eq_left (by omega)]at this
 unfold lyN aaf;rw[e,<-List.drop_drop,List.take_append_drop,List.take_append_drop]
theorem amq (bs:List UInt8) (c:Nat) (hl:8<=bs.length):abJ bs c=lyN bs 0 (aeT (aaf bs 0) c (decide (aaf bs (8+8*c)≠0))):=by
 have hs:=aiI bs 0 (by omega);unfold abJ aeT;by_cases h0:aaf bs (8+8*c)=0
 · cases hb:acC (aaf bs 0) c<;>simp[h0,hs]
 · cases hb:acC (aaf bs 0) c<;>simp[h0,hs]
theorem ajJ (bs:List UInt8) (p c:Nat):aap bs p (c:Int)=(decide (p<=20000)&&(aa2 bs (p:Int)==(c:Int))):=by
 unfold aap aa2;congr 1
 cases hg:aa8 bs (p:Int)with
 | none=>simp
 | some x=>
  cases hu:x.used with
  | true=>simp[hu]
  | false=>simp[hu]
def abr (bs:List UInt8) (c v k u:Nat):Bool:=aap bs v (c:Int)&&(aaf bs (v+k)==u)
theorem aaN{bs:List UInt8}{p c:Nat}(h:aap bs p (c:Int)=true):184<=p/\p+32<=bs.length:=by
 unfold aap at h
 cases hg:aa8 bs (p:Int)with
 | none=>rw[hg]at h;simp at h
 | some y=>
  obtain⟨r1,r2,_,r3,r4,_⟩:=aay hg;have:=(aab _).1 r4;omega
theorem aa6{bs:List UInt8}{o:Int}{c:Nat}(h:aa2 bs o=(c:Int)):184<=o/\o+32<=bs.length/\c<22:=by
 unfold aa2 at h
 cases hg:aa8 bs o with
 | none=>rw[hg]at h;dsimp only at h;omega
 | some y=>
  obtain⟨r1,r2,_,r3,r4,_⟩:=aay hg;have:=(aab _).1 r4;obtain⟨d,hd,hd2⟩:=abz r4;rw[hg]at h;dsimp only at h;split at h<;>omega
theorem aeC (bs:List UInt8) (o:Int):aa2 bs o<0\/∃c:Nat,aa2 bs o=(c:Int):=by
 by_cases h:aa2 bs o<0
 · exact .inl h
 · exact .inr ⟨(aa2 bs o).toNat,by omega⟩
section
variable {bs:List UInt8} {P:List Bk} {L:Nat->List Nat}
theorem Lists.take (h:Lists bs P L){x:Bk}(hx:x∈P){c:Nat}(hc22:c<22) (ho:x.off∈L c):
 ∃bs',aeB bs (x.off:Int)=some bs'/\Lists bs' P (ahn L c ((L c).filter fun q=>decide (q≠x.off)))/\bs'.length=bs.length/\Kept P bs bs':=by
 have hf:=h.st.facts hx;have hlen:=h.len;have hsm:=h.small;obtain⟨hxu,hxc⟩:x.used=false/\aaq (x.size:Int)=(c:Int):=by
  obtain⟨y,hy,e,hu,hcl⟩:=h.mem c hc22 x.off ho;have:=h.st.uniq hy hx e;subst this;exact⟨hu,hcl⟩
 have hfr:aa2 bs (x.off:Int)=(c:Int):=by unfold aa2;rw[h.st.at_ x hx];simp[hxu,hxc]
 obtain⟨l1,l2,hL⟩:=List.append_of_mem ho;have hnd:=h.nodup c hc22;have hlk:=h.links c hc22;rw[hL]at hnd hlk;have hn1:x.off∉l1:=fun e=>by
  have:=(List.nodup_append.1 hnd).2.2 x.off e x.off (by simp);exact this rfl
 have hn2:x.off∉l2:=(List.nodup_cons.1 (List.nodup_append.1 hnd).2.1).1;have hnd12:(l1++l2).Nodup:=by
  refine List.nodup_append.2 ⟨(List.nodup_append.1 hnd).1,(List.nodup_cons.1 (List.nodup_append.1 hnd).2.1).2,fun a ha b hb=> ?_⟩;exact(List.nodup_append.1 hnd).2.2 a ha b (by simp[hb])
 have hfil:(L c).filter (fun q=>decide (q≠x.off))=l1++l2:=by
  rw[hL,List.filter_append,List.filter_cons_of_neg (by simp)];congr 1
  · exact List.filter_eq_self.2 fun a ha=>by simpa using fun e:a=x.off=>hn1 (e▸ha)
  · exact List.filter_eq_self.2 fun a ha=>by simpa using fun e:a=x.off=>hn2 (e▸ha)
 rw[hfil];rw[adq]at hlk;obtain⟨hk1,hk2,hk3,hk4⟩:=hlk;obtain⟨p,hp⟩:=nmE (l1.getLastD 0);obtain⟨n,hn⟩:=nmE (l2.headD 0);rw[hp]at hk2;rw[hn]at hk3;have inP:∀q,q∈L c->aap bs q (c:Int)=true/\∃y∈P,y.off=q/\y.used=false:=fun q hq=>by
  obtain⟨m,y,hy,e,hu,_⟩:=h.member hc22 hq;exact⟨m,y,hy,e,hu⟩
 have hpc:(l1= []/\p=0)\/∃l,l1=l++ [p]/\p∈L c/\p≠x.off:=by
  rcases List.eq_nil_or_concat l1 with e | ⟨l,q,e⟩
  · left;subst e;exact⟨rfl,hp.symm⟩
  · right;subst e;have:q=p:=by rw[<-hp];simp
    subst this;exact⟨l,by simp,by rw[hL];simp,fun e=>hn1 (by rw[<-e];simp)⟩
 have hnc:(l2= []/\n=0)\/∃r,l2=n::r/\n∈L c/\n≠x.off:=by
  cases l2 with
  | nil=>left;exact⟨rfl,hn.symm⟩
  | cons q r=>
   right;obtain rfl:q=n:=hn;exact⟨r,rfl,by rw[hL];simp,fun e=>hn2 (by rw[<-e];simp)⟩
 have hpn:p≠0->n≠0->p≠n:=fun e1 e2 e=>by
  rcases hpc with⟨_,e0⟩ | ⟨l,el,_⟩
  · exact e1 e0
  · rcases hnc with⟨_,e0⟩ | ⟨r,er,_⟩
    · exact e2 e0
    · have:=(List.nodup_append.1 hnd12).2.2 p (by rw[el];simp) n (by rw[er];simp);exact this e
 have hplt:p<18446744073709551616:=by rw[<-hk2];exact aan _ _
 have hnlt:n<18446744073709551616:=by rw[<-hk3];exact aan _ _
 have hfirst:¬(p≠0/\(aaf bs (8+8*c):Int)=(x.off:Int)):=by
  rintro⟨e1,e2⟩;rcases hpc with⟨_,e0⟩ | ⟨l,el,_⟩
  · exact e1 e0
  · have hh:=h.head c hc22;rw[hL,el]at hh;refine hn1 ?_;rw[el]
    cases l with
    | nil=>
     have hh:aaf bs (8+8*c)=p:=hh;rw[show x.off=p by omega];simp
    | cons q r=>
     have hh:aaf bs (8+8*c)=q:=hh;rw[show x.off=q by omega];simp
 have hput:aeB bs (x.off:Int)=some (abJ (if n≠0 then lyN (if p=0 then lyN bs (8+8*c) n else lyN bs (p+8) n) (n+16) p else (if p=0 then lyN bs (8+8*c) n else lyN bs (p+8) n)) c):=by
  unfold aeB;rw[hfr,if_neg (by omega)];simp only[Int.toNat_natCast,hk2,hk3];rw[if_neg,if_neg,if_neg,if_neg hfirst]
  · rintro⟨e1,e2⟩;rcases hnc with⟨_,e0⟩ | ⟨r,er,hm,_⟩
    · exact e1 e0
    · rcases e2 with e2 | e2
      · rw[(inP n hm).1]at e2;cases e2
      · rw[er]at hk4;exact e2 (by rw[hk4.1])
  · rintro⟨e1,e2⟩;rcases hpc with⟨_,e0⟩ | ⟨l,el,hm,_⟩
    · exact e1 e0
    · rcases e2 with e2 | e2
      · rw[(inP p hm).1]at e2;cases e2
      · rw[el,adq]at hk1;exact e2 (by rw[hk1.2.2.1];rfl)
  · rintro⟨e1,e2⟩;rcases hpc with⟨e0,_⟩ | ⟨l,el,hm,_⟩
    · have:=h.head c hc22;rw[hL,e0]at this;exact e2 (by rw[this];rfl)
    · obtain⟨_,y,hy,e,_⟩:=inP p hm;have:=h.st.facts hy;omega
 obtain⟨b1,hb1⟩:∃b1,(if p=0 then lyN bs (8+8*c) n else lyN bs (p+8) n)=b1:=⟨_,rfl⟩;have f1:b1.length=bs.length/\Stands b1 P/\(∀q,q%8=0->aaf b1 q=if q=(if p=0 then 8+8*c else p+8) then n else aaf bs q)/\Kept P bs b1:=by
  rcases hpc with⟨_,e0⟩ | ⟨l,el,hm,_⟩
  · rw[if_pos e0]at hb1;subst hb1;refine⟨aah _ _ _ (by omega),h.st.lay _ _ (.inl (by omega)) hlen,fun q hq=> ?_,Kept.ly P _ _ _ (by omega) (.inl (by omega))⟩;rw[acF _ _ _ _ (by omega) hnlt hq (by omega),if_pos e0]
  · obtain⟨_,y,hy,e,hu⟩:=inP p hm;have hy':=h.st.facts hy;have e0:p≠0:=by omega
    rw[if_neg e0]at hb1;subst hb1;refine⟨aah _ _ _ (by omega),h.st.lay _ _ (.inr ⟨y,hy,by omega,by omega⟩) hlen,fun q hq=> ?_,Kept.ly P _ _ _ (by omega) (.inr ⟨y,hy,hu, .inl (by omega)⟩)⟩;rw[acF _ _ _ _ (by omega) hnlt hq (by omega),if_neg e0]
 obtain⟨g1,st1,w1,k1⟩:=f1;rw[hb1]at hput;obtain⟨b2,hb2⟩:=nmE ((if n≠0 then lyN b1 (n+16) p else b1));have f2:b2.length=bs.length/\Stands b2 P/\(∀q,q%8=0->aaf b2 q=if n≠0/\q=n+16 then p else aaf b1 q)/\Kept P b1 b2:=by
  rcases hnc with⟨_,e0⟩ | ⟨r,er,hm,_⟩
  · rw[if_neg (by omega)]at hb2;subst hb2;exact⟨g1,st1,fun q _=>by rw[if_neg (by omega)],Kept.refl _ _⟩
  · obtain⟨_,y,hy,e,hu⟩:=inP n hm;have hy':=h.st.facts hy;have e0:n≠0:=by omega
    rw[if_pos e0]at hb2;subst hb2;refine⟨by rw[aah _ _ _ (by omega)];exact g1,st1.lay _ _ (.inr ⟨y,hy,by omega,by omega⟩) (by omega),fun q hq=> ?_,Kept.ly P _ _ _ (by omega) (.inr ⟨y,hy,hu, .inr (by omega)⟩)⟩;rw[acF _ _ _ _ (by omega) hplt hq (by omega)];by_cases e2:q=n+16
    · rw[if_pos e2,if_pos ⟨e0,e2⟩]
    · rw[if_neg e2,if_neg (fun h=>e2 h.2)]
 obtain⟨g2,st2,w2,k2⟩:=f2;rw[hb2]at hput;obtain⟨m1,m2,m3,m4,m5⟩:=ahI b2 c hc22 (by omega);have n184:n=0\/(184<=n/\n%16=8):=by
  rcases hnc with⟨_,e0⟩ | ⟨r,er,hm,_⟩
  · exact .inl e0
  · obtain⟨_,y,hy,e,_⟩:=inP n hm;have:=h.st.facts hy;omega
 have p184:p=0\/(184<=p/\p%16=8):=by
  rcases hpc with⟨_,e0⟩ | ⟨r,er,hm,_⟩
  · exact .inl e0
  · obtain⟨_,y,hy,e,_⟩:=inP p hm;have:=h.st.facts hy;omega
 have hhead:aaf b2 (8+8*c)=(l1++l2).headD 0:=by
  rw[w2 _ (by omega),if_neg (by omega),w1 _ (by omega)];have hh:=h.head c hc22;rw[hL]at hh;rcases hpc with⟨el,e0⟩ | ⟨l,el,_⟩
  · rw[if_pos e0,if_pos rfl,el,<-hn];rfl
  · have e0:p≠0:=by
     rcases p184 with e | e
     · obtain⟨_,y,hy,e2,_⟩:=inP p (by rw[hL,el];simp);have:=h.st.facts hy;omega
     · omega
    rw[if_neg e0,if_neg (by omega),hh,el]
    cases l<;>rfl
 have hw:∀o,(∃y∈P,y.off=o)->∀k,k=8\/k=16->aaf (abJ b2 c) (o+k)=if p≠0/\o=p/\k=8 then n else if n≠0/\o=n/\k=16 then p else aaf bs (o+k):=by
  rintro o ⟨y,hy,rfl⟩ k hk;have hy':=h.st.facts hy;rw[m2 _ (by omega) (by omega),w2 _ (by omega),w1 _ (by omega)];by_cases e1:p≠0/\y.off=p/\k=8
  · rw[if_pos e1,if_neg (by omega),if_pos (by rw[if_neg e1.1];omega)]
  · rw[if_neg e1];by_cases e2:n≠0/\y.off=n/\k=16
    · rw[if_pos e2,if_pos (by omega)]
    · rw[if_neg e2,if_neg (by omega),if_neg];by_cases e0:p=0
      · rw[if_pos e0];omega
      · rw[if_neg e0];omega
 refine⟨_,hput,⟨by omega,by omega,m4 P st2,fun d hd=> ?_,fun d hd=> ?_,fun d hd o ho=> ?_,fun d hd=> ?_,fun d hd=> ?_⟩,by omega,(k1.trans k2).trans fun i h1 _=>m5 i (by omega)⟩
 · rw[m2 _ (by omega) (by omega)];unfold ahn;by_cases hdc:d=c
   · subst hdc;rw[if_pos rfl];exact hhead
   · rw[if_neg hdc,<-h.head d hd,w2 _ (by omega),if_neg (by omega),w1 _ (by omega),if_neg];by_cases e0:p=0
     · rw[if_pos e0];omega
     · rw[if_neg e0];omega
 · rw[m3 d];unfold ahn;by_cases hdc:d=c
   · rw[if_pos hdc,if_pos hdc,hhead]
     cases hl:l1++l2 with
     | nil=>rfl
     | cons q r=>
      have hq:q∈L c:=by
       rw[hL];have:q∈l1++l2:=by rw[hl];simp
       rcases List.mem_append.1 this with h1 | h1
       · exact List.mem_append_left _ h1
       · exact List.mem_append_right _ (List.mem_cons_of_mem _ h1)
      obtain⟨_,y,hy,e,_⟩:=inP q hq;have:=h.st.facts hy;have h0:q≠0:=by omega
      simp[h0]
   · rw[if_neg hdc,if_neg hdc,<-h.bit d hd,w2 _ rfl,if_neg (by omega),w1 _ rfl,if_neg];by_cases e0:p=0
     · rw[if_pos e0];omega
     · rw[if_neg e0];omega
 · unfold ahn at ho;by_cases hdc:d=c
   · subst hdc;rw[if_pos rfl]at ho;refine h.mem d hd o ?_;rw[hL];rcases List.mem_append.1 ho with h1 | h1
     · exact List.mem_append_left _ h1
     · exact List.mem_append_right _ (List.mem_cons_of_mem _ h1)
   · rw[if_neg hdc]at ho;exact h.mem d hd o ho
 · unfold ahn;by_cases hdc:d=c
   · subst hdc;rw[if_pos rfl,adq,hp,hn];have inl1:∀q∈l1,∃y∈P,y.off=q:=fun q hq=>by
      obtain⟨_,y,hy,e,_⟩:=inP q (by rw[hL];simp[hq]);exact⟨y,hy,e⟩
     have inl2:∀q∈l2,∃y∈P,y.off=q:=fun q hq=>by
      obtain⟨_,y,hy,e,_⟩:=inP q (by rw[hL];simp[hq]);exact⟨y,hy,e⟩
     have ne12:∀q∈l1,n≠0->q≠n:=fun q hq e0 e=>by
      rcases hnc with⟨_,e1⟩ | ⟨r,er,_⟩
      · exact e0 e1
      · exact(List.nodup_append.1 hnd12).2.2 q hq n (by rw[er];simp) e
     have ne21:∀q∈l2,p≠0->q≠p:=fun q hq e0 e=>by
      rcases hpc with⟨_,e1⟩ | ⟨l,el,_⟩
      · exact e0 e1
      · exact(List.nodup_append.1 hnd12).2.2 p (by rw[el];simp) q hq e.symm
     refine⟨?_,?_⟩
     · rcases hpc with⟨el,e0⟩ | ⟨l,el,_⟩
       · rw[el];trivial
       · have e0:p≠0:=by
          obtain⟨y,hy,e2⟩:=inl1 p (by rw[el];simp);have:=h.st.facts hy;omega
         rw[el,adq]at hk1 ⊢;obtain⟨hq1,hq2,hq3,_⟩:=hk1;have hpl:p∉l:=fun e=>by
          have:=(List.nodup_append.1 hnd12).1;rw[el]at this;exact(List.nodup_append.1 this).2.2 p e p (by simp) rfl
         refine⟨abW l _ _ (fun q hq=> ?_) hq1,?_,?_,trivial⟩
         · have hqi:=inl1 q (by rw[el];simp[hq]);have hqp:q≠p:=fun e=>hpl (e▸hq);have hqn:=ne12 q (by rw[el];simp[hq]);rw[hw q hqi 16 (.inr rfl),hw q hqi 8 (.inl rfl),if_neg (by omega),if_neg (fun e=>hqn e.1 e.2.1),if_neg (fun e=>hqp e.2.1),if_neg (by omega)];exact⟨rfl,rfl⟩
         · rw[hw p (inl1 p (by rw[el];simp)) 16 (.inr rfl),if_neg (by omega),if_neg (fun e=>hpn e0 e.1 e.2.1)];exact hq2
         · rw[hw p (inl1 p (by rw[el];simp)) 8 (.inl rfl),if_pos ⟨e0,rfl,rfl⟩];rfl
     · rcases hnc with⟨er,e0⟩ | ⟨r,er,_⟩
       · rw[er];trivial
       · have e0:n≠0:=by
          obtain⟨y,hy,e2⟩:=inl2 n (by rw[er];simp);have:=h.st.facts hy;omega
         rw[er]at hk4 ⊢;obtain⟨hq1,hq2,hq3⟩:=hk4;have hnr:n∉r:=fun e=>by
          have:=(List.nodup_append.1 hnd12).2.1;rw[er]at this;exact(List.nodup_cons.1 this).1 e
         refine⟨?_,?_,abW r _ _ (fun q hq=> ?_) hq3⟩
         · rw[hw n (inl2 n (by rw[er];simp)) 16 (.inr rfl),if_neg (by omega),if_pos ⟨e0,rfl,rfl⟩]
         · rw[hw n (inl2 n (by rw[er];simp)) 8 (.inl rfl),if_neg (fun e=>ne21 n (by rw[er];simp) e.1 e.2.1),if_neg (by omega)];exact hq2
         · have hqi:=inl2 q (by rw[er];simp[hq]);have hqn:q≠n:=fun e=>hnr (e▸hq);have hqp:=ne21 q (by rw[er];simp[hq]);rw[hw q hqi 16 (.inr rfl),hw q hqi 8 (.inl rfl),if_neg (by omega),if_neg (fun e=>hqn e.2.1),if_neg (fun e=>hqp e.1 e.2.1),if_neg (by omega)];exact⟨rfl,rfl⟩
   · rw[if_neg hdc];refine abW (L d) _ _ (fun q hq=> ?_) (h.links d hd);obtain⟨y,hy,e,_,hcl⟩:=h.mem d hd q hq;have other:∀z,z∈L c->q≠z:=fun z hz e2=>by
      obtain⟨z2,hz2,e3,_,hcl2⟩:=h.mem c hc22 z hz;have:=h.st.uniq hy hz2 (by omega);subst this;rw[hcl]at hcl2;omega
     have hqp:¬(p≠0/\q=p):=by
      rintro⟨e1,e2⟩;rcases hpc with⟨_,e0⟩ | ⟨l,el,hm,_⟩
      · exact e1 e0
      · exact other p hm e2
     have hqn:¬(n≠0/\q=n):=by
      rintro⟨e1,e2⟩;rcases hnc with⟨_,e0⟩ | ⟨l,el,hm,_⟩
      · exact e1 e0
      · exact other n hm e2
     rw[hw q ⟨y,hy,e⟩ 16 (.inr rfl),hw q ⟨y,hy,e⟩ 8 (.inl rfl),if_neg (fun e=>hqp ⟨e.1,e.2.1⟩),if_neg (fun e=>hqn ⟨e.1,e.2.1⟩),if_neg (fun e=>hqp ⟨e.1,e.2.1⟩),if_neg (fun e=>hqn ⟨e.1,e.2.1⟩)];exact⟨rfl,rfl⟩
 · unfold ahn;by_cases hdc:d=c
   · rw[if_pos hdc];exact hnd12
   · rw[if_neg hdc];exact h.nodup d hd
end
def aot (x:Bk):Nat:=acf (x.size:Int) x.used
def aaY (bs:List UInt8) (x:Bk):List UInt8:=lyN (lyN bs x.off (aot x)) (x.off+x.size-8) (aot x)
def ahK (bs:List UInt8) (l:List Bk):List UInt8:=l.foldl aaY bs
def aby:Nat->List Bk->Nat->Prop
 | o,[],e=>o=e
 | o,x::r,e=>x.off=o/\aaG (x.size:Int)=true/\aby (o+x.size) r e
theorem aak:∀(l:List Bk) (o e:Nat),aby o l e->o<=e/\∀x∈l,o<=x.off/\x.off+x.size<=e/\aaG (x.size:Int)=true/\x.off%16=o%16
 | [],o,e,h=>⟨Nat.le_of_eq h,fun x hx=>by cases hx⟩
 | y::r,o,e,⟨h1,h2,h3⟩=>by
  obtain⟨q,h⟩:=aak r _ e h3;have hs:=(aab _).1 h2;refine⟨by omega,fun x hx=> ?_⟩;rcases List.mem_cons.1 hx with rfl | hx
  · exact⟨by omega,by omega,h2,by omega⟩
  · obtain⟨a,b,c,d⟩:=h x hx;exact⟨by omega,b,c,by omega⟩
theorem ajK:∀(l:List Bk) (o e:Nat) (x:Bk),aby o l e->x.off=e->aaG (x.size:Int)=true->aby o (l++ [x]) (e+x.size)
 | [],o,e,x,h,h1,h2=>⟨by rw[h1];exact h.symm,h2,by have:o=e:=h;rw[this];rfl⟩
 | y::r,o,e,x,⟨a,b,c⟩,h1,h2=>⟨a,b,ajK r _ e x c h1 h2⟩
theorem aaO:∀(l:List Bk) (o e:Nat),aby o l e->∀x∈l,∀y∈l,x=y\/x.off+x.size<=y.off\/y.off+y.size<=x.off
 | [],_,_,_,x,hx,_,_=>by cases hx
 | z::r,o,e,⟨h1,h2,h3⟩,x,hx,y,hy=>by
  have hm:=(aak r _ e h3).2;rcases List.mem_cons.1 hx with rfl | hx'
  · rcases List.mem_cons.1 hy with rfl | hy'
    · exact .inl rfl
    · have:=hm y hy';exact .inr (.inl (by omega))
  · rcases List.mem_cons.1 hy with rfl | hy'
    · have:=hm x hx';exact .inr (.inr (by omega))
    · exact aaO r _ e h3 x hx' y hy'
section
variable {bs:List UInt8} {x y:Bk}
theorem aba (hs:aaG (x.size:Int)=true) (h:x.off+x.size<=bs.length):(aaY bs x).length=bs.length:=by
 have hs:=(aab _).1 hs;have e:=aah bs x.off (aot x) (by omega);unfold aaY;rw[aah _ _ _ (by omega),e]
theorem aaU (hs:aaG (x.size:Int)=true) (h:x.off+x.size<=bs.length) (p:Nat) (hp:p+8<=x.off\/x.off+x.size<=p\/(x.off+8<=p/\p+8<=x.off+x.size-8)):aaf (aaY bs x) p=aaf bs p:=by
 have hs:=(aab _).1 hs;have e:=aah bs x.off (aot x) (by omega);unfold aaY;rw[aaz _ _ _ _ (by omega) (by omega),aaz _ _ _ _ (by omega) (by omega)]
theorem aoR (h1:184<=x.off) (h2:x.off%16=8) (h3:x.off+x.size<=bs.length) (hs:aaG (x.size:Int)=true):aa8 (aaY bs x) (x.off:Int)=some x:=by
 have q:=(aab _).1 hs;have e:=aah bs x.off (aot x) (by omega);have ht:aot x<18446744073709551616:=by have:=afX (x.size:Int) x.used;unfold aot;omega
 have w1:aaf (aaY bs x) x.off=aot x:=by
  unfold aaY;rw[aaz _ _ _ _ (by omega) (by omega),abC _ _ _ (by omega) ht]
 have w2:aaf (aaY bs x) (x.off+x.size-8)=aot x:=by
  unfold aaY;rw[abC _ _ _ (by omega) ht]
 refine ak8 h1 h2 (by rw[aba hs h3];exact h3) ?_ (by rw[w1,w2]);rw[w1];unfold aot;rw[afn hs];rfl
theorem ajL (hs:aaG (x.size:Int)=true) (h:x.off+x.size<=bs.length) (hy:aa8 bs (y.off:Int)=some y) (hd:y.off+y.size<=x.off\/x.off+x.size<=y.off):aa8 (aaY bs x) (y.off:Int)=some y:=by
 obtain⟨_,_,_,g3,g4,_⟩:=aay hy;have q:=(aab _).1 g4;exact abV bs _ y (aba hs h) hy (aaU hs h _ (by omega)) (aaU hs h _ (by omega))
end
theorem agt:∀(l:List Bk) (bs:List UInt8) (o e:Nat),184<=o->o%16=8->aby o l e->e<=bs.length->
 (ahK bs l).length=bs.length/\(∀x∈l,aa8 (ahK bs l) (x.off:Int)=some x)/\
 (∀y,aa8 bs (y.off:Int)=some y->y.off+y.size<=o\/e<=y.off->aa8 (ahK bs l) (y.off:Int)=some y)/\
 (∀p,p+8<=o\/e<=p\/(∃x∈l,x.off+8<=p/\p+8<=x.off+x.size-8)->aaf (ahK bs l) p=aaf bs p)
 | [],bs,o,e,_,_,_,_=>⟨rfl,fun x hx=>(by cases hx),fun _ hy _=>hy,fun _ _=>rfl⟩
 | z::r,bs,o,e,ho,ho2,⟨h1,h2,h3⟩,he=>by
  have q:=(aab _).1 h2;obtain⟨hoe,hm⟩:=aak r _ e h3;have hz:z.off+z.size<=bs.length:=by omega
  have el:=aba h2 hz;obtain⟨i1,i2,i3,i4⟩:=agt r (aaY bs z) (o+z.size) e (by omega) (by omega) h3 (by omega);have eq:ahK bs (z::r)=ahK (aaY bs z) r:=rfl;rw[eq];refine⟨i1.trans el,fun x hx=> ?_,fun y hy hd=> ?_,fun p hp=> ?_⟩
  · rcases List.mem_cons.1 hx with rfl | hx
    · exact i3 x (aoR (by omega) (by omega) hz h2) (.inl (by omega))
    · exact i2 x hx
  · obtain⟨_,_,_,g3,g4,_⟩:=aay hy;have q2:=(aab _).1 g4;exact i3 y (ajL h2 hz hy (by omega)) (by omega)
  · rcases hp with hp | hp | ⟨x,hx,a,b⟩
    · rw[i4 p (.inl (by omega)),aaU h2 hz p (.inl (by omega))]
    · rw[i4 p (.inr (.inl hp)),aaU h2 hz p (.inr (.inl (by omega)))]
    · rcases List.mem_cons.1 hx with rfl | hx
      · rw[i4 p (.inl (by omega)),aaU h2 hz p (.inr (.inr ⟨a,b⟩))]
      · have:=hm x hx;rw[i4 p (.inr (.inr ⟨x,hx,a,b⟩)),aaU h2 hz p (.inr (.inl (by omega)))]
theorem ahL (bs:List UInt8):∀(l:List Bk) (o k:Nat),aby o l bs.length->(∀x∈l,aa8 bs (x.off:Int)=some x)->bs.length<o+k->ac8 bs k o=some l
 | [],o,k,h,_,hk=>by
  have h:o=bs.length:=h;obtain⟨k,rfl⟩:∃k',k=k'+1:=⟨k-1,by omega⟩;unfold ac8;rw[if_neg (by omega)]
 | x::r,o,k,⟨h1,h2,h3⟩,hg,hk=>by
  have q:=(aab _).1 h2;have hoe:=(aak r _ _ h3).1;obtain⟨k,rfl⟩:∃k',k=k'+1:=⟨k-1,by omega⟩;unfold ac8;rw[if_pos (by omega),<-h1,hg x (by simp)];dsimp only;rw[h1,ahL bs r (o+x.size) k h3 (fun y hy=>hg y (by simp[hy])) (by omega)];rfl
theorem ac9{bs:List UInt8}{l:List Bk}(h:aby 184 l bs.length) (hg:∀x∈l,aa8 bs (x.off:Int)=some x):abI bs=some l:=by
 have:=(aak l _ _ h).1;unfold abI;rw[if_neg (by omega)];exact ahL bs l 184 _ h hg (by omega)
theorem agu (bs:List UInt8):∀(k o:Nat) (l:List Bk),o<=bs.length->ac8 bs k o=some l->aby o l bs.length/\∀x∈l,aa8 bs (x.off:Int)=some x
 | 0,_,_,_,h=>by cases h
 | k+1,o,l,ho,h=>by
  unfold ac8 at h;by_cases hlt:o<bs.length
  · rw[if_pos hlt]at h
    cases hg:aa8 bs (o:Int)with
    | none=>rw[hg]at h;cases h
    | some y=>
     rw[hg]at h;dsimp only at h;obtain⟨g0,_,_,g3,g4,_⟩:=aay hg;have g0:y.off=o:=by omega
     cases hr:ac8 bs k (o+y.size)with
     | none=>rw[hr]at h;cases h
     | some r=>
      rw[hr]at h;injection h with h;subst h;obtain⟨i1,i2⟩:=agu bs k _ r (by omega) hr;refine⟨⟨g0,g4,i1⟩,fun x hx=> ?_⟩;rcases List.mem_cons.1 hx with rfl | hx
      · rw[g0];exact hg
      · exact i2 x hx
  · rw[if_neg hlt]at h;injection h with h;subst h;exact⟨by show o=bs.length;omega,fun x hx=>by cases hx⟩
theorem aaj{bs:List UInt8}{l:List Bk}(h:abI bs=some l):184<=bs.length/\aby 184 l bs.length/\∀x∈l,aa8 bs (x.off:Int)=some x:=by
 unfold abI at h;split at h
 · cases h
 · exact⟨by omega,agu bs _ _ l (by omega) h⟩
theorem aoS{bs:List UInt8}{x:Bk}(h:aa8 bs (x.off:Int)=some x):abK bs ((x.off:Int)+(x.size:Int))=some x:=by
 obtain⟨_,g1,_,g3,g4,g5,g6⟩:=aay h;have q:=(aab _).1 g4;unfold abK;rw[if_neg (by omega)];have e1:((x.off:Int)+(x.size:Int)).toNat-8=x.off+x.size-8:=by omega
 have e2:(x.off:Int)+(x.size:Int)-(x.size:Int)=(x.off:Int):=by omega
 rw[e1,g6,g5];dsimp only;rw[e2,h];dsimp only;rw[if_pos ⟨rfl,rfl⟩]
theorem afs{bs:List UInt8}{P:List Bk}(hl:184<=bs.length) (hm:bs.length<=16384) (hst:Stands bs P) (hz:∀p,p+8<=184->p%8=0->aaf bs p=0):Lists bs P (fun _=> []) where
 len:=hl
 small:=hm
 st:=hst
 head:=fun c hc=>by rw[hz _ (by omega) (by omega)];rfl
 bit:=fun c hc=>by
  rw[hz 0 (by omega) rfl];have:∀c,acC 0 c=false:=fun c=>by unfold acC;simp
  rw[this];rfl
 mem:=fun c _ o ho=>by cases ho
 links:=fun c _=>trivial
 nodup:=fun c _=>List.nodup_nil
def szB (bs:List UInt8) (o:Nat):Nat:=match aa8 bs (o:Int)with
 | some x=>x.size
 | none=>0
theorem asX{bs:List UInt8}{o:Nat}{x:Bk}(h:aa8 bs (o:Int)=some x):szB bs o=x.size:=by
 unfold szB;rw[h]
def ahp (bs:List UInt8) (s:Int):Nat->Nat->Option Nat
 | 0,_=>some 0
 | k+1,c=>match afH bs c with
  | none=>none
  | some l=>match l.find? (fun o=>decide (s<=(szB bs o:Int)))with
   | some o=>some o
   | none=>ahp bs s k (c+1)
def aoT (bs:List UInt8) (s:Int):Option Nat:=ahp bs s (22-(aaq s).toNat) (aaq s).toNat
def afT (out:List UInt8) (x:Bk):List UInt8:=if x.used=true then out else (ahH out (x.off:Int)).getD out
def ab5 (bs:List UInt8):Option (List UInt8):=(abI bs).map fun l=>l.foldl afT (List.replicate 184 0++bs.drop 184)
def abb (l:List Bk) (c:Nat):List Nat:=(l.reverse.filter fun x=> !x.used&&aaq (x.size:Int)==(c:Int)).map Bk.off
theorem aft (l:List Bk) (x:Bk) (c:Nat):abb (l++ [x]) c=if x.used=false/\aaq (x.size:Int)=(c:Int) then x.off::abb l c else abb l c:=by
 unfold abb;rw[List.reverse_append,List.reverse_singleton,List.singleton_append,List.filter_cons];by_cases h:x.used=false/\aaq (x.size:Int)=(c:Int)
 · rw[if_pos h,if_pos (by simp[h.1,h.2]),List.map_cons]
 · rw[if_neg h,if_neg (by intro h';apply h;simpa using h')]
theorem abA{l:List Bk}{c o:Nat}(h:o∈abb l c):∃x∈l,x.off=o/\x.used=false/\aaq (x.size:Int)=(c:Int):=by
 unfold abb at h;obtain⟨x,hx,e⟩:=List.mem_map.1 h;obtain⟨h1,h2⟩:=List.mem_filter.1 hx;have h2':x.used=false/\aaq (x.size:Int)=(c:Int):=by simpa using h2
 exact⟨x,List.mem_reverse.1 h1,e,h2'.1,h2'.2⟩
theorem abe{l:List Bk}{c:Nat}{x:Bk}(h:x∈l) (hu:x.used=false) (hc:aaq (x.size:Int)=(c:Int)):x.off∈abb l c:=by
 unfold abb;exact List.mem_map.2 ⟨x,List.mem_filter.2 ⟨List.mem_reverse.2 h,by simp[hu,hc]⟩,rfl⟩
theorem aeU{P:List Bk}:∀(rest done:List Bk) (bs:List UInt8),(∀x∈rest,x∈P)->(done++rest).Pairwise (fun x y=>x.off≠y.off)->Lists bs P (abb done)->
 Lists (rest.foldl afT bs) P (abb (done++rest))/\(rest.foldl afT bs).length=bs.length/\Kept P bs (rest.foldl afT bs)
 | [],done,bs,_,_,h=>by rw[List.append_nil];exact⟨h,rfl,Kept.refl _ _⟩
 | x::r,done,bs,hm,hp,h=>by
  have e:done++x::r=(done++ [x])++r:=by simp
  have hxP:=hm x (by simp);rw[e]at hp ⊢
  cases hu:x.used with
  | true=>
   have e1:afT bs x=bs:=by unfold afT;rw[if_pos hu]
   have e2:abb (done++ [x])=abb done:=by
    funext c;rw[aft,if_neg (by rw[hu];simp)]
   rw[List.foldl_cons,e1];exact aeU r (done++ [x]) bs (fun y hy=>hm y (by simp[hy])) hp (by rw[e2];exact h)
  | false=>
   obtain⟨c,hc,hc22⟩:=abz (h.st.facts hxP).2.2.2.2.2;have hn:x.off∉abb done c:=fun hmem=>by
    obtain⟨y,hy,ey,_⟩:=abA hmem;have h1:=(List.pairwise_append.1 (List.pairwise_append.1 hp).1).2.2;exact h1 y hy x (by simp) ey
   obtain⟨bs',q1,q2,q3,q4⟩:=h.put hxP hu hc hc22 hn;have e1:afT bs x=bs':=by unfold afT;rw[if_neg (by rw[hu];simp),q1];rfl
   have e2:ahn (abb done) c (x.off::abb done c)=abb (done++ [x]):=by
    funext d;rw[aft];unfold ahn;by_cases hd:d=c
    · subst hd;rw[if_pos rfl,if_pos ⟨hu,hc⟩]
    · rw[if_neg hd,if_neg (fun h=>hd (by have:=h.2;omega))]
   rw[List.foldl_cons,e1];obtain⟨i1,i2,i3⟩:=aeU r (done++ [x]) bs' (fun y hy=>hm y (by simp[hy])) hp (by rw[<-e2];exact q2);exact⟨i1,i2.trans q3,q4.trans i3⟩
theorem adX:∀(l:List Bk) (o e:Nat),aby o l e->l.Pairwise (fun x y=>x.off≠y.off)
 | [],_,_,_=>List.Pairwise.nil
 | x::r,o,e,⟨h1,h2,h3⟩=>by
  have q:=(aab _).1 h2;refine List.Pairwise.cons (fun y hy=> ?_) (adX r _ e h3);have:=(aak r _ e h3).2 y hy;omega
theorem ann (n:Nat):ab2 (List.replicate n 0)=0:=by
 induction n with
 | zero=>rfl
 | succ n ih=>rw[List.replicate_succ];simp[ab2,ih]
theorem ads (bs:List UInt8) (n p:Nat) (h:p+8<=n):aaf (List.replicate n 0++bs) p=0:=by
 unfold aaf;rw[List.drop_append_of_le_length (by simp;omega),List.take_append_of_le_length (by simp;omega),List.drop_replicate,List.take_replicate,ann]
theorem aeV (bs:List UInt8) (n i:Nat) (h:n<=i):(List.replicate n (0:UInt8)++bs.drop n)[i]?=bs[i]?:=by
 rw[List.getElem?_append_right (by simpa using h),List.length_replicate,List.getElem?_drop];congr 1;omega
theorem ahq{bs:List UInt8}{l:List Bk}(h:abI bs=some l) (hm:bs.length<=16384):
 ∃out,ab5 bs=some out/\Lists out l (abb l)/\out.length=bs.length/\abI out=some l:=by
 obtain⟨h184,ht,hg⟩:=aaj h;have hmem:=(aak l _ _ ht).2;have el:(List.replicate 184 (0:UInt8)++bs.drop 184).length=bs.length:=by rw[List.length_append,List.length_replicate,List.length_drop];omega
 have hst:Stands (List.replicate 184 (0:UInt8)++bs.drop 184) l:=by
  refine⟨fun x hx=> ?_,aaO l _ _ ht⟩;obtain⟨a,b,c,_⟩:=hmem x hx;have q:=(aab _).1 c;refine abV bs _ x el (hg x hx) ?_ ?_
  · exact aaM _ _ _ fun i h1 _=>aeV bs 184 i (by omega)
  · exact aaM _ _ _ fun i h1 _=>aeV bs 184 i (by omega)
 have hL:=afs (by rw[el];exact h184) (by rw[el];exact hm) hst (fun p hp _=>ads _ _ _ hp);have e0:(fun _=> [])=abb []:=by funext c;rfl
 rw[e0]at hL;obtain⟨i1,i2,_⟩:=aeU l [] _ (fun x hx=>hx) (by simpa using adX l _ _ ht) hL;rw[List.nil_append]at i1;refine⟨_,by unfold ab5;rw[h];rfl,i1,i2.trans el,?_⟩;exact ac9 (by rw[i2,el];exact ht) i1.st.at_
theorem alb{a b:Int}(ha:aaG a=true) (hb:aaG b=true) (h:a<=b):aaq a<=aaq b:=by
 have key:∀s:Int,aaG s=true->(s<=256/\aaq s=s/16-2)\/(256<s/\s<512/\aaq s=15)\/(512<=s/\s<1024/\aaq s=16)\/(1024<=s/\s<2048/\aaq s=17)\/(2048<=s/\s<4096/\aaq s=18)\/(4096<=s/\s<8192/\aaq s=19)\/(8192<=s/\s<16384/\aaq s=20)\/(16384<=s/\aaq s=21):=fun s hs=>by
  unfold aaq;rw[if_neg (by rw[hs];simp)];split
  · exact .inl ⟨by assumption,rfl⟩
  · split
    · exact .inr (.inl ⟨by omega,by assumption,rfl⟩)
    · split
      · exact .inr (.inr (.inl ⟨by omega,by assumption,rfl⟩))
      · split
        · exact .inr (.inr (.inr (.inl ⟨by omega,by assumption,rfl⟩)))
        · split
          · exact .inr (.inr (.inr (.inr (.inl ⟨by omega,by assumption,rfl⟩))))
          · split
            · exact .inr (.inr (.inr (.inr (.inr (.inl ⟨by omega,by assumption,rfl⟩)))))
            · split
              · exact .inr (.inr (.inr (.inr (.inr (.inr (.inl ⟨by omega,by assumption,rfl⟩))))))
              · exact .inr (.inr (.inr (.inr (.inr (.inr (.inr ⟨by omega,rfl⟩))))))
 rcases key a ha with h1 | h1 | h1 | h1 | h1 | h1 | h1 | h1<;>rcases key b hb with h2 | h2 | h2 | h2 | h2 | h2 | h2 | h2<;>omega
theorem amr (bs:List UInt8) (c:Nat):∀(k last p:Nat) (l:List Nat),aeR bs c k last p=some l->l.length<=k
 | 0,last,p,l,h=>by
  unfold aeR at h;split at h
  · injection h with h;subst h;exact Nat.le_refl _
  · cases h
 | k+1,last,p,l,h=>by
  unfold aeR at h;by_cases hp:p=0
  · rw[if_pos hp]at h;injection h with h;subst h;exact Nat.zero_le _
  · rw[if_neg hp]at h;dsimp only at h;by_cases hm:aap bs p (c:Int)=true/\aaf bs (p+16)=last
    · rw[if_pos hm]at h
      cases hr:aeR bs c k p (aaf bs (p+8))with
      | none=>rw[hr]at h;cases h
      | some l'=>
       rw[hr]at h;injection h with h;subst h;have:=amr bs c k p _ l' hr;rw[List.length_cons];omega
    · rw[if_neg hm]at h;cases h
theorem arv{bs:List UInt8}{c:Nat}{l:List Nat}(h:afH bs c=some l):l.length<=1024:=by
 unfold afH at h;split at h
 · cases h
 · split at h
   · cases h
   · exact amr bs c _ _ _ l h
theorem ajM (bs:List UInt8):∀(k o:Nat) (l:List Bk),ac8 bs k o=some l->l.length<=k
 | 0,_,_,h=>by cases h
 | k+1,o,l,h=>by
  unfold ac8 at h;by_cases hlt:o<bs.length
  · rw[if_pos hlt]at h
    cases hg:aa8 bs (o:Int)with
    | none=>rw[hg]at h;cases h
    | some y=>
     rw[hg]at h;dsimp only at h
     cases hr:ac8 bs k (o+y.size)with
     | none=>rw[hr]at h;cases h
     | some r=>
      rw[hr]at h;injection h with h;subst h;have:=ajM bs k _ r hr;rw[List.length_cons];omega
  · rw[if_neg hlt]at h;injection h with h;subst h;exact Nat.zero_le _
theorem ajN{bs:List UInt8}{l:List Bk}(h:abI bs=some l):l.length<=bs.length+1:=by
 unfold abI at h;split at h
 · cases h
 · exact ajM bs _ _ l h
def abm (l:List Bk):Nat:=l.countP fun x=> !x.used
def adI (l:List Bk) (i:Nat):Bool:=match l[i]? with
 | some x=>x.used
 | none=>true
def adJ (l:List Bk) (i:Nat):Bool:=i==0 || (adI l i || adI l (i-1))
def aev (l:List Bk):Bool:=(List.range l.length).all (adJ l)
def acD (l:List Bk) (o:Nat):Bool:=l.any fun x=>x.off==o&& !x.used
def okO (l:List Bk) (all:List Nat) (o:Nat):Bool:=acD l o&&all.count o==1
def af1 (bs:List UInt8) (l:List Bk):Nat->Nat->Int->Bool
 | 0,_,fr=>fr==0
 | k+1,c,fr=>match afH bs c with
  | none=>false
  | some all=>all.all (okO l all)&&af1 bs l k (c+1) (fr-all.length)
def ace (bs:List UInt8):Bool:=match abI bs with
 | none=>false
 | some l=>decide (aos bs 0<4194304)&&(aev l&&af1 bs l 22 0 (abm l))
def afu (l:List Bk):Nat->Nat->Nat
 | 0,_=>0
 | k+1,c=>(abb l c).length+afu l k (c+1)
theorem ams:∀k c,afu [] k c=0
 | 0,_=>rfl
 | k+1,c=>by
  unfold afu;rw[ams k (c+1)];rfl
theorem ajO (l:List Bk) (x:Bk):∀k c:Nat,afu (l++ [x]) k c=afu l k c+if x.used=false/\(c:Int)<=aaq (x.size:Int)/\aaq (x.size:Int)<(c:Int)+(k:Int) then 1 else 0
 | 0,c=>by
  unfold afu;rw[if_neg (by omega)]
 | k+1,c=>by
  unfold afu;rw[ajO l x k (c+1),aft];by_cases h:x.used=false/\aaq (x.size:Int)=(c:Int)
  · rw[if_pos h,if_neg (by have:=h.2;omega),if_pos ⟨h.1,by have:=h.2;omega,by have:=h.2;omega⟩,List.length_cons];omega
  · rw[if_neg h];by_cases h2:x.used=false/\((c:Int)<=aaq (x.size:Int)/\aaq (x.size:Int)<(c:Int)+((k+1:Nat):Int))
    · have:¬aaq (x.size:Int)=(c:Int):=fun e=>h ⟨h2.1,e⟩;rw[if_pos h2,if_pos ⟨h2.1,by have:=h2.2;omega,by have:=h2.2;omega⟩];omega
    · rw[if_neg h2,if_neg (fun h3=>h2 ⟨h3.1,by have:=h3.2;omega,by have:=h3.2;omega⟩)];omega
theorem aiJ (l:List Bk) (h:∀x∈l,aaG (x.size:Int)=true):afu l 22 0=abm l:=by
 have key:∀(r d:List Bk),(∀x∈r,aaG (x.size:Int)=true)->afu d 22 0=abm d->afu (d++r) 22 0=abm (d++r):=by
  intro r;induction r with
  | nil=>intro d _ hd;rw[List.append_nil];exact hd
  | cons x r ih=>
   intro d hr hd;have e:d++x::r=(d++ [x])++r:=by simp
   rw[e];refine ih (d++ [x]) (fun y hy=>hr y (by simp[hy])) ?_;obtain⟨c,hc,hc22⟩:=abz (hr x (by simp));rw[ajO,hd];unfold abm;rw[List.countP_append]
   cases hu:x.used with
   | true=>rw[if_neg (by simp)];simp[hu]
   | false=>rw[if_pos ⟨rfl,by omega,by omega⟩];simp[hu]
 have:=key l [] h (ams 22 0);simpa using this
theorem ajP (l:List Bk) (c:Nat):(abb l c).length<=l.length:=by
 unfold abb;rw[List.length_map];have:=List.length_filter_le (fun x:Bk=> !x.used&&aaq (x.size:Int)==(c:Int)) l.reverse;rw[List.length_reverse]at this;exact this
theorem ahM{bs:List UInt8}{l:List Bk}(h:Lists bs l (abb l)) (hl:l.length<=1024):∀(k c:Nat) (fr:Int),c+k=22->af1 bs l k c fr=(fr-afu l k c==0)
 | 0,c,fr,_=>by unfold af1 afu;simp
 | k+1,c,fr,hc=>by
  have ha:=h.all (c:=c) (by omega) (Nat.le_trans (ajP l c) hl);have hok:(abb l c).all (okO l (abb l c))=true:=by
   rw[List.all_eq_true];intro o ho;unfold okO acD;rw[Bool.and_eq_true];constructor
   · rw[List.any_eq_true];obtain⟨x,hx,e,hu,_⟩:=abA ho;exact⟨x,hx,by simp[e,hu]⟩
   · rw[List.Nodup.count (h.nodup c (by omega)),if_pos ho];rfl
  unfold af1;rw[ha];dsimp only;rw[hok,Bool.true_and,ahM h hl k (c+1) _ (by omega)];have e:fr-(afu l (k+1) c:Nat)=fr-((abb l c).length:Int)-(afu l k (c+1):Nat):=by
   have:afu l (k+1) c=(abb l c).length+afu l k (c+1):=rfl;omega
  rw[e]
theorem afI{bs:List UInt8}{l:List Bk}(hw:abI bs=some l) (h:Lists bs l (abb l)) (h0:aaf bs 0<4194304):ace bs=aev l:=by
 obtain⟨h184,ht,hg⟩:=aaj hw;have hm:=aak l _ _ ht;have hlen:l.length<=1024:=by
  have key:∀(l:List Bk) (o e:Nat),aby o l e->l.length*32+o<=e:=by
   intro l;induction l with
   | nil=>intro o e h;have:o=e:=h;simp;omega
   | cons x r ih=>
    rintro o e ⟨a,b,c⟩;have q:=(aab _).1 b;have:=ih _ _ c;rw[List.length_cons];omega
  have:=key l _ _ ht;have:=h.small;omega
 have e0:aos bs 0=aaf bs 0:=by unfold aos word?;rw[if_pos (by omega)];rfl
 unfold ace;rw[hw];dsimp only;rw[e0,decide_eq_true h0,Bool.true_and,ahM h hlen 22 0 _ rfl,aiJ l (fun x hx=>(hm.2 x hx).2.2.1)];have:((abm l:Int)-(abm l:Int)==0)=true:=by rw[Int.sub_self];rfl
 rw[this,Bool.and_true]
theorem asY (w c:Nat) (hc:c<22) (h:acC w c=false):(w+2^c)/4194304=w/4194304:=by
 obtain⟨d,hd⟩:∃d,22=c+1+d:=⟨21-c,by omega⟩;have e:4194304=2^(c+1)*2^d:=by rw[<-Nat.pow_add,<-hd]
 have hp:0<2^c:=Nat.two_pow_pos c;have h1:w/2^c%2=0:=by
  unfold acC at h;have:¬w/2^c%2=1:=by simpa using h
  omega
 have key:(w+2^c)/2^(c+1)=w/2^(c+1):=by
  rw[Nat.pow_succ,<-Nat.div_div_eq_div_mul,<-Nat.div_div_eq_div_mul,Nat.add_div_right _ hp];omega
 rw[e,<-Nat.div_div_eq_div_mul,<-Nat.div_div_eq_div_mul,key]
theorem arw (w c:Nat) (hc:c<22) (h:acC w c=true):(w-2^c)/4194304=w/4194304:=by
 have h1:=aiG w c h;have h2:=asY (w-2^c) c hc (afr w c h);rw[Nat.sub_add_cancel h1]at h2;exact h2.symm
theorem ahN (bs:List UInt8) (c:Nat) (hc:c<22) (hl:184<=bs.length):aaf (abJ bs c) 0/4194304=aaf bs 0/4194304:=by
 have hw:=aan bs 0;unfold abJ;split
 · rename_i h;rw[abC _ _ _ (by omega) (Nat.lt_of_le_of_lt (Nat.sub_le _ _) hw)];exact arw _ c hc h.1
 · split
   · rename_i h;rw[abC _ _ _ (by omega) (ak9 _ c (by omega) hw h.1)];exact asY _ c hc h.1
   · rfl
theorem ajQ (bs:List UInt8) (c:Nat) (hl:184<=bs.length):(abJ bs c).length=bs.length:=by
 unfold abJ;split
 · exact aah _ _ _ (by omega)
 · split
   · exact aah _ _ _ (by omega)
   · rfl
theorem agv{bs out:List UInt8}{o:Int}(hl:184<=bs.length) (h:ahH bs o=some out):out.length=bs.length/\aaf out 0/4194304=aaf bs 0/4194304:=by
 unfold ahH at h;by_cases hf:aa2 bs o<0
 · rw[if_pos hf]at h;cases h
 · rw[if_neg hf]at h;obtain⟨x,hg,hc⟩:∃x,aa8 bs o=some x/\aa2 bs o=aaq (x.size:Int):=by
    unfold aa2 at hf ⊢
    cases hg:aa8 bs o with
    | none=>rw[hg]at hf;simp at hf
    | some x=>
     rw[hg]at hf;dsimp only at hf ⊢
     cases hu:x.used with
     | true=>rw[hu]at hf;simp at hf
     | false=>exact⟨x,rfl,by simp⟩
   have hb:=acE (x.size:Int);obtain⟨c,hcc⟩:=nmE ((aa2 bs o).toNat);have hc22:c<22:=by omega
   obtain⟨g0,g1,_,g3,g4,_⟩:=aay hg;have q:=(aab _).1 g4;rw[hcc]at h;dsimp only at h;obtain⟨f,hfe⟩:=nmE (aaf bs (8+8*c));rw[hfe]at h;by_cases hm:(f:Int)=o\/(f≠0/\aap bs f (c:Int)=false)
   · rw[if_pos hm]at h;cases h
   · rw[if_neg hm]at h;injection h with h;have ho:o.toNat=x.off:=by omega
     rw[ho]at h;have l1:=aah bs (x.off+8) f (by omega);have l2:=aah (lyN bs (x.off+8) f) (x.off+16) 0 (by omega);have w2:aaf (lyN (lyN bs (x.off+8) f) (x.off+16) 0) 0=aaf bs 0:=by
      rw[aaz _ _ _ _ (by omega) (by omega),aaz _ _ _ _ (by omega) (by omega)]
     obtain⟨b2,hb2⟩:=nmE ((if f≠0 then lyN (lyN (lyN bs (x.off+8) f) (x.off+16) 0) (f+16) x.off else lyN (lyN bs (x.off+8) f) (x.off+16) 0));have hb:b2.length=bs.length/\aaf b2 0=aaf bs 0:=by
      rw[<-hb2];by_cases hf0:f≠0
      · have hmem:aap bs f (c:Int)=true:=by
         cases hmb:aap bs f (c:Int)with
         | true=>rfl
         | false=>exact absurd (.inr ⟨hf0,hmb⟩) hm
        unfold aap at hmem
        cases hgf:aa8 bs (f:Int)with
        | none=>rw[hgf]at hmem;simp at hmem
        | some y=>
         obtain⟨r0,r1,_,r3,r4,_⟩:=aay hgf;have q2:=(aab _).1 r4;rw[if_pos hf0];exact⟨(aah _ _ _ (by omega)).trans (l2.trans l1),by rw[aaz _ _ _ _ (by omega) (by omega),w2]⟩
      · rw[if_neg hf0];exact⟨l2.trans l1,w2⟩
     rw[hb2]at h;have l3:=aah b2 (8+8*c) x.off (by omega);rw[<-h];refine⟨(ajQ _ c (by omega)).trans (l3.trans hb.1),?_⟩;rw[ahN _ c hc22 (by omega),aaz _ _ _ _ (by omega) (by omega),hb.2]
theorem amt:∀(l:List Bk) (bs:List UInt8),184<=bs.length->(l.foldl afT bs).length=bs.length/\aaf (l.foldl afT bs) 0/4194304=aaf bs 0/4194304
 | [],_,_=>⟨rfl,rfl⟩
 | x::r,bs,hl=>by
  rw[List.foldl_cons];have e:(afT bs x).length=bs.length/\aaf (afT bs x) 0/4194304=aaf bs 0/4194304:=by
   unfold afT
   cases x.used with
   | true=>exact⟨rfl,rfl⟩
   | false=>
    cases hp:ahH bs (x.off:Int)with
    | none=>exact⟨rfl,rfl⟩
    | some out=>exact agv hl hp
  obtain⟨i1,i2⟩:=amt r (afT bs x) (by omega);exact⟨i1.trans e.1,i2.trans e.2⟩
theorem ajR{bs:List UInt8}{l:List Bk}(h:abI bs=some l) (hm:bs.length<=16384):
 ∃out,ab5 bs=some out/\Lists out l (abb l)/\out.length=bs.length/\abI out=some l/\aaf out 0<4194304/\ace out=aev l:=by
 obtain⟨out,e,h1,h2,h3⟩:=ahq h hm;obtain⟨h184,_⟩:=aaj h;have el:(List.replicate 184 (0:UInt8)++bs.drop 184).length=bs.length:=by rw[List.length_append,List.length_replicate,List.length_drop];omega
 have e2:out=l.foldl afT (List.replicate 184 0++bs.drop 184):=by
  unfold ab5 at e;rw[h]at e;injection e with e;exact e.symm
 have hh:=(amt l _ (by rw[el];exact h184)).2;rw[<-e2,ads _ _ _ (by omega)]at hh;have h0:aaf out 0<4194304:=by omega
 exact⟨out,e,h1,h2,h3,h0,afI h3 h1 h0⟩
theorem aeW{bs:List UInt8}{l:List Bk}:∀(k c:Nat) (fr:Int),af1 bs l k c fr=true->∀d,c<=d->d<c+k->∃al,afH bs d=some al/\al.all (okO l al)=true
 | 0,c,fr,_,d,h1,h2=>by omega
 | k+1,c,fr,h,d,h1,h2=>by
  unfold af1 at h
  cases ha:afH bs c with
  | none=>rw[ha]at h;cases h
  | some al=>
   rw[ha]at h;dsimp only at h;rw[Bool.and_eq_true]at h;rcases Nat.lt_or_ge c d with hlt | hge
   · exact aeW k (c+1) _ h.2 d hlt (by omega)
   · obtain rfl:d=c:=by omega
     exact⟨al,ha,h.1⟩
theorem aiK{bs:List UInt8}{c:Nat}{l:List Nat}(h:afH bs c=some l):acC (aaf bs 0) c=decide (aaf bs (8+8*c)≠0)/\aeR bs c 1024 0 (aaf bs (8+8*c))=some l:=by
 unfold afH at h;split at h
 · cases h
 · split at h
   · cases h
   · rename_i hb;exact⟨Decidable.not_not.1 hb,h⟩
abbrev Dt:Type:=Value × List UInt8
def acc:Dt:=(.slice none 0 0,[])
structure Hp where
 cap:Nat
 blks:List Bk
 ds:List Dt
 lists:Nat->List Nat
def abd:List Bk->Nat
 | []=>0
 | x::r=>x.size+abd r
def lenB (l:List Bk):Nat:=184+abd l
def aal (l:List Bk) (i:Nat):Bk:=l.getD i ⟨0,0,false⟩
def atB (o:Int):List Bk->Option Nat
 | []=>none
 | x::r=>if (x.off:Int)=o then some 0 else (atB o r).map (· +1)
def aa3 (l:List Bk) (o:Int):Option Nat:=match atB o l with
 | none=>none
 | some i=>if (aal l i).used=true then some i else none
def afU (x:Bk):Nat:=(aaq (x.size:Int)).toNat
def Hp.out (H:Hp) (i:Nat):Hp:={H with lists:=ahn H.lists (afU (aal H.blks i)) ((H.lists (afU (aal H.blks i))).filter fun o=>o !=(aal H.blks i).off)}
def Hp.in_ (H:Hp) (i:Nat):Hp:={H with lists:=ahn H.lists (afU (aal H.blks i)) ((aal H.blks i).off::H.lists (afU (aal H.blks i)))}
def Hp.drop (H:Hp) (i:Nat):Hp:={H with blks:=H.blks.take i++H.blks.drop (i+1),ds:=H.ds.take i++H.ds.drop (i+1)}
def Hp.put (H:Hp) (i:Nat) (x:Bk):Hp:={H with blks:=H.blks.take i++x::H.blks.drop i,ds:=H.ds.take i++acc::H.ds.drop i}
def Hp.size (H:Hp) (i s:Nat):Hp:={H with blks:=H.blks.set i {aal H.blks i with size:=s}}
def Hp.use (H:Hp) (i:Nat) (u:Bool):Hp:={H with blks:=H.blks.set i {aal H.blks i with used:=u}}
def Hp.wipe (H:Hp) (i:Nat):Hp:={H with ds:=H.ds.set i acc}
def acG (l:List Bk) (i:Nat):Bool:=decide (i+1<l.length)&& !(aal l (i+1)).used
def aiL (l:List Bk) (i:Nat):Bool:=decide (0<i)&& !(aal l (i-1)).used
def Hp.join (H:Hp) (i:Nat):Hp:=((H.size i ((aal H.blks i).size+(aal H.blks (i+1)).size)).drop (i+1))
def Hp.giveB (H:Hp) (i:Nat):Hp:=if acG H.blks i=true then (H.out (i+1)).join i else H
def Hp.giveC (H:Hp) (i:Nat):Hp:=if aiL H.blks i=true then ((H.out (i-1)).join (i-1)).in_ (i-1) else H.in_ i
def Hp.give (H:Hp) (i:Nat):Hp:=(((H.use i false).wipe i).giveB i).giveC i
def Hp.cut (H:Hp) (i s:Nat):Hp:=if (aal H.blks i).size<s+32 then H.use i true else (((H.use i true).size i s).put (i+1) ⟨(aal H.blks i).off+s,(aal H.blks i).size-s,true⟩).give (i+1)
def afV (l:List Bk) (s:Nat):List Nat->Option Nat
 | []=>none
 | o::r=>match atB (o:Int) l with
  | none=>none
  | some i=>if s<=(aal l i).size then some i else afV l s r
def Hp.findC (H:Hp) (s:Nat):Nat->Nat->Option Nat
 | 0,_=>none
 | k+1,c=>match afV H.blks s (H.lists c)with
  | some i=>some i
  | none=>H.findC s k (c+1)
def Hp.find (H:Hp) (s:Nat):Option Nat:=H.findC s (22-(aaq (s:Int)).toNat) (aaq (s:Int)).toNat
def acq (l:List Bk):Nat:=if l.length=0 then 0 else if (aal l (l.length-1)).used=true then 0 else (aal l (l.length-1)).size
def Hp.take (H:Hp) (s:Nat):Option Nat × Hp:=match H.find s with
 | some i=>(some (aal H.blks i).off,(H.out i).cut i s)
 | none=>if H.cap<lenB H.blks+s-acq H.blks then (none,H)
  else if 0<acq H.blks then (some (aal H.blks (H.blks.length-1)).off,((H.out (H.blks.length-1)).size (H.blks.length-1) s).use (H.blks.length-1) true)
  else (some (lenB H.blks),H.put H.blks.length ⟨lenB H.blks,s,true⟩)
def Hp.giveO (H:Hp) (o:Int):Option Hp:=(aa3 H.blks o).map H.give
def Hp.trimO (H:Hp) (o:Int) (s:Nat):Option Hp:=match aa3 H.blks o with
 | none=>none
 | some i=>if (aal H.blks i).size<s then none else some (H.cut i s)
structure Hp.Ok (H:Hp):Prop where
 tl:aby 184 H.blks (lenB H.blks)
 le:lenB H.blks<=16384
 dl:H.ds.length=H.blks.length
def Hp.Listed (H:Hp):Prop:=∀c,c<22->∀o∈H.lists c,∃i,atB (o:Int) H.blks=some i
theorem aeX:∀(l:List Bk) (o e:Nat),aby o l e->e=o+abd l
 | [],o,e,h=>by simp[aby]at h;simp[abd];omega
 | x::r,o,e,h=>by
  obtain⟨h1,h2,h3⟩:=h;have:=aeX r _ e h3;simp[abd];omega
theorem aaF:∀(a b:List Bk) (o e:Nat),aby o (a++b) e ↔ aby o a (o+abd a)/\aby (o+abd a) b e
 | [],b,o,e=>by simp[abd,aby]
 | x::r,b,o,e=>by
  simp only[List.cons_append,aby,abd];rw[aaF r b];constructor
  · rintro⟨h1,h2,h3,h4⟩;refine⟨⟨h1,h2,?_⟩,?_⟩
    · rw[show o+(x.size+abd r)=o+x.size+abd r by omega];exact h3
    · rw[show o+(x.size+abd r)=o+x.size+abd r by omega];exact h4
  · rintro⟨⟨h1,h2,h3⟩,h4⟩;rw[show o+(x.size+abd r)=o+x.size+abd r by omega]at h3 h4;exact⟨h1,h2,h3,h4⟩
theorem aeY (a b:List Bk):abd (a++b)=abd a+abd b:=by
 induction a with
 | nil=>simp[abd]
 | cons x r ih=>simp only[List.cons_append,abd,ih];omega
theorem abM{o:Int}:∀{l:List Bk}{i:Nat},atB o l=some i->∃x,l[i]?=some x/\(x.off:Int)=o
 | [],_,h=>by cases h
 | x::r,i,h=>by
  unfold atB at h;split at h
  · rename_i hx;injection h with h;subst h;exact⟨x,rfl,hx⟩
  · cases hr:atB o r with
    | none=>rw[hr]at h;cases h
    | some j=>
     rw[hr]at h;injection h with h;subst h;obtain⟨y,h1,h2⟩:=abM hr;exact⟨y,by simpa using h1,h2⟩
theorem amu{o:Int}:∀{l:List Bk},atB o l=none->∀x∈l,(x.off:Int)≠o
 | [],_,x,hx=>by cases hx
 | y::r,h,x,hx=>by
  unfold atB at h;split at h
  · cases h
  · rename_i hy;rcases List.mem_cons.1 hx with rfl | hx
    · exact hy
    · cases hr:atB o r with
      | none=>exact amu hr x hx
      | some j=>rw[hr]at h;cases h
theorem aaX{l:List Bk}{i:Nat}{x:Bk}(h:l[i]?=some x):aal l i=x:=by
 unfold aal;rw[List.getD_eq_getElem?_getD,h];rfl
theorem aat{l:List Bk}{i:Nat}(h:i<l.length):l[i]?=some (aal l i):=by
 rw[List.getElem?_eq_getElem h];exact congrArg some (aaX (List.getElem?_eq_getElem h)).symm
theorem afJ{l:List Bk}{i:Nat}{o:Int}(h:atB o l=some i):i<l.length/\((aal l i).off:Int)=o:=by
 obtain⟨x,h1,h2⟩:=abM h;have hi:i<l.length:=by
  rcases Nat.lt_or_ge i l.length with h | h
  · exact h
  · rw[List.getElem?_eq_none h]at h1;cases h1
 rw[aaX h1];exact⟨hi,h2⟩
theorem aeZ{α:Type}{l:List α}{i:Nat}{x:α}(h:l[i]?=some x):l=l.take i++x::l.drop (i+1):=by
 have hi:i<l.length:=by
  rcases Nat.lt_or_ge i l.length with h' | h'
  · exact h'
  · rw[List.getElem?_eq_none h']at h;cases h
 have e:l[i]=x:=by rw[List.getElem?_eq_getElem hi]at h;injection h
 calc l=l.take i++l.drop i:=(List.take_append_drop i l).symm
  _=_:=by rw[List.drop_eq_getElem_cons hi,e]
theorem aoU{α:Type}{l:List α}{i:Nat}{x:α}(y:α) (h:l[i]?=some x):l.set i y=l.take i++y::l.drop (i+1):=by
 have hi:i<l.length:=by
  rcases Nat.lt_or_ge i l.length with h' | h'
  · exact h'
  · rw[List.getElem?_eq_none h']at h;cases h
 rw[List.set_eq_take_append_cons_drop,if_pos hi]
section
variable {l:List Bk} {e i:Nat} {x:Bk}
theorem aiM (h:aby 184 l e) (hx:l[i]?=some x):aby 184 (l.take i) x.off/\x.off=184+abd (l.take i)/\aaG (x.size:Int)=true/\aby (x.off+x.size) (l.drop (i+1)) e:=by
 rw[aeZ hx,aaF]at h;obtain⟨h1,h2,h3,h4⟩:=h;have e1:(184+abd (l.take i))=x.off:=by omega
 rw[e1]at h1;refine⟨h1,by omega,h3,?_⟩;rw[e1]at h4;exact h4
theorem aiN (h1:aby 184 (l.take i) x.off) (h3:aaG (x.size:Int)=true){r:List Bk}(h4:aby (x.off+x.size) r e):aby 184 (l.take i++x::r) e:=by
 have:=aeX _ _ _ h1;rw[aaF];rw[<-this];exact⟨h1,rfl,h3,h4⟩
theorem acl (h:aby 184 l e):lenB l=e:=by
 have:=aeX _ _ _ h;unfold lenB;omega
end
theorem aau{α:Type}{l:List α}{i:Nat}{x:α}(h:l[i]?=some x):i<l.length:=by
 rcases Nat.lt_or_ge i l.length with h' | h'
 · exact h'
 · rw[List.getElem?_eq_none h']at h;cases h
theorem amv{α:Type}(l:List α) (i:Nat) (y:α) (hi:i<l.length):(l.set i y).take (i+1)=l.take i++ [y]:=by
 rw[List.take_set,List.take_add_one,List.getElem?_eq_getElem hi];rw[Option.toList_some,List.set_append_right _ _ (by rw[List.length_take];omega),List.length_take];congr 1;have e:i-min i l.length=0:=by omega
 rw[e];rfl
theorem amw{α:Type}(l:List α) (i k:Nat) (y:α) (hk:i<k):(l.set i y).drop k=l.drop k:=List.drop_set_of_lt hk
theorem acH (l:List Bk) (i j:Nat) (y:Bk) (hi:i<l.length):aal (l.set i y) j=if j=i then y else aal l j:=by
 unfold aal;rw[List.getD_eq_getElem?_getD,List.getD_eq_getElem?_getD];by_cases h:j=i
 · subst h;rw[List.getElem?_set_self hi,if_pos rfl];rfl
 · rw[List.getElem?_set_ne (fun e=>h e.symm),if_neg h]
theorem auP{a b:Nat}(ha:aaG (a:Int)=true) (hb:aaG (b:Int)=true) (h:a+b<=16384):aaG ((a+b:Nat):Int)=true:=by
 have h1:=(aab _).1 ha;have h2:=(aab _).1 hb;exact(aab _).2 (by omega)
section
variable {H:Hp} {i s:Nat}
theorem Hp.Ok.at_ (h:H.Ok) (hi:i<H.blks.length):aby 184 (H.blks.take i) (aal H.blks i).off/\aaG ((aal H.blks i).size:Int)=true/\aby ((aal H.blks i).off+(aal H.blks i).size) (H.blks.drop (i+1)) (lenB H.blks):=by
 obtain⟨a,_,b,c⟩:=aiM h.tl (aat hi);exact⟨a,b,c⟩
theorem Hp.Ok.sz (h:H.Ok) (hi:i<H.blks.length):aaG ((aal H.blks i).size:Int)=true:=(h.at_ hi).2.1
theorem Hp.Ok.len (h:H.Ok):H.blks.length*32<=lenB H.blks:=by
 have go:∀(l:List Bk) (o e:Nat),aby o l e->l.length*32<=abd l:=by
  intro l;induction l with
  | nil=>intro o e _;simp[abd]
  | cons x r ih=>
   intro o e ht;obtain⟨_,h2,h3⟩:=ht;have h4:=ih _ _ h3;have h5:=(aab _).1 h2;simp only[List.length_cons,abd];omega
 have:=go H.blks 184 _ h.tl;unfold lenB;omega
theorem Hp.Ok.n (h:H.Ok):H.blks.length<=512:=by
 have h1:=h.len;have h2:=h.le;omega
theorem Hp.Ok.two (h:H.Ok) (hi:i+1<H.blks.length):(aal H.blks (i+1)).off=(aal H.blks i).off+(aal H.blks i).size/\(aal H.blks i).size+(aal H.blks (i+1)).size<=16384:=by
 obtain⟨_,hs,ht⟩:=h.at_ (i:=i) (by omega);rw[List.drop_eq_getElem_cons hi]at ht;have e:H.blks[i+1]=aal H.blks (i+1):=by
  have:=aat hi;rw[List.getElem?_eq_getElem hi]at this;exact Option.some.inj this
 rw[e]at ht;obtain⟨h1,_,h3⟩:=ht;have h4:=(aak _ _ _ h3).1;have h5:=h.le;exact⟨h1,by omega⟩
theorem Hp.Ok.same (h:H.Ok) (hi:i<H.blks.length) (y:Bk) (ho:y.off=(aal H.blks i).off) (hs:y.size=(aal H.blks i).size):aby 184 (H.blks.set i y) (lenB H.blks)/\lenB (H.blks.set i y)=lenB H.blks:=by
 obtain⟨a,b,c⟩:=h.at_ hi;have ht:aby 184 (H.blks.set i y) (lenB H.blks):=by
  rw[aoU y (aat hi)];refine aiN (by rw[ho];exact a) (by rw[hs];exact b) ?_;rw[ho,hs];exact c
 exact⟨ht,acl ht⟩
theorem Hp.Ok.use (h:H.Ok) (hi:i<H.blks.length) (u:Bool):(H.use i u).Ok:=by
 obtain⟨h1,h2⟩:=h.same hi {aal H.blks i with used:=u} rfl rfl;refine⟨?_,?_,?_⟩
 · show aby 184 (H.blks.set i _) (lenB (H.blks.set i _));rw[h2];exact h1
 · show lenB (H.blks.set i _)<=_;rw[h2];exact h.le
 · show H.ds.length=(H.blks.set i _).length;rw[List.length_set];exact h.dl
theorem Hp.Ok.wipe (h:H.Ok):(H.wipe i).Ok:=⟨h.tl,h.le,by show(H.ds.set i _).length=_;rw[List.length_set];exact h.dl⟩
theorem Hp.Ok.out (h:H.Ok):(H.out i).Ok:=⟨h.tl,h.le,h.dl⟩
theorem Hp.Ok.in_ (h:H.Ok):(H.in_ i).Ok:=⟨h.tl,h.le,h.dl⟩
theorem acr (H:Hp) (hi:i+1<H.blks.length):(H.join i).blks=H.blks.take i++{aal H.blks i with size:=(aal H.blks i).size+(aal H.blks (i+1)).size}::H.blks.drop (i+2):=by
 show(H.blks.set i _).take (i+1)++(H.blks.set i _).drop (i+1+1)=_;rw[amv _ _ _ (by omega),amw _ _ _ _ (by omega),List.append_assoc];rfl
theorem Hp.Ok.join (h:H.Ok) (hi:i+1<H.blks.length):(H.join i).Ok:=by
 obtain⟨a,b,c⟩:=h.at_ (i:=i) (by omega);obtain⟨_,b2,c2⟩:=h.at_ (i:=i+1) hi;obtain⟨e,hle⟩:=h.two hi;have ht:aby 184 (H.join i).blks (lenB H.blks):=by
  rw[acr H hi];refine aiN (x:={aal H.blks i with size:=(aal H.blks i).size+(aal H.blks (i+1)).size}) a (auP b b2 hle) ?_;show aby ((aal H.blks i).off+((aal H.blks i).size+(aal H.blks (i+1)).size)) _ _;rw[<-Nat.add_assoc,<-e];exact c2
 have hl:=acl ht;refine⟨by rw[hl];exact ht,by rw[hl];exact h.le,?_⟩;show(H.ds.take (i+1)++H.ds.drop (i+1+1)).length=(H.join i).blks.length;rw[acr H hi];have:=h.dl;simp only[List.length_append,List.length_take,List.length_drop,List.length_cons];omega
theorem aiO (H:Hp) (hi:i+1<H.blks.length):i<(H.join i).blks.length/\aal (H.join i).blks i={aal H.blks i with size:=(aal H.blks i).size+(aal H.blks (i+1)).size}/\(H.join i).blks.length+1=H.blks.length:=by
 rw[acr H hi];refine⟨?_,aaX ?_,?_⟩
 · simp only[List.length_append,List.length_take,List.length_cons];omega
 · rw[List.getElem?_append_right (by rw[List.length_take];omega),List.length_take,show i-min i H.blks.length=0 by omega];rfl
 · simp only[List.length_append,List.length_take,List.length_cons,List.length_drop];omega
theorem ae0 (H:Hp) (hi:i<H.blks.length) (y:Bk):(((H.use i true).size i s).put (i+1) y).blks=H.blks.take i++{aal H.blks i with used:=true,size:=s}::y::H.blks.drop (i+1):=by
 have e:aal (H.blks.set i {aal H.blks i with used:=true}) i={aal H.blks i with used:=true}:=by rw[acH _ _ _ _ hi,if_pos rfl]
 show((H.blks.set i {aal H.blks i with used:=true}).set i {aal (H.blks.set i {aal H.blks i with used:=true}) i with size:=s}).take (i+1)++y::((H.blks.set i {aal H.blks i with used:=true}).set i {aal (H.blks.set i {aal H.blks i with used:=true}) i with size:=s}).drop (i+1)=_;rw[e,List.set_set,amv _ _ _ hi,amw _ _ _ _ (by omega),List.append_assoc];rfl
theorem Hp.Ok.cut (h:H.Ok) (hi:i<H.blks.length) (hs:aaG (s:Int)=true) (hle:s+32<=(aal H.blks i).size):(((H.use i true).size i s).put (i+1) ⟨(aal H.blks i).off+s,(aal H.blks i).size-s,true⟩).Ok:=by
 obtain⟨a,b,c⟩:=h.at_ hi;have h1:=(aab _).1 hs;have h2:=(aab _).1 b;have ht:aby 184 (((H.use i true).size i s).put (i+1) ⟨(aal H.blks i).off+s,(aal H.blks i).size-s,true⟩).blks (lenB H.blks):=by
  rw[ae0 H hi];refine aiN (x:={aal H.blks i with used:=true,size:=s}) a hs ⟨rfl,(aab _).2 (by dsimp only;omega),?_⟩;dsimp only;rw[show(aal H.blks i).off+s+((aal H.blks i).size-s)=(aal H.blks i).off+(aal H.blks i).size by omega];exact c
 have hl:=acl ht;refine⟨by rw[hl];exact ht,by rw[hl];exact h.le,?_⟩;rw[ae0 H hi];show(H.ds.take (i+1)++acc::H.ds.drop (i+1)).length=_;have:=h.dl;simp only[List.length_append,List.length_take,List.length_drop,List.length_cons];omega
theorem alc (H:Hp) (hi:i<H.blks.length) (y:Bk):(((H.use i true).size i s).put (i+1) y).blks.length=H.blks.length+1:=by
 rw[ae0 H hi];simp only[List.length_append,List.length_take,List.length_drop,List.length_cons];omega
end
def Hp.Dl (H:Hp):Prop:=H.ds.length=H.blks.length
section
variable {H:Hp} {i s:Nat}
theorem Hp.Dl.use (h:H.Dl) (u:Bool):(H.use i u).Dl:=by show H.ds.length=(H.blks.set i _).length;rw[List.length_set];exact h
theorem Hp.Dl.size (h:H.Dl):(H.size i s).Dl:=by show H.ds.length=(H.blks.set i _).length;rw[List.length_set];exact h
theorem Hp.Dl.wipe (h:H.Dl):(H.wipe i).Dl:=by show(H.ds.set i _).length=H.blks.length;rw[List.length_set];exact h
theorem Hp.Dl.out (h:H.Dl):(H.out i).Dl:=h
theorem Hp.Dl.in_ (h:H.Dl):(H.in_ i).Dl:=h
theorem Hp.Dl.drop (h:H.Dl):(H.drop i).Dl:=by
 show(H.ds.take i++H.ds.drop (i+1)).length=(H.blks.take i++H.blks.drop (i+1)).length;have h:H.ds.length=H.blks.length:=h;simp only[List.length_append,List.length_take,List.length_drop,h]
theorem Hp.Dl.put (h:H.Dl) (x:Bk):(H.put i x).Dl:=by
 show(H.ds.take i++acc::H.ds.drop i).length=(H.blks.take i++x::H.blks.drop i).length;have h:H.ds.length=H.blks.length:=h;simp only[List.length_append,List.length_take,List.length_drop,List.length_cons,h]
theorem Hp.Dl.join (h:H.Dl):(H.join i).Dl:=Hp.Dl.drop (Hp.Dl.size h)
theorem Hp.Dl.giveB (h:H.Dl):(H.giveB i).Dl:=by
 unfold Hp.giveB;split
 · exact Hp.Dl.join (Hp.Dl.out h)
 · exact h
theorem Hp.Dl.giveC (h:H.Dl):(H.giveC i).Dl:=by
 unfold Hp.giveC;split
 · exact Hp.Dl.in_ (Hp.Dl.join (Hp.Dl.out h))
 · exact Hp.Dl.in_ h
theorem Hp.Dl.give (h:H.Dl):(H.give i).Dl:=(h.use false).wipe.giveB.giveC
theorem Hp.Dl.cut (h:H.Dl):(H.cut i s).Dl:=by
 unfold Hp.cut;split
 · exact h.use true
 · exact((h.use true).size.put _).give
theorem Hp.Dl.take (h:H.Dl):(H.take s).2.Dl:=by
 unfold Hp.take;split
 · exact Hp.Dl.cut (Hp.Dl.out h)
 · split
   · exact h
   · split
     · exact Hp.Dl.use (Hp.Dl.size (Hp.Dl.out h)) true
     · exact h.put _
theorem Hp.Dl.giveO{o:Int}{H':Hp}(h:H.Dl) (hg:H.giveO o=some H'):H'.Dl:=by
 unfold Hp.giveO at hg
 cases hu:aa3 H.blks o with
 | none=>rw[hu]at hg;cases hg
 | some i=>rw[hu]at hg;injection hg with hg;subst hg;exact h.give
theorem aoV:(H.giveB i).cap=H.cap:=by unfold Hp.giveB;split<;>rfl
theorem aoW:(H.giveC i).cap=H.cap:=by unfold Hp.giveC;split<;>rfl
theorem af2:(H.give i).cap=H.cap:=by unfold Hp.give;rw[aoW,aoV];rfl
theorem cut_cap:(H.cut i s).cap=H.cap:=by
 unfold Hp.cut;split
 · rfl
 · rw[af2];rfl
theorem take_cap:(H.take s).2.cap=H.cap:=by
 unfold Hp.take;split
 · exact cut_cap
 · split
   · rfl
   · split<;>rfl
theorem aoX{o:Int}{H':Hp}(hg:H.giveO o=some H'):H'.cap=H.cap:=by
 unfold Hp.giveO at hg
 cases hu:aa3 H.blks o with
 | none=>rw[hu]at hg;cases hg
 | some i=>rw[hu]at hg;injection hg with hg;subst hg;exact af2
end
structure Rt (bs:List UInt8) (H:Hp):Prop where
 walk:abI bs=some H.blks
 all_:∀c,c<22->afH bs c=some (H.lists c)
 chk:ace bs=true
 len:bs.length<=H.cap
section
variable {bs:List UInt8} {H:Hp}
theorem Rt.lenE (h:Rt bs H):lenB H.blks=bs.length:=acl (aaj h.walk).2.1
theorem Rt.ok (h:Rt bs H) (hc:H.cap<=16384) (hd:H.Dl):H.Ok:=⟨by rw[h.lenE];exact(aaj h.walk).2.1,by rw[h.lenE];exact Nat.le_trans h.len hc,hd⟩
theorem aeD{l:List Bk}{x:Bk}(hx:x∈l):∃i,atB (x.off:Int) l=some i:=by
 cases h:atB (x.off:Int) l with
 | some i=>exact⟨i,rfl⟩
 | none=>exact absurd rfl (amu h x hx)
theorem Rt.listed (h:Rt bs H):H.Listed:=fun c hc o ho=>by
 have hk:=h.chk;unfold ace at hk;rw[h.walk]at hk;simp only[Bool.and_eq_true]at hk;obtain⟨al,h1,h2⟩:=aeW 22 0 _ hk.2.2 c (Nat.zero_le _) (by omega);rw[h.all_ c hc]at h1;injection h1 with h1;subst h1;have h3:=List.all_eq_true.1 h2 o ho;unfold okO at h3;rw[Bool.and_eq_true]at h3;have h4:=h3.1;unfold acD at h4;obtain⟨x,hx,hx2⟩:=List.any_eq_true.1 h4;simp only[Bool.and_eq_true,beq_iff_eq]at hx2;rw[<-hx2.1];exact aeD hx
end
def Held (H:Hp) (bs:List UInt8) (H':Hp) (out:List UInt8):Prop:=
 ∀x∈H.blks,x.used=true->∀y∈H'.blks,y.used=true->y.off=x.off->∀i,x.off+8<=i->i+8<x.off+x.size->i+8<y.off+y.size->out[i]?=bs[i]?
def Bk.val (x:Bk):Value:= .agg #[.int .i64 (x.off:Int), .int .i64 (x.size:Int), .bool x.used]
def bkV (o:Option Bk):Value:=match o with
 | some x=>x.val
 | none=> .agg #[.int .i64 0, .int .i64 0, .bool false]
theorem aaK{w:World}{g:Nat}{t:TypeId}{a b c:Value}(h:w.heap[g]?=some (.cells #[a,b,c] t (0,0))) (x y z:Value):
 (((w.setCell ⟨g,0,none⟩ x).setCell ⟨g,1,none⟩ y).setCell ⟨g,2,none⟩ z).heap[g]?=some (.cells #[x,y,z] t (0,0)):=by
 have h1:=heap_setCell_same w g 0 _ _ x h;have h2:=heap_setCell_same (w.setCell ⟨g,0,none⟩ x) g 1 _ _ y h1;have h3:=heap_setCell_same ((w.setCell ⟨g,0,none⟩ x).setCell ⟨g,1,none⟩ y) g 2 _ _ z h2;rw[h3];rfl
theorem aad{w:World}{g:Nat}{t:TypeId}{a b c:Value}(h:w.heap[g]?=some (.cells #[a,b,c] t (0,0))):(w.cell? ⟨g,0,none⟩=some a/\w.cell? ⟨g,1,none⟩=some b/\w.cell? ⟨g,2,none⟩=some c)/\(w.frozen? ⟨g,0,none⟩=false/\w.frozen? ⟨g,1,none⟩=false/\w.frozen? ⟨g,2,none⟩=false):=by
 refine⟨⟨?_,?_,?_⟩,frozen_of_row w g 0 _ _ h,frozen_of_row w g 1 _ _ h,frozen_of_row w g 2 _ _ h⟩
 · rw[cell_of_row w g 0 _ _ (0,0) h];rfl
 · rw[cell_of_row w g 1 _ _ (0,0) h];rfl
 · rw[cell_of_row w g 2 _ _ (0,0) h];rfl
theorem abP{fn:Func}{R:Ending->World->Prop}{a:Act}{w:World}{p u:Tmp}{g:Nat}{o s:Int}{b:Bool}{x:Value}(hres:fn.results= #[.cell p 112, .tmp u]) (hp:a.tmps.getD p undef= .pointer (some ⟨g,0,none⟩)) (hx:a.tmps.getD u undef=x) (hd:a.defers= [])
 (hg:w.heap[g]?=some (.cells #[.int .i64 o, .int .i64 s, .bool b] 112 (0,0))) (hR:R (.returned (.tuple #[.agg #[.int .i64 o, .int .i64 s, .bool b],x])) w):bodyPost Tryz.prog fn R .ret a w:=by
 have c0:=cell_of_row w g 0 _ _ (0,0) hg;have c1:=cell_of_row w g 1 _ _ (0,0) hg;have c2:=cell_of_row w g 2 _ _ (0,0) hg;simp only[List.getElem?_toArray,List.getElem?_cons_zero,List.getElem?_cons_succ]at c0 c1 c2;refine bodyPost_ret (v:= .tuple #[.agg #[.int .i64 o, .int .i64 s, .bool b],x]) ?_ hd hR;rw[results_cell_tmp hres,hp,hx];simp[go_sem,c0,c1,c2]
section
variable (w:World)
end
theorem aac{w:World}{g:Nat}{o:Obj}(h:w.heap[g]?=some o):g<w.heap.size:=by
 rcases Nat.lt_or_ge g w.heap.size with h1 | h1
 · exact h1
 · rw[Array.getElem?_eq_none h1]at h;cases h
section
variable (w:World)
end
def ald (bs:List UInt8) (o v:Nat):List UInt8:=lay bs o (aaJ 8 v)
section
variable (w:World)
end
def aek (bs:List UInt8) (o s:Int) (u:Bool):Option (List UInt8):=
 if aaG s=true/\ak7 bs.length o s=true then some (ald (ald bs o.toNat (acf s u)) (o+s-8).toNat (acf s u)) else none
section
variable (w:World)
end
def acW:List Bk->List Value
 | []=> []
 | x::r=> .int .i64 (x.off:Int):: .int .i64 (x.size:Int):: .bool x.used::acW r
theorem ajS (a b:List Bk):acW (a++b)=acW a++acW b:=by
 induction a with
 | nil=>rfl
 | cons x r ih=>simp[acW,ih]
theorem ajT:∀(l:List Bk) (i:Nat) (x:Bk),l[i]?=some x->(acW l)[i*3]?=some (.int .i64 (x.off:Int))/\(acW l)[i*3+1]?=some (.int .i64 (x.size:Int))/\(acW l)[i*3+2]?=some (.bool x.used)
 | [],_,_,h=>by simp at h
 | y::r,0,x,h=>by
  simp at h;subst h;exact⟨rfl,rfl,rfl⟩
 | y::r,i+1,x,h=>by
  have:=ajT r i x (by simpa using h);have e:(i+1)*3=i*3+1+1+1:=by omega
  rw[e];exact⟨by simpa[acW]using this.1,by simpa[acW]using this.2.1,by simpa[acW]using this.2.2⟩
theorem auQ:(Tryz.prog.info? 112).map (fun i=>(i.zero,i.size,i.bytes))=some (some (.agg #[.int .i64 0, .int .i64 0, .bool false]),3,24):=by kernel_rfl
theorem adY{w:World}{base n size:Nat}{t:TypeId}{v:Value}{xs:List Value}(h:w.ownsRow base t size v n xs):∃A c,v= .slice A n c:=by
 rcases h.2 with⟨rfl,h0⟩ | ⟨g,cap,cur,rfl,_⟩
 · rw[h0];exact⟨none,0,rfl⟩
 · exact⟨_,_,rfl⟩
theorem aaw{w w':World}{base n size:Nat}{t:TypeId}{v:Value}{xs:List Value}(h:w.ownsRow base t size v n xs) (hb:Below w.heap.size w w'):w'.ownsRow base t size v n xs:=by
 refine⟨h.1,?_⟩;rcases h.2 with h2 | ⟨g,cap,cur,hv,hg,hh,r⟩
 · exact .inl h2
 · refine .inr ⟨g,cap,cur,hv,hg,?_,r⟩;have:=(h.lt g (by rw[hv];rfl)).2;rw[hb.block g this];exact hh
section
variable (w:World)
end
def BkRd (w:World) (B:Nat) (A:Option Addr) (l:List Bk):Prop:=0<l.length->∃b o,A=some ⟨b,o,none⟩/\b<B/\∀j x,l[j]?=some x->
 w.cell? ⟨b,o+j*3,none⟩=some (.int .i64 (x.off:Int))/\w.cell? ⟨b,o+j*3+1,none⟩=some (.int .i64 (x.size:Int))/\w.cell? ⟨b,o+j*3+2,none⟩=some (.bool x.used)
def IRd (w:World) (B:Nat) (A:Option Addr) (l:List Int):Prop:=0<l.length->∃b o,A=some ⟨b,o,none⟩/\b<B/\∀j x,l[j]?=some x->w.cell? ⟨b,o+j,none⟩=some (.int .i64 x)
theorem awj{k:IntKind}{a b:Int}(h:a=b):Ending.returned (.int k a)= .returned (.int k b):=by rw[h]
theorem aoY (n:Int) (m:Nat) (w:World) (hm:0<m) (hm2:m<=1000000) (p:Nat) (hp:(n%(m:Int)).toNat=p):
 Calls Tryz.prog 44 #[.int .i64 n, .int .i64 (m:Int)] w fun e w'=>e= .returned (.int .i64 (p:Int))/\w=w':=by
 have h1:=Int.emod_nonneg n (b:=(m:Int)) (by omega);have h2:=Int.emod_lt_of_pos n (b:=(m:Int)) (by omega);obtain⟨e,he⟩:=nmE (n%(m:Int));rw[he]at h1 h2 hp;have h3:(n.tmod (m:Int)=e)\/(n.tmod (m:Int)=e-m):=by
  have:=Int.tmod_eq_emod (a:=n) (b:=(m:Int));rw[he]at this;rw[this];split
  · left;simp
  · right;simp
 obtain⟨r,hr⟩:=nmE (n.tmod (m:Int));rw[hr]at h3;clear he;have hm0:((m:Int)==0)=false:=by rw[beq_eq_false_iff_ne];omega
 by_cases h4:r<0
 · have h6: -1000000<=r:=by omega
   have h5:r+(m:Int)=(p:Int):=by omega
   have H5:=hE0 h5;clear h3 h5 hp;go_enter Tryz.func44,Tryz.ntmps44
   go_wp2
   go_ret
   exact⟨awj H5.out,rfl⟩
 · have h5:r=(p:Int):=by omega
   have H5:=hE0 h5;clear h3 h5 hp;go_enter Tryz.func44,Tryz.ntmps44
   go_wp2
   go_ret
   exact⟨awj H5.out,rfl⟩
open Go.RowKit Go.ChangeShapes Go.WideShapes Go.Deep
theorem aoZ{α:Type}{p:Nat->α->Prop}:∀(n:Nat),(∀i,i<n->∃x,p i x)->∃l:List α,l.length=n/\∀i x,l[i]?=some x->p i x
 | 0,_=>⟨[],rfl,fun i x h=>by simp at h⟩
 | n+1,h=>by
  obtain⟨l,hl,hp⟩:=aoZ n (fun i hi=>h i (by omega));obtain⟨x,hx⟩:=h n (by omega);refine⟨l++ [x],by simp[hl],fun i y hy=> ?_⟩;rcases Nat.lt_or_ge i l.length with h1 | h1
  · rw[List.getElem?_append_left h1]at hy;exact hp i y hy
  · rw[List.getElem?_append_right h1]at hy;have e:i-l.length=0:=by
     rcases Nat.eq_zero_or_pos (i-l.length)with h2 | h2
     · exact h2
     · rw[List.getElem?_eq_none (by simp;omega)]at hy;cases hy
    rw[e]at hy;obtain rfl:x=y:=by simpa using hy
    obtain rfl:i=n:=by omega
    exact hx
theorem ao0{w:World}{a:Addr}{v:Value}(h:w.cell? (a.add 0)=some v):∃b o,a=⟨b,o,none⟩/\b<w.heap.size/\∀j,a.add j=⟨b,o+j,none⟩:=by
 obtain⟨b,o,sp⟩:=a;obtain rfl:sp=none:=by simpa[Addr.add]using World.cell?_spot h
 have e:∀j,(⟨b,o,none⟩:Addr).add j=⟨b,o+j,none⟩:=fun j=>by unfold Addr.add;split<;>simp_all
 refine⟨b,o,rfl,?_,e⟩;rw[e]at h;exact ak1 h
section
variable {H:Type} {enc:TypeId × Value->H} {w:World} {base:Nat} {held:Bool} {fuel:Nat} {A:Option Addr} {len cap:Nat} {x:DataW H × List MemPlace}
theorem arx{fuel:Nat}{A:Option Addr}{len cap:Nat}{x:DataW H × List MemPlace}(h:DataW.trod enc Tryz.prog w base (fun _=>true) held fuel 37 [.slice A len cap]=some x):∃bs:List UInt8,Rd w w.heap.size A len bs/\len<=cap/\cap<=maxLen/\(A=none->cap=0):=by
 rcases open_ints Tryz.underlying37 Tryz.underlying5 (by kernel_rfl) h with⟨hcs,_⟩ | ⟨y,l,c,zs,hcs,_,hl,hm,hz,_,hcell,hwz⟩
 · simp at hcs;obtain⟨rfl,rfl,rfl⟩:=hcs;exact ajx (zs:= []) (.inl ⟨rfl,rfl,rfl,rfl⟩)
 · simp at hcs;obtain⟨rfl,rfl,rfl⟩:=hcs;exact ajx (zs:=zs) (.inr ⟨_,rfl,hl,hm,by simpa using hz,hcell,hwz⟩)
end
theorem aiP (bs:List UInt8) (o v:Nat):ald bs o v=lyN bs o v:=by
 unfold ald lay lyN;rw[aag]
section
variable (w:World)
end
theorem atu:(Tryz.prog.info? 3).map (fun i=>(i.zero,i.size,i.bytes))=some (some (.int .i64 0),1,8):=by kernel_rfl
def iV (n:Nat):Value:= .int .i64 (n:Int)
section
variable (w:World)
end
theorem ao1{p:Nat->Bool}{l:List Nat}{j o:Nat}(h:∀q∈l.take j,p q=false) (hj:l[j]?=some o) (ho:p o=true):l.find? p=some o:=by
 have hlt:j<l.length:=by
  rcases Nat.lt_or_ge j l.length with h | h
  · exact h
  · rw[List.getElem?_eq_none h]at hj;cases hj
 rw[List.getElem?_eq_getElem hlt]at hj;injection hj with hj;have e:l=l.take j++(o::l.drop (j+1)):=by rw[<-hj,<-List.drop_eq_getElem_cons hlt,List.take_append_drop]
 rw[e,List.find?_append];have hn:(l.take j).find? p=none:=List.find?_eq_none.2 fun q hq=>by rw[h q hq];simp
 rw[hn,Option.none_or,List.find?_cons_of_pos ho]
theorem ano{p:Nat->Bool}{l:List Nat}(h:∀q∈l,p q=false):l.find? p=none:=List.find?_eq_none.2 fun q hq=>by rw[h q hq];simp
theorem agw (bs:List UInt8) (c:Nat):∀(k last p:Nat) (l:List Nat),aeR bs c k last p=some l->∀o∈l,aap bs o (c:Int)=true
 | 0,last,p,l,h,o,ho=>by
  unfold aeR at h;split at h
  · injection h with h;subst h;cases ho
  · cases h
 | k+1,last,p,l,h,o,ho=>by
  unfold aeR at h;by_cases hp:p=0
  · rw[if_pos hp]at h;injection h with h;subst h;cases ho
  · rw[if_neg hp]at h;dsimp only at h;by_cases hm:aap bs p (c:Int)=true/\aaf bs (p+16)=last
    · rw[if_pos hm]at h
      cases hr:aeR bs c k p (aaf bs (p+8))with
      | none=>rw[hr]at h;cases h
      | some l'=>
       rw[hr]at h;injection h with h;subst h;rcases List.mem_cons.1 ho with e | ho
       · rw[e];exact hm.1
       · exact agw bs c k p _ l' hr o ho
    · rw[if_neg hm]at h;cases h
theorem acM{bs:List UInt8}{c:Nat}{l:List Nat}(h:afH bs c=some l):∀o∈l,aap bs o (c:Int)=true:=by
 unfold afH at h;split at h
 · cases h
 · split at h
   · cases h
   · exact agw bs c _ _ _ l h
theorem aeE{bs:List UInt8}{p:Nat}{c:Int}(h:aap bs p c=true):p<=20000/\∃x,aa8 bs (p:Int)=some x:=by
 unfold aap at h
 cases hg:aa8 bs (p:Int)with
 | none=>rw[hg]at h;simp at h
 | some x=>rw[hg]at h;simp at h;exact⟨h.1,x,rfl⟩
section
variable (w:World)
end
theorem ajU (bs:List UInt8):∀(k o:Nat) (l:List Bk),ac8 bs k o=some l->∀x∈l,aa8 bs (x.off:Int)=some x
 | 0,_,_,h,_,_=>by cases h
 | k+1,o,l,h,x,hx=>by
  unfold ac8 at h;by_cases hlt:o<bs.length
  · rw[if_pos hlt]at h
    cases hg:aa8 bs (o:Int)with
    | none=>rw[hg]at h;cases h
    | some y=>
     rw[hg]at h;dsimp only at h
     cases hr:ac8 bs k (o+y.size)with
     | none=>rw[hr]at h;cases h
     | some r=>
      rw[hr]at h;injection h with h;subst h;rcases List.mem_cons.1 hx with e | hx
      · subst e;have:=(aay hg).1;rw[<-this,hg]
      · exact ajU bs k _ r hr x hx
  · rw[if_neg hlt]at h;injection h with h;subst h
    cases hx
theorem ao2{bs:List UInt8}{l:List Bk}(h:abI bs=some l):184<=bs.length/\∀x∈l,aa8 bs (x.off:Int)=some x:=by
 unfold abI at h;split at h
 · cases h
 · exact⟨by omega,ajU bs _ _ l h⟩
theorem ao3{w:World}{base n:Nat}{t:TypeId}{A:Option Addr}{c:Nat}{l:List Bk}(h:w.ownsRow base t 3 (.slice A n c) n (acW l)) (hn:n=l.length):BkRd w w.heap.size A l:=fun h0=>by
 rcases h.2 with⟨_,h0'⟩ | ⟨g,_,_,h',_⟩
 · omega
 · injection h' with e;subst e;refine⟨g,0,rfl,(h.lt g rfl).2,fun j x hx=> ?_⟩;obtain⟨q0,q1,q2⟩:=ajT l j x hx;have hj:j<l.length:=by
    rcases Nat.lt_or_ge j l.length with h | h
    · exact h
    · rw[List.getElem?_eq_none h]at hx;cases hx
   refine⟨?_,?_,?_⟩
   · rw[Nat.zero_add,h.cellAt (j*3) (by omega),q0]
   · rw[Nat.zero_add,h.cellAt (j*3+1) (by omega),q1]
   · rw[Nat.zero_add,h.cellAt (j*3+2) (by omega),q2]
section
variable (w:World)
end
def auF (l:List Nat):List Int:=l.map fun n:Nat=>(n:Int)
theorem ary{w:World}{base n:Nat}{t:TypeId}{A:Option Addr}{c:Nat}{l:List Nat}(h:w.ownsRow base t 1 (.slice A n c) n (l.map iV)) (hn:n=l.length):IRd w w.heap.size A (auF l):=fun h0=>by
 have h0:0<l.length:=by simpa[auF]using h0
 rcases h.2 with⟨_,h0'⟩ | ⟨g,_,_,h',_⟩
 · omega
 · injection h' with e;subst e;refine⟨g,0,rfl,(h.lt g rfl).2,fun j x hx=> ?_⟩;have hj:j<l.length:=by
    rcases Nat.lt_or_ge j l.length with h | h
    · exact h
    · rw[auF,List.getElem?_map,List.getElem?_eq_none h]at hx;cases hx
   rw[Nat.zero_add,h.cellAt j (by omega),List.getElem?_map];rw[auF,List.getElem?_map]at hx
   cases hl:l[j]? with
   | none=>rw[hl]at hx;cases hx
   | some y=>rw[hl]at hx;injection hx with hx;rw[<-hx];rfl
theorem ale{α:Type}{p:α->Bool}{l:List α}{j:Nat}{x:α}(h:l[j]?=some x):(l.take (j+1)).countP p=(l.take j).countP p+if p x=true then 1 else 0:=by
 rw[List.take_add_one,h,List.countP_append];simp[List.countP_cons]
theorem arz{α:Type}{p:α->Bool}{l:List α}{j:Nat}{x:α}(h:l[j]?=some x):(l.take (j+1)).any p=((l.take j).any p || p x):=by
 rw[List.take_add_one,h,List.any_append];simp
section
variable (w:World)
end
def avH:Prop:=∀(w:World) (n:Nat),n<18446744073709551616->Calls Tryz.prog 128 #[.int .u64 (n:Int)] w fun e w'=>e= .returned (anl (acn n))/\Below w.heap.size w w'
def auR:Prop:=∀(w:World) (s:Int),(-9223372036854775808<=s/\s<=9223372036854775807)->Calls Tryz.prog 177 #[.int .i64 s] w fun e w'=>e= .returned (.int .i64 (aaq s))/\Below w.heap.size w w'
section
variable (w:World)
theorem agx (n:Int) (hn: -9223372036854775808<=n/\n<=9223372036854775807) (b:Bool) (hb:aaG n=b):
 Calls Tryz.prog 231 #[.int .i64 n] w fun e w'=>e= .returned (.bool b)/\w=w':=by
 by_cases h1:32<=n
 · by_cases h2:n<=16384
   · have e:(n%16==0)=b:=by rw[<-hb];simp[aaG,h1,h2]
     have HE:=hE0 e;clear hb e;go_enter Tryz.func231,Tryz.ntmps231
     go_wp2
     go_ret
     exact⟨asW HE.out,rfl⟩
   · obtain rfl:false=b:=by rw[<-hb];simp[aaG,h2]
     clear hb;go_enter Tryz.func231,Tryz.ntmps231
     go_wp2
     go_ret
     exact⟨rfl,rfl⟩
 · obtain rfl:false=b:=by rw[<-hb];simp[aaG,h1]
   clear hb;go_enter Tryz.func231,Tryz.ntmps231
   go_wp2
   go_ret
   exact⟨rfl,rfl⟩
theorem ao4:∀q:Fin 256,0<=Lib.len8 (q.1:Int)/\Lib.len8 (q.1:Int)<=8:=by decide+kernel
theorem anp (x:Int) (h0:0<=x) (h1:x<=255):Calls Tryz.prog 268 #[.int .u64 x] w fun e w'=>e= .returned (.int .i64 (wrap64 (wrap64 (Lib.len8 x))))/\w=w':=by
 go_enter Tryz.func268,Tryz.ntmps268
 go_wp2
 go_ret
 exact⟨rfl,rfl⟩
theorem anq (q:Nat) (hq:q<=255):Calls Tryz.prog 268 #[.int .u64 (q:Int)] w fun e w'=>e= .returned (.int .i64 (Lib.len8 (q:Int)))/\w=w':=by
 have hl:=ao4 ⟨q,by omega⟩;have h:=anp w (q:Int) (by omega) (by omega);have e:wrap64 (wrap64 (Lib.len8 (q:Int)))=Lib.len8 (q:Int):=by
  simp only at hl;unfold wrap64;omega
 rw[e]at h;exact h
theorem arA (q:Nat) (hq:q<=255):Calls Tryz.prog 232 #[.int .u64 (q:Int)] w fun e w'=>e= .returned (.int .i64 (Lib.len8 (q:Int)))/\w=w':=by
 have H:=hE0 (anq w q hq);go_enter Tryz.func232,Tryz.ntmps232
 go_wp2_with fail
 refine H.out.mono ?_;rintro e w1 ⟨rfl,rfl⟩;go_wp2
 go_ret
 exact⟨rfl,rfl⟩
theorem ao5:∀q:Fin 65,1<=q.1->(q.1<2/\Lib.len8 (q.1:Int)=1)\/(2<=q.1/\q.1<4/\Lib.len8 (q.1:Int)=2)\/(4<=q.1/\q.1<8/\Lib.len8 (q.1:Int)=3)\/(8<=q.1/\q.1<16/\Lib.len8 (q.1:Int)=4)\/(16<=q.1/\q.1<32/\Lib.len8 (q.1:Int)=5)\/(32<=q.1/\q.1<64/\Lib.len8 (q.1:Int)=6)\/(q.1=64/\Lib.len8 (q.1:Int)=7):=by decide+kernel
end
theorem atv{x:Int}{s:Nat}(h:x=(s:Int)):Ending.returned (.tuple #[.int .i64 x, .bool true])= .returned (anl (some s)):=by rw[h];rfl
theorem auS:avH:=by
 intro w n hn;by_cases h:n<=16368
 · obtain⟨s,hs⟩:∃s,acn n=some s:=⟨_,if_pos h⟩;have e:s=max 32 ((n+31)/16*16):=by
    have h2:acn n=some (max 32 ((n+31)/16*16)):=if_pos h;rw[h2]at hs;injection hs with hs;exact hs.symm
   rw[hs];have E:=hE0 (show s=max 32 ((n+31)/16*16) from e);clear hs e;go_enter Tryz.func128,Tryz.ntmps128
   go_wp2
   all_goals (go_ret2;exact⟨atv (by have:=E.out;omega),Below.refl _ _⟩)
 · rw[show acn n=none from if_neg h];go_enter Tryz.func128,Tryz.ntmps128
   go_wp2
   go_ret2
   exact⟨rfl,Below.refl _ _⟩
theorem ajV:auR:=by
 intro w s hs
 cases hb:aaG s
 · rw[show aaq s= -1 by simp[aaq,hb]];have HI:=hE0 (agx w s hs false hb);clear hb;go_enter Tryz.func177,Tryz.ntmps177
   go_wp2_with fail
   with_reducible refine HI.out.mono ?_
   rintro e w1 ⟨rfl,rfl⟩;go_wp2
   go_ret
   exact⟨rfl,Below.refl _ _⟩
 · have h:=(aab s).1 hb;have HI:=hE0 (agx w s hs true hb);by_cases h0:s<=256
   · have e:(s-32)/16=aaq s:=by
      unfold aaq;rw[if_neg (by simp[hb]),if_pos h0];omega
     obtain⟨c,hc⟩:=nmE (aaq s);rw[hc]at e ⊢;have HC:=hE0 e;clear e hc hb;go_enter Tryz.func177,Tryz.ntmps177
     go_wp2_with fail
     with_reducible refine HI.out.mono ?_
     rintro e w1 ⟨rfl,rfl⟩;go_wp2
     go_ret
     exact⟨auN HC.out,Below.refl _ _⟩
   · obtain⟨q,hq⟩:∃q:Nat,s/256=(q:Int):=⟨(s/256).toNat,by omega⟩;have hq1:1<=q/\q<=64:=by omega
     have cl:=ao5 ⟨q,by omega⟩ hq1.1;simp only at cl;have e:14+Lib.len8 (q:Int)=aaq s:=by
      unfold aaq;rw[if_neg (by simp[hb]),if_neg h0];rcases cl with⟨_,cl⟩ | ⟨_,_,cl⟩ | ⟨_,_,cl⟩ | ⟨_,_,cl⟩ | ⟨_,_,cl⟩ | ⟨_,_,cl⟩ | ⟨_,cl⟩<;>rw[cl]<;>(repeat' split)<;>omega
     obtain⟨c,hc⟩:=nmE (aaq s);rw[hc]at e ⊢;have hl:=ao4 ⟨q,by omega⟩;simp only at hl;have HC:=hE0 e;have HL:=hE0 (fun W=>arA W q (by omega));clear e hc hb cl;obtain⟨l,hl8⟩:=nmE (Lib.len8 (q:Int));rw[hl8]at HC HL hl;clear hl8;go_enter Tryz.func177,Tryz.ntmps177
     go_wp2_with fail
     with_reducible refine HI.out.mono ?_
     rintro e w1 ⟨rfl,rfl⟩;go_wp2_with fail
     refine(HL.out _).mono ?_;rintro e w1 ⟨rfl,rfl⟩;go_wp2
     go_ret
     exact⟨auN HC.out,Below.refl _ _⟩
structure Rk where
 o:Int
 s:Int
 u:Bool
def ab0 (n:Int):Bool:=decide (184<=n)&&(decide (n<=16384)&&(n-184)%16==0)
theorem aaV (n:Int):ab0 n=true ↔ 184<=n/\n<=16384/\(n-184)%16=0:=by simp[ab0]
theorem acN (n:Int):ab0 n=false ↔ ¬(184<=n/\n<=16384/\(n-184)%16=0):=by rw[<-aaV];simp
def abh (n:Int):Int->Bool->List Rk->Bool
 | e,_,[]=>e==n
 | e,f,x::r=>(x.o==e)&&(aaG x.s&&(decide (x.s<=n-e)&&(!(f&& !x.u)&&abh n (e+x.s) (!x.u) r)))
def datOk:List Rk->List (List UInt8)->Bool
 | [],d=>d.isEmpty
 | x::r,d=>if x.u=true then (match d with
  | []=>false
  | y::d'=>((y.length:Int)==x.s-16)&&datOk r d') else datOk r d
def aew (n:Int) (l:List Rk) (d:List (List UInt8)):Bool:=ab0 n&&(abh n 184 false l&&datOk l d)
theorem ajW{n:Int}:∀{l:List Rk}{e:Int}{f:Bool},abh n e f l=true->e+32*l.length<=n
 | [],e,f,h=>by
  unfold abh at h;have:e=n:=by simpa using h
  simp;omega
 | x::r,e,f,h=>by
  unfold abh at h;simp only[Bool.and_eq_true]at h;have h3:=(aab _).1 h.2.1;have h4:=ajW h.2.2.2.2;rw[List.length_cons];omega
theorem ae1{n:Int}:∀{l:List Rk}{e:Int}{f:Bool},abh n e f l=true->∀x∈l,aaG x.s=true
 | [],e,f,h,x,hx=>by cases hx
 | y::r,e,f,h,x,hx=>by
  unfold abh at h;simp only[Bool.and_eq_true]at h;rcases List.mem_cons.1 hx with rfl | hx
  · exact h.2.1
  · exact ae1 h.2.2.2.2 x hx
def aou (x:Rk):List UInt8:=aaJ 8 (acf x.s x.u)
def acA (l:List Rk):List UInt8:=(l.map aou).flatten
def ahO (b:List UInt8):List UInt8:=aaJ 4 (abZ 0 b)
def imMarkB:List UInt8:= [67,78,84,76,1,0,0,0]
def aex (n k:Nat):List UInt8:=imMarkB++aaJ 8 n++aaJ 8 k
def af3 (b:List UInt8) (k:Nat):List UInt8:=b++ahO (b.drop k)
def alf (n k:Nat):List UInt8:=af3 (aex n k) 0
def ahP (n:Nat) (l:List Rk):List UInt8:=af3 (alf n l.length++acA l) 28
def akV (n:Nat) (l:List Rk) (d:List (List UInt8)):List UInt8:=af3 (ahP n l++d.flatten) (ahP n l).length
def aaZ (n:Nat) (l:List Rk) (d:List (List UInt8)):List UInt8:=af3 (akV n l d) 0
theorem ab6 (b:List UInt8):(ahO b).length=4:=aag _ _
theorem ae2 (n k:Nat):(aex n k).length=24:=by unfold aex imMarkB;simp[aag]
theorem af4 (n k:Nat):(alf n k).length=28:=by unfold alf af3;rw[List.length_append,ae2,ab6]
theorem adZ:∀l:List Rk,(acA l).length=8*l.length
 | []=>rfl
 | x::r=>by
  have ih:=adZ r;unfold acA at ih ⊢;rw[List.map_cons,List.flatten_cons,List.length_append,ih,List.length_cons];unfold aou;rw[aag];omega
theorem adt (n:Nat) (l:List Rk):(ahP n l).length=32+8*l.length:=by
 unfold ahP af3;rw[List.length_append,List.length_append,af4,adZ,ab6];omega
theorem ajX{α:Type}{l:List α}{j:Nat}{x:α}(h:l[j]?=some x):l.take (j+1)=l.take j++ [x]:=by
 rw[List.take_add_one,h];rfl
theorem anr{l:List Rk}{j:Nat}{x:Rk}(h:l[j]?=some x):acA (l.take (j+1))=acA (l.take j)++aou x:=by
 rw[ajX h];unfold acA;rw[List.map_append,List.flatten_append];simp
theorem ada{d:List (List UInt8)}{j:Nat}{x:List UInt8}(h:d[j]?=some x):(d.take (j+1)).flatten=(d.take j).flatten++x:=by
 rw[ajX h,List.flatten_append];simp
theorem aeF{α:Type}{l:List α}{j:Nat}{x:α}(h:l[j]?=some x):l.drop j=x::l.drop (j+1):=by
 obtain⟨hj,e⟩:=List.getElem?_eq_some_iff.1 h;rw[List.drop_eq_getElem_cons hj,e]
def RkRd (w:World) (B:Nat) (A:Option Addr) (l:List Rk):Prop:=0<l.length->∃b o,A=some ⟨b,o,none⟩/\b<B/\∀j x,l[j]?=some x->
 w.cell? ⟨b,o+j*3,none⟩=some (.int .i64 x.o)/\w.cell? ⟨b,o+j*3+1,none⟩=some (.int .i64 x.s)/\w.cell? ⟨b,o+j*3+2,none⟩=some (.bool x.u)/\
 (-9223372036854775808<=x.o/\x.o<=9223372036854775807)/\(-9223372036854775808<=x.s/\x.s<=9223372036854775807)
def DtRd (w:World) (B:Nat) (A:Option Addr) (d:List (List UInt8)):Prop:=0<d.length->∃b o,A=some ⟨b,o,none⟩/\b<B/\∀j y,d[j]?=some y->
 ∃A' k,w.cell? ⟨b,o+j,none⟩=some (.slice A' y.length k)/\Rd w B A' y.length y/\y.length<=maxLen/\y.length<=k/\(A'=none->k=0)
section
variable {w w':World} {B B':Nat} {A:Option Addr} {l:List Rk} {d:List (List UInt8)}
theorem RkRd.below (h:RkRd w B A l) (hb:Below B w w'):RkRd w' B A l:=fun hn=>by
 obtain⟨b,o,e,hB,hc⟩:=h hn;refine⟨b,o,e,hB,fun j x hx=> ?_⟩;obtain⟨h0,h1,h2,h3⟩:=hc j x hx;exact⟨(hb.cell (p:=⟨b,o+j*3,none⟩) hB).trans h0,(hb.cell (p:=⟨b,o+j*3+1,none⟩) hB).trans h1,(hb.cell (p:=⟨b,o+j*3+2,none⟩) hB).trans h2,h3⟩
theorem RkRd.more (h:RkRd w B A l) (hB:B<=B'):RkRd w B' A l:=fun hn=>by
 obtain⟨b,o,e,hb,hc⟩:=h hn;exact⟨b,o,e,Nat.lt_of_lt_of_le hb hB,hc⟩
theorem DtRd.below (h:DtRd w B A d) (hb:Below B w w'):DtRd w' B A d:=fun hn=>by
 obtain⟨b,o,e,hB,hc⟩:=h hn;refine⟨b,o,e,hB,fun j x hx=> ?_⟩;obtain⟨A',k,h0,h1,h2⟩:=hc j x hx;exact⟨A',k,(hb.cell (p:=⟨b,o+j,none⟩) hB).trans h0,h1.below hb,h2⟩
theorem DtRd.more (h:DtRd w B A d) (hB:B<=B'):DtRd w B' A d:=fun hn=>by
 obtain⟨b,o,e,hb,hc⟩:=h hn;refine⟨b,o,e,Nat.lt_of_lt_of_le hb hB,fun j x hx=> ?_⟩;obtain⟨A',k,h0,h1,h2⟩:=hc j x hx;exact⟨A',k,h0,h1.more hB,h2⟩
end
theorem abN (w:World) (k:Nat):Below w.heap.size w (w.drewN k):=⟨rfl,rfl,rfl,Nat.le_refl _,fun _ _=>rfl⟩
theorem atw{P:Program}{ops:Array Oper}{Q:Exit->Act->World->Prop}{i B:Nat}{o:Oper}{a:Act}{w:World}{K:Act->World->Prop}(ho:ops[i]?=some o) (d:Option Tmp) (hd:o.dst=d) (hw:Region.wanted o (yielded ops a.tmps)=false) (hk:K (a.put d undef) w):wpOp P ops Q i (fun a'' w''=>Below B w w''/\K a'' w'') a w:=by
 subst hd;unfold wpOp;simp only[ho];rw[if_neg (by rw[hw];decide)];exact⟨Below.refl _ _,hk⟩
def imV (n:Int) (A1:Option Addr) (ll k1:Nat) (A2:Option Addr) (dl k2:Nat):Value:= .agg #[.int .i64 n, .slice A1 ll k1, .slice A2 dl k2]
theorem aam{w:World}{x0 x1 x2:Value}{g:Nat}{t:TypeId}(h:w.heap[g]?=some (.cells #[x0,x1,x2] t (0,0))):
 w.cell? ⟨g,0,none⟩=some x0/\w.cell? ⟨g,1,none⟩=some x1/\w.cell? ⟨g,2,none⟩=some x2:=by
 refine⟨?_,?_,?_⟩
 · rw[cell_of_row w g 0 _ _ (0,0) h];rfl
 · rw[cell_of_row w g 1 _ _ (0,0) h];rfl
 · rw[cell_of_row w g 2 _ _ (0,0) h];rfl
theorem aaa{w:World}{g:Nat}{cs:Array Value}{t:TypeId}(h:w.heap[g]?=some (.cells cs t (0,0))):g<w.heap.size:=by
 rcases Nat.lt_or_ge g w.heap.size with h' | h'
 · exact h'
 · rw[Array.getElem?_eq_none h']at h;cases h
def auG (n:Int):Nat:=(n%18446744073709551616).toNat
theorem ao6 (n:Int) (hn: -9223372036854775808<=n/\n<=9223372036854775807):ab0 ((auG n:Nat):Int)=ab0 n:=by
 unfold auG;rcases Int.lt_or_le n 0 with h | h
 · have e1:ab0 n=false:=(acN n).2 (by omega);rw[e1];exact(acN _).2 (by omega)
 · rw[Int.emod_eq_of_lt h (by omega),Int.toNat_of_nonneg h]
theorem agy (w:World) (v:Nat) (hv:v<18446744073709551616) (b:Bool) (hb:ab0 (v:Int)=b):
 Calls Tryz.prog 178 #[.int .u64 (v:Int)] w fun e w'=>e= .returned (.bool b)/\w=w':=by
 by_cases h1:184<=v
 · by_cases h2:v<=16384
   · by_cases h3:(v-184)%16=0
     · obtain rfl:true=b:=by rw[<-hb];exact((aaV _).2 (by omega)).symm
       clear hb;go_enter Tryz.func178,Tryz.ntmps178
       go_wp2
       go_ret
       exact⟨abj (by rw[beq_iff_eq];omega),rfl⟩
     · obtain rfl:false=b:=by rw[<-hb];exact((acN _).2 (by omega)).symm
       clear hb;go_enter Tryz.func178,Tryz.ntmps178
       go_wp2
       go_ret
       exact⟨abj (by rw[beq_eq_false_iff_ne];omega),rfl⟩
   · obtain rfl:false=b:=by rw[<-hb];exact((acN _).2 (by omega)).symm
     clear hb;go_enter Tryz.func178,Tryz.ntmps178
     go_wp2
     go_ret
     exact⟨rfl,rfl⟩
 · obtain rfl:false=b:=by rw[<-hb];exact((acN _).2 (by omega)).symm
   clear hb;go_enter Tryz.func178,Tryz.ntmps178
   go_wp2
   go_ret
   exact⟨rfl,rfl⟩
theorem ajY (w:World) (A:Option Addr) (k1:Nat) (l:List Rk) (hr:RkRd w w.heap.size A l) (hl:l.length<=1000000) (n:Int) (hn:184<=n/\n<=16384) (y:Bool) (hy:abh n 184 false l=y):
 Calls Tryz.prog 179 #[.slice A l.length k1, .int .i64 n] w fun e w'=>e= .returned (.bool y)/\Below w.heap.size w w':=by
 have HR:=hE0 hr;have HY:=hE0 hy;obtain⟨m,hm⟩:=nmE l.length;rw[hm]at hl ⊢;have HM:=hE0 hm;clear hr hy hm;go_enter Tryz.func179,Tryz.ntmps179
 go_wp2
 go_loopw [5,6,11] (fun e f t wr=>∃(j:Nat) (z:Int) (b:Bool),t= .int .i64 (j:Int)/\e= .int .i64 z/\f= .bool b/\j<=m/\(184<=z/\z<=n)/\abh n z b (l.drop j)=y/\Below w.heap.size w wr) (fun _ _ t _=>m-(intOf t).toNat)
 case atStart=>exact⟨0,184,false,rfl,rfl,rfl,Nat.zero_le _,⟨Int.le_refl _,hn.1⟩,HY.out,Below.refl _ _⟩
 case round=>
  obtain⟨j,z,b,rfl,rfl,rfl,hj,hz,hyy,hb⟩:=hrel;by_cases hlt:j<m
  · obtain⟨x,hx⟩:∃x,l[j]?=some x:=⟨l[j]'(by rw[HM.out];exact hlt),List.getElem?_eq_getElem _⟩;obtain⟨b2,o,rfl,hbb,hcl⟩:=HR.out (by rw[HM.out];omega);obtain⟨p0,p1,p2,hxo,hxs⟩:=hcl j x hx;have r0:=(hb.cell (p:=⟨b2,o+j*3,none⟩) hbb).trans p0;have r1:=(hb.cell (p:=⟨b2,o+j*3+1,none⟩) hbb).trans p1;have r2:=(hb.cell (p:=⟨b2,o+j*3+2,none⟩) hbb).trans p2;rw[aeF hx]at hyy;unfold abh at hyy;obtain⟨xo,xs,xu⟩:=x;dsimp only at p0 p1 p2 r0 r1 r2 hyy hxo hxs;obtain⟨w4,hw4⟩:=nmE (wr.alloc (.cells #[.int .i64 xo, .int .i64 xs, .bool xu] 112));have hb4:Below w.heap.size w w4:=by rw[<-hw4];exact hb.alloc hb.size _
    have n4:=anE hw4;obtain⟨d0,d1,d2⟩:=aam n4;have hl4:=aaa n4;have HW4:=hE0 hw4;have HB4:=hE0 hb4;have HYY:=hE0 hyy;clear hx hb p0 p1 p2 hb4 n4 hw4 hcl hyy;by_cases ho:xo=z
    · have g0:(xo !=z)=false:=by rw[bne_eq_false_iff_eq];exact ho
      obtain⟨pk,hpk⟩:=nmE (acf xs xu);have HPK:=hE0 (fun W=>ac7 (w:=W) xs xu hxs pk hpk);by_cases hsz:aaG xs=true
      · have h3:=(aab _).1 hsz;have hpk0:pk≠0:=by
         rw[<-hpk];unfold acf;rw[if_pos hsz];omega
        have g1:((pk:Int)==0)=false:=by rw[beq_eq_false_iff_ne];omega
        by_cases hle:xs<=n-z
        · have g2:decide (n-z<xs)=false:=decide_eq_false (by omega);by_cases hfu:b=true/\xu=false
          · obtain⟨rfl,rfl⟩:=hfu;have HF:Hid (y=false):=(show y=false by
             have e:=HYY.out;simp at e;first | exact e.symm | exact e)
            clear hsz h3 hpk ho;go_wp2_with (first | (rw[HW4.out]) | fail)
            refine(HPK.out _).mono ?_;rintro e w5 ⟨rfl,rfl⟩;go_wp2
            go_ret
            exact⟨abj HF.out.symm,HB4.out⟩
          · have HF:Hid (abh n (z+xs) (!xu) (l.drop (j+1))=y):=(show _=y by
             have e:=HYY.out;have e1:(b&& !xu)=false:=by
              cases b<;>cases xu<;>first | rfl | exact absurd ⟨rfl,rfl⟩ hfu
             have e2:(xo==z)=true:=by rw[beq_iff_eq];exact ho
             rw[e2,hsz,decide_eq_true hle,e1]at e;simpa using e)
            clear hsz hpk ho
            cases b<;>cases xu;all_goals first | exact absurd ⟨rfl,rfl⟩ hfu | skip
            all_goals
             clear hfu;go_wp2_with (first | (rw[HW4.out]) | fail)
             refine(HPK.out _).mono ?_;rintro e w5 ⟨rfl,rfl⟩;go_wp2_with fail
             go_quiet (fail)
             go_wp2
             go_roundw
             case rel=>exact⟨j+1,z+xs,_,by go_num,by go_num,rfl,by omega,by omega,HF.out,HB4.out.trans ((abN _ _).mono HB4.out.size)⟩
             case measure=>simp only[intOf];omega
        · have g2:decide (n-z<xs)=true:=decide_eq_true (by omega);have HF:Hid (y=false):=(show y=false by
           have e:=HYY.out;rw[decide_eq_false hle]at e;simp at e;first | exact e.symm | exact e)
          clear hsz hpk ho;go_wp2_with (first | (rw[HW4.out]) | fail)
          refine(HPK.out _).mono ?_;rintro e w5 ⟨rfl,rfl⟩;go_wp2
          go_ret
          exact⟨abj HF.out.symm,HB4.out⟩
      · have hpk0:pk=0:=by rw[<-hpk];unfold acf;rw[if_neg hsz]
        subst hpk0;have HF:Hid (y=false):=(show y=false by
         have e:=HYY.out;have hs2:aaG xs=false:=by simpa using hsz
         rw[hs2]at e;simp at e;first | exact e.symm | exact e)
        clear hsz hpk ho;go_wp2_with (first | (rw[HW4.out]) | fail)
        refine(HPK.out _).mono ?_;rintro e w5 ⟨rfl,rfl⟩;go_wp2
        go_ret
        exact⟨abj HF.out.symm,HB4.out⟩
    · have g0:(xo !=z)=true:=by rw[bne_iff_ne];exact ho
      have HF:Hid (y=false):=(show y=false by
       have e:=HYY.out;have e2:(xo==z)=false:=by rw[beq_eq_false_iff_ne];exact ho
       rw[e2]at e;simp at e;first | exact e.symm | exact e)
      clear ho;go_wp2_with (first | (rw[HW4.out]) | fail)
      go_ret
      exact⟨abj HF.out.symm,HB4.out⟩
  · have hd:l.drop j= []:=List.drop_eq_nil_of_le (by rw[HM.out];omega);rw[hd]at hyy;unfold abh at hyy;have HYY:=hE0 hyy;have HBB:=hE0 hb;clear hyy hb hd;go_wp2
    go_ret
    exact⟨abj HYY.out,HBB.out⟩
theorem ael (w:World) (o s:Int) (u:Bool) (hs:aaG s=true):
 Calls Tryz.prog 117 #[.agg #[.int .i64 o, .int .i64 s, .bool u]] w fun e w'=>e= .returned (.int .i64 (s-16))/\Below w.heap.size w w':=by
 have h3:=(aab _).1 hs;obtain⟨w1,hw1⟩:=nmE (w.alloc (.cells #[.int .i64 o, .int .i64 s, .bool u] 112));have hb1:=abE hw1;have n1:=anE hw1;obtain⟨_,d1,_⟩:=aam n1;have hl:=aaa n1;have HW1:=hE0 hw1;have HB1:=hE0 hb1;clear hw1 hb1 n1 hs;go_enter Tryz.func117,Tryz.ntmps117
 go_wp2_with (first | (rw[HW1.out]) | fail)
 go_ret
 exact⟨rfl,HB1.out⟩
theorem ao7 (w:World) (A1 A2:Option Addr) (k1 k2:Nat) (l:List Rk) (d:List (List UInt8)) (hr:RkRd w w.heap.size A1 l) (hd:DtRd w w.heap.size A2 d) (hl:l.length<=1000000) (hdl:d.length<=1000000) (hs:∀x∈l,aaG x.s=true) (y:Bool) (hy:datOk l d=y):
 Calls Tryz.prog 180 #[.slice A2 d.length k2, .slice A1 l.length k1] w fun e w'=>e= .returned (.bool y)/\Below w.heap.size w w':=by
 have HR:=hE0 hr;have HD:=hE0 hd;have HY:=hE0 hy;have HS:=hE0 hs;obtain⟨m,hm⟩:=nmE l.length;obtain⟨n,hn⟩:=nmE d.length;rw[hm]at hl ⊢;rw[hn]at hdl ⊢;have HM:=hE0 hm;have HN:=hE0 hn;clear hr hd hy hs hm hn;go_enter Tryz.func180,Tryz.ntmps180
 go_wp2
 go_loopw [5,10] (fun v t wr=>∃(j i:Nat),t= .int .i64 (j:Int)/\v= .int .i64 (i:Int)/\j<=m/\i<=n/\datOk (l.drop j) (d.drop i)=y/\Below w.heap.size w wr) (fun _ t _=>m-(intOf t).toNat)
 case atStart=>exact⟨0,0,rfl,rfl,Nat.zero_le _,Nat.zero_le _,HY.out,Below.refl _ _⟩
 case round=>
  obtain⟨j,i,rfl,rfl,hj,hi,hyy,hb⟩:=hrel;by_cases hlt:j<m
  · obtain⟨x,hx⟩:∃x,l[j]?=some x:=⟨l[j]'(by rw[HM.out];exact hlt),List.getElem?_eq_getElem _⟩;obtain⟨b2,o,rfl,hbb,hcl⟩:=HR.out (by rw[HM.out];omega);obtain⟨p0,p1,p2,hxo,hxs⟩:=hcl j x hx;have r0:=(hb.cell (p:=⟨b2,o+j*3,none⟩) hbb).trans p0;have r1:=(hb.cell (p:=⟨b2,o+j*3+1,none⟩) hbb).trans p1;have r2:=(hb.cell (p:=⟨b2,o+j*3+2,none⟩) hbb).trans p2;have hsx:=HS.out x (List.mem_of_getElem? hx);rw[aeF hx]at hyy;unfold datOk at hyy;obtain⟨xo,xs,xu⟩:=x;dsimp only at p0 p1 p2 r0 r1 r2 hyy hxo hxs hsx;obtain⟨w4,hw4⟩:=nmE (wr.alloc (.cells #[.int .i64 xo, .int .i64 xs, .bool xu] 112));have hb4:Below w.heap.size w w4:=by rw[<-hw4];exact hb.alloc hb.size _
    have n4:=anE hw4;obtain⟨d0,d1,d2⟩:=aam n4;have hl4:=aaa n4;have HW4:=hE0 hw4;have HB4:=hE0 hb4;have HYY:=hE0 hyy;have HN4:=hE0 n4;clear hx hb p0 p1 p2 hb4 n4 hw4 hcl hyy
    cases xu with
    | false=>
     have HF:Hid (datOk (l.drop (j+1)) (d.drop i)=y):=(show _=y from by
      have e:=HYY.out;rw[if_neg (by decide)]at e;exact e)
     go_wp2_with (first | (rw[HW4.out]) | fail)
     go_roundw
     case rel=>exact⟨j+1,i,by go_num,rfl,by omega,hi,HF.out,HB4.out⟩
     case measure=>simp only[intOf];omega
    | true=>
     by_cases hin:i=n
     · have g0:((i:Int)==(n:Int))=true:=by rw[beq_iff_eq];omega
       have HF:Hid (y=false):=(show y=false from by
        have e:=HYY.out;rw[if_pos rfl,List.drop_eq_nil_of_le (by rw[HN.out];omega)]at e;exact e.symm)
       obtain⟨wd,hwd⟩:=nmE w4.drew;have HWD:=hE0 hwd;have HBD:Hid (Below w.heap.size w wd):=(show Below _ _ _ by rw[<-hwd];exact HB4.out.drew);clear hwd;go_wp2_with (first | (rw[HW4.out]) | fail)
       refine aao wd.heap.size [([0,1,2,3,4,5,6,7,8,9,10],11)] [12,13] [] (by kernel_rfl) (by kernel_rfl) (by kernel_rfl) (fun _ _ _ _ _ h=>h) ?_;rw[HWD.out];refine tail_cons (l:= ?segA) ?hsegA ?_
       case hsegA=>simp only[pick,lE1,lE2,lE3];rfl
       repeat (go_big_quiet_step (fail))
       refine wpQuiet_nil ?_;refine atw rfl (some 28) rfl rfl ⟨wd.heap.size,Nat.le_refl _,?_⟩;simp only[Act.put,lE4,lE5,lE6];refine aaH (l:= ?lastA) (t:= []) ?hlastA ?htlastA ?_
       case hlastA=>simp only[pick,lE1,lE2,lE3];rfl
       case htlastA=>rfl
       repeat (go_big_quiet_step (fail))
       refine wpQuiet_nil ?_;go_wp2
       go_ret
       exact⟨abj HF.out.symm,HBD.out⟩
     · have g0:((i:Int)==(n:Int))=false:=by rw[beq_eq_false_iff_ne];omega
       have hi2:(i:Int)<(n:Int):=by omega
       obtain⟨z,hz⟩:∃z,d[i]?=some z:=⟨d[i]'(by rw[HN.out];omega),List.getElem?_eq_getElem _⟩;obtain⟨b3,o3,rfl,hb3,hc3⟩:=HD.out (by rw[HN.out];omega);obtain⟨A',kz,z0,_,zl,_,_⟩:=hc3 i z hz;obtain⟨zn,hzn⟩:=nmE z.length;rw[hzn]at z0 zl;unfold maxLen at zl;obtain⟨wd,hwd⟩:=nmE w4.drew;have hwb:=adE hwd;have hbd:=HB4.out.trans (hwb.mono HB4.out.size);have nd:=(hwb.block _ (aaa HN4.out)).trans HN4.out;have zd:=(hbd.cell (p:=⟨b3,o3+i,none⟩) hb3).trans z0;have l3:b3<wd.heap.size:=Nat.lt_of_lt_of_le hb3 hbd.size;obtain⟨e0,e1,e2⟩:=aam nd;have le:=aaa nd;have hyy:=HYY.out;rw[if_pos rfl,aeF hz]at hyy;dsimp only at hyy;rw[hzn]at hyy;have HYZ:=hE0 hyy;have HHELD:=hE0 (ael wd xo xs true hsx);have HWD:=hE0 hwd;have HBD:=hE0 hbd;clear hwd hwb hbd nd hyy hz hc3 z0;by_cases hzz:(zn:Int)=xs-16
       · have g1:((zn:Int) !=xs-16)=false:=by rw[bne_eq_false_iff_eq];exact hzz
         have HF:Hid (datOk (l.drop (j+1)) (d.drop (i+1))=y):=(show _=y from by
          have e:=HYZ.out;have e2:((zn:Int)==xs-16)=true:=by rw[beq_iff_eq];exact hzz
          rw[e2,Bool.true_and]at e;exact e)
         clear hzz;go_wp2_with (first | (rw[HW4.out]) | fail)
         refine aao wd.heap.size [([0,1,2,3,4,5,6,7,8,9,10],11)] [12,13] [] (by kernel_rfl) (by kernel_rfl) (by kernel_rfl) (fun _ _ _ _ _ h=>h) ?_;rw[HWD.out];have q0:=tfE zd l3;have q1:=tfE e0 le;have q2:=tfE e1 le;have q3:=tfE e2 le;refine tail_cons (l:= ?segB) ?hsegB ?_
         case hsegB=>simp only[pick,lE1,lE2,lE3];rfl
         repeat (go_big_quiet_step (fail))
         refine wpQuiet_nil ?_;clear q0 q1 q2 q3;refine aar (vs:= #[.agg #[.int .i64 xo, .int .i64 xs, .bool true]]) Tryz.call117 rfl rfl rfl (R:=fun r w'=>r= .int .i64 (xs-16)/\Below wd.heap.size wd w') (HHELD.out.mono ?_) wd.heap.size (Nat.le_refl _) ?_
         · rintro e w' ⟨rfl,hb⟩;exact⟨_,rfl,hb,rfl,hb⟩
         rintro r w5 hb5 ⟨rfl,_⟩;have HB5:=hE0 (HBD.out.trans (hb5.mono HBD.out.size));clear hb5;simp only[Act.put,lE4,lE5,lE6];refine aaH (l:= ?lastB) (t:= []) ?hlastB ?htlastB ?_
         case hlastB=>simp only[pick,lE1,lE2,lE3];rfl
         case htlastB=>rfl
         repeat (go_big_quiet_step (fail))
         refine wpQuiet_nil ?_;go_wp2
         go_roundw
         case rel=>exact⟨j+1,i+1,by go_num,by go_num,by omega,by omega,HF.out,HB5.out⟩
         case measure=>simp only[intOf];omega
       · have g1:((zn:Int) !=xs-16)=true:=by rw[bne_iff_ne];exact hzz
         have HF:Hid (y=false):=(show y=false from by
          have e:=HYZ.out;have e2:((zn:Int)==xs-16)=false:=by rw[beq_eq_false_iff_ne];exact hzz
          rw[e2,Bool.false_and]at e;exact e.symm)
         clear hzz;go_wp2_with (first | (rw[HW4.out]) | fail)
         refine aao wd.heap.size [([0,1,2,3,4,5,6,7,8,9,10],11)] [12,13] [] (by kernel_rfl) (by kernel_rfl) (by kernel_rfl) (fun _ _ _ _ _ h=>h) ?_;rw[HWD.out];have q0:=tfE zd l3;have q1:=tfE e0 le;have q2:=tfE e1 le;have q3:=tfE e2 le;refine tail_cons (l:= ?segC) ?hsegC ?_
         case hsegC=>simp only[pick,lE1,lE2,lE3];rfl
         repeat (go_big_quiet_step (fail))
         refine wpQuiet_nil ?_;clear q0 q1 q2 q3;refine aar (vs:= #[.agg #[.int .i64 xo, .int .i64 xs, .bool true]]) Tryz.call117 rfl rfl rfl (R:=fun r w'=>r= .int .i64 (xs-16)/\Below wd.heap.size wd w') (HHELD.out.mono ?_) wd.heap.size (Nat.le_refl _) ?_
         · rintro e w' ⟨rfl,hb⟩;exact⟨_,rfl,hb,rfl,hb⟩
         rintro r w5 hb5 ⟨rfl,_⟩;have HB5:=hE0 (HBD.out.trans (hb5.mono HBD.out.size));clear hb5;simp only[Act.put,lE4,lE5,lE6];refine aaH (l:= ?lastC) (t:= []) ?hlastC ?htlastC ?_
         case hlastC=>simp only[pick,lE1,lE2,lE3];rfl
         case htlastC=>rfl
         repeat (go_big_quiet_step (fail))
         refine wpQuiet_nil ?_;go_wp2
         go_ret
         exact⟨abj HF.out.symm,HB5.out⟩
  · have hdn:l.drop j= []:=List.drop_eq_nil_of_le (by rw[HM.out];omega);rw[hdn]at hyy;unfold datOk at hyy;have HYY:=hE0 hyy;have HBB:=hE0 hb;clear hyy hb hdn;go_wp2
    go_ret
    exact⟨abj (by
     rw[<-HYY.out];by_cases hin:i=n
     · rw[List.drop_eq_nil_of_le (by rw[HN.out];omega)];rw[List.isEmpty_nil,beq_iff_eq];omega
     · have e:((i:Int)==(n:Int))=false:=by rw[beq_eq_false_iff_ne];omega
       rw[e]
       cases hd2:d.drop i with
       | nil=>have:=congrArg List.length hd2;rw[List.length_drop,HN.out]at this;simp at this;omega
       | cons _ _=>rfl),HBB.out⟩
end Go.Proofs.YtncadccbepjekaaGreatDoor
