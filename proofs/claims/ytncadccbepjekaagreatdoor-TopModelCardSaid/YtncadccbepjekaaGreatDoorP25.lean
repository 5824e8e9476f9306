/- Texts of mine, joined. -/
import Derived.Test.YtncadccbepjekaaGreatDoorP21
import Derived.Test.YtncadccbepjekaaGreatDoorP22
import Derived.Test.YtncadccbepjekaaGreatDoorP24
set_option maxRecDepth 100000
set_option maxHeartbeats 2000000
namespace Go.Proofs.YtncadccbepjekaaGreatDoor
open Go.RowKit
def avD:List Rk->List (List UInt8)
 | []=> []
 | x::l=>if x.u then List.replicate (x.s.toNat-16) 0::avD l else avD l
theorem amR:∀{l:List Rk}{b:List UInt8}{j:Nat}{y:List UInt8},aaP l<=b.length->(af9 l b)[j]?=some y->y=(b.drop ((af9 l b).take j).flatten.length).take y.length/\(avD l)[j]?=some (List.replicate y.length 0)/\((af9 l b).take j).flatten.length+y.length<=aaP l
 | [],b,j,y,_,h=>by simp[af9]at h
 | x::l,b,j,y,hl,h=>by
  unfold aaP at hl;unfold af9 at h ⊢;unfold avD aaP
  cases hu:x.u with
  | false=>
   rw[hu]at hl h;simp only[Bool.false_eq_true,if_false,Nat.zero_add]at hl h ⊢;exact amR hl h
  | true=>
   rw[hu]at hl h;simp only[if_true]at hl h ⊢
   cases j with
   | zero=>
    simp at h;subst h;have hln:(b.take (x.s.toNat-16)).length=x.s.toNat-16:=by rw[List.length_take];omega
    rw[hln];simp
   | succ j=>
    rw[List.getElem?_cons_succ]at h;have hd:aaP l<=(b.drop (x.s.toNat-16)).length:=by rw[List.length_drop];omega
    obtain⟨h1,h2,h3⟩:=amR hd h;have hln:(b.take (x.s.toNat-16)).length=x.s.toNat-16:=by rw[List.length_take];omega
    refine⟨?_,by rw[List.getElem?_cons_succ];exact h2,?_⟩
    · rw[List.take_succ_cons,List.flatten_cons,List.length_append,hln,<-List.drop_drop];exact h1
    · rw[List.take_succ_cons,List.flatten_cons,List.length_append,hln];omega
theorem agY:∀{l:List Rk}{b:List UInt8},aaP l<=b.length->(af9 l b).flatten=b.take (aaP l)
 | [],b,_=>by simp[af9,aaP]
 | x::l,b,hl=>by
  unfold aaP at hl;unfold af9 aaP
  cases hu:x.u with
  | false=>
   rw[hu]at hl;simp only[Bool.false_eq_true,if_false,Nat.zero_add]at hl ⊢;exact agY hl
  | true=>
   rw[hu]at hl;simp only[if_true]at hl ⊢;rw[List.flatten_cons,agY (by rw[List.length_drop];omega),List.take_add]
section
variable {b:List UInt8} {n N K:Nat} {l:List Rk}
structure HeadOk (b:List UInt8) (n N K:Nat):Prop where
 hn:b.length=n
 h28:28<=n
 hm:b.take 8=imMarkB
 hs:abw b 0 24=true
 hN:acU b=N
 hK:ac1 b=K
theorem HeadOk.bad (h:HeadOk b n N K) (hb:¬(184<=N/\N<=16384/\N%16=8/\K<=1024/\32+8*K<=n)):afc b=(3,0,[],[]):=by
 obtain⟨e1,e2,e3,e4,e5,e6⟩:=h;subst e5 e6;by_cases h1:ab0 (acU b:Int)=true/\ac1 b<=1024
 · have hh:ady b=0:=by
    unfold ady;rw[if_neg (by omega),if_neg (by simpa using e3),if_neg (by rw[e4];simp),if_neg (by rw[h1.1];simp),if_neg (by omega)]
   have:=(aaV _).1 h1.1;have hbl:abD b (acU b) (ac1 b)=(3,[]):=by
    unfold abD;rw[if_pos (by omega)]
   unfold afc;rw[if_neg (by rw[hh];simp),if_pos (by rw[hbl];simp),hbl]
 · have hh:ady b=3:=by
    unfold ady;rw[if_neg (by omega),if_neg (by simpa using e3),if_neg (by rw[e4];simp)];by_cases h2:ab0 (acU b:Int)=false
    · rw[if_pos h2]
    · rw[if_neg h2,if_pos]
      cases h3:ab0 (acU b:Int)with
      | false=>exact absurd h3 h2
      | true=>exact Nat.lt_of_not_le fun h4=>h1 ⟨h3,h4⟩
   unfold afc;rw[if_pos (by rw[hh];simp),hh]
structure aqg (n N K:Nat):Prop where
 n0:184<=N
 n1:N<=16384
 n2:N%16=8
 n3:K<=1024
 n4:32+8*K<=n
theorem HeadOk.zero (h:HeadOk b n N K) (k:aqg n N K):ady b=0:=by
 obtain⟨e1,e2,e3,e4,e5,e6⟩:=h;obtain⟨k0,k1,k2,k3,k4⟩:=k;subst e5 e6;unfold ady;rw[if_neg (by omega),if_neg (by simpa using e3),if_neg (by rw[e4];simp),if_neg,if_neg (by omega)];rw[(aaV _).2 (by omega)];simp
theorem HeadOk.tags (h:HeadOk b n N K) (k:aqg n N K) (ht:abw b 28 (28+8*K)=false):afc b=(9,0,[],[]):=by
 have hz:=h.zero k;obtain⟨e1,e2,e3,e4,e5,e6⟩:=h;have:=k.n4;subst e5 e6;have hbl:abD b (acU b) (ac1 b)=(9,[]):=by
  unfold abD;rw[if_neg (by omega),if_pos ht]
 unfold afc;rw[if_neg (by rw[hz];simp),if_pos (by rw[hbl];simp),hbl]
theorem HeadOk.blks (h:HeadOk b n N K) (k:aqg n N K) (ht:abw b 28 (28+8*K)=true):abD b (acU b) (ac1 b)=atQ N (aaR (b.drop 28) K 184):=by
 obtain⟨e1,e2,e3,e4,e5,e6⟩:=h;have:=k.n4;subst e5 e6;unfold abD;rw[if_neg (by omega),if_neg (by rw[ht];simp)]
theorem HeadOk.row (h:HeadOk b n N K) (k:aqg n N K) (ht:abw b 28 (28+8*K)=true) (hb:aaR (b.drop 28) K 184=some l) (hr:abh (N:Int) 184 false l=true):afc b=if (aeN b l).1≠0 then ((aeN b l).1,0,[],[]) else (0,N,l,(aeN b l).2):=by
 have hz:=h.zero k;have hbl:=h.blks k ht;rw[hb]at hbl;have hbl2:abD b (acU b) (ac1 b)=(0,l):=by
  rw[hbl];unfold atQ;dsimp only;rw[if_neg (by rw[hr];simp)]
 unfold afc;rw[if_neg (by rw[hz];simp),if_neg (by rw[hbl2];simp),hbl2,h.hN]
theorem avE (h:b.length=n) (hl:l.length=K) (hn:n=32+8*K+aaP l+8) (y1 y2:Bool) (h1:abw b (32+8*K) (32+8*K+aaP l)=y1) (h2:abw b 0 (32+8*K+aaP l+4)=y2) (hy:y1=false\/y2=false):aeN b l=(9,[]):=by
 unfold aeN;rw[hl,if_neg (by omega),h1,h2];rcases hy with rfl | rfl
 · rw[if_pos rfl]
 · cases y1
   · rw[if_pos rfl]
   · rw[if_neg (by simp),if_pos rfl]
theorem at9 (h:b.length=n) (hl:l.length=K) (hn:n=32+8*K+aaP l+8) (h1:abw b (32+8*K) (32+8*K+aaP l)=true) (h2:abw b 0 (32+8*K+aaP l+4)=true):aeN b l=(0,af9 l (b.drop (32+8*K))):=by
 unfold aeN;rw[hl,if_neg (by omega),h1,h2,if_neg (by simp),if_neg (by simp)]
end
structure Good (b:List UInt8) (N:Nat) (l:List Rk) (d:List (List UInt8)):Prop where
 h28:28<=b.length
 hm:b.take 8=imMarkB
 hs:abw b 0 24=true
 hN:acU b=N
 hlo:ab0 (N:Int)=true
 hK:ac1 b=l.length
 hk:l.length<=1024
 hst:abw b 28 (28+8*l.length)=true
 hb:aaR (b.drop 28) l.length 184=some l
 hr:abh (N:Int) 184 false l=true
 hlen:b.length=32+8*l.length+aaP l+8
 h1:abw b (32+8*l.length) (32+8*l.length+aaP l)=true
 h2:abw b 0 (32+8*l.length+aaP l+4)=true
 hd:d=af9 l (b.drop (32+8*l.length))
section
variable {b c:List UInt8} {N:Nat} {l:List Rk} {d:List (List UInt8)}
theorem Good.got (h:Good b N l d):afc b=(0,N,l,d):=by
 have ho:HeadOk b b.length N l.length:=⟨rfl,h.h28,h.hm,h.hs,h.hN,h.hK⟩;have hl:=(aaV _).1 h.hlo;have hno:aqg b.length N l.length:=⟨by omega,by omega,by omega,h.hk,by have:=h.hlen;omega⟩;rw[ho.row hno h.hst h.hb h.hr,at9 rfl rfl h.hlen h.h1 h.h2,if_neg (by simp),h.hd]
theorem aee{x:Bool}(h:¬x=false):x=true:=by
 cases x with
 | true=>rfl
 | false=>exact absurd rfl h
theorem aqh (h:afc b=(0,N,l,d)):Good b N l d:=by
 unfold afc at h;by_cases h0:ady b≠0
 · rw[if_pos h0]at h;injection h with h _;exact absurd h h0
 rw[if_neg h0]at h;have h0:ady b=0:=Decidable.byContradiction h0;by_cases h1:(abD b (acU b) (ac1 b)).1≠0
 · rw[if_pos h1]at h;injection h with h _;exact absurd h h1
 rw[if_neg h1]at h;have h1:(abD b (acU b) (ac1 b)).1=0:=Decidable.byContradiction h1;by_cases h2:(aeN b (abD b (acU b) (ac1 b)).2).1≠0
 · rw[if_pos h2]at h;injection h with h _;exact absurd h h2
 rw[if_neg h2]at h;have h2:(aeN b (abD b (acU b) (ac1 b)).2).1=0:=Decidable.byContradiction h2;injection h with _ h;injection h with hN h;injection h with hl hd;obtain⟨hlo,hcn⟩:=amP h0;unfold ady at h0;by_cases a1:b.length<28
 · rw[if_pos a1]at h0;cases h0
 rw[if_neg a1]at h0;by_cases a2:b.take 8≠imMarkB
 · rw[if_pos a2]at h0;cases h0
 rw[if_neg a2]at h0;by_cases a3:abw b 0 24=false
 · rw[if_pos a3]at h0;cases h0
 have a2:b.take 8=imMarkB:=Decidable.byContradiction a2;obtain⟨hlK,_⟩:=amQ h1;rw[hl]at hlK hd h2;unfold abD at h1 hl;by_cases a4:b.length<32+8*ac1 b
 · rw[if_pos a4]at h1;cases h1
 rw[if_neg a4]at h1 hl;by_cases a5:abw b 28 (28+8*ac1 b)=false
 · rw[if_pos a5]at h1;cases h1
 rw[if_neg a5]at h1 hl
 cases hbk:aaR (b.drop 28) (ac1 b) 184 with
 | none=>rw[hbk]at h1;cases h1
 | some l'=>
  rw[hbk]at h1 hl;unfold atQ at h1 hl;dsimp only at h1 hl;by_cases a6:abh (acU b:Int) 184 false l'=false
  · rw[if_pos a6]at h1;cases h1
  rw[if_neg a6]at h1 hl;dsimp only at hl;subst hl;have hlK':=hlK;unfold aeN at h2 hd;by_cases a7:b.length≠32+8*l'.length+aaP l'+8
  · rw[if_pos a7]at h2;cases h2
  rw[if_neg a7]at h2 hd;by_cases a8:abw b (32+8*l'.length) (32+8*l'.length+aaP l')=false
  · rw[if_pos a8]at h2;cases h2
  rw[if_neg a8]at h2 hd;by_cases a9:abw b 0 (32+8*l'.length+aaP l'+4)=false
  · rw[if_pos a9]at h2;cases h2
  rw[if_neg a9]at hd;have a7:b.length=32+8*l'.length+aaP l'+8:=Decidable.byContradiction a7;subst hN;exact⟨by omega,a2,aee a3,rfl,hlo,hlK.symm,by omega,by rw[hlK];exact aee a5,by rw[hlK];exact hbk,aee a6,a7,aee a8,aee a9,hd.symm⟩
theorem agh{X:List UInt8}{i j:Nat}(hX:b.take j=X) (hj:j+4<=b.length) (_hij:i<=j) (h:abw b i j=true):b.take (j+4)=af3 X i:=by
 rw[<-akd hj]at h;have h:=of_decide_eq_true h;unfold af3;rw[List.take_add,<-h,<-hX,List.drop_take]
theorem afg{X r:List UInt8}{i j:Nat}(hj:X.length=j) (hij:i<=j):abw (af3 X i++r) i j=true:=by
 have hl:(af3 X i++r).length=j+4+r.length:=by unfold af3;rw[List.length_append,List.length_append,ab6,hj]
 rw[<-akd (by omega)];apply decide_eq_true;unfold af3;have e1:((X++ahO (X.drop i)++r).drop i).take (j-i)=X.drop i:=by
  rw[List.append_assoc,List.drop_append_of_le_length (by omega),List.take_append_of_le_length (by rw[List.length_drop];omega),List.take_of_length_le (by rw[List.length_drop];omega)]
 have e2:((X++ahO (X.drop i)++r).drop j).take 4=ahO (X.drop i):=by
  rw[List.append_assoc,<-hj,List.drop_left,List.take_append_of_le_length (by rw[ab6];omega),List.take_of_length_le (by rw[ab6];omega)]
 rw[e1,e2]
theorem alP{x:List UInt8}(h:x.length=8):aaJ 8 (ab2 x)=x:=by
 have:=agm x;rw[h]at this;exact this
theorem ask{x:List UInt8}{s:Nat}{u:Bool}(h:x.length=8) (hu:adM (ab2 x)=some (s,u)) (o:Int):aou ⟨o,(s:Int),u⟩=x:=by
 obtain⟨h1,h2⟩:=ac5 hu;have h3:=afo h1 u;unfold aou;have e:acf (s:Int) u=ab2 x:=by
  rw[h2];unfold acf;rw[if_pos h1];simp
 rw[e];exact alP h
theorem agZ:∀{k:Nat}{b:List UInt8}{o:Nat}{l:List Rk},8*k<=b.length->aaR b k o=some l->acA l=b.take (8*k)
 | 0,b,o,l,_,h=>by
  rw[aaR]at h;injection h with h;rw[<-h];rfl
 | k+1,b,o,l,hl,h=>by
  rw[aaR]at h;split at h
  · cases h
  · rename_i s u e
    cases hm:aaR (b.drop 8) k (o+s)with
    | none=>rw[hm]at h;cases h
    | some l'=>
     rw[hm]at h;injection h with h;rw[<-h];have ih:=agZ (by rw[List.length_drop];omega) hm;have:acA (⟨(o:Int),(s:Int),u⟩::l')=aou ⟨(o:Int),(s:Int),u⟩++acA l':=by
      unfold acA;rw[List.map_cons,List.flatten_cons]
     rw[this,ih,ask (by rw[List.length_take];omega) e,show 8*(k+1)=8+8*k from by omega,List.take_add]
theorem ag0:∀{l:List Rk}{b:List UInt8},(∀x∈l,aaG x.s=true)->aaP l<=b.length->datOk l (af9 l b)=true
 | [],_,_,_=>rfl
 | x::l,b,h,hl=>by
  have hx:=(aab _).1 (h x (by simp));unfold aaP at hl;unfold datOk af9
  cases hu:x.u with
  | false=>
   rw[hu]at hl;simp only[Bool.false_eq_true,if_false,Nat.zero_add]at hl ⊢;exact ag0 (l:=l) (fun y hy=>h y (by simp[hy])) hl
  | true=>
   rw[hu]at hl;simp only[if_true]at hl ⊢;have ih:=ag0 (l:=l) (b:=b.drop (x.s.toNat-16)) (fun y hy=>h y (by simp[hy])) (by rw[List.length_drop];omega);rw[ih,Bool.and_true,beq_iff_eq,List.length_take];omega
theorem Good.put (h:Good b N l d):b=aaZ N l d/\aew (N:Int) l d=true:=by
 obtain⟨h28,hm,hs,hN,hlo,hK,hk,hst,hb,hr,hlen,h1,h2,hd⟩:=h;have hlB:=(aaV _).1 hlo;have hh:b.take 24=aex N l.length:=by
  have e1:(b.drop 8).take 8=aaJ 8 N:=by rw[<-hN];unfold acU;rw[alP];rw[List.length_take,List.length_drop];omega
  have e2:(b.drop 16).take 8=aaJ 8 l.length:=by rw[<-hK];unfold ac1;rw[alP];rw[List.length_take,List.length_drop];omega
  unfold aex;rw[show 24=8+(8+8) from rfl,List.take_add,List.take_add,List.drop_drop,hm,e1,e2,List.append_assoc]
 have hA:b.take 28=alf N l.length:=agh hh (by omega) (by omega) hs;have hT0:b.take (28+8*l.length)=alf N l.length++acA l:=by
  rw[List.take_add,hA,agZ (by rw[List.length_drop];omega) hb]
 have hT:b.take (28+8*l.length+4)=ahP N l:=agh hT0 (by omega) (by omega) hst;rw[show 28+8*l.length+4=32+8*l.length from by omega]at hT;have hheld:aaP l<=(b.drop (32+8*l.length)).length:=by rw[List.length_drop];omega
 have hD0:b.take (32+8*l.length+aaP l)=ahP N l++d.flatten:=by
  rw[List.take_add,hT,hd,agY hheld]
 have hD:b.take (32+8*l.length+aaP l+4)=akV N l d:=by
  have:=agh hD0 (by omega) (by omega) h1;rw[this];unfold akV;rw[adt]
 have hB:b.take (32+8*l.length+aaP l+4+4)=aaZ N l d:=agh hD (by omega) (by omega) h2;refine⟨?_,?_⟩
 · rw[<-hB,List.take_of_length_le (by omega)]
 · unfold aew;rw[hlo,hr,hd,ag0 (ae0 hr) hheld];rfl
theorem afz:∀{l:List Rk}{d:List (List UInt8)},datOk l d=true->(∀x∈l,aaG x.s=true)->aaP l=d.flatten.length
 | [],d,h,_=>by
  unfold datOk at h;rw[List.isEmpty_iff]at h;rw[h];rfl
 | x::l,d,h,hz=>by
  have hx:=(aab _).1 (hz x (by simp));have hz2:∀y∈l,aaG y.s=true:=fun y hy=>hz y (by simp[hy]);unfold datOk at h;unfold aaP
  cases hu:x.u with
  | false=>
   rw[hu]at h;simp only[Bool.false_eq_true,if_false,Nat.zero_add]at h ⊢;exact afz h hz2
  | true=>
   rw[hu]at h;simp only[if_true]at h ⊢
   cases d with
   | nil=>cases h
   | cons y d'=>
    simp only[Bool.and_eq_true,beq_iff_eq]at h;rw[afz h.2 hz2,List.flatten_cons,List.length_append];omega
theorem afA:∀{l:List Rk}{d:List (List UInt8)}{r:List UInt8},datOk l d=true->(∀x∈l,aaG x.s=true)->af9 l (d.flatten++r)=d
 | [],d,r,h,_=>by
  unfold datOk at h;rw[List.isEmpty_iff]at h;rw[h];rfl
 | x::l,d,r,h,hz=>by
  have hx:=(aab _).1 (hz x (by simp));have hz2:∀y∈l,aaG y.s=true:=fun y hy=>hz y (by simp[hy]);unfold datOk at h;unfold af9
  cases hu:x.u with
  | false=>
   rw[hu]at h;simp only[Bool.false_eq_true,if_false]at h ⊢;exact afA h hz2
  | true=>
   rw[hu]at h;simp only[if_true]at h ⊢
   cases d with
   | nil=>cases h
   | cons y d'=>
    simp only[Bool.and_eq_true,beq_iff_eq]at h;have hy:x.s.toNat-16=y.length:=by omega
    rw[List.flatten_cons,List.append_assoc,hy,List.take_left,List.drop_left,afA h.2 hz2]
theorem aic{n:Int}:∀{l:List Rk}{o:Nat}{f:Bool}{r:List UInt8},abh n (o:Int) f l=true->aaR (acA l++r) l.length o=some l
 | [],o,f,r,_=>rfl
 | x::l,o,f,r,h=>by
  unfold abh at h;simp only[Bool.and_eq_true,beq_iff_eq]at h;obtain⟨ho,hs,_,_,hr⟩:=h;have hx:=(aab _).1 hs;have e:acA (x::l)++r=aou x++(acA l++r):=by
   unfold acA;rw[List.map_cons,List.flatten_cons,List.append_assoc]
  have hl:(aou x).length=8:=aag _ _;have hp:=afX x.s x.u;have hu:adM (ab2 (aou x))=some (x.s.toNat,x.u):=by
   unfold aou;rw[acm,Nat.mod_eq_of_lt (by omega)];exact afo hs x.u
  rw[e,List.length_cons,aaR,<-hl,List.take_left,List.drop_left,hu];dsimp only;have hr2:abh n ((o+x.s.toNat:Nat):Int) (!x.u) l=true:=by
   rw[show((o+x.s.toNat:Nat):Int)=(o:Int)+x.s from by omega];exact hr
  rw[aic hr2];have hxs:((x.s.toNat:Nat):Int)=x.s:=by omega
  show some ((⟨(o:Int),((x.s.toNat:Nat):Int),x.u⟩:Rk)::l)=some (x::l);rw[hxs,<-ho]
theorem alQ (h:aew (N:Int) l d=true):Good (aaZ N l d) N l d:=by
 unfold aew at h;simp only[Bool.and_eq_true]at h;obtain⟨hlo,hr,hdo⟩:=h;have hl:=(aaV _).1 hlo;have hk:l.length<=1024:=by have:=ajX hr;omega
 have hz:=ae0 hr;have hheld:=afz hdo hz;have hDl:(ahP N l++d.flatten).length=32+8*l.length+aaP l:=by rw[List.length_append,adt,hheld]
 have hPD:(akV N l d).length=32+8*l.length+aaP l+4:=by unfold akV af3;rw[List.length_append,hDl,ab6]
 have hPB:(aaZ N l d).length=32+8*l.length+aaP l+8:=by unfold aaZ af3;rw[List.length_append,hPD,ab6]
 obtain⟨r3,e3⟩:∃r,aaZ N l d=akV N l d++r:=⟨_,rfl⟩;obtain⟨r2,e2⟩:∃r,aaZ N l d=ahP N l++d.flatten++r:=by
  rw[e3];unfold akV af3;rw[List.append_assoc];exact⟨_,rfl⟩
 obtain⟨r1,e1⟩:∃r,aaZ N l d=ahP N l++r:=by rw[e2,List.append_assoc];exact⟨_,rfl⟩
 obtain⟨r0,e0⟩:∃r,aaZ N l d=alf N l.length++(acA l++r):=by
  rw[e1];unfold ahP af3;rw[List.append_assoc,List.append_assoc];exact⟨_,rfl⟩
 obtain⟨rh,eh⟩:∃r,aaZ N l d=aex N l.length++r:=by
  rw[e0];unfold alf af3;rw[List.append_assoc];exact⟨_,rfl⟩
 have hbl:aaR ((aaZ N l d).drop 28) l.length 184=some l:=by
  rw[e0,<-af4 N l.length,List.drop_left];exact aic hr
 have s0:abw (aaZ N l d) 0 24=true:=by rw[e0];exact afg (ae1 _ _) (by omega)
 have s1:abw (aaZ N l d) 28 (28+8*l.length)=true:=by
  rw[e1];exact afg (by rw[List.length_append,af4,ad0]) (by omega)
 have s2:abw (aaZ N l d) (32+8*l.length) (32+8*l.length+aaP l)=true:=by
  rw[e3];unfold akV;rw[adt];exact afg hDl (by omega)
 have s3:abw (aaZ N l d) 0 (32+8*l.length+aaP l+4)=true:=by
  have:=afg (X:=akV N l d) (r:= []) (i:=0) hPD (by omega);rw[List.append_nil]at this;exact this
 have hmk:(aaZ N l d).take 8=imMarkB:=by
  rw[eh];unfold aex;rw[List.append_assoc,List.append_assoc,List.take_append_of_le_length (by decide)];rfl
 have hN:acU (aaZ N l d)=N:=by
  unfold acU;rw[eh];unfold aex;rw[List.append_assoc,List.append_assoc,show(8:Nat)=imMarkB.length from rfl,List.drop_left];have:(aaJ imMarkB.length N).length=imMarkB.length:=aag _ _;rw[List.take_append_of_le_length (by rw[this];exact Nat.le_refl _),List.take_of_length_le (by rw[this];exact Nat.le_refl _),acm];exact Nat.mod_eq_of_lt (by show N<256^8;omega)
 have hC:ac1 (aaZ N l d)=l.length:=by
  unfold ac1;rw[eh];unfold aex;have h16:(imMarkB++aaJ 8 N).length=16:=by rw[List.length_append,aag];rfl
  rw[List.append_assoc,<-h16,List.drop_left];have:(aaJ 8 l.length).length=8:=aag _ _;rw[List.take_append_of_le_length (by rw[this];exact Nat.le_refl _),List.take_of_length_le (by rw[this];exact Nat.le_refl _),acm];exact Nat.mod_eq_of_lt (by omega)
 refine⟨by omega,hmk,s0,hN,hlo,hC,hk,s1,hbl,hr,hPB,s2,s3,?_⟩;rw[e2,List.append_assoc,<-adt N l,List.drop_left,afA hdo hz]
end
theorem as6{n:Nat}:∀(l:List Bk) (o:Nat) (u:Bool),aby o l n->afW u l=true->abh (n:Int) (o:Int) (!u) (l.map toR)=true
 | [],o,u,h,_=>by
  have h:o=n:=h;subst h;simp[abh]
 | x::r,o,u,⟨h1,h2,h3⟩,hn=>by
  unfold afW at hn;rw[Bool.and_eq_true]at hn;have ih:=as6 r (o+x.size) x.used h3 hn.2;have hle:=(aak r _ _ h3).1;rw[List.map_cons,abh];simp only[Bool.and_eq_true];refine⟨by unfold toR;rw[h1];simp,h2,decide_eq_true ?_,?_,ih⟩
  · show(x.size:Int)<=(n:Int)-(o:Int);omega
  · show(!(!u&& !x.used))=true;have:=hn.1
    cases u<;>cases hx:x.used<;>simp_all
theorem as7{bs:List UInt8}:∀l:List Bk,(∀x∈l,x.off+x.size<=bs.length/\32<=x.size)->datOk (l.map toR) (ofD bs l)=true
 | [],_=>rfl
 | x::r,h=>by
  have ih:=as7 r fun y hy=>h y (List.mem_cons_of_mem _ hy);obtain⟨h1,h2⟩:=h x (List.mem_cons_self ..);rw[List.map_cons,datOk.eq_def,ofD];dsimp only
  cases hu:x.used with
  | false=>rw[if_neg (by unfold toR;rw[hu];exact Bool.false_ne_true),if_neg Bool.false_ne_true];exact ih
  | true=>
   rw[if_pos (by unfold toR;exact hu),if_pos rfl];dsimp only;rw[Bool.and_eq_true];refine⟨?_,ih⟩;rw[beq_iff_eq,List.length_take,List.length_drop];show((min (x.size-16) (bs.length-(x.off+8)):Nat):Int)=(x.size:Int)-16;omega
theorem amS:∀(l:List Bk) (o e:Nat),aby o l e->∃k,e=o+16*k
 | [],o,e,h=>⟨0,by have h:o=e:=h;omega⟩
 | x::r,o,e,⟨_,h2,h3⟩=>by
  obtain⟨k,hk⟩:=amS r _ _ h3;have hs:=(aab _).1 h2;exact⟨x.size/16+k,by omega⟩
theorem aku{bs:List UInt8}{l:List Bk}(hw:abI bs=some l) (hl:bs.length<=16384) (hn:aev l=true):aew (bs.length:Int) (l.map toR) (ofD bs l)=true:=by
 obtain⟨h1,ht,_⟩:=aaj hw;obtain⟨k,hk⟩:=amS _ _ _ ht;unfold aew;rw[abf]at hn;simp only[Bool.and_eq_true];refine⟨(aaV _).2 ⟨by omega,by omega,by omega⟩,as6 l 184 true ht hn,as7 l fun x hx=> ?_⟩;obtain⟨_,a,b,_⟩:=(aak _ _ _ ht).2 x hx;have:=(aab _).1 b;exact⟨a,by omega⟩
theorem amT{bs:List UInt8}:∀(L:List Bk) (ds:List Dt),ds.length=L.length->(∀(j:Nat) (x:Bk) (d:Dt),L[j]?=some x->ds[j]?=some d->x.used=true->d.2.length+16=x.size/\∀k,k<d.2.length->bs[x.off+8+k]?=d.2[k]?)->ofD bs L=au8 L ds
 | [],[],_,_=>rfl
 | x::L,d::ds,hl,h=>by
  have ih:=amT L ds (by simpa using hl) fun j x d hx hd=>h (j+1) x d hx hd;rw[ofD,au8,ih]
  cases hu:x.used with
  | false=>rfl
  | true=>
   obtain⟨h1,h2⟩:=h 0 x d rfl rfl hu;have e:(bs.drop (x.off+8)).take (x.size-16)=d.2:=by
    refine List.ext_getElem? fun k=> ?_;rw[List.getElem?_take];split
    · rw[List.getElem?_drop];exact h2 k (by omega)
    · rw[List.getElem?_eq_none (by omega)]
   rw[if_pos rfl,if_pos rfl,e]
theorem amU{bs:List UInt8}{H:Hp}(h:RtD bs H):ofD bs H.blks=au8 H.blks H.ds:=
 amT _ _ h.dl fun j x d hx hd hu=>h.ho j x d ⟨hx,hd⟩ hu
structure Sm (wB W:World) (g base cap:Nat) (A:Option Addr) (c:Nat) (bs:List UInt8) (gm:Nat) (o:Obj):Prop where
 st:St wB W g base cap A c bs []
 ob:W.heap[gm]?=some o
 nf:¬foot g A gm
section
variable {wB W W':World} {g base cap c gm:Nat} {A:Option Addr} {bs out:List UInt8} {o:Obj}
theorem akv{w:World}{g:Nat}{o:Obj}(h:w.heap[g]?=some o):g<w.heap.size:=(Array.getElem?_eq_some_iff.1 h).1
theorem Sm.below (h:Sm wB W g base cap A c bs gm o) (hb:Below W.heap.size W W'):Sm wB W' g base cap A c bs gm o:=
 ⟨h.st.below hb,(hb.block _ (akv h.ob)).trans h.ob,h.nf⟩
theorem Sm.became (h:Sm wB W g base cap A c bs gm o) (hb:Became 195 g base cap A out W W'):∃A' c',Sm wB W' g base cap A' c' out gm o:=by
 obtain⟨A',c',har,ht,hA⟩:=hb;have hlow:∀a,A'=some a->wB.heap.size<=a.block:=fun a ha=>by
  rcases hA with e | e
  · exact h.st.aB a (e▸ha)
  · exact Nat.le_trans h.st.size (e a ha)
 refine⟨A',c',⟨h.st.bel.trans (ht.below (fun k hk=> ?_) h.st.size),har,h.st.gB,hlow,fun q hq=>by cases hq⟩,?_,?_⟩
 · rcases hk with rfl | ⟨a,e,rfl⟩
   · exact h.st.gB
   · exact h.st.aB a e
 · exact(ht.block _ (akv h.ob) h.nf).trans h.ob
 · intro hf;rcases hf with rfl | ⟨a,e,rfl⟩
   · exact h.nf (.inl rfl)
   · rcases hA with e2 | e2
     · exact h.nf (.inr ⟨a,e2▸e,rfl⟩)
     · have h1:=e2 a e;have:=akv h.ob;omega
end
theorem aqi{bs:List UInt8}{x:Bk}{r:List Bk}{d:List (List UInt8)}{y:List UInt8}(hu:x.used=true):agd bs (x::r) (y::d)=agd (lay (aaY bs x) (x.off+8) y) r d:=by
 rw[agd,if_pos hu];rfl
theorem aqj{bs:List UInt8}{x:Bk}{r:List Bk}{d:List (List UInt8)}(hu:x.used=false):agd bs (x::r) d=agd (aaY bs x) r d:=by
 rw[agd,if_neg (by rw[hu];simp)]
theorem aqk (wB W:World) (g base cap c:Nat) (A:Option Addr) (bs:List UInt8) (n:Nat) (L:List Bk) (d:List (List UInt8)) (A1 A2:Option Addr) (k1 k2:Nat) (N:Int) (hst:St wB W g base cap A c bs []) (hb62:base<=4611686018427387904) (hn:bs.length=n) (hn16:n<=16384) (ht:aby 184 L n) (hd:alI L d) (hr:RkRd wB wB.heap.size A1 (L.map toR)) (hdr:DtRd wB wB.heap.size A2 d):
 Calls Tryz.prog 155 #[.pointer (some ⟨g,0,none⟩), .agg #[.int .i64 N, .slice A1 L.length k1, .slice A2 d.length k2]] W fun e w'=>e= .returned (.tuple #[])/\∃A' c',St wB w' g base cap A' c' (agd bs L d) []:=by
 obtain⟨m,hm⟩:=nmE L.length;obtain⟨dl,hdl⟩:=nmE d.length;obtain⟨F,hF⟩:=nmE (agd bs L d);rw[hm,hdl,hF];have htm:=(aak _ _ _ ht).2;have hm512:m<=512:=by have:=ajd _ _ _ ht;omega
 obtain⟨w1,hw1⟩:=nmE (W.alloc (.cells #[.int .i64 N, .slice A1 m k1, .slice A2 dl k2] 107));have hb1:=abE hw1;have n1:=anE hw1;have HS1:Hid (Sm wB w1 g base cap A c bs W.heap.size (.cells #[.int .i64 N, .slice A1 m k1, .slice A2 dl k2] 107 (0,0))):=⟨hst.below hb1,n1,fun hf=>by have:=hst.ar.foot_lt hf;omega⟩;have HSET:=hE0 (fun W' A' c' bs' (x:Bk) (h:Ar W' 195 g base cap A' c' bs') (hl:bs'.length<=16384) (h1:184<=x.off) (h2:x.off%16=8) (h3:x.off+x.size<=bs'.length) (h4:aaG (x.size:Int)=true) (h5:x.off<=100000) (h6:x.size<=100000)=>av4 W' g base cap c' A' bs' (x.off:Int) (x.size:Int) x.used (some (aaY bs' x)) h hb62 hl (by omega) (by omega) (aeL bs' x h1 h2 h3 h4));have HR:=hE0 hr;have HDR:=hE0 hdr;have HM:=hE0 hm;have HDL:=hE0 hdl;have HTM:=hE0 htm;have HT:=hE0 ht;have HD:=hE0 hd;have HF0:=hE0 hF;have HN:=hE0 hn;have HW1:=hE0 hw1;obtain⟨c0,c1,c2⟩:=aam n1;have hl1:=aaa n1;clear hm hdl hF ht hd hr hdr hn htm hw1 n1 hst hb1;go_enter Tryz.func155,Tryz.ntmps155
 go_wp2_with (first | (rw[HW1.out]) | fail)
 clear c0 c1 c2 hl1;go_loopw [4,10] (fun u t wr=>∃(j v:Nat) (A:Option Addr) (c:Nat) (bs:List UInt8) (o:Nat),t= .int .i64 (j:Int)/\u= .int .i64 (v:Int)/\j<=m/\v<=j/\Sm wB wr g base cap A c bs W.heap.size (.cells #[.int .i64 N, .slice A1 m k1, .slice A2 dl k2] 107 (0,0))/\bs.length=n/\agd bs (L.drop j) (d.drop v)=F/\alI (L.drop j) (d.drop v)) (fun _ t _=>m-(intOf t).toNat)
 case atStart=>exact⟨0,0,A,c,bs,184,rfl,rfl,Nat.zero_le _,Nat.zero_le _,HS1.out,HN.out,HF0.out,HD.out⟩
 case round=>
  obtain⟨j,v,A,c,bs,o,rfl,rfl,hj,hvj,hsm,hbl,hlay,hdat⟩:=hrel;by_cases hlt:j<m
  · obtain⟨x,hx⟩:∃x,L[j]?=some x:=⟨L[j]'(by rw[HM.out];exact hlt),List.getElem?_eq_getElem _⟩;obtain⟨m1,m2,m3,m4⟩:=HTM.out x (List.mem_of_getElem? hx);have m5:=(aab _).1 m3;obtain⟨b2,o2,rfl,hbb,hcl⟩:=HR.out (by rw[List.length_map,HM.out];omega);obtain⟨p0,p1,p2,_,_⟩:=hcl j (toR x) (by rw[List.getElem?_map,hx];rfl);have hbe:=hsm.st.bel;have r0:=(hbe.cell (p:=⟨b2,o2+j*3,none⟩) hbb).trans p0;have r1:=(hbe.cell (p:=⟨b2,o2+j*3+1,none⟩) hbb).trans p1;have r2:=(hbe.cell (p:=⟨b2,o2+j*3+2,none⟩) hbb).trans p2;rw[aeG hx]at hlay hdat;obtain⟨w4,hw4⟩:=nmE (wr.alloc (.cells #[.int .i64 (x.off:Int), .int .i64 (x.size:Int), .bool x.used] 112));have hb4:=abE hw4;have n4:=anE hw4;have hsm4:=hsm.below hb4;have hset:=HSET.out w4 A c bs x hsm4.st.ar (by omega) m1 (by omega) (by omega) m3 (by omega) (by omega);dsimp only[app,aav]at hset;have hsl:=amN (bs:=bs) (x:=x) (by omega) (by omega);have hnfx:¬foot g A wr.heap.size:=fun hf=>by have:=hsm.st.ar.foot_lt hf;omega
    obtain⟨xo,xz,xu⟩:=x;dsimp only[toR]at p0 p1 p2 r0 r1 r2 m1 m2 m3 m4 m5 hset n4 hw4;obtain⟨e0,e1,e2⟩:=aam n4;have hl4:=aaa n4;have HSETX:=hE0 hset;have HSM4:=hE0 hsm4;have HN4:=hE0 n4;have HW4:=hE0 hw4;have HLAY:=hE0 hlay;have HDAT:=hE0 hdat;have HNFX:=hE0 hnfx;have HSL:=hE0 (hsl.trans hbl);clear hx hcl p0 p1 p2 hbe hb4 hw4 n4 hsm4 hset hsm hlay hdat hnfx hsl hbl hbb
    cases xu with
    | false=>
     go_wp2_with (first | (rw[HW4.out]) | fail)
     refine HSETX.out.mono ?_;rintro e w5 ⟨rfl,hbec⟩;obtain⟨A5,c5,s5⟩:=HSM4.out.became hbec;have hx5:w5.heap[wr.heap.size]?=_:=(by obtain⟨_,_,_,ht5,_⟩:=hbec;exact(ht5.block _ (aaa HN4.out) HNFX.out).trans HN4.out);have HSM5:=hE0 s5;have HF2:Hid (agd (aaY bs ⟨xo,xz,false⟩) (L.drop (j+1)) (d.drop v)=F):=(show _=_ by rw[<-HLAY.out,aqj rfl]);have HD2:Hid (alI (L.drop (j+1)) (d.drop v)):=(show alI _ _ by have:=HDAT.out;unfold alI at this;simpa using this);clear e0 e1 e2 hl4 hbec s5 r0 r1 r2;obtain⟨e0,e1,e2⟩:=aam hx5;have hl5:=aaa hx5;clear hx5;go_wp2_with fail
     go_roundw
     case rel=>exact⟨j+1,v,A5,c5,_,o,by go_num,rfl,by omega,by omega,HSM5.out,HSL.out,HF2.out,HD2.out⟩
     case measure=>simp only[intOf];omega
    | true=>
     obtain⟨y,d',hdv⟩:∃y d',d.drop v=y::d':=by
      have:=HDAT.out;unfold alI at this;simp only[if_true]at this
      cases hdd:d.drop v with
      | nil=>rw[hdd]at this;exact this.elim
      | cons y d'=>exact⟨y,d',rfl⟩
     have hyd:d[v]?=some y:=by
      have:(d.drop v)[0]?=some y:=by rw[hdv];rfl
      rwa [List.getElem?_drop,Nat.add_zero]at this
     have hd':d.drop (v+1)=d':=by rw[<-List.drop_drop,hdv];rfl
     have hvd:v<dl:=by rw[<-HDL.out];exact(List.getElem?_eq_some_iff.1 hyd).1
     have hda:=HDAT.out;rw[hdv]at hda;unfold alI at hda;simp only[if_true]at hda;obtain⟨hyl,hd2⟩:=hda;have HF2:Hid (agd (lay (aaY bs ⟨xo,xz,true⟩) (xo+8) y) (L.drop (j+1)) (d.drop (v+1))=F):=(show _=_ by rw[<-HLAY.out,hdv,hd',aqi rfl]);have HD2:Hid (alI (L.drop (j+1)) (d.drop (v+1))):=(show alI _ _ by rw[hd'];exact hd2);obtain⟨b3,o3,rfl,hb3,hc3⟩:=HDR.out (by rw[HDL.out];omega);obtain⟨A',kz,z0,zr,zl,_,_⟩:=hc3 v y hyd;obtain⟨yn,hyn⟩:=nmE y.length;rw[hyn]at z0 zr hyl;have HYN:=hE0 hyn;have HZR:=hE0 zr;have hlay2:(lay (aaY bs ⟨xo,xz,true⟩) (xo+8) y).length=n:=by rw[acg _ _ _ (by rw[HSL.out,hyn];omega)];exact HSL.out
     have HLL2:=hE0 hlay2;obtain⟨ad,had⟩:=nmE (base+xo+8);obtain⟨bx,hbx⟩:=nmE (base+xo);have i3:(base:Int)+(xo:Int)=(bx:Int):=by omega
     have i1:(bx:Int)+8=(ad:Int):=by omega
     have i2:ad<18446744073709551616:=by omega
     have i4:bx<18446744073709551616:=by omega
     have hvi:(v:Int)<(dl:Int):=by omega
     have HSTO:=hE0 (fun W' A5 c5 (h:Ar W' 195 g base cap A5 c5 (aaY bs ⟨xo,xz,true⟩)) (hr:Rd W' wB.heap.size A' y.length y)=>aiE h (by rw[HSL.out];omega) ad (xo+8) A' kz y wB.heap.size hr (by omega) (by omega) (by omega) (by rw[HSL.out,hyn];omega));rw[hyn]at HSTO;clear hdv hyd hd' hd2 hyn hlay2 zr hc3 had hbx zl hyl m1 m2 m3 m4 m5;go_wp2_with (first | (rw[HW4.out]) | fail)
     refine HSETX.out.mono ?_;rintro e w5 ⟨rfl,hbec⟩;obtain⟨A5,c5,s5⟩:=HSM4.out.became hbec;have hx5:w5.heap[wr.heap.size]?=_:=(by obtain⟨_,_,_,ht5,_⟩:=hbec;exact(ht5.block _ (aaa HN4.out) HNFX.out).trans HN4.out);clear e0 e1 e2 hl4 hbec r0 r1 r2;obtain⟨e0,e1,e2⟩:=aam hx5;have hl5:=aaa hx5;obtain⟨wd,hwd⟩:=nmE w5.drew;have hbd:=adE hwd;have hsmd:=s5.below hbd;obtain⟨q0,q1,q2⟩:=aam ((hbd.block _ hl5).trans hx5);have hld:=Nat.lt_of_lt_of_le hl5 hbd.size;obtain⟨u0,u1,u2⟩:=aam hsmd.ob;have hlu:=akv hsmd.ob;have hbB:=hsmd.st.bel;have z4:=(hbB.cell (p:=⟨b3,o3+v,none⟩) hb3).trans z0;have hb3d:=Nat.lt_of_lt_of_le hb3 hbB.size;have HBASE:=hE0 (acj hsmd.st.ar);have HSTOX:=hE0 (HSTO.out wd A5 c5 hsmd.st.ar (HZR.out.below hbB));have HSMD:=hE0 hsmd;have HWD:=hE0 hwd;clear hx5 hwd hbd s5 hsmd hbB z0;go_wp2_with fail
     refine aao wd.heap.size [([0,1,3,4,5,8,9,10,11,12],2)] [6,7] [13] (by kernel_rfl) (by kernel_rfl) (by kernel_rfl) (fun _ _ _ _ _ h=>h) ?_;rw[HWD.out];have v0:=tfE q0 hld;have v1:=tfE u2 hlu;have v2:=tfE z4 hb3d;refine tail_cons (l:= ?segA) ?hsegA ?_
     case hsegA=>simp only[pick,lE1,lE2,lE3];rfl
     repeat (go_big_quiet_step (fail))
     refine wpQuiet_nil ?_;clear v0 v1 v2;refine aar (vs:= #[.pointer (some ⟨g,0,none⟩)]) Tryz.call56 rfl rfl rfl (R:=fun r w'=>r= .int .u64 (base:Int)/\w'=wd) (HBASE.out.mono ?_) wd.heap.size (Nat.le_refl _) ?_
     · rintro e w' ⟨rfl,rfl⟩;exact⟨_,rfl,Below.refl _ _,rfl,rfl⟩
     rintro r w' _ ⟨rfl,rfl⟩;simp only[Act.put,lE4,lE5,lE6];refine aaH (l:= ?lastA) (t:= ?tailA) ?hlastA ?htailA ?_
     case hlastA=>simp only[pick,lE1,lE2,lE3];rfl
     case htailA=>simp only[pick,lE1,lE2,lE3];rfl
     repeat (go_big_quiet_step (fail))
     refine wpQuiet_nil ?_;clear q0 q1 q2 hld u0 u1 u2 hlu z4 hb3d e0 e1 e2 hl5;go_wp2_with fail
     refine HSTOX.out.mono ?_;rintro e w6 ⟨rfl,hbe6⟩;obtain⟨A6,c6,s6⟩:=HSMD.out.became hbe6;have HSM6:=hE0 s6;clear hbe6 s6;go_wp2_with fail
     go_roundw
     case rel=>exact⟨j+1,v+1,A6,c6,_,o,by go_num,by go_num,by omega,by omega,HSM6.out,HLL2.out,HF2.out,HD2.out⟩
     case measure=>simp only[intOf];omega
  · have hd0:L.drop j= []:=List.drop_eq_nil_of_le (by rw[HM.out];omega);rw[hd0]at hlay;have hbF:bs=F:=hlay;subst hbF;have HSM:=hE0 hsm.st;clear hsm hlay hdat hd0 hbl;go_wp2
    go_end0
    exact⟨rfl,A,c,HSM.out⟩
end Go.Proofs.YtncadccbepjekaaGreatDoor
