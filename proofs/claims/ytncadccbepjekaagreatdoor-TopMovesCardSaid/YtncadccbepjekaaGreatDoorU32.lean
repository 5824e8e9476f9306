/- Texts of mine, joined. -/
import Derived.Test.YtncadccbepjekaaGreatDoorU28
set_option maxRecDepth 100000
set_option maxHeartbeats 2000000
namespace Go.Proofs.YtncadccbepjekaaGreatDoor
open Go.RowKit
def avv:List Rk->List (List UInt8)
 | []=> []
 | x::l=>if x.u then List.replicate (x.s.toNat-16) 0::avv l else avv l
theorem ana:∀{l:List Rk}{b:List UInt8}{j:Nat}{y:List UInt8},aaP l<=b.length->(agk l b)[j]?=some y->y=(b.drop ((agk l b).take j).flatten.length).take y.length/\(avv l)[j]?=some (List.replicate y.length 0)/\((agk l b).take j).flatten.length+y.length<=aaP l
 | [],b,j,y,_,h=>by simp[agk]at h
 | x::l,b,j,y,hl,h=>by
  unfold aaP at hl;unfold agk at h ⊢;unfold avv aaP
  cases hu:x.u with
  | false=>
   rw[hu]at hl h;simp only[Bool.false_eq_true,if_false,Nat.zero_add]at hl h ⊢;exact ana hl h
  | true=>
   rw[hu]at hl h;simp only[if_true]at hl h ⊢
   cases j with
   | zero=>
    simp at h;subst h;have hln:(b.take (x.s.toNat-16)).length=x.s.toNat-16:=by rw[List.length_take];omega
    rw[hln];simp
   | succ j=>
    rw[List.getElem?_cons_succ]at h;have hd:aaP l<=(b.drop (x.s.toNat-16)).length:=by rw[List.length_drop];omega
    obtain⟨h1,h2,h3⟩:=ana hd h;have hln:(b.take (x.s.toNat-16)).length=x.s.toNat-16:=by rw[List.length_take];omega
    refine⟨?_,by rw[List.getElem?_cons_succ];exact h2,?_⟩
    · rw[List.take_succ_cons,List.flatten_cons,List.length_append,hln,<-List.drop_drop];exact h1
    · rw[List.take_succ_cons,List.flatten_cons,List.length_append,hln];omega
theorem ahc:∀{l:List Rk}{b:List UInt8},aaP l<=b.length->(agk l b).flatten=b.take (aaP l)
 | [],b,_=>by simp[agk,aaP]
 | x::l,b,hl=>by
  unfold aaP at hl;unfold agk aaP
  cases hu:x.u with
  | false=>
   rw[hu]at hl;simp only[Bool.false_eq_true,if_false,Nat.zero_add]at hl ⊢;exact ahc hl
  | true=>
   rw[hu]at hl;simp only[if_true]at hl ⊢;rw[List.flatten_cons,ahc (by rw[List.length_drop];omega),List.take_add]
section
variable {b:List UInt8} {n N K:Nat} {l:List Rk}
structure HeadOk (b:List UInt8) (n N K:Nat):Prop where
 hn:b.length=n
 h28:28<=n
 hm:b.take 8=imMarkB
 hs:aby b 0 24=true
 hN:acR b=N
 hK:ac2 b=K
theorem HeadOk.bad (h:HeadOk b n N K) (hb:¬(184<=N/\N<=16384/\N%16=8/\K<=1024/\32+8*K<=n)):afi b=(3,0,[],[]):=by
 obtain⟨e1,e2,e3,e4,e5,e6⟩:=h;subst e5 e6;by_cases h1:ab0 (acR b:Int)=true/\ac2 b<=1024
 · have hh:adD b=0:=by
    unfold adD;rw[if_neg (by omega),if_neg (by simpa using e3),if_neg (by rw[e4];simp),if_neg (by rw[h1.1];simp),if_neg (by omega)]
   have:=(aaT _).1 h1.1;have hbl:abI b (acR b) (ac2 b)=(3,[]):=by
    unfold abI;rw[if_pos (by omega)]
   unfold afi;rw[if_neg (by rw[hh];simp),if_pos (by rw[hbl];simp),hbl]
 · have hh:adD b=3:=by
    unfold adD;rw[if_neg (by omega),if_neg (by simpa using e3),if_neg (by rw[e4];simp)];by_cases h2:ab0 (acR b:Int)=false
    · rw[if_pos h2]
    · rw[if_neg h2,if_pos]
      cases h3:ab0 (acR b:Int)with
      | false=>exact absurd h3 h2
      | true=>exact Nat.lt_of_not_le fun h4=>h1 ⟨h3,h4⟩
   unfold afi;rw[if_pos (by rw[hh];simp),hh]
structure aqz (n N K:Nat):Prop where
 n0:184<=N
 n1:N<=16384
 n2:N%16=8
 n3:K<=1024
 n4:32+8*K<=n
theorem HeadOk.zero (h:HeadOk b n N K) (k:aqz n N K):adD b=0:=by
 obtain⟨e1,e2,e3,e4,e5,e6⟩:=h;obtain⟨k0,k1,k2,k3,k4⟩:=k;subst e5 e6;unfold adD;rw[if_neg (by omega),if_neg (by simpa using e3),if_neg (by rw[e4];simp),if_neg,if_neg (by omega)];rw[(aaT _).2 (by omega)];simp
theorem HeadOk.tags (h:HeadOk b n N K) (k:aqz n N K) (ht:aby b 28 (28+8*K)=false):afi b=(9,0,[],[]):=by
 have hz:=h.zero k;obtain⟨e1,e2,e3,e4,e5,e6⟩:=h;have:=k.n4;subst e5 e6;have hbl:abI b (acR b) (ac2 b)=(9,[]):=by
  unfold abI;rw[if_neg (by omega),if_pos ht]
 unfold afi;rw[if_neg (by rw[hz];simp),if_pos (by rw[hbl];simp),hbl]
theorem HeadOk.blks (h:HeadOk b n N K) (k:aqz n N K) (ht:aby b 28 (28+8*K)=true):abI b (acR b) (ac2 b)=atF N (aaQ (b.drop 28) K 184):=by
 obtain⟨e1,e2,e3,e4,e5,e6⟩:=h;have:=k.n4;subst e5 e6;unfold abI;rw[if_neg (by omega),if_neg (by rw[ht];simp)]
theorem HeadOk.row (h:HeadOk b n N K) (k:aqz n N K) (ht:aby b 28 (28+8*K)=true) (hb:aaQ (b.drop 28) K 184=some l) (hr:abh (N:Int) 184 false l=true):afi b=if (aeM b l).1≠0 then ((aeM b l).1,0,[],[]) else (0,N,l,(aeM b l).2):=by
 have hz:=h.zero k;have hbl:=h.blks k ht;rw[hb]at hbl;have hbl2:abI b (acR b) (ac2 b)=(0,l):=by
  rw[hbl];unfold atF;dsimp only;rw[if_neg (by rw[hr];simp)]
 unfold afi;rw[if_neg (by rw[hz];simp),if_neg (by rw[hbl2];simp),hbl2,h.hN]
theorem avw (h:b.length=n) (hl:l.length=K) (hn:n=32+8*K+aaP l+8) (y1 y2:Bool) (h1:aby b (32+8*K) (32+8*K+aaP l)=y1) (h2:aby b 0 (32+8*K+aaP l+4)=y2) (hy:y1=false\/y2=false):aeM b l=(9,[]):=by
 unfold aeM;rw[hl,if_neg (by omega),h1,h2];rcases hy with rfl | rfl
 · rw[if_pos rfl]
 · cases y1
   · rw[if_pos rfl]
   · rw[if_neg (by simp),if_pos rfl]
theorem at3 (h:b.length=n) (hl:l.length=K) (hn:n=32+8*K+aaP l+8) (h1:aby b (32+8*K) (32+8*K+aaP l)=true) (h2:aby b 0 (32+8*K+aaP l+4)=true):aeM b l=(0,agk l (b.drop (32+8*K))):=by
 unfold aeM;rw[hl,if_neg (by omega),h1,h2,if_neg (by simp),if_neg (by simp)]
end
structure Good (b:List UInt8) (N:Nat) (l:List Rk) (d:List (List UInt8)):Prop where
 h28:28<=b.length
 hm:b.take 8=imMarkB
 hs:aby b 0 24=true
 hN:acR b=N
 hlo:ab0 (N:Int)=true
 hK:ac2 b=l.length
 hk:l.length<=1024
 hst:aby b 28 (28+8*l.length)=true
 hb:aaQ (b.drop 28) l.length 184=some l
 hr:abh (N:Int) 184 false l=true
 hlen:b.length=32+8*l.length+aaP l+8
 h1:aby b (32+8*l.length) (32+8*l.length+aaP l)=true
 h2:aby b 0 (32+8*l.length+aaP l+4)=true
 hd:d=agk l (b.drop (32+8*l.length))
section
variable {b c:List UInt8} {N:Nat} {l:List Rk} {d:List (List UInt8)}
theorem Good.got (h:Good b N l d):afi b=(0,N,l,d):=by
 have ho:HeadOk b b.length N l.length:=⟨rfl,h.h28,h.hm,h.hs,h.hN,h.hK⟩;have hl:=(aaT _).1 h.hlo;have hno:aqz b.length N l.length:=⟨by omega,by omega,by omega,h.hk,by have:=h.hlen;omega⟩;rw[ho.row hno h.hst h.hb h.hr,at3 rfl rfl h.hlen h.h1 h.h2,if_neg (by simp),h.hd]
theorem aeh{x:Bool}(h:¬x=false):x=true:=by
 cases x with
 | true=>rfl
 | false=>exact absurd rfl h
theorem aqA (h:afi b=(0,N,l,d)):Good b N l d:=by
 unfold afi at h;by_cases h0:adD b≠0
 · rw[if_pos h0]at h;injection h with h _;exact absurd h h0
 rw[if_neg h0]at h;have h0:adD b=0:=Decidable.byContradiction h0;by_cases h1:(abI b (acR b) (ac2 b)).1≠0
 · rw[if_pos h1]at h;injection h with h _;exact absurd h h1
 rw[if_neg h1]at h;have h1:(abI b (acR b) (ac2 b)).1=0:=Decidable.byContradiction h1;by_cases h2:(aeM b (abI b (acR b) (ac2 b)).2).1≠0
 · rw[if_pos h2]at h;injection h with h _;exact absurd h h2
 rw[if_neg h2]at h;have h2:(aeM b (abI b (acR b) (ac2 b)).2).1=0:=Decidable.byContradiction h2;injection h with _ h;injection h with hN h;injection h with hl hd;obtain⟨hlo,hcn⟩:=am7 h0;unfold adD at h0;by_cases a1:b.length<28
 · rw[if_pos a1]at h0;cases h0
 rw[if_neg a1]at h0;by_cases a2:b.take 8≠imMarkB
 · rw[if_pos a2]at h0;cases h0
 rw[if_neg a2]at h0;by_cases a3:aby b 0 24=false
 · rw[if_pos a3]at h0;cases h0
 have a2:b.take 8=imMarkB:=Decidable.byContradiction a2;obtain⟨hlK,_⟩:=am8 h1;rw[hl]at hlK hd h2;unfold abI at h1 hl;by_cases a4:b.length<32+8*ac2 b
 · rw[if_pos a4]at h1;cases h1
 rw[if_neg a4]at h1 hl;by_cases a5:aby b 28 (28+8*ac2 b)=false
 · rw[if_pos a5]at h1;cases h1
 rw[if_neg a5]at h1 hl
 cases hbk:aaQ (b.drop 28) (ac2 b) 184 with
 | none=>rw[hbk]at h1;cases h1
 | some l'=>
  rw[hbk]at h1 hl;unfold atF at h1 hl;dsimp only at h1 hl;by_cases a6:abh (acR b:Int) 184 false l'=false
  · rw[if_pos a6]at h1;cases h1
  rw[if_neg a6]at h1 hl;dsimp only at hl;subst hl;have hlK':=hlK;unfold aeM at h2 hd;by_cases a7:b.length≠32+8*l'.length+aaP l'+8
  · rw[if_pos a7]at h2;cases h2
  rw[if_neg a7]at h2 hd;by_cases a8:aby b (32+8*l'.length) (32+8*l'.length+aaP l')=false
  · rw[if_pos a8]at h2;cases h2
  rw[if_neg a8]at h2 hd;by_cases a9:aby b 0 (32+8*l'.length+aaP l'+4)=false
  · rw[if_pos a9]at h2;cases h2
  rw[if_neg a9]at hd;have a7:b.length=32+8*l'.length+aaP l'+8:=Decidable.byContradiction a7;subst hN;exact⟨by omega,a2,aeh a3,rfl,hlo,hlK.symm,by omega,by rw[hlK];exact aeh a5,by rw[hlK];exact hbk,aeh a6,a7,aeh a8,aeh a9,hd.symm⟩
theorem ags{X:List UInt8}{i j:Nat}(hX:b.take j=X) (hj:j+4<=b.length) (_hij:i<=j) (h:aby b i j=true):b.take (j+4)=agd X i:=by
 rw[<-aku hj]at h;have h:=of_decide_eq_true h;unfold agd;rw[List.take_add,<-h,<-hX,List.drop_take]
theorem afj{X r:List UInt8}{i j:Nat}(hj:X.length=j) (hij:i<=j):aby (agd X i++r) i j=true:=by
 have hl:(agd X i++r).length=j+4+r.length:=by unfold agd;rw[List.length_append,List.length_append,ab6,hj]
 rw[<-aku (by omega)];apply decide_eq_true;unfold agd;have e1:((X++ahZ (X.drop i)++r).drop i).take (j-i)=X.drop i:=by
  rw[List.append_assoc,List.drop_append_of_le_length (by omega),List.take_append_of_le_length (by rw[List.length_drop];omega),List.take_of_length_le (by rw[List.length_drop];omega)]
 have e2:((X++ahZ (X.drop i)++r).drop j).take 4=ahZ (X.drop i):=by
  rw[List.append_assoc,<-hj,List.drop_left,List.take_append_of_le_length (by rw[ab6];omega),List.take_of_length_le (by rw[ab6];omega)]
 rw[e1,e2]
theorem ahd{x:List UInt8}(h:x.length=8):aaF 8 (ab2 x)=x:=by
 have:=agw x;rw[h]at this;exact this
theorem ash{x:List UInt8}{s:Nat}{u:Bool}(h:x.length=8) (hu:adT (ab2 x)=some (s,u)) (o:Int):aoD ⟨o,(s:Int),u⟩=x:=by
 obtain⟨h1,h2⟩:=ac8 hu;have h3:=afp h1 u;unfold aoD;have e:acf (s:Int) u=ab2 x:=by
  rw[h2];unfold acf;rw[if_pos h1];simp
 rw[e];exact ahd h
theorem ahe:∀{k:Nat}{b:List UInt8}{o:Nat}{l:List Rk},8*k<=b.length->aaQ b k o=some l->acw l=b.take (8*k)
 | 0,b,o,l,_,h=>by
  rw[aaQ]at h;injection h with h;rw[<-h];rfl
 | k+1,b,o,l,hl,h=>by
  rw[aaQ]at h;split at h
  · cases h
  · rename_i s u e
    cases hm:aaQ (b.drop 8) k (o+s)with
    | none=>rw[hm]at h;cases h
    | some l'=>
     rw[hm]at h;injection h with h;rw[<-h];have ih:=ahe (by rw[List.length_drop];omega) hm;have:acw (⟨(o:Int),(s:Int),u⟩::l')=aoD ⟨(o:Int),(s:Int),u⟩++acw l':=by
      unfold acw;rw[List.map_cons,List.flatten_cons]
     rw[this,ih,ash (by rw[List.length_take];omega) e,show 8*(k+1)=8+8*k from by omega,List.take_add]
theorem ahf:∀{l:List Rk}{b:List UInt8},(∀x∈l,aaB x.s=true)->aaP l<=b.length->datOk l (agk l b)=true
 | [],_,_,_=>rfl
 | x::l,b,h,hl=>by
  have hx:=(aab _).1 (h x (by simp));unfold aaP at hl;unfold datOk agk
  cases hu:x.u with
  | false=>
   rw[hu]at hl;simp only[Bool.false_eq_true,if_false,Nat.zero_add]at hl ⊢;exact ahf (l:=l) (fun y hy=>h y (by simp[hy])) hl
  | true=>
   rw[hu]at hl;simp only[if_true]at hl ⊢;have ih:=ahf (l:=l) (b:=b.drop (x.s.toNat-16)) (fun y hy=>h y (by simp[hy])) (by rw[List.length_drop];omega);rw[ih,Bool.and_true,beq_iff_eq,List.length_take];omega
theorem Good.put (h:Good b N l d):b=aaH N l d/\adR (N:Int) l d=true:=by
 obtain⟨h28,hm,hs,hN,hlo,hK,hk,hst,hb,hr,hlen,h1,h2,hd⟩:=h;have hlB:=(aaT _).1 hlo;have hh:b.take 24=aey N l.length:=by
  have e1:(b.drop 8).take 8=aaF 8 N:=by rw[<-hN];unfold acR;rw[ahd];rw[List.length_take,List.length_drop];omega
  have e2:(b.drop 16).take 8=aaF 8 l.length:=by rw[<-hK];unfold ac2;rw[ahd];rw[List.length_take,List.length_drop];omega
  unfold aey;rw[show 24=8+(8+8) from rfl,List.take_add,List.take_add,List.drop_drop,hm,e1,e2,List.append_assoc]
 have hA:b.take 28=alf N l.length:=ags hh (by omega) (by omega) hs;have hT0:b.take (28+8*l.length)=alf N l.length++acw l:=by
  rw[List.take_add,hA,ahe (by rw[List.length_drop];omega) hb]
 have hT:b.take (28+8*l.length+4)=ah0 N l:=ags hT0 (by omega) (by omega) hst;rw[show 28+8*l.length+4=32+8*l.length from by omega]at hT;have hheld:aaP l<=(b.drop (32+8*l.length)).length:=by rw[List.length_drop];omega
 have hD0:b.take (32+8*l.length+aaP l)=ah0 N l++d.flatten:=by
  rw[List.take_add,hT,hd,ahc hheld]
 have hD:b.take (32+8*l.length+aaP l+4)=akX N l d:=by
  have:=ags hD0 (by omega) (by omega) h1;rw[this];unfold akX;rw[ady]
 have hB:b.take (32+8*l.length+aaP l+4+4)=aaH N l d:=ags hD (by omega) (by omega) h2;refine⟨?_,?_⟩
 · rw[<-hB,List.take_of_length_le (by omega)]
 · unfold adR;rw[hlo,hr,hd,ahf (ae3 hr) hheld];rfl
theorem afI:∀{l:List Rk}{d:List (List UInt8)},datOk l d=true->(∀x∈l,aaB x.s=true)->aaP l=d.flatten.length
 | [],d,h,_=>by
  unfold datOk at h;rw[List.isEmpty_iff]at h;rw[h];rfl
 | x::l,d,h,hz=>by
  have hx:=(aab _).1 (hz x (by simp));have hz2:∀y∈l,aaB y.s=true:=fun y hy=>hz y (by simp[hy]);unfold datOk at h;unfold aaP
  cases hu:x.u with
  | false=>
   rw[hu]at h;simp only[Bool.false_eq_true,if_false,Nat.zero_add]at h ⊢;exact afI h hz2
  | true=>
   rw[hu]at h;simp only[if_true]at h ⊢
   cases d with
   | nil=>cases h
   | cons y d'=>
    simp only[Bool.and_eq_true,beq_iff_eq]at h;rw[afI h.2 hz2,List.flatten_cons,List.length_append];omega
theorem afJ:∀{l:List Rk}{d:List (List UInt8)}{r:List UInt8},datOk l d=true->(∀x∈l,aaB x.s=true)->agk l (d.flatten++r)=d
 | [],d,r,h,_=>by
  unfold datOk at h;rw[List.isEmpty_iff]at h;rw[h];rfl
 | x::l,d,r,h,hz=>by
  have hx:=(aab _).1 (hz x (by simp));have hz2:∀y∈l,aaB y.s=true:=fun y hy=>hz y (by simp[hy]);unfold datOk at h;unfold agk
  cases hu:x.u with
  | false=>
   rw[hu]at h;simp only[Bool.false_eq_true,if_false]at h ⊢;exact afJ h hz2
  | true=>
   rw[hu]at h;simp only[if_true]at h ⊢
   cases d with
   | nil=>cases h
   | cons y d'=>
    simp only[Bool.and_eq_true,beq_iff_eq]at h;have hy:x.s.toNat-16=y.length:=by omega
    rw[List.flatten_cons,List.append_assoc,hy,List.take_left,List.drop_left,afJ h.2 hz2]
theorem ait{n:Int}:∀{l:List Rk}{o:Nat}{f:Bool}{r:List UInt8},abh n (o:Int) f l=true->aaQ (acw l++r) l.length o=some l
 | [],o,f,r,_=>rfl
 | x::l,o,f,r,h=>by
  unfold abh at h;simp only[Bool.and_eq_true,beq_iff_eq]at h;obtain⟨ho,hs,_,_,hr⟩:=h;have hx:=(aab _).1 hs;have e:acw (x::l)++r=aoD x++(acw l++r):=by
   unfold acw;rw[List.map_cons,List.flatten_cons,List.append_assoc]
  have hl:(aoD x).length=8:=aag _ _;have hp:=af6 x.s x.u;have hu:adT (ab2 (aoD x))=some (x.s.toNat,x.u):=by
   unfold aoD;rw[acl,Nat.mod_eq_of_lt (by omega)];exact afp hs x.u
  rw[e,List.length_cons,aaQ,<-hl,List.take_left,List.drop_left,hu];dsimp only;have hr2:abh n ((o+x.s.toNat:Nat):Int) (!x.u) l=true:=by
   rw[show((o+x.s.toNat:Nat):Int)=(o:Int)+x.s from by omega];exact hr
  rw[ait hr2];have hxs:((x.s.toNat:Nat):Int)=x.s:=by omega
  show some ((⟨(o:Int),((x.s.toNat:Nat):Int),x.u⟩:Rk)::l)=some (x::l);rw[hxs,<-ho]
theorem al5 (h:adR (N:Int) l d=true):Good (aaH N l d) N l d:=by
 unfold adR at h;simp only[Bool.and_eq_true]at h;obtain⟨hlo,hr,hdo⟩:=h;have hl:=(aaT _).1 hlo;have hk:l.length<=1024:=by have:=ajY hr;omega
 have hz:=ae3 hr;have hheld:=afI hdo hz;have hDl:(ah0 N l++d.flatten).length=32+8*l.length+aaP l:=by rw[List.length_append,ady,hheld]
 have hPD:(akX N l d).length=32+8*l.length+aaP l+4:=by unfold akX agd;rw[List.length_append,hDl,ab6]
 have hPB:(aaH N l d).length=32+8*l.length+aaP l+8:=by unfold aaH agd;rw[List.length_append,hPD,ab6]
 obtain⟨r3,e3⟩:∃r,aaH N l d=akX N l d++r:=⟨_,rfl⟩;obtain⟨r2,e2⟩:∃r,aaH N l d=ah0 N l++d.flatten++r:=by
  rw[e3];unfold akX agd;rw[List.append_assoc];exact⟨_,rfl⟩
 obtain⟨r1,e1⟩:∃r,aaH N l d=ah0 N l++r:=by rw[e2,List.append_assoc];exact⟨_,rfl⟩
 obtain⟨r0,e0⟩:∃r,aaH N l d=alf N l.length++(acw l++r):=by
  rw[e1];unfold ah0 agd;rw[List.append_assoc,List.append_assoc];exact⟨_,rfl⟩
 obtain⟨rh,eh⟩:∃r,aaH N l d=aey N l.length++r:=by
  rw[e0];unfold alf agd;rw[List.append_assoc];exact⟨_,rfl⟩
 have hbl:aaQ ((aaH N l d).drop 28) l.length 184=some l:=by
  rw[e0,<-age N l.length,List.drop_left];exact ait hr
 have s0:aby (aaH N l d) 0 24=true:=by rw[e0];exact afj (ae4 _ _) (by omega)
 have s1:aby (aaH N l d) 28 (28+8*l.length)=true:=by
  rw[e1];exact afj (by rw[List.length_append,age,ad2]) (by omega)
 have s2:aby (aaH N l d) (32+8*l.length) (32+8*l.length+aaP l)=true:=by
  rw[e3];unfold akX;rw[ady];exact afj hDl (by omega)
 have s3:aby (aaH N l d) 0 (32+8*l.length+aaP l+4)=true:=by
  have:=afj (X:=akX N l d) (r:= []) (i:=0) hPD (by omega);rw[List.append_nil]at this;exact this
 have hmk:(aaH N l d).take 8=imMarkB:=by
  rw[eh];unfold aey;rw[List.append_assoc,List.append_assoc,List.take_append_of_le_length (by decide)];rfl
 have hN:acR (aaH N l d)=N:=by
  unfold acR;rw[eh];unfold aey;rw[List.append_assoc,List.append_assoc,show(8:Nat)=imMarkB.length from rfl,List.drop_left];have:(aaF imMarkB.length N).length=imMarkB.length:=aag _ _;rw[List.take_append_of_le_length (by rw[this];exact Nat.le_refl _),List.take_of_length_le (by rw[this];exact Nat.le_refl _),acl];exact Nat.mod_eq_of_lt (by show N<256^8;omega)
 have hC:ac2 (aaH N l d)=l.length:=by
  unfold ac2;rw[eh];unfold aey;have h16:(imMarkB++aaF 8 N).length=16:=by rw[List.length_append,aag];rfl
  rw[List.append_assoc,<-h16,List.drop_left];have:(aaF 8 l.length).length=8:=aag _ _;rw[List.take_append_of_le_length (by rw[this];exact Nat.le_refl _),List.take_of_length_le (by rw[this];exact Nat.le_refl _),acl];exact Nat.mod_eq_of_lt (by omega)
 refine⟨by omega,hmk,s0,hN,hlo,hC,hk,s1,hbl,hr,hPB,s2,s3,?_⟩;rw[e2,List.append_assoc,<-ady N l,List.drop_left,afJ hdo hz]
end
theorem asV:au1:=by
 intro w g base cap c A bs x h hb hl hx
 cases hw:abG bs with
 | none=>
  obtain rfl:false=x:=by rw[<-hx];unfold abY;rw[hw]
  have hW:=alR w g base cap c A bs _ h hb hl hw;dsimp only[ac0,Option.isSome,Option.getD,aat]at hW;dsimp only[aat];have HW:=hE0 hW;clear hW hw hx h hb;go_enter Tryz.func55,Tryz.ntmps55
  go_wp2_with fail
  with_reducible refine HW.out.mono ?_
  rintro e w2 ⟨A',c',rfl,_,hb2⟩;have HB2:=hE0 hb2;clear hb2;go_wp2
  go_ret
  exact⟨rfl,HB2.out⟩
 | some l=>
  obtain⟨h184,ht,hg⟩:=aaj hw;have hm:=aak l _ _ ht;obtain⟨y1,hy1⟩:∃y,aex l=y:=⟨_,rfl⟩;obtain⟨y2,hy2⟩:∃y,decide (aaf bs 0<4194304)=y:=⟨_,rfl⟩;obtain⟨y3,hy3⟩:∃y,agb bs l 22 0 (abl l)=y:=⟨_,rfl⟩;have e0:ans bs 0=aaf bs 0:=by unfold ans word?;rw[if_pos (by omega)];rfl
  have hx':(y2&&(y1&&y3))=x:=by
   rw[<-hx];unfold abY;rw[hw];dsimp only;rw[e0,hy1,hy2,hy3]
  have hll:=ajR hw;have hW:=alR w g base cap c A bs _ h hb hl hw;dsimp only[ac0,Option.isSome,Option.getD,aat]at hW;have HW:=hE0 hW;have HAR:=hE0 h;have HBASE:=hE0 hb;have HG:Hid (∀x∈l,aaB (x.size:Int)=true/\x.off<=100000):=fun x hx=>⟨(hm.2 x hx).2.2.1,by have:=(hm.2 x hx).2.1;omega⟩;have HPM:Hid (∀k:Nat,k<22->∀o,aap bs o (k:Int)=true->acb l o k=acx l o):=fun k _ o ho=>aje hg ho;have HR:=hE0 (aik l _ _ ht);have HY1:=hE0 hy1;have HY2:=hE0 hy2;have HY3:=hE0 hy3;clear hW hw hx h hb ht hg hm hy1 hy2 hy3 e0;go_enter Tryz.func55,Tryz.ntmps55
  go_wp2_with fail
  with_reducible refine HW.out.mono ?_
  rintro e w2 ⟨A2,c2,rfl,ho2,hb2⟩;have hcl:l.length<=c2/\c2<=9223372036854775807:=by
   rcases ho2.2 with⟨h',h0⟩ | ⟨_,_,_,h',_,_,h1,h2,_⟩
   · injection h' with _ _ e;rw[h0,e];omega
   · injection h' with _ _ e;unfold maxLen at h2;omega
  have hr2:=BkRd.of_own ho2;have HR2:=hE0 hr2;have HB2:=hE0 hb2;have HADJ:=hE0 (arX w2 A2 c2 l hr2 hcl y1 HY1.out);have hs2:=hb2.size;clear ho2 hr2 hb2 HW;go_wp2_with fail
  with_reducible refine HADJ.out.mono ?_
  rintro e w3 ⟨rfl,hb3⟩;have hr3:=HR2.out.later hb3 hb3.size;have HB3:=hE0 (HB2.out.trans (hb3.mono hs2));have hs3:=hb3.size;clear hb3 HR2 HB2 HADJ
  cases y1 with
  | false=>
   obtain rfl:false=x:=by rw[<-hx'];simp
   clear HAR HG HPM hr3 hx';dsimp only[aat];go_wp2
   go_ret
   exact⟨rfl,HB3.out⟩
  | true=>
   have HBT:=hE0 (apT (HAR.out.below HB3.out) HBASE.out hl h184 y2 HY2.out);have HPL:=hE0 (alO w3 A2 c2 l hr3 (by omega) HR.out HG.out);clear hr3;go_wp2_with fail
   with_reducible refine HBT.out.mono ?_
   rintro e w4 ⟨rfl,rfl⟩
   cases y2 with
   | false=>
    obtain rfl:false=x:=by rw[<-hx'];simp
    clear HAR HG HPM hx' HBT HPL;dsimp only[aat];go_wp2
    go_ret
    exact⟨rfl,HB3.out⟩
   | true=>
    obtain rfl:y3=x:=by rw[<-hx'];simp
    go_wp2_with fail
    with_reducible refine HPL.out.mono ?_
    rintro e w4 ⟨rfl,hps4,hb4⟩;have HLS:=hE0 (aob w w4 g base cap c A bs HAR.out HBASE.out hl (HB3.out.trans (hb4.mono (by omega))) w3.heap.size l.length (abl l) (acb l) hps4 (by omega) l HPM.out y3 HY3.out);clear HAR HG HPM hx' HBT HPL hps4 hb4;go_wp2_with fail
    with_reducible refine HLS.out.mono ?_
    rintro e w5 ⟨rfl,hb5⟩;have HB5:=hE0 hb5;clear hb5 HLS
    cases y3 with
    | false=>
     dsimp only[aat];go_wp2
     go_ret
     exact⟨rfl,HB5.out⟩
    | true=>
     dsimp only[aat];go_wp2
     go_ret
     exact⟨rfl,HB5.out⟩
end Go.Proofs.YtncadccbepjekaaGreatDoor
