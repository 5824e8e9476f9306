/- Texts of mine, joined. -/
import Derived.Test.YtncadccbepjekaaGreatDoorR4
set_option maxRecDepth 100000
set_option maxHeartbeats 2000000
namespace Go.Proofs.YtncadccbepjekaaGreatDoor
open Go.RowKit
theorem aju{b:List UInt8}{i j:Nat}(hj:j+4<=b.length):decide (ahf ((b.drop i).take (j-i))=(b.drop j).take 4)=abp b i j:=by
 have hl:((b.drop j).take 4).length=4:=by rw[List.length_take,List.length_drop];omega
 unfold abp ahf;have h1:=acf 4 (abS 0 ((b.drop i).take (j-i)));rw[Nat.mod_eq_of_lt (by have:=ad2 0 ((b.drop i).take (j-i));omega)]at h1;have h2:=afY ((b.drop j).take 4);rw[hl]at h2;by_cases h:aaF 4 (abS 0 ((b.drop i).take (j-i)))=(b.drop j).take 4
 · rw[decide_eq_true h,<-h,h1];exact(beq_self_eq_true _).symm
 · rw[decide_eq_false h];symm
   rw[beq_eq_false_iff_ne];intro e;rw[<-e,h2]at h;exact h rfl
def auE:List Rk->List (List UInt8)
 | []=> []
 | x::l=>if x.u then List.replicate (x.s.toNat-16) 0::auE l else auE l
theorem al4:∀{l:List Rk}{b:List UInt8}{j:Nat}{y:List UInt8},aaH l<=b.length->(afN l b)[j]?=some y->y=(b.drop ((afN l b).take j).flatten.length).take y.length/\(auE l)[j]?=some (List.replicate y.length 0)/\((afN l b).take j).flatten.length+y.length<=aaH l
 | [],b,j,y,_,h=>by simp[afN]at h
 | x::l,b,j,y,hl,h=>by
  unfold aaH at hl;unfold afN at h ⊢;unfold auE aaH
  cases hu:x.u with
  | false=>
   rw[hu]at hl h;simp only[Bool.false_eq_true,if_false,Nat.zero_add]at hl h ⊢;exact al4 hl h
  | true=>
   rw[hu]at hl h;simp only[if_true]at hl h ⊢
   cases j with
   | zero=>
    simp at h;subst h;have hln:(b.take (x.s.toNat-16)).length=x.s.toNat-16:=by rw[List.length_take];omega
    rw[hln];simp
   | succ j=>
    rw[List.getElem?_cons_succ]at h;have hd:aaH l<=(b.drop (x.s.toNat-16)).length:=by rw[List.length_drop];omega
    obtain⟨h1,h2,h3⟩:=al4 hd h;have hln:(b.take (x.s.toNat-16)).length=x.s.toNat-16:=by rw[List.length_take];omega
    refine⟨?_,by rw[List.getElem?_cons_succ];exact h2,?_⟩
    · rw[List.take_succ_cons,List.flatten_cons,List.length_append,hln,<-List.drop_drop];exact h1
    · rw[List.take_succ_cons,List.flatten_cons,List.length_append,hln];omega
theorem agl:∀{l:List Rk}{b:List UInt8},aaH l<=b.length->(afN l b).flatten=b.take (aaH l)
 | [],b,_=>by simp[afN,aaH]
 | x::l,b,hl=>by
  unfold aaH at hl;unfold afN aaH
  cases hu:x.u with
  | false=>
   rw[hu]at hl;simp only[Bool.false_eq_true,if_false,Nat.zero_add]at hl ⊢;exact agl hl
  | true=>
   rw[hu]at hl;simp only[if_true]at hl ⊢;rw[List.flatten_cons,agl (by rw[List.length_drop];omega),List.take_add]
section
variable {b:List UInt8} {n N K:Nat} {l:List Rk}
structure HeadOk (b:List UInt8) (n N K:Nat):Prop where
 hn:b.length=n
 h28:28<=n
 hm:b.take 8=imMarkB
 hs:abp b 0 24=true
 hN:acK b=N
 hK:acQ b=K
theorem HeadOk.bad (h:HeadOk b n N K) (hb:¬(184<=N/\N<=16384/\N%16=8/\K<=1024/\32+8*K<=n)):aeM b=(3,0,[],[]):=by
 obtain⟨e1,e2,e3,e4,e5,e6⟩:=h;subst e5 e6;by_cases h1:abT (acK b:Int)=true/\acQ b<=1024
 · have hh:ado b=0:=by
    unfold ado;rw[if_neg (by omega),if_neg (by simpa using e3),if_neg (by rw[e4];simp),if_neg (by rw[h1.1];simp),if_neg (by omega)]
   have:=(aaR _).1 h1.1;have hbl:abx b (acK b) (acQ b)=(3,[]):=by
    unfold abx;rw[if_pos (by omega)]
   unfold aeM;rw[if_neg (by rw[hh];simp),if_pos (by rw[hbl];simp),hbl]
 · have hh:ado b=3:=by
    unfold ado;rw[if_neg (by omega),if_neg (by simpa using e3),if_neg (by rw[e4];simp)];by_cases h2:abT (acK b:Int)=false
    · rw[if_pos h2]
    · rw[if_neg h2,if_pos]
      cases h3:abT (acK b:Int)with
      | false=>exact absurd h3 h2
      | true=>exact Nat.lt_of_not_le fun h4=>h1 ⟨h3,h4⟩
   unfold aeM;rw[if_pos (by rw[hh];simp),hh]
structure aoZ (n N K:Nat):Prop where
 n0:184<=N
 n1:N<=16384
 n2:N%16=8
 n3:K<=1024
 n4:32+8*K<=n
theorem HeadOk.zero (h:HeadOk b n N K) (k:aoZ n N K):ado b=0:=by
 obtain⟨e1,e2,e3,e4,e5,e6⟩:=h;obtain⟨k0,k1,k2,k3,k4⟩:=k;subst e5 e6;unfold ado;rw[if_neg (by omega),if_neg (by simpa using e3),if_neg (by rw[e4];simp),if_neg,if_neg (by omega)];rw[(aaR _).2 (by omega)];simp
theorem HeadOk.tags (h:HeadOk b n N K) (k:aoZ n N K) (ht:abp b 28 (28+8*K)=false):aeM b=(9,0,[],[]):=by
 have hz:=h.zero k;obtain⟨e1,e2,e3,e4,e5,e6⟩:=h;have:=k.n4;subst e5 e6;have hbl:abx b (acK b) (acQ b)=(9,[]):=by
  unfold abx;rw[if_neg (by omega),if_pos ht]
 unfold aeM;rw[if_neg (by rw[hz];simp),if_pos (by rw[hbl];simp),hbl]
theorem HeadOk.blks (h:HeadOk b n N K) (k:aoZ n N K) (ht:abp b 28 (28+8*K)=true):abx b (acK b) (acQ b)=asE N (aaO (b.drop 28) K 184):=by
 obtain⟨e1,e2,e3,e4,e5,e6⟩:=h;have:=k.n4;subst e5 e6;unfold abx;rw[if_neg (by omega),if_neg (by rw[ht];simp)]
theorem HeadOk.row (h:HeadOk b n N K) (k:aoZ n N K) (ht:abp b 28 (28+8*K)=true) (hb:aaO (b.drop 28) K 184=some l) (hr:abc (N:Int) 184 false l=true):aeM b=if (aem b l).1≠0 then ((aem b l).1,0,[],[]) else (0,N,l,(aem b l).2):=by
 have hz:=h.zero k;have hbl:=h.blks k ht;rw[hb]at hbl;have hbl2:abx b (acK b) (acQ b)=(0,l):=by
  rw[hbl];unfold asE;dsimp only;rw[if_neg (by rw[hr];simp)]
 unfold aeM;rw[if_neg (by rw[hz];simp),if_neg (by rw[hbl2];simp),hbl2,h.hN]
theorem auF (h:b.length=n) (hl:l.length=K) (hn:n=32+8*K+aaH l+8) (y1 y2:Bool) (h1:abp b (32+8*K) (32+8*K+aaH l)=y1) (h2:abp b 0 (32+8*K+aaH l+4)=y2) (hy:y1=false\/y2=false):aem b l=(9,[]):=by
 unfold aem;rw[hl,if_neg (by omega),h1,h2];rcases hy with rfl | rfl
 · rw[if_pos rfl]
 · cases y1
   · rw[if_pos rfl]
   · rw[if_neg (by simp),if_pos rfl]
theorem asI (h:b.length=n) (hl:l.length=K) (hn:n=32+8*K+aaH l+8) (h1:abp b (32+8*K) (32+8*K+aaH l)=true) (h2:abp b 0 (32+8*K+aaH l+4)=true):aem b l=(0,afN l (b.drop (32+8*K))):=by
 unfold aem;rw[hl,if_neg (by omega),h1,h2,if_neg (by simp),if_neg (by simp)]
end
structure Sk where
 G:Nat
 N:Nat
 S:Nat
 ok:Bool
 n:Nat
 l:List Rk
 d:List (List UInt8)
def aqt:Sk:=⟨0,0,0,false,0,[],[]⟩
def ara (G N S s:Nat) (Γ:Nat × Nat × List Rk × List (List UInt8)):Sk:=
 if Γ.1=0/\s=S then ⟨G,N,S,true,Γ.2.1,Γ.2.2.1,Γ.2.2.2⟩ else ⟨G,N,S,false,0,[],[]⟩
def al5 (b:List UInt8) (half:Nat) (a:Nat->List UInt8):Sk:=
 if acv b=false then aqt else
 if 512*(half-1)<slN b then ⟨slG b,slN b,slS b,false,0,[],[]⟩ else ara (slG b) (slN b) (slS b) (abS 0 (a (slN b))) (aeM (a (slN b)))
def adp (bs:List UInt8) (wt:List (Nat × List UInt8)) (half k:Nat):Sk:=
 al5 (abv bs wt (k*half)) half (fun n=>(adn bs wt (k*half+1) (need n)).take n)
def skV (s:Sk) (A1:Option Addr) (c1:Nat) (A2:Option Addr) (c2:Nat):Value:= .agg #[.int .u64 (s.G:Int), .int .u64 (s.N:Int), .int .u32 (s.S:Int), .bool s.ok, .int .i64 (s.n:Int), .slice A1 s.l.length c1, .slice A2 s.d.length c2]
theorem ar7{b:List UInt8}(h:acv b=true):slG b<=4611686018427387904/\slN b<=65536:=by
 unfold acv at h;rw[Bool.and_eq_true]at h;have h1:=of_decide_eq_true h.1;have h2:=of_decide_eq_true h.2;unfold anT at h2;by_cases hk:akl (slG b) (slN b)=true
 · unfold akl at hk;simp only[Bool.and_eq_true,decide_eq_true_eq]at hk;exact⟨hk.2.1,hk.2.2⟩
 · rw[if_neg hk]at h2;rw[<-h2]at h1
   cases h1
theorem RkRd.offS{w w':World}{B g:Nat}{A:Option Addr}{l:List Rk}{t:TypeId}{fr:Nat × Nat}{a b c e:Int}{f:Bool}{A1 A2:Option Addr}{n1 k1 n2 k2:Nat}(h:RkRd w B A l) (hg:w.heap[g]?=some (.cells #[.int .u64 a, .int .u64 b, .int .u32 c, .bool f, .int .i64 e, .slice A1 n1 k1, .slice A2 n2 k2] t fr)) (hk:∀k,k≠g->w'.heap[k]?=w.heap[k]?):RkRd w' B A l:=fun hn=>by
 obtain⟨b,o,e,hB,hc⟩:=h hn;have hbg:b≠g:=by
  intro e2;subst e2;obtain⟨x,hx⟩:∃x,l[0]?=some x:=⟨l[0]'hn,List.getElem?_eq_getElem _⟩;obtain⟨h0,h1,_⟩:=hc 0 x hx;rw[cell_of_row _ _ _ _ _ _ hg]at h0 h1;rcases o with _ | _ | _ | _ | _ | _ | _ | o<;>simp at h0 h1
 refine⟨b,o,e,hB,fun j x hx=> ?_⟩;obtain⟨h0,h1,h2,h3⟩:=hc j x hx;have hh:=hk b hbg;refine⟨?_,?_,?_,h3⟩
 · rw[<-h0];simp[World.cell?,hh]
 · rw[<-h1];simp[World.cell?,hh]
 · rw[<-h2];simp[World.cell?,hh]
theorem Rd.offS{w w':World}{B g n:Nat}{A:Option Addr}{l:List UInt8}{t:TypeId}{fr:Nat × Nat}{a b c e:Int}{f:Bool}{A1 A2:Option Addr}{n1 k1 n2 k2:Nat}(h:Rd w B A n l) (hg:w.heap[g]?=some (.cells #[.int .u64 a, .int .u64 b, .int .u32 c, .bool f, .int .i64 e, .slice A1 n1 k1, .slice A2 n2 k2] t fr)) (hk:∀k,k≠g->w'.heap[k]?=w.heap[k]?):Rd w' B A n l:=by
 refine⟨h.1,fun hn=> ?_⟩;obtain⟨b,o,e,hB,hc⟩:=h.2 hn;have hbg:b≠g:=by
  intro e2;subst e2;obtain⟨x,hx⟩:∃x,l[0]?=some x:=⟨l[0]'(by rw[h.1];exact hn),List.getElem?_eq_getElem _⟩;have h0:=hc 0 x hx;rw[cell_of_row _ _ _ _ _ _ hg]at h0;rcases o with _ | _ | _ | _ | _ | _ | _ | o<;>simp at h0
 refine⟨b,o,e,hB,fun j x hx=> ?_⟩;have hh:=hk b hbg;rw[<-hc j x hx];simp[World.cell?,hh]
theorem DtRd.offS{w w':World}{B g:Nat}{A:Option Addr}{l:List (List UInt8)}{t:TypeId}{fr:Nat × Nat}{a b c e:Int}{f:Bool}{A1 A2:Option Addr}{n1 k1 n2 k2:Nat}(h:DtRd w B A l) (hA:∀a,A=some a->a.block≠g) (hg:w.heap[g]?=some (.cells #[.int .u64 a, .int .u64 b, .int .u32 c, .bool f, .int .i64 e, .slice A1 n1 k1, .slice A2 n2 k2] t fr)) (hk:∀k,k≠g->w'.heap[k]?=w.heap[k]?):DtRd w' B A l:=fun hn=>by
 obtain⟨b,o,e,hB,hc⟩:=h hn;refine⟨b,o,e,hB,fun j x hx=> ?_⟩;obtain⟨A',k,h1,h2,h3⟩:=hc j x hx;have hh:=hk b (hA _ e);exact⟨A',k,by rw[<-h1];simp[World.cell?,hh],h2.offS hg hk,h3⟩
section
variable {S:Nat->Prop} {w:World} {g:Nat} {L:Option Addr} {cl:Nat} {W:Option Addr} {cw:Nat} {ls ws:List Wr} {left:Int} {off:Bool}
end
def agm (x y:Sk):Int:=if x.ok=true/\(y.ok=false\/y.G<=x.G) then 0 else if y.ok=true then 1 else-1
section
variable {S:Nat->Prop} {w:World} {g:Nat} {L:Option Addr} {cl:Nat} {W:Option Addr} {cw:Nat} {ls ws:List Wr} {left:Int} {off:Bool}
def atV (x y:Sk) (base:Nat) (cap:Int):Nat × Nat × List Rk × List (List UInt8):=
 if agm x y<0 then (8,0,[],[]) else
 if ¬(base%16=0/\base<=4611686018427387904/\1024<=cap/\cap<=16384) then (1,0,[],[]) else
 if agm x y=0 then (if cap<(x.n:Int) then (10,0,[],[]) else (0,x.n,x.l,x.d)) else (if cap<(y.n:Int) then (10,0,[],[]) else (0,y.n,y.l,y.d))
theorem ahn (x y:Sk):agm x y= -1\/agm x y=0\/agm x y=1:=by
 unfold agm;split
 · exact .inr (.inl rfl)
 · split
   · exact .inr (.inr rfl)
   · exact .inl rfl
theorem asJ{w w':World}{g:Nat}{A1 A2:Option Addr}{l:List Rk}{d:List (List UInt8)}{t:TypeId}(h:RkRd w w.heap.size A1 l/\DtRd w w.heap.size A2 d) (hA:∀a,A2=some a->a.block≠g) (hg:w.heap[g]?=some (.cells #[.int .i64 0, .slice none 0 0, .slice none 0 0] t (0,0))) (hs:w'.heap.size=w.heap.size) (hk:∀k,k≠g->w'.heap[k]?=w.heap[k]?):RkRd w' w'.heap.size A1 l/\DtRd w' w'.heap.size A2 d:=by
 rw[hs];refine⟨h.1.off hg hk,fun hn=> ?_⟩;obtain⟨b,o,e,hB,hc⟩:=h.2 hn;refine⟨b,o,e,hB,fun j y hy=> ?_⟩;obtain⟨A',k,h1,h2,h3⟩:=hc j y hy;refine⟨A',k,by rw[<-h1];simp[World.cell?,hk b (hA _ e)],⟨h2.1,fun hn=> ?_⟩,h3⟩;obtain⟨b2,o2,e2,hB2,hc2⟩:=h2.2 hn;have hbg:b2≠g:=by
  intro e3;subst e3;obtain⟨u,hu⟩:∃u,y[0]?=some u:=⟨y[0]'hn,List.getElem?_eq_getElem _⟩;have h0:=hc2 0 u hu;rw[cell_of_row _ _ _ _ _ _ hg]at h0;rcases o2 with _ | _ | _ | o2<;>simp at h0
 exact⟨b2,o2,e2,hB2,fun j u hu=>by rw[<-hc2 j u hu];simp[World.cell?,hk b2 hbg]⟩
end
structure Good (b:List UInt8) (N:Nat) (l:List Rk) (d:List (List UInt8)):Prop where
 h28:28<=b.length
 hm:b.take 8=imMarkB
 hs:abp b 0 24=true
 hN:acK b=N
 hlo:abT (N:Int)=true
 hK:acQ b=l.length
 hk:l.length<=1024
 hst:abp b 28 (28+8*l.length)=true
 hb:aaO (b.drop 28) l.length 184=some l
 hr:abc (N:Int) 184 false l=true
 hlen:b.length=32+8*l.length+aaH l+8
 h1:abp b (32+8*l.length) (32+8*l.length+aaH l)=true
 h2:abp b 0 (32+8*l.length+aaH l+4)=true
 hd:d=afN l (b.drop (32+8*l.length))
section
variable {b c:List UInt8} {N:Nat} {l:List Rk} {d:List (List UInt8)}
theorem Good.got (h:Good b N l d):aeM b=(0,N,l,d):=by
 have ho:HeadOk b b.length N l.length:=⟨rfl,h.h28,h.hm,h.hs,h.hN,h.hK⟩;have hl:=(aaR _).1 h.hlo;have hno:aoZ b.length N l.length:=⟨by omega,by omega,by omega,h.hk,by have:=h.hlen;omega⟩;rw[ho.row hno h.hst h.hb h.hr,asI rfl rfl h.hlen h.h1 h.h2,if_neg (by simp),h.hd]
theorem adT{x:Bool}(h:¬x=false):x=true:=by
 cases x with
 | true=>rfl
 | false=>exact absurd rfl h
theorem ao0 (h:aeM b=(0,N,l,d)):Good b N l d:=by
 unfold aeM at h;by_cases h0:ado b≠0
 · rw[if_pos h0]at h;injection h with h _;exact absurd h h0
 rw[if_neg h0]at h;have h0:ado b=0:=Decidable.byContradiction h0;by_cases h1:(abx b (acK b) (acQ b)).1≠0
 · rw[if_pos h1]at h;injection h with h _;exact absurd h h1
 rw[if_neg h1]at h;have h1:(abx b (acK b) (acQ b)).1=0:=Decidable.byContradiction h1;by_cases h2:(aem b (abx b (acK b) (acQ b)).2).1≠0
 · rw[if_pos h2]at h;injection h with h _;exact absurd h h2
 rw[if_neg h2]at h;have h2:(aem b (abx b (acK b) (acQ b)).2).1=0:=Decidable.byContradiction h2;injection h with _ h;injection h with hN h;injection h with hl hd;obtain⟨hlo,hcn⟩:=al2 h0;unfold ado at h0;by_cases a1:b.length<28
 · rw[if_pos a1]at h0;cases h0
 rw[if_neg a1]at h0;by_cases a2:b.take 8≠imMarkB
 · rw[if_pos a2]at h0;cases h0
 rw[if_neg a2]at h0;by_cases a3:abp b 0 24=false
 · rw[if_pos a3]at h0;cases h0
 have a2:b.take 8=imMarkB:=Decidable.byContradiction a2;obtain⟨hlK,_⟩:=al3 h1;rw[hl]at hlK hd h2;unfold abx at h1 hl;by_cases a4:b.length<32+8*acQ b
 · rw[if_pos a4]at h1;cases h1
 rw[if_neg a4]at h1 hl;by_cases a5:abp b 28 (28+8*acQ b)=false
 · rw[if_pos a5]at h1;cases h1
 rw[if_neg a5]at h1 hl
 cases hbk:aaO (b.drop 28) (acQ b) 184 with
 | none=>rw[hbk]at h1;cases h1
 | some l'=>
  rw[hbk]at h1 hl;unfold asE at h1 hl;dsimp only at h1 hl;by_cases a6:abc (acK b:Int) 184 false l'=false
  · rw[if_pos a6]at h1;cases h1
  rw[if_neg a6]at h1 hl;dsimp only at hl;subst hl;have hlK':=hlK;unfold aem at h2 hd;by_cases a7:b.length≠32+8*l'.length+aaH l'+8
  · rw[if_pos a7]at h2;cases h2
  rw[if_neg a7]at h2 hd;by_cases a8:abp b (32+8*l'.length) (32+8*l'.length+aaH l')=false
  · rw[if_pos a8]at h2;cases h2
  rw[if_neg a8]at h2 hd;by_cases a9:abp b 0 (32+8*l'.length+aaH l'+4)=false
  · rw[if_pos a9]at h2;cases h2
  rw[if_neg a9]at hd;have a7:b.length=32+8*l'.length+aaH l'+8:=Decidable.byContradiction a7;subst hN;exact⟨by omega,a2,adT a3,rfl,hlo,hlK.symm,by omega,by rw[hlK];exact adT a5,by rw[hlK];exact hbk,adT a6,a7,adT a8,adT a9,hd.symm⟩
theorem afO{X:List UInt8}{i j:Nat}(hX:b.take j=X) (hj:j+4<=b.length) (_hij:i<=j) (h:abp b i j=true):b.take (j+4)=afH X i:=by
 rw[<-aju hj]at h;have h:=of_decide_eq_true h;unfold afH;rw[List.take_add,<-h,<-hX,List.drop_take]
theorem aeN{X r:List UInt8}{i j:Nat}(hj:X.length=j) (hij:i<=j):abp (afH X i++r) i j=true:=by
 have hl:(afH X i++r).length=j+4+r.length:=by unfold afH;rw[List.length_append,List.length_append,ab1,hj]
 rw[<-aju (by omega)];apply decide_eq_true;unfold afH;have e1:((X++ahf (X.drop i)++r).drop i).take (j-i)=X.drop i:=by
  rw[List.append_assoc,List.drop_append_of_le_length (by omega),List.take_append_of_le_length (by rw[List.length_drop];omega),List.take_of_length_le (by rw[List.length_drop];omega)]
 have e2:((X++ahf (X.drop i)++r).drop j).take 4=ahf (X.drop i):=by
  rw[List.append_assoc,<-hj,List.drop_left,List.take_append_of_le_length (by rw[ab1];omega),List.take_of_length_le (by rw[ab1];omega)]
 rw[e1,e2]
theorem akO{x:List UInt8}(h:x.length=8):aaF 8 (abV x)=x:=by
 have:=afY x;rw[h]at this;exact this
theorem arb{x:List UInt8}{s:Nat}{u:Bool}(h:x.length=8) (hu:adz (abV x)=some (s,u)) (o:Int):anS ⟨o,(s:Int),u⟩=x:=by
 obtain⟨h1,h2⟩:=acV hu;have h3:=aeY h1 u;unfold anS;have e:ab9 (s:Int) u=abV x:=by
  rw[h2];unfold ab9;rw[if_pos h1];simp
 rw[e];exact akO h
theorem agn:∀{k:Nat}{b:List UInt8}{o:Nat}{l:List Rk},8*k<=b.length->aaO b k o=some l->acp l=b.take (8*k)
 | 0,b,o,l,_,h=>by
  rw[aaO]at h;injection h with h;rw[<-h];rfl
 | k+1,b,o,l,hl,h=>by
  rw[aaO]at h;split at h
  · cases h
  · rename_i s u e
    cases hm:aaO (b.drop 8) k (o+s)with
    | none=>rw[hm]at h;cases h
    | some l'=>
     rw[hm]at h;injection h with h;rw[<-h];have ih:=agn (by rw[List.length_drop];omega) hm;have:acp (⟨(o:Int),(s:Int),u⟩::l')=anS ⟨(o:Int),(s:Int),u⟩++acp l':=by
      unfold acp;rw[List.map_cons,List.flatten_cons]
     rw[this,ih,arb (by rw[List.length_take];omega) e,show 8*(k+1)=8+8*k from by omega,List.take_add]
theorem ago:∀{l:List Rk}{b:List UInt8},(∀x∈l,aaD x.s=true)->aaH l<=b.length->datOk l (afN l b)=true
 | [],_,_,_=>rfl
 | x::l,b,h,hl=>by
  have hx:=(aac _).1 (h x (by simp));unfold aaH at hl;unfold datOk afN
  cases hu:x.u with
  | false=>
   rw[hu]at hl;simp only[Bool.false_eq_true,if_false,Nat.zero_add]at hl ⊢;exact ago (l:=l) (fun y hy=>h y (by simp[hy])) hl
  | true=>
   rw[hu]at hl;simp only[if_true]at hl ⊢;have ih:=ago (l:=l) (b:=b.drop (x.s.toNat-16)) (fun y hy=>h y (by simp[hy])) (by rw[List.length_drop];omega);rw[ih,Bool.and_true,beq_iff_eq,List.length_take];omega
theorem Good.put (h:Good b N l d):b=aaU N l d/\aea (N:Int) l d=true:=by
 obtain⟨h28,hm,hs,hN,hlo,hK,hk,hst,hb,hr,hlen,h1,h2,hd⟩:=h;have hlB:=(aaR _).1 hlo;have hh:b.take 24=aeb N l.length:=by
  have e1:(b.drop 8).take 8=aaF 8 N:=by rw[<-hN];unfold acK;rw[akO];rw[List.length_take,List.length_drop];omega
  have e2:(b.drop 16).take 8=aaF 8 l.length:=by rw[<-hK];unfold acQ;rw[akO];rw[List.length_take,List.length_drop];omega
  unfold aeb;rw[show 24=8+(8+8) from rfl,List.take_add,List.take_add,List.drop_drop,hm,e1,e2,List.append_assoc]
 have hA:b.take 28=akD N l.length:=afO hh (by omega) (by omega) hs;have hT0:b.take (28+8*l.length)=akD N l.length++acp l:=by
  rw[List.take_add,hA,agn (by rw[List.length_drop];omega) hb]
 have hT:b.take (28+8*l.length+4)=ahg N l:=afO hT0 (by omega) (by omega) hst;rw[show 28+8*l.length+4=32+8*l.length from by omega]at hT;have hheld:aaH l<=(b.drop (32+8*l.length)).length:=by rw[List.length_drop];omega
 have hD0:b.take (32+8*l.length+aaH l)=ahg N l++d.flatten:=by
  rw[List.take_add,hT,hd,agl hheld]
 have hD:b.take (32+8*l.length+aaH l+4)=akk N l d:=by
  have:=afO hD0 (by omega) (by omega) h1;rw[this];unfold akk;rw[adk]
 have hB:b.take (32+8*l.length+aaH l+4+4)=aaU N l d:=afO hD (by omega) (by omega) h2;refine⟨?_,?_⟩
 · rw[<-hB,List.take_of_length_le (by omega)]
 · unfold aea;rw[hlo,hr,hd,ago (aeE hr) hheld];rfl
theorem afb:∀{l:List Rk}{d:List (List UInt8)},datOk l d=true->(∀x∈l,aaD x.s=true)->aaH l=d.flatten.length
 | [],d,h,_=>by
  unfold datOk at h;rw[List.isEmpty_iff]at h;rw[h];rfl
 | x::l,d,h,hz=>by
  have hx:=(aac _).1 (hz x (by simp));have hz2:∀y∈l,aaD y.s=true:=fun y hy=>hz y (by simp[hy]);unfold datOk at h;unfold aaH
  cases hu:x.u with
  | false=>
   rw[hu]at h;simp only[Bool.false_eq_true,if_false,Nat.zero_add]at h ⊢;exact afb h hz2
  | true=>
   rw[hu]at h;simp only[if_true]at h ⊢
   cases d with
   | nil=>cases h
   | cons y d'=>
    simp only[Bool.and_eq_true,beq_iff_eq]at h;rw[afb h.2 hz2,List.flatten_cons,List.length_append];omega
theorem afc:∀{l:List Rk}{d:List (List UInt8)}{r:List UInt8},datOk l d=true->(∀x∈l,aaD x.s=true)->afN l (d.flatten++r)=d
 | [],d,r,h,_=>by
  unfold datOk at h;rw[List.isEmpty_iff]at h;rw[h];rfl
 | x::l,d,r,h,hz=>by
  have hx:=(aac _).1 (hz x (by simp));have hz2:∀y∈l,aaD y.s=true:=fun y hy=>hz y (by simp[hy]);unfold datOk at h;unfold afN
  cases hu:x.u with
  | false=>
   rw[hu]at h;simp only[Bool.false_eq_true,if_false]at h ⊢;exact afc h hz2
  | true=>
   rw[hu]at h;simp only[if_true]at h ⊢
   cases d with
   | nil=>cases h
   | cons y d'=>
    simp only[Bool.and_eq_true,beq_iff_eq]at h;have hy:x.s.toNat-16=y.length:=by omega
    rw[List.flatten_cons,List.append_assoc,hy,List.take_left,List.drop_left,afc h.2 hz2]
theorem aho{n:Int}:∀{l:List Rk}{o:Nat}{f:Bool}{r:List UInt8},abc n (o:Int) f l=true->aaO (acp l++r) l.length o=some l
 | [],o,f,r,_=>rfl
 | x::l,o,f,r,h=>by
  unfold abc at h;simp only[Bool.and_eq_true,beq_iff_eq]at h;obtain⟨ho,hs,_,_,hr⟩:=h;have hx:=(aac _).1 hs;have e:acp (x::l)++r=anS x++(acp l++r):=by
   unfold acp;rw[List.map_cons,List.flatten_cons,List.append_assoc]
  have hl:(anS x).length=8:=aag _ _;have hp:=afB x.s x.u;have hu:adz (abV (anS x))=some (x.s.toNat,x.u):=by
   unfold anS;rw[acf,Nat.mod_eq_of_lt (by omega)];exact aeY hs x.u
  rw[e,List.length_cons,aaO,<-hl,List.take_left,List.drop_left,hu];dsimp only;have hr2:abc n ((o+x.s.toNat:Nat):Int) (!x.u) l=true:=by
   rw[show((o+x.s.toNat:Nat):Int)=(o:Int)+x.s from by omega];exact hr
  rw[aho hr2];have hxs:((x.s.toNat:Nat):Int)=x.s:=by omega
  show some ((⟨(o:Int),((x.s.toNat:Nat):Int),x.u⟩:Rk)::l)=some (x::l);rw[hxs,<-ho]
theorem akP (h:aea (N:Int) l d=true):Good (aaU N l d) N l d:=by
 unfold aea at h;simp only[Bool.and_eq_true]at h;obtain⟨hlo,hr,hdo⟩:=h;have hl:=(aaR _).1 hlo;have hk:l.length<=1024:=by have:=ajg hr;omega
 have hz:=aeE hr;have hheld:=afb hdo hz;have hDl:(ahg N l++d.flatten).length=32+8*l.length+aaH l:=by rw[List.length_append,adk,hheld]
 have hPD:(akk N l d).length=32+8*l.length+aaH l+4:=by unfold akk afH;rw[List.length_append,hDl,ab1]
 have hPB:(aaU N l d).length=32+8*l.length+aaH l+8:=by unfold aaU afH;rw[List.length_append,hPD,ab1]
 obtain⟨r3,e3⟩:∃r,aaU N l d=akk N l d++r:=⟨_,rfl⟩;obtain⟨r2,e2⟩:∃r,aaU N l d=ahg N l++d.flatten++r:=by
  rw[e3];unfold akk afH;rw[List.append_assoc];exact⟨_,rfl⟩
 obtain⟨r1,e1⟩:∃r,aaU N l d=ahg N l++r:=by rw[e2,List.append_assoc];exact⟨_,rfl⟩
 obtain⟨r0,e0⟩:∃r,aaU N l d=akD N l.length++(acp l++r):=by
  rw[e1];unfold ahg afH;rw[List.append_assoc,List.append_assoc];exact⟨_,rfl⟩
 obtain⟨rh,eh⟩:∃r,aaU N l d=aeb N l.length++r:=by
  rw[e0];unfold akD afH;rw[List.append_assoc];exact⟨_,rfl⟩
 have hbl:aaO ((aaU N l d).drop 28) l.length 184=some l:=by
  rw[e0,<-afI N l.length,List.drop_left];exact aho hr
 have s0:abp (aaU N l d) 0 24=true:=by rw[e0];exact aeN (aeF _ _) (by omega)
 have s1:abp (aaU N l d) 28 (28+8*l.length)=true:=by
  rw[e1];exact aeN (by rw[List.length_append,afI,adL]) (by omega)
 have s2:abp (aaU N l d) (32+8*l.length) (32+8*l.length+aaH l)=true:=by
  rw[e3];unfold akk;rw[adk];exact aeN hDl (by omega)
 have s3:abp (aaU N l d) 0 (32+8*l.length+aaH l+4)=true:=by
  have:=aeN (X:=akk N l d) (r:= []) (i:=0) hPD (by omega);rw[List.append_nil]at this;exact this
 have hmk:(aaU N l d).take 8=imMarkB:=by
  rw[eh];unfold aeb;rw[List.append_assoc,List.append_assoc,List.take_append_of_le_length (by decide)];rfl
 have hN:acK (aaU N l d)=N:=by
  unfold acK;rw[eh];unfold aeb;rw[List.append_assoc,List.append_assoc,show(8:Nat)=imMarkB.length from rfl,List.drop_left];have:(aaF imMarkB.length N).length=imMarkB.length:=aag _ _;rw[List.take_append_of_le_length (by rw[this];exact Nat.le_refl _),List.take_of_length_le (by rw[this];exact Nat.le_refl _),acf];exact Nat.mod_eq_of_lt (by show N<256^8;omega)
 have hC:acQ (aaU N l d)=l.length:=by
  unfold acQ;rw[eh];unfold aeb;have h16:(imMarkB++aaF 8 N).length=16:=by rw[List.length_append,aag];rfl
  rw[List.append_assoc,<-h16,List.drop_left];have:(aaF 8 l.length).length=8:=aag _ _;rw[List.take_append_of_le_length (by rw[this];exact Nat.le_refl _),List.take_of_length_le (by rw[this];exact Nat.le_refl _),acf];exact Nat.mod_eq_of_lt (by omega)
 refine⟨by omega,hmk,s0,hN,hlo,hC,hk,s1,hbl,hr,hPB,s2,s3,?_⟩;rw[e2,List.append_assoc,<-adk N l,List.drop_left,afc hdo hz]
end
def aat (ok:Bool) (k:Int):Value:=match ok with
 | true=> .nilIface
 | false=> .iface 130 (.int .i64 k)
def aay (x:Option Bk) (w:World) (e:Ending) (w':World):Prop:=e= .returned (.tuple #[bkV x,aat x.isSome 3])/\Below w.heap.size w w'
def acR (x:Option (List Bk)) (w:World) (e:Ending) (w':World):Prop:=
 ∃A' c',e= .returned (.tuple #[.slice A' (x.getD []).length c',aat x.isSome 3])/\w'.ownsRow w.heap.size 112 3 (.slice A' (x.getD []).length c') (x.getD []).length (abC (x.getD []))/\Below w.heap.size w w'
def ao1 (k:Int) (t:TypeId) (g base cap:Nat) (A:Option Addr) (y:Option (List UInt8)) (w:World) (e:Ending) (w':World):Prop:=
 match y with
 | none=>e= .returned (aat false k)/\Below w.heap.size w w'
 | some out=>e= .returned (aat true k)/\Became t g base cap A out w w'
def avp:Prop:=∀(w:World) (g base cap c:Nat) (A:Option Addr) (bs:List UInt8) (o:Int) (x:Option Bk),Ar w 195 g base cap A c bs->base<=4611686018427387904->bs.length<=16384->(-9223372036854775808<=o/\o<=9223372036854775807)->aa2 bs o=x->
 Calls Tryz.prog 123 #[.pointer (some ⟨g,0,none⟩), .int .i64 o] w fun e w'=>aay x w e w'
def atW:Prop:=∀(w:World) (g base cap c:Nat) (A:Option Addr) (bs:List UInt8) (o:Int) (x:Option Bk),Ar w 195 g base cap A c bs->base<=4611686018427387904->bs.length<=16384->(-9223372036854775808<=o/\o<=9223372036854775807)->abD bs o=x->
 Calls Tryz.prog 270 #[.pointer (some ⟨g,0,none⟩), .int .i64 o] w fun e w'=>aay x w e w'
def avq:Prop:=∀(w:World) (g base cap c:Nat) (A:Option Addr) (bs:List UInt8) (o s:Int) (u:Bool) (y:Option (List UInt8)),Ar w 195 g base cap A c bs->base<=4611686018427387904->bs.length<=16384->(-9223372036854775808<=o/\o<=9223372036854775807)->(-9223372036854775808<=s/\s<=9223372036854775807)->ad5 bs o s u=y->
 Calls Tryz.prog 217 #[.pointer (some ⟨g,0,none⟩), .agg #[.int .i64 o, .int .i64 s, .bool u]] w fun e w'=>ao1 1 195 g base cap A y w e w'
def auM:Prop:=∀(w:World) (g base cap c:Nat) (A:Option Addr) (bs:List UInt8) (x:Option (List Bk)),Ar w 195 g base cap A c bs->base<=4611686018427387904->bs.length<=16384->abA bs=x->
 Calls Tryz.prog 60 #[.pointer (some ⟨g,0,none⟩)] w fun e w'=>acR x w e w'
theorem aen (bs:List UInt8) (x:Bk) (h1:184<=x.off) (h2:x.off%16=8) (h3:x.off+x.size<=bs.length) (h4:aaD (x.size:Int)=true):ad5 bs (x.off:Int) (x.size:Int) x.used=some (aaT bs x):=by
 have h5:=(aac _).1 h4;unfold ad5 aaT anR;rw[if_pos ⟨h4,(aaZ _ _ _).2 (by omega)⟩,aia,aia];have e:((x.off:Int)+(x.size:Int)-8).toNat=x.off+x.size-8:=by omega
 rw[e];simp
theorem BkRd.of_own{w:World}{base:Nat}{t:TypeId}{A:Option Addr}{c:Nat}{l:List Bk}(h:w.ownsRow base t 3 (.slice A l.length c) l.length (abC l)):BkRd w w.heap.size A l:=aor h rfl
def adr (base:Nat) (o:Int):Nat:=(((base:Int)+o)%18446744073709551616).toNat
theorem ar8 (base:Nat) (o:Int):adr base o<18446744073709551616:=by unfold adr;omega
theorem aih (base:Nat) (hb:base<=4611686018427387904) (o:Nat) (ho:(o:Int)<=9223372036854775807):adr base (o:Int)=base+o:=by unfold adr;omega
theorem ao2 (base:Nat) (hb:base<=4611686018427387904) (o:Int) (ho: -9223372036854775900<=o/\o<=9223372036854775807) (n k:Nat) (hn:n+k<=1000000) (hk:1<=k) (h:o<0\/(n:Int)<o+k):base<=adr base o->n<adr base o-base+k:=by unfold adr;omega
def wdV (o:Option Nat):Value:=match o with
 | some v=> .tuple #[.int .u64 (v:Int), .nilIface]
 | none=> .tuple #[.int .u64 0, .iface 130 (.int .i64 2)]
def plc (o:Int):Bool:=decide (184<=o)&&(o%16==8)
theorem agp (o:Int):plc o=true ↔ 184<=o/\o%16=8:=by simp[plc]
section
variable {w:World} {g base cap c:Nat} {A:Option Addr} {bs:List UInt8}
theorem abH (h:Ar w 195 g base cap A c bs) (hb:base<=4611686018427387904) (hl:bs.length<=16384) (o:Int) (ho: -9223372036854775900<=o/\o<=9223372036854775807) (x:Option Nat) (hx:word? bs o=x):
 Calls Tryz.prog 176 #[.pointer (some ⟨g,0,none⟩), .int .u64 (adr base o:Int)] w fun e w'=>e= .returned (wdV x)/\w=w':=by
 subst hx;by_cases h1:0<=o/\o+8<=bs.length
 · obtain⟨p,rfl⟩:∃p:Nat,o=(p:Int):=⟨o.toNat,by omega⟩;have e:word? bs (p:Int)=some (aaf bs p):=by unfold word?;rw[if_pos (by omega)];rfl
   rw[e,aih base hb p (by omega)];exact aso h (by omega) (base+p) p (by omega) (by omega) (by omega) (by omega)
 · have e:word? bs o=none:=by unfold word?;rw[if_neg h1]
   rw[e];exact asp h (by omega) (adr base o) (ar8 _ _) (ao2 base hb o ho bs.length 8 (by omega) (by omega) (by omega))
theorem aaz (h:Ar w 195 g base cap A c bs) (o:Int):
 Calls Tryz.prog 186 #[.pointer (some ⟨g,0,none⟩), .int .i64 o] w fun e w'=>e= .returned (.int .u64 (adr base o:Int))/\w=w':=by
 have HB:=hE0 (acc h);go_enter Tryz.func186,Tryz.ntmps186
 go_wp2_with fail
 refine HB.out.mono ?_;rintro e w1 ⟨rfl,rfl⟩;go_wp2
 go_ret
 exact⟨atL (by simp only[IntKind.wrap_u64];unfold adr;omega),rfl⟩
theorem abi (w:World) (o:Int) (ho: -9223372036854775808<=o/\o<=9223372036854775807) (b:Bool) (hb:plc o=b):
 Calls Tryz.prog 185 #[.int .i64 o] w fun e w'=>e= .returned (.bool b)/\w=w':=by
 by_cases h1:184<=o
 · have e:((o-184)%16==0)=b:=by
    rw[<-hb];unfold plc;rw[decide_eq_true h1,Bool.true_and,Bool.eq_iff_iff,beq_iff_eq,beq_iff_eq];omega
   have HE:=hE0 e;clear hb e;go_enter Tryz.func185,Tryz.ntmps185
   go_wp2
   go_ret
   exact⟨ar3 HE.out,rfl⟩
 · obtain rfl:false=b:=by rw[<-hb];simp[plc,h1]
   clear hb;go_enter Tryz.func185,Tryz.ntmps185
   go_wp2
   go_ret
   exact⟨rfl,rfl⟩
end
section
variable {w:World} {g base cap c:Nat} {A:Option Addr} {bs:List UInt8}
theorem auN (h:Ar w 195 g base cap A c bs) (o:Int) (ho: -9223372036854775808<=o/\o<=9223372036854775807) (hc:plc o=false):
 Calls Tryz.prog 123 #[.pointer (some ⟨g,0,none⟩), .int .i64 o] w fun e w'=>e= .returned (.tuple #[bkV none,aat false 3])/\Below w.heap.size w w':=by
 obtain⟨w1,hw1⟩:=nmE (w.alloc (.cells #[.int .i64 0, .int .i64 0, .bool false] 112));have hb1:=abE hw1;have hn1:=anE hw1;have h1:=h.below hb1;have HC:=hE0 (abi w1 o ho false hc);have HW1:=hE0 hw1;have HB1:=hE0 hb1;have HN1:=hE0 hn1;clear hc hw1 hb1 hn1 h1 h;go_enter Tryz.func123,Tryz.ntmps123
 go_wp2_with fail
 rw[HW1.out]
 with_reducible refine HC.out.mono ?_
 rintro e w2 ⟨rfl,rfl⟩;obtain⟨⟨c0,c1,c2⟩,f0,f1,f2⟩:=aad HN1.out;go_wp2
 (try simp only[Exit.inBlock,Exit.then])
 refine abu (x:=aat false 3) Tryz.results123 ?_ ?_ ?_ (aav HN1.out _ _ _) ?_
 · rfl
 · rfl
 · rfl
 · exact⟨rfl,((HB1.out.setCell (Nat.le_refl _) _).setCell (Nat.le_refl _) _).setCell (Nat.le_refl _) _⟩
theorem auO (h:Ar w 195 g base cap A c bs) (hb:base<=4611686018427387904) (hl:bs.length<=16384) (o:Int) (ho: -9223372036854775808<=o/\o<=9223372036854775807) (hc:plc o=true) (hv:word? bs o=none):
 Calls Tryz.prog 123 #[.pointer (some ⟨g,0,none⟩), .int .i64 o] w fun e w'=>e= .returned (.tuple #[bkV none,aat false 3])/\Below w.heap.size w w':=by
 obtain⟨w1,hw1⟩:=nmE (w.alloc (.cells #[.int .i64 0, .int .i64 0, .bool false] 112));have hb1:=abE hw1;have hn1:=anE hw1;have h1:=h.below hb1;have HC:=hE0 (abi w1 o ho true hc);have HA:=hE0 (aaz h1 o);have hwd:=abH h1 hb hl o (by omega) _ hv;dsimp only[wdV]at hwd;have HW:=hE0 hwd;have HW1:=hE0 hw1;have HB1:=hE0 hb1;have HN1:=hE0 hn1;clear hc hv hwd hw1 hb1 hn1 h1 h;go_enter Tryz.func123,Tryz.ntmps123
 go_wp2_with fail
 rw[HW1.out]
 with_reducible refine HC.out.mono ?_
 rintro e w2 ⟨rfl,rfl⟩;go_wp2_with fail
 with_reducible refine HA.out.mono ?_
 rintro e w2 ⟨rfl,rfl⟩;go_wp2_with fail
 with_reducible refine HW.out.mono ?_
 rintro e w2 ⟨rfl,rfl⟩;obtain⟨⟨c0,c1,c2⟩,f0,f1,f2⟩:=aad HN1.out;go_wp2
 (try simp only[Exit.inBlock,Exit.then])
 refine abu (x:=aat false 3) Tryz.results123 ?_ ?_ ?_ (aav HN1.out _ _ _) ?_
 · rfl
 · rfl
 · rfl
 · exact⟨rfl,((HB1.out.setCell (Nat.le_refl _) _).setCell (Nat.le_refl _) _).setCell (Nat.le_refl _) _⟩
theorem auP (h:Ar w 195 g base cap A c bs) (hb:base<=4611686018427387904) (hl:bs.length<=16384) (o:Int) (ho: -9223372036854775808<=o/\o<=9223372036854775807) (hc:plc o=true) (v:Nat) (hvl:v<18446744073709551616) (hv:word? bs o=some v) (hu:adz v=none):
 Calls Tryz.prog 123 #[.pointer (some ⟨g,0,none⟩), .int .i64 o] w fun e w'=>e= .returned (.tuple #[bkV none,aat false 3])/\Below w.heap.size w w':=by
 obtain⟨w1,hw1⟩:=nmE (w.alloc (.cells #[.int .i64 0, .int .i64 0, .bool false] 112));have hb1:=abE hw1;have hn1:=anE hw1;have h1:=h.below hb1;have HC:=hE0 (abi w1 o ho true hc);have HA:=hE0 (aaz h1 o);have hwd:=abH h1 hb hl o (by omega) _ hv;dsimp only[wdV]at hwd;have HW:=hE0 hwd;have hup:=abg w1 v hvl;rw[hu]at hup;dsimp only[aoc]at hup;have HU:=hE0 hup;have HW1:=hE0 hw1;have HB1:=hE0 hb1;have HN1:=hE0 hn1;clear hc hv hwd hu hup hw1 hb1 hn1 h1 h;go_enter Tryz.func123,Tryz.ntmps123
 go_wp2_with fail
 rw[HW1.out]
 with_reducible refine HC.out.mono ?_
 rintro e w2 ⟨rfl,rfl⟩;go_wp2_with fail
 with_reducible refine HA.out.mono ?_
 rintro e w2 ⟨rfl,rfl⟩;go_wp2_with fail
 with_reducible refine HW.out.mono ?_
 rintro e w2 ⟨rfl,rfl⟩;go_wp2_with fail
 with_reducible refine HU.out.mono ?_
 rintro e w2 ⟨rfl,rfl⟩;obtain⟨⟨c0,c1,c2⟩,f0,f1,f2⟩:=aad HN1.out;go_wp2
 (try simp only[Exit.inBlock,Exit.then])
 refine abu (x:=aat false 3) Tryz.results123 ?_ ?_ ?_ (aav HN1.out _ _ _) ?_
 · rfl
 · rfl
 · rfl
 · exact⟨rfl,((HB1.out.setCell (Nat.le_refl _) _).setCell (Nat.le_refl _) _).setCell (Nat.le_refl _) _⟩
theorem auQ (h:Ar w 195 g base cap A c bs) (hb:base<=4611686018427387904) (hl:bs.length<=16384) (o:Int) (ho: -9223372036854775808<=o/\o<=9223372036854775807) (hc:plc o=true) (v:Nat) (hvl:v<18446744073709551616) (hv:word? bs o=some v) (s:Nat) (u:Bool) (hu:adz v=some (s,u)) (hs:32<=s/\s<=16384) (hob:0<=o/\o<=16384) (hv2:word? bs (o+(s:Int)-8)=none):
 Calls Tryz.prog 123 #[.pointer (some ⟨g,0,none⟩), .int .i64 o] w fun e w'=>e= .returned (.tuple #[bkV none,aat false 3])/\Below w.heap.size w w':=by
 obtain⟨w1,hw1⟩:=nmE (w.alloc (.cells #[.int .i64 0, .int .i64 0, .bool false] 112));have hb1:=abE hw1;have hn1:=anE hw1;have h1:=h.below hb1;have HC:=hE0 (abi w1 o ho true hc);have HA:=hE0 (aaz h1 o);have hwd:=abH h1 hb hl o (by omega) _ hv;dsimp only[wdV]at hwd;have HW:=hE0 hwd;have hup:=abg w1 v hvl;rw[hu]at hup;dsimp only[aoc]at hup;have HU:=hE0 hup;have HA2:=hE0 (aaz h1 (o+(s:Int)-8));have hwd2:=abH h1 hb hl (o+(s:Int)-8) (by omega) _ hv2;dsimp only[wdV]at hwd2;have HW2:=hE0 hwd2;have HW1:=hE0 hw1;have HB1:=hE0 hb1;have HN1:=hE0 hn1;clear hc hv hwd hu hup hv2 hwd2 hw1 hb1 hn1 h1 h;go_enter Tryz.func123,Tryz.ntmps123
 go_wp2_with fail
 rw[HW1.out]
 with_reducible refine HC.out.mono ?_
 rintro e w2 ⟨rfl,rfl⟩;go_wp2_with fail
 with_reducible refine HA.out.mono ?_
 rintro e w2 ⟨rfl,rfl⟩;go_wp2_with fail
 with_reducible refine HW.out.mono ?_
 rintro e w2 ⟨rfl,rfl⟩;go_wp2_with fail
 with_reducible refine HU.out.mono ?_
 rintro e w2 ⟨rfl,rfl⟩;go_wp2_with fail
 with_reducible refine HA2.out.mono ?_
 rintro e w2 ⟨rfl,rfl⟩;go_wp2_with fail
 with_reducible refine HW2.out.mono ?_
 rintro e w2 ⟨rfl,rfl⟩;obtain⟨⟨c0,c1,c2⟩,f0,f1,f2⟩:=aad HN1.out;go_wp2
 (try simp only[Exit.inBlock,Exit.then])
 refine abu (x:=aat false 3) Tryz.results123 ?_ ?_ ?_ (aav HN1.out _ _ _) ?_
 · rfl
 · rfl
 · rfl
 · exact⟨rfl,((HB1.out.setCell (Nat.le_refl _) _).setCell (Nat.le_refl _) _).setCell (Nat.le_refl _) _⟩
theorem auR (h:Ar w 195 g base cap A c bs) (hb:base<=4611686018427387904) (hl:bs.length<=16384) (o:Int) (ho: -9223372036854775808<=o/\o<=9223372036854775807) (hc:plc o=true) (v:Nat) (hvl:v<18446744073709551616) (hv:word? bs o=some v) (s:Nat) (u:Bool) (hu:adz v=some (s,u)) (hs:32<=s/\s<=16384) (hob:0<=o/\o<=16384) (v2:Nat) (hv2:word? bs (o+(s:Int)-8)=some v2) (hne:v2≠v):
 Calls Tryz.prog 123 #[.pointer (some ⟨g,0,none⟩), .int .i64 o] w fun e w'=>e= .returned (.tuple #[bkV none,aat false 3])/\Below w.heap.size w w':=by
 obtain⟨w1,hw1⟩:=nmE (w.alloc (.cells #[.int .i64 0, .int .i64 0, .bool false] 112));have hb1:=abE hw1;have hn1:=anE hw1;have h1:=h.below hb1;have HC:=hE0 (abi w1 o ho true hc);have HA:=hE0 (aaz h1 o);have hwd:=abH h1 hb hl o (by omega) _ hv;dsimp only[wdV]at hwd;have HW:=hE0 hwd;have hup:=abg w1 v hvl;rw[hu]at hup;dsimp only[aoc]at hup;have HU:=hE0 hup;have HA2:=hE0 (aaz h1 (o+(s:Int)-8));have hwd2:=abH h1 hb hl (o+(s:Int)-8) (by omega) _ hv2;dsimp only[wdV]at hwd2;have HW2:=hE0 hwd2;have hq:((v2:Int) !=(v:Int))=true:=by rw[bne_iff_ne];omega
 have HW1:=hE0 hw1;have HB1:=hE0 hb1;have HN1:=hE0 hn1;clear hc hv hwd hu hup hv2 hwd2 hne hw1 hb1 hn1 h1 h;go_enter Tryz.func123,Tryz.ntmps123
 go_wp2_with fail
 rw[HW1.out]
 with_reducible refine HC.out.mono ?_
 rintro e w2 ⟨rfl,rfl⟩;go_wp2_with fail
 with_reducible refine HA.out.mono ?_
 rintro e w2 ⟨rfl,rfl⟩;go_wp2_with fail
 with_reducible refine HW.out.mono ?_
 rintro e w2 ⟨rfl,rfl⟩;go_wp2_with fail
 with_reducible refine HU.out.mono ?_
 rintro e w2 ⟨rfl,rfl⟩;go_wp2_with fail
 with_reducible refine HA2.out.mono ?_
 rintro e w2 ⟨rfl,rfl⟩;go_wp2_with fail
 with_reducible refine HW2.out.mono ?_
 rintro e w2 ⟨rfl,rfl⟩;obtain⟨⟨c0,c1,c2⟩,f0,f1,f2⟩:=aad HN1.out;go_wp2
 (try simp only[Exit.inBlock,Exit.then])
 refine abu (x:=aat false 3) Tryz.results123 ?_ ?_ ?_ (aav HN1.out _ _ _) ?_
 · rfl
 · rfl
 · rfl
 · exact⟨rfl,((HB1.out.setCell (Nat.le_refl _) _).setCell (Nat.le_refl _) _).setCell (Nat.le_refl _) _⟩
theorem auS (h:Ar w 195 g base cap A c bs) (hb:base<=4611686018427387904) (hl:bs.length<=16384) (o:Nat) (ho: -9223372036854775808<=(o:Int)/\(o:Int)<=9223372036854775807) (hc:plc (o:Int)=true) (v:Nat) (hvl:v<18446744073709551616) (hv:word? bs (o:Int)=some v) (s:Nat) (u:Bool) (hu:adz v=some (s,u)) (hs:32<=s/\s<=16384) (hob:0<=(o:Int)/\(o:Int)<=16384) (hv2:word? bs ((o:Int)+(s:Int)-8)=some v):
 Calls Tryz.prog 123 #[.pointer (some ⟨g,0,none⟩), .int .i64 (o:Int)] w fun e w'=>e= .returned (.tuple #[bkV (some ⟨o,s,u⟩),aat true 3])/\Below w.heap.size w w':=by
 obtain⟨w1,hw1⟩:=nmE (w.alloc (.cells #[.int .i64 0, .int .i64 0, .bool false] 112));have hb1:=abE hw1;have hn1:=anE hw1;have h1:=h.below hb1;have HC:=hE0 (abi w1 (o:Int) ho true hc);have HA:=hE0 (aaz h1 (o:Int));have hwd:=abH h1 hb hl (o:Int) (by omega) _ hv;dsimp only[wdV]at hwd;have HW:=hE0 hwd;have hup:=abg w1 v hvl;rw[hu]at hup;dsimp only[aoc]at hup;have HU:=hE0 hup;have HA2:=hE0 (aaz h1 ((o:Int)+(s:Int)-8));have hwd2:=abH h1 hb hl ((o:Int)+(s:Int)-8) (by omega) _ hv2;dsimp only[wdV]at hwd2;have HW2:=hE0 hwd2;have HW1:=hE0 hw1;have HB1:=hE0 hb1;have HN1:=hE0 hn1;clear hc hv hwd hu hup hv2 hwd2 hw1 hb1 hn1 h1 h;go_enter Tryz.func123,Tryz.ntmps123
 go_wp2_with fail
 rw[HW1.out]
 with_reducible refine HC.out.mono ?_
 rintro e w2 ⟨rfl,rfl⟩;go_wp2_with fail
 with_reducible refine HA.out.mono ?_
 rintro e w2 ⟨rfl,rfl⟩;go_wp2_with fail
 with_reducible refine HW.out.mono ?_
 rintro e w2 ⟨rfl,rfl⟩;go_wp2_with fail
 with_reducible refine HU.out.mono ?_
 rintro e w2 ⟨rfl,rfl⟩;go_wp2_with fail
 with_reducible refine HA2.out.mono ?_
 rintro e w2 ⟨rfl,rfl⟩;go_wp2_with fail
 with_reducible refine HW2.out.mono ?_
 rintro e w2 ⟨rfl,rfl⟩;obtain⟨⟨c0,c1,c2⟩,f0,f1,f2⟩:=aad HN1.out;go_wp2
 (try simp only[Exit.inBlock,Exit.then])
 refine abu (x:=aat true 3) Tryz.results123 ?_ ?_ ?_ (aav HN1.out _ _ _) ?_
 · rfl
 · rfl
 · rfl
 · exact⟨rfl,((HB1.out.setCell (Nat.le_refl _) _).setCell (Nat.le_refl _) _).setCell (Nat.le_refl _) _⟩
end
theorem ajv:avp:=by
 intro w g base cap c A bs o x h hb hl ho hx;subst hx;unfold aay
 cases hc:plc o with
 | false=>
  have e:aa2 bs o=none:=by
   unfold aa2;rw[if_pos];rw[Bool.eq_false_iff];intro h2;have:=(aaZ _ _ _).1 h2;rw[(agp o).2 (by omega)]at hc
   cases hc
  rw[e];exact auN h o ho hc
 | true=>
  have hp:=(agp o).1 hc;obtain⟨p,rfl⟩:∃p:Nat,o=(p:Int):=⟨o.toNat,by omega⟩;by_cases h8:p+8<=bs.length
  · have hcd:akv bs.length (p:Int) 8=true:=(aaZ _ _ _).2 (by omega);have hv:word? bs (p:Int)=some (aaf bs p):=by unfold word?;rw[if_pos (by omega)];rfl
    cases hu:adz (aaf bs p)with
    | none=>
     have e:aa2 bs (p:Int)=none:=by unfold aa2;rw[if_neg (by rw[hcd];simp),Int.toNat_natCast,hu]
     rw[e];exact auP h hb hl (p:Int) ho hc _ (aan _ _) hv hu
    | some su=>
     obtain⟨s,u⟩:=su;have hss:=(aac _).1 (acV hu).1
     cases hc2:akv bs.length (p:Int) (s:Int)with
     | false=>
      have e:aa2 bs (p:Int)=none:=by unfold aa2;rw[if_neg (by rw[hcd];simp),Int.toNat_natCast,hu];dsimp only;rw[if_pos hc2]
      rw[e];refine auQ h hb hl (p:Int) ho hc _ (aan _ _) hv s u hu (by omega) (by omega) ?_;unfold word?;rw[if_neg];intro h2;rw[(aaZ _ _ _).2 (by omega)]at hc2
      cases hc2
     | true=>
      have hb2:=(aaZ _ _ _).1 hc2;have hv2:word? bs ((p:Int)+(s:Int)-8)=some (aaf bs (p+s-8)):=by
       unfold word?;rw[if_pos (by omega),show((p:Int)+(s:Int)-8).toNat=p+s-8 by omega]
      by_cases hw:aaf bs (p+s-8)=aaf bs p
      · have e:aa2 bs (p:Int)=some ⟨p,s,u⟩:=by unfold aa2;rw[if_neg (by rw[hcd];simp),Int.toNat_natCast,hu];dsimp only;rw[if_neg (by rw[hc2];simp),if_pos hw]
        rw[e];rw[hw]at hv2;exact auS h hb hl p ho hc _ (aan _ _) hv s u hu (by omega) (by omega) hv2
      · have e:aa2 bs (p:Int)=none:=by unfold aa2;rw[if_neg (by rw[hcd];simp),Int.toNat_natCast,hu];dsimp only;rw[if_neg (by rw[hc2];simp),if_neg hw]
        rw[e];exact auR h hb hl (p:Int) ho hc _ (aan _ _) hv s u hu (by omega) (by omega) _ hv2 hw
  · have e:aa2 bs (p:Int)=none:=by
     unfold aa2;rw[if_pos];rw[Bool.eq_false_iff];intro h2;have:=(aaZ _ _ _).1 h2;omega
    rw[e];exact auO h hb hl (p:Int) ho hc (by unfold word?;rw[if_neg (by omega)])
theorem ao3 (bs:List UInt8) (o:Int):abD bs o=(match word? bs (o-8)with
 | none=>none
 | some v=>match adz v with
  | none=>none
  | some (s,_)=>match aa2 bs (o-(s:Int))with
   | none=>none
   | some x=>if x.size=s then some x else none):=by
 by_cases h0:o<8\/(bs.length:Int)<o
 · have e:word? bs (o-8)=none:=by unfold word?;rw[if_neg (by omega)]
   rw[e];unfold abD;rw[if_pos (by omega)]
 · obtain⟨p,rfl⟩:∃p:Nat,o=(p:Int):=⟨o.toNat,by omega⟩;have e:word? bs ((p:Int)-8)=some (aaf bs (p-8)):=by
    unfold word?;rw[if_pos (by omega),show((p:Int)-8).toNat=p-8 by omega]
   rw[e];dsimp only;by_cases h1:(p:Int)<184
   · unfold abD;rw[if_pos (by omega)]
     cases hu:adz (aaf bs (p-8))with
     | none=>rfl
     | some su=>
      obtain⟨s,u⟩:=su;dsimp only
      cases hx:aa2 bs ((p:Int)-(s:Int))with
      | none=>rfl
      | some x=>
       have:=aaw hx;omega
   · unfold abD;rw[if_neg (by omega),Int.toNat_natCast]
     cases hu:adz (aaf bs (p-8))with
     | none=>rfl
     | some su=>
      obtain⟨s,u⟩:=su;dsimp only
      cases hx:aa2 bs ((p:Int)-(s:Int))with
      | none=>rfl
      | some x=>
       dsimp only;obtain⟨q1,q2,q3,q4,q5,q6,q7⟩:=aaw hx;by_cases hs:x.size=s
       · have e2:x.off+x.size-8=p-8:=by omega
         rw[e2]at q7;rw[<-q7,hu]at q6;injection q6 with q6;injection q6 with q6 q8;rw[if_pos ⟨hs,q8.symm⟩,if_pos hs]
       · rw[if_neg (fun h=>hs h.1),if_neg hs]
section
variable {w:World} {g base cap c:Nat} {A:Option Addr} {bs:List UInt8}
theorem asK (h:Ar w 195 g base cap A c bs) (hb:base<=4611686018427387904) (hl:bs.length<=16384) (o:Int) (ho: -9223372036854775808<=o/\o<=9223372036854775807) (hv:word? bs (o-8)=none):
 Calls Tryz.prog 270 #[.pointer (some ⟨g,0,none⟩), .int .i64 o] w fun e w'=>e= .returned (.tuple #[bkV none,aat false 3])/\Below w.heap.size w w':=by
 obtain⟨w1,hw1⟩:=nmE (w.alloc (.cells #[.int .i64 0, .int .i64 0, .bool false] 112));have hb1:=abE hw1;have hn1:=anE hw1;have h1:=h.below hb1;have HA:=hE0 (aaz h1 o);have hs8:IntKind.u64.wrap ((adr base o:Int)-8)=(adr base (o-8):Int):=by rw[IntKind.wrap_u64];unfold adr;omega
 have HS8:=hE0 hs8;have hwd:=abH h1 hb hl (o-8) (by omega) _ hv;dsimp only[wdV]at hwd;have HW:=hE0 hwd;have HW1:=hE0 hw1;have HB1:=hE0 hb1;have HN1:=hE0 hn1;clear hv hwd hs8 hw1 hb1 hn1 h1 h;go_enter Tryz.func270,Tryz.ntmps270
 go_wp2_with fail
 rw[HW1.out]
 with_reducible refine HA.out.mono ?_
 rintro e w2 ⟨rfl,rfl⟩;go_wp2_with fail
 rw[HS8.out]
 with_reducible refine HW.out.mono ?_
 rintro e w2 ⟨rfl,rfl⟩;have hlt:=aaa HN1.out;obtain⟨⟨c0,c1,c2⟩,f0,f1,f2⟩:=aad HN1.out;go_wp2
 (try simp only[Exit.inBlock,Exit.then])
 refine abu (x:=aat false 3) (g:=w.heap.size) (o:=0) (s:=0) (b:=false) Tryz.results270 ?_ ?_ ?_ ?_ ?_
 · rfl
 · rfl
 · rfl
 · exact aav HN1.out _ _ _
 · exact⟨rfl,((HB1.out.setCell (Nat.le_refl _) _).setCell (Nat.le_refl _) _).setCell (Nat.le_refl _) _⟩
theorem asL (h:Ar w 195 g base cap A c bs) (hb:base<=4611686018427387904) (hl:bs.length<=16384) (o:Int) (ho: -9223372036854775808<=o/\o<=9223372036854775807) (v:Nat) (hvl:v<18446744073709551616) (hv:word? bs (o-8)=some v) (hu:adz v=none):
 Calls Tryz.prog 270 #[.pointer (some ⟨g,0,none⟩), .int .i64 o] w fun e w'=>e= .returned (.tuple #[bkV none,aat false 3])/\Below w.heap.size w w':=by
 obtain⟨w1,hw1⟩:=nmE (w.alloc (.cells #[.int .i64 0, .int .i64 0, .bool false] 112));have hb1:=abE hw1;have hn1:=anE hw1;have h1:=h.below hb1;have HA:=hE0 (aaz h1 o);have hs8:IntKind.u64.wrap ((adr base o:Int)-8)=(adr base (o-8):Int):=by rw[IntKind.wrap_u64];unfold adr;omega
 have HS8:=hE0 hs8;have hwd:=abH h1 hb hl (o-8) (by omega) _ hv;dsimp only[wdV]at hwd;have HW:=hE0 hwd;have hup:=abg w1 v hvl;rw[hu]at hup;dsimp only[aoc]at hup;have HU:=hE0 hup;have HW1:=hE0 hw1;have HB1:=hE0 hb1;have HN1:=hE0 hn1;clear hv hwd hu hup hs8 hw1 hb1 hn1 h1 h;go_enter Tryz.func270,Tryz.ntmps270
 go_wp2_with fail
 rw[HW1.out]
 with_reducible refine HA.out.mono ?_
 rintro e w2 ⟨rfl,rfl⟩;go_wp2_with fail
 rw[HS8.out]
 with_reducible refine HW.out.mono ?_
 rintro e w2 ⟨rfl,rfl⟩;go_wp2_with fail
 with_reducible refine HU.out.mono ?_
 rintro e w2 ⟨rfl,rfl⟩;have hlt:=aaa HN1.out;obtain⟨⟨c0,c1,c2⟩,f0,f1,f2⟩:=aad HN1.out;go_wp2
 (try simp only[Exit.inBlock,Exit.then])
 refine abu (x:=aat false 3) (g:=w.heap.size) (o:=0) (s:=0) (b:=false) Tryz.results270 ?_ ?_ ?_ ?_ ?_
 · rfl
 · rfl
 · rfl
 · exact aav HN1.out _ _ _
 · exact⟨rfl,((HB1.out.setCell (Nat.le_refl _) _).setCell (Nat.le_refl _) _).setCell (Nat.le_refl _) _⟩
theorem asM (h:Ar w 195 g base cap A c bs) (hb:base<=4611686018427387904) (hl:bs.length<=16384) (o:Int) (ho: -9223372036854775808<=o/\o<=9223372036854775807) (v:Nat) (hvl:v<18446744073709551616) (hv:word? bs (o-8)=some v) (s:Nat) (u:Bool) (hu:adz v=some (s,u)) (hs:32<=s/\s<=16384) (hob:0<=o/\o<=16384) (hx:aa2 bs (o-(s:Int))=none):
 Calls Tryz.prog 270 #[.pointer (some ⟨g,0,none⟩), .int .i64 o] w fun e w'=>e= .returned (.tuple #[bkV none,aat false 3])/\Below w.heap.size w w':=by
 obtain⟨w1,hw1⟩:=nmE (w.alloc (.cells #[.int .i64 0, .int .i64 0, .bool false] 112));have hb1:=abE hw1;have hn1:=anE hw1;have h1:=h.below hb1;have HA:=hE0 (aaz h1 o);have hs8:IntKind.u64.wrap ((adr base o:Int)-8)=(adr base (o-8):Int):=by rw[IntKind.wrap_u64];unfold adr;omega
 have HS8:=hE0 hs8;have hwd:=abH h1 hb hl (o-8) (by omega) _ hv;dsimp only[wdV]at hwd;have HW:=hE0 hwd;have hup:=abg w1 v hvl;rw[hu]at hup;dsimp only[aoc]at hup;have HU:=hE0 hup;have hg:=ajv w1 g base cap c A bs (o-(s:Int)) _ h1 hb hl (by omega) hx;dsimp only[aay,bkV,Bk.val,Option.isSome,aat]at hg;have HG:=hE0 hg;have HW1:=hE0 hw1;have HB1:=hE0 hb1;have HN1:=hE0 hn1;clear hv hwd hu hup hx hg hs8 hw1 hb1 hn1 h1 h;go_enter Tryz.func270,Tryz.ntmps270
 go_wp2_with fail
 rw[HW1.out]
 with_reducible refine HA.out.mono ?_
 rintro e w2 ⟨rfl,rfl⟩;go_wp2_with fail
 rw[HS8.out]
 with_reducible refine HW.out.mono ?_
 rintro e w2 ⟨rfl,rfl⟩;go_wp2_with fail
 with_reducible refine HU.out.mono ?_
 rintro e w2 ⟨rfl,rfl⟩;go_wp2_with fail
 with_reducible refine HG.out.mono ?_
 rintro e w2 ⟨rfl,hb2⟩;have hlt:=Nat.lt_of_lt_of_le (aaa HN1.out) hb2.size;have hn2:=(hb2.block _ (aaa HN1.out)).trans HN1.out;have hb02:Below w.heap.size w w2:=HB1.out.trans (hb2.mono HB1.out.size);obtain⟨⟨c0,c1,c2⟩,f0,f1,f2⟩:=aad hn2;have HN2:=hE0 hn2;have HB2:=hE0 hb02;clear hn2 hb02 hb2;go_wp2
 (try simp only[Exit.inBlock,Exit.then])
 refine abu (x:=aat false 3) (g:=w.heap.size) (o:=0) (s:=0) (b:=false) Tryz.results270 ?_ ?_ ?_ ?_ ?_
 · rfl
 · rfl
 · rfl
 · exact(((Below.refl _ _).alloc (Nat.le_refl _) _).block _ (by simp[World.setCell];omega)).trans (aav HN2.out _ _ _)
 · exact⟨rfl,(((HB2.out.setCell (Nat.le_refl _) _).setCell (Nat.le_refl _) _).setCell (Nat.le_refl _) _).alloc (by simp[World.setCell];omega) _⟩
theorem asN (h:Ar w 195 g base cap A c bs) (hb:base<=4611686018427387904) (hl:bs.length<=16384) (o:Int) (ho: -9223372036854775808<=o/\o<=9223372036854775807) (v:Nat) (hvl:v<18446744073709551616) (hv:word? bs (o-8)=some v) (s:Nat) (u:Bool) (hu:adz v=some (s,u)) (hs:32<=s/\s<=16384) (hob:0<=o/\o<=16384) (xo xs:Nat) (xu:Bool) (hx:aa2 bs (o-(s:Int))=some ⟨xo,xs,xu⟩) (hne:xs≠s):
 Calls Tryz.prog 270 #[.pointer (some ⟨g,0,none⟩), .int .i64 o] w fun e w'=>e= .returned (.tuple #[bkV none,aat false 3])/\Below w.heap.size w w':=by
 obtain⟨w1,hw1⟩:=nmE (w.alloc (.cells #[.int .i64 0, .int .i64 0, .bool false] 112));have hb1:=abE hw1;have hn1:=anE hw1;have h1:=h.below hb1;have HA:=hE0 (aaz h1 o);have hs8:IntKind.u64.wrap ((adr base o:Int)-8)=(adr base (o-8):Int):=by rw[IntKind.wrap_u64];unfold adr;omega
 have HS8:=hE0 hs8;have hwd:=abH h1 hb hl (o-8) (by omega) _ hv;dsimp only[wdV]at hwd;have HW:=hE0 hwd;have hup:=abg w1 v hvl;rw[hu]at hup;dsimp only[aoc]at hup;have HU:=hE0 hup;have hg:=ajv w1 g base cap c A bs (o-(s:Int)) _ h1 hb hl (by omega) hx;dsimp only[aay,bkV,Bk.val,Option.isSome,aat]at hg;have HG:=hE0 hg;have hq:((xs:Int) !=(s:Int))=true:=by rw[bne_iff_ne];omega
 have HW1:=hE0 hw1;have HB1:=hE0 hb1;have HN1:=hE0 hn1;clear hv hwd hu hup hx hg hne hs8 hw1 hb1 hn1 h1 h;go_enter Tryz.func270,Tryz.ntmps270
 go_wp2_with fail
 rw[HW1.out]
 with_reducible refine HA.out.mono ?_
 rintro e w2 ⟨rfl,rfl⟩;go_wp2_with fail
 rw[HS8.out]
 with_reducible refine HW.out.mono ?_
 rintro e w2 ⟨rfl,rfl⟩;go_wp2_with fail
 with_reducible refine HU.out.mono ?_
 rintro e w2 ⟨rfl,rfl⟩;go_wp2_with fail
 with_reducible refine HG.out.mono ?_
 rintro e w2 ⟨rfl,hb2⟩;have hlt:=Nat.lt_of_lt_of_le (aaa HN1.out) hb2.size;have hn2:=(hb2.block _ (aaa HN1.out)).trans HN1.out;have hb02:Below w.heap.size w w2:=HB1.out.trans (hb2.mono HB1.out.size);obtain⟨⟨c0,c1,c2⟩,f0,f1,f2⟩:=aad hn2;have HN2:=hE0 hn2;have HB2:=hE0 hb02;clear hn2 hb02 hb2;go_wp2
 (try simp only[Exit.inBlock,Exit.then])
 refine abu (x:=aat false 3) (g:=w.heap.size) (o:=0) (s:=0) (b:=false) Tryz.results270 ?_ ?_ ?_ ?_ ?_
 · rfl
 · rfl
 · rfl
 · exact(((Below.refl _ _).alloc (Nat.le_refl _) _).block _ (by simp[World.setCell];omega)).trans (aav HN2.out _ _ _)
 · exact⟨rfl,(((HB2.out.setCell (Nat.le_refl _) _).setCell (Nat.le_refl _) _).setCell (Nat.le_refl _) _).alloc (by simp[World.setCell];omega) _⟩
theorem asO (h:Ar w 195 g base cap A c bs) (hb:base<=4611686018427387904) (hl:bs.length<=16384) (o:Int) (ho: -9223372036854775808<=o/\o<=9223372036854775807) (v:Nat) (hvl:v<18446744073709551616) (hv:word? bs (o-8)=some v) (s:Nat) (u:Bool) (hu:adz v=some (s,u)) (hs:32<=s/\s<=16384) (hob:0<=o/\o<=16384) (xo:Nat) (xu:Bool) (hx:aa2 bs (o-(s:Int))=some ⟨xo,s,xu⟩):
 Calls Tryz.prog 270 #[.pointer (some ⟨g,0,none⟩), .int .i64 o] w fun e w'=>e= .returned (.tuple #[bkV (some ⟨xo,s,xu⟩),aat true 3])/\Below w.heap.size w w':=by
 obtain⟨w1,hw1⟩:=nmE (w.alloc (.cells #[.int .i64 0, .int .i64 0, .bool false] 112));have hb1:=abE hw1;have hn1:=anE hw1;have h1:=h.below hb1;have HA:=hE0 (aaz h1 o);have hs8:IntKind.u64.wrap ((adr base o:Int)-8)=(adr base (o-8):Int):=by rw[IntKind.wrap_u64];unfold adr;omega
 have HS8:=hE0 hs8;have hwd:=abH h1 hb hl (o-8) (by omega) _ hv;dsimp only[wdV]at hwd;have HW:=hE0 hwd;have hup:=abg w1 v hvl;rw[hu]at hup;dsimp only[aoc]at hup;have HU:=hE0 hup;have hg:=ajv w1 g base cap c A bs (o-(s:Int)) _ h1 hb hl (by omega) hx;dsimp only[aay,bkV,Bk.val,Option.isSome,aat]at hg;have HG:=hE0 hg;have HW1:=hE0 hw1;have HB1:=hE0 hb1;have HN1:=hE0 hn1;clear hv hwd hu hup hx hg hs8 hw1 hb1 hn1 h1 h;go_enter Tryz.func270,Tryz.ntmps270
 go_wp2_with fail
 rw[HW1.out]
 with_reducible refine HA.out.mono ?_
 rintro e w2 ⟨rfl,rfl⟩;go_wp2_with fail
 rw[HS8.out]
 with_reducible refine HW.out.mono ?_
 rintro e w2 ⟨rfl,rfl⟩;go_wp2_with fail
 with_reducible refine HU.out.mono ?_
 rintro e w2 ⟨rfl,rfl⟩;go_wp2_with fail
 with_reducible refine HG.out.mono ?_
 rintro e w2 ⟨rfl,hb2⟩;have hlt:=Nat.lt_of_lt_of_le (aaa HN1.out) hb2.size;have hn2:=(hb2.block _ (aaa HN1.out)).trans HN1.out;have hb02:Below w.heap.size w w2:=HB1.out.trans (hb2.mono HB1.out.size);obtain⟨⟨c0,c1,c2⟩,f0,f1,f2⟩:=aad hn2;have HN2:=hE0 hn2;have HB2:=hE0 hb02;clear hn2 hb02 hb2;go_wp2
 (try simp only[Exit.inBlock,Exit.then])
 refine abu (x:=aat true 3) (g:=w.heap.size) (o:=(xo:Int)) (s:=(s:Int)) (b:=xu) Tryz.results270 ?_ ?_ ?_ ?_ ?_
 · rfl
 · rfl
 · rfl
 · exact(((Below.refl _ _).alloc (Nat.le_refl _) _).block _ (by simp[World.setCell];omega)).trans (aav HN2.out _ _ _)
 · exact⟨rfl,(((HB2.out.setCell (Nat.le_refl _) _).setCell (Nat.le_refl _) _).setCell (Nat.le_refl _) _).alloc (by simp[World.setCell];omega) _⟩
end
theorem ao4:atW:=by
 intro w g base cap c A bs o x h hb hl ho hx;subst hx;unfold aay;rw[ao3]
 cases hv:word? bs (o-8)with
 | none=>exact asK h hb hl o ho hv
 | some v=>
  have h8:0<=o-8/\o-8+8<=bs.length:=by
   unfold word? at hv;split at hv
   · assumption
   · cases hv
  have hvl:v<18446744073709551616:=by
   have hvi:some (aaf bs (o-8).toNat)=some v:=by rw[<-hv];unfold word?;rw[if_pos h8]
   rw[<-Option.some.inj hvi];exact aan _ _
  dsimp only
  cases hu:adz v with
  | none=>exact asL h hb hl o ho v hvl hv hu
  | some su=>
   obtain⟨s,u⟩:=su;have hss:=(aac _).1 (acV hu).1;dsimp only
   cases hx:aa2 bs (o-(s:Int))with
   | none=>exact asM h hb hl o ho v hvl hv s u hu (by omega) (by omega) hx
   | some x=>
    obtain⟨xo,xs,xu⟩:=x;dsimp only;by_cases hs:xs=s
    · subst hs;rw[if_pos rfl];exact asO h hb hl o ho v hvl hv xs u hu (by omega) (by omega) xo xu hx
    · rw[if_neg hs];exact asN h hb hl o ho v hvl hv s u hu (by omega) (by omega) xo xs xu hx hs
theorem ajw (bs:List UInt8) (o v e k:Nat) (h1:o+8<=e) (h2:e+8<=bs.length):akB (akB bs e k) o v=akB (akB bs o v) e k:=by
 have hv:=aag 8 v;have hk:=aag 8 k;unfold akB lay;rw[hv,hk];refine List.ext_getElem? fun i=> ?_;simp only[List.getElem?_append,List.length_append,List.length_take,List.length_drop,List.getElem?_take,List.getElem?_drop,hv,hk];repeat' split
 all_goals first | rfl | omega | (congr 1;omega) | skip
theorem Became.trans{t:TypeId}{g base cap c':Nat}{A A':Option Addr}{b1 b2:List UInt8}{w w1 w2:World}(h:Ar w1 t g base cap A' c' b1) (ht:Tch (foot g A) w w1) (hA:A'=A\/∀a,A'=some a->w.heap.size<=a.block) (k:Became t g base cap A' b2 w1 w2):Became t g base cap A b2 w w2:=by
 obtain⟨A2,c2,k1,k2,k3⟩:=k;refine⟨A2,c2,k1,ht.trans k2 (fun i hi hf=> ?_),?_⟩
 · rcases hf with rfl | ⟨a,e,rfl⟩
   · exact .inl rfl
   · rcases hA with hA | hA
     · exact .inr ⟨a,hA▸e,rfl⟩
     · exact absurd (hA a e) (by omega)
 · rcases k3 with k3 | k3
   · rcases hA with hA | hA
     · exact .inl (k3.trans hA)
     · exact .inr fun a ha=>hA a (k3▸ha)
   · exact .inr fun a ha=>Nat.le_trans ht.size (k3 a ha)
section
variable {w:World} {g base cap c:Nat} {A:Option Addr} {bs:List UInt8}
theorem auT (w:World) (g:Nat) (o s:Int) (hs: -9223372036854775808<=s/\s<=9223372036854775807) (u:Bool) (m:Nat) (hm:ab9 s u=m) (h0:m=0):
 Calls Tryz.prog 217 #[.pointer (some ⟨g,0,none⟩), .agg #[.int .i64 o, .int .i64 s, .bool u]] w fun e w'=>e= .returned (aat false 1)/\Below w.heap.size w w':=by
 obtain⟨w1,hw1⟩:=nmE (w.alloc (.cells #[.int .i64 o, .int .i64 s, .bool u] 112));have hb1:=abE hw1;have hn1:=anE hw1;have HP:=hE0 (acY w1 s u (by omega) m hm);have HW1:=hE0 hw1;have HB1:=hE0 hb1;have HN1:=hE0 hn1;subst h0;clear hm hw1 hb1 hn1;go_enter Tryz.func217,Tryz.ntmps217
 obtain⟨⟨c0,c1,c2⟩,f0,f1,f2⟩:=aad HN1.out;go_wp2_with fail
 rw[HW1.out];go_wp2_with fail
 with_reducible refine HP.out.mono ?_
 rintro e w2 ⟨rfl,rfl⟩;go_wp2
 go_ret
 exact⟨rfl,HB1.out⟩
theorem auU (w:World) (g:Nat) (o:Int) (ho: -9223372036854775808<=o/\o<=9223372036854775807) (s:Int) (hs: -9223372036854775808<=s/\s<=9223372036854775807) (u:Bool) (m:Nat) (hm:ab9 s u=m) (h0:m≠0) (hc:plc o=false):
 Calls Tryz.prog 217 #[.pointer (some ⟨g,0,none⟩), .agg #[.int .i64 o, .int .i64 s, .bool u]] w fun e w'=>e= .returned (aat false 1)/\Below w.heap.size w w':=by
 obtain⟨w1,hw1⟩:=nmE (w.alloc (.cells #[.int .i64 o, .int .i64 s, .bool u] 112));have hb1:=abE hw1;have hn1:=anE hw1;have HP:=hE0 (acY w1 s u (by omega) m hm);have HC:=hE0 (abi w1 o ho false hc);have hm0:((m:Int)==0)=false:=by rw[beq_eq_false_iff_ne];omega
 have HW1:=hE0 hw1;have HB1:=hE0 hb1;have HN1:=hE0 hn1;clear hm hw1 hb1 hn1 h0 hc;go_enter Tryz.func217,Tryz.ntmps217
 obtain⟨⟨c0,c1,c2⟩,f0,f1,f2⟩:=aad HN1.out;go_wp2_with fail
 rw[HW1.out];go_wp2_with fail
 with_reducible refine HP.out.mono ?_
 rintro e w2 ⟨rfl,rfl⟩;go_wp2_with fail
 with_reducible refine HC.out.mono ?_
 rintro e w2 ⟨rfl,rfl⟩;go_wp2
 go_ret
 exact⟨rfl,HB1.out⟩
theorem auV (h:Ar w 195 g base cap A c bs) (hb:base<=4611686018427387904) (hl:bs.length<=16384) (o:Int) (ho: -9223372036854775808<=o/\o<=9223372036854775807) (s:Int) (hs: -9223372036854775808<=s/\s<=9223372036854775807) (u:Bool) (m:Nat) (hm:ab9 s u=m) (hm2:m<18446744073709551616) (h0:m≠0) (hc:plc o=true) (hss:32<=s/\s<=16384) (hlt:(bs.length:Int)<o+s):
 Calls Tryz.prog 217 #[.pointer (some ⟨g,0,none⟩), .agg #[.int .i64 o, .int .i64 s, .bool u]] w fun e w'=>e= .returned (aat false 1)/\Below w.heap.size w w':=by
 obtain⟨w1,hw1⟩:=nmE (w.alloc (.cells #[.int .i64 o, .int .i64 s, .bool u] 112));have hb1:=abE hw1;have hn1:=anE hw1;have h1:=h.below hb1;have HP:=hE0 (acY w1 s u (by omega) m hm);have HC:=hE0 (abi w1 o ho true hc);have hm0:((m:Int)==0)=false:=by rw[beq_eq_false_iff_ne];omega
 have hpl:=(agp o).1 hc;obtain⟨z,hz⟩:=nmE (wrap64 (wrap64 (o+s)-8));have hzb: -9223372036854775808<=z/\z<=9223372036854775807/\(z<0\/(bs.length:Int)<z+8):=by rw[<-hz];unfold wrap64;omega
 have HZ:=hE0 hz;have HA:=hE0 (aaz h1 z);have HS:=hE0 (amH h1 (by omega) (adr base z) m (ar8 _ _) hm2 (ao2 base hb z (by omega) bs.length 8 (by omega) (by omega) hzb.2.2));have HW1:=hE0 hw1;have HB1:=hE0 hb1;have HN1:=hE0 hn1;clear hm hw1 hb1 hn1 h0 hc h1 h hz hpl;go_enter Tryz.func217,Tryz.ntmps217
 obtain⟨⟨c0,c1,c2⟩,f0,f1,f2⟩:=aad HN1.out;go_wp2_with fail
 rw[HW1.out];go_wp2_with fail
 with_reducible refine HP.out.mono ?_
 rintro e w2 ⟨rfl,rfl⟩;go_wp2_with fail
 with_reducible refine HC.out.mono ?_
 rintro e w2 ⟨rfl,rfl⟩;go_wp2_with fail
 rw[HZ.out]
 with_reducible refine HA.out.mono ?_
 rintro e w2 ⟨rfl,rfl⟩;go_wp2_with fail
 with_reducible refine HS.out.mono ?_
 rintro e w2 ⟨rfl,hb2⟩;have HB2:=hE0 (HB1.out.trans (hb2.mono HB1.out.size));clear hb2;go_wp2
 go_ret
 exact⟨rfl,HB2.out⟩
theorem auW (h:Ar w 195 g base cap A c bs) (hb:base<=4611686018427387904) (hl:bs.length<=16384) (o s:Nat) (u:Bool) (m:Nat) (hm:ab9 (s:Int) u=m) (hm2:m<18446744073709551616) (h0:m≠0) (hc:plc (o:Int)=true) (hss:32<=s/\s<=16384) (hle:o+s<=bs.length):
 Calls Tryz.prog 217 #[.pointer (some ⟨g,0,none⟩), .agg #[.int .i64 (o:Int), .int .i64 (s:Int), .bool u]] w fun e w'=>e= .returned (aat true 1)/\Became 195 g base cap A (akB (akB bs o m) (o+s-8) m) w w':=by
 obtain⟨w1,hw1⟩:=nmE (w.alloc (.cells #[.int .i64 (o:Int), .int .i64 (s:Int), .bool u] 112));have hb1:=abE hw1;have hn1:=anE hw1;have h1:=h.below hb1;have HP:=hE0 (acY w1 (s:Int) u (by omega) m hm);have HC:=hE0 (abi w1 (o:Int) (by omega) true hc);have hm0:((m:Int)==0)=false:=by rw[beq_eq_false_iff_ne];omega
 have hgl:∀k,foot g A k->k<w.heap.size:=fun k hk=>h.foot_lt hk;have HA:=hE0 (aaz h1 ((o:Int)+(s:Int)-8));have e1:adr base ((o:Int)+(s:Int)-8)=base+(o+s-8):=by rw[show(o:Int)+(s:Int)-8=((o+s-8:Nat):Int) by omega];exact aih base hb _ (by omega)
 obtain⟨x1,hx1⟩:∃x1:Nat,base+(o+s-8)=x1:=⟨_,rfl⟩;obtain⟨x2,hx2⟩:∃x2:Nat,base+o=x2:=⟨_,rfl⟩;rw[e1,hx1]at HA;have HS:=hE0 (ae0 h1 (by omega) x1 (o+s-8) m (by omega) hm2 (by omega) (by omega) (by omega));have HW1:=hE0 hw1;have HB1:=hE0 hb1;have HN1:=hE0 hn1;have HSW:=hE0 (ajw bs o m (o+s-8) m (by omega) (by omega));have HGL:=hE0 hgl;have HX2:=hE0 hx2;have HBB:=hE0 hb;clear hm hw1 hb1 hn1 h0 hc h1 h e1 hgl hx1;go_enter Tryz.func217,Tryz.ntmps217
 obtain⟨⟨c0,c1,c2⟩,f0,f1,f2⟩:=aad HN1.out;go_wp2_with fail
 rw[HW1.out];go_wp2_with fail
 with_reducible refine HP.out.mono ?_
 rintro e w2 ⟨rfl,rfl⟩;go_wp2_with fail
 with_reducible refine HC.out.mono ?_
 rintro e w2 ⟨rfl,rfl⟩;go_wp2_with fail
 with_reducible refine HA.out.mono ?_
 rintro e w2 ⟨rfl,rfl⟩;go_wp2_with fail
 with_reducible refine HS.out.mono ?_
 rintro e w2 ⟨rfl,A2,c2,a2,t2,k2⟩;have hn2:=(t2.block _ (aae HN1.out) (fun hf=>absurd (HGL.out _ hf) (by omega))).trans HN1.out;obtain⟨⟨d0,d1,d2⟩,_⟩:=aad hn2;have HA2:=hE0 (aaz a2 (o:Int));rw[aih base HBB.out o (by omega),HX2.out]at HA2;have HS2:=hE0 (ae0 a2 (by rw[aca _ _ _ (by rw[aag];omega)];omega) x2 o m (by omega) hm2 (by omega) (by omega) (by rw[aca _ _ _ (by rw[aag];omega)];omega));have HAR:=hE0 a2;have HT:=hE0 t2;have HK:=hE0 k2;clear a2 t2 k2 hn2;go_wp2_with fail
 with_reducible refine HA2.out.mono ?_
 rintro e w3 ⟨rfl,rfl⟩;go_wp2_with fail
 with_reducible refine HS2.out.mono ?_
 rintro e w3 ⟨rfl,hbe⟩;have hbe2:=(Became.trans HAR.out HT.out HK.out hbe).after HB1.out;have hbe3:Became 195 g base cap A (akB (akB bs o m) (o+s-8) m) w w3:=by rw[<-HSW.out];exact hbe2
 have HE:=hE0 hbe3;clear hbe hbe2 hbe3;go_wp2
 go_ret
 exact⟨rfl,HE.out⟩
end
theorem auX:avq:=by
 intro w g base cap c A bs o s u y h hb hl ho hs hy;subst hy
 cases hz:aaD s with
 | false=>
  have e:ad5 bs o s u=none:=by unfold ad5;rw[if_neg (fun h=>by rw[hz]at h;cases h.1)]
  rw[e];exact auT w g o s hs u _ rfl (by simp[ab9,hz])
 | true=>
  have hss:=(aac _).1 hz;have hm0:ab9 s u≠0:=by
   simp only[ab9,hz,if_true];omega
  have hm2:ab9 s u<18446744073709551616:=by have:=afB s u;omega
  cases hc:plc o with
  | false=>
   have e:ad5 bs o s u=none:=by
    unfold ad5;rw[if_neg];rintro⟨_,h2⟩;have:=(aaZ _ _ _).1 h2;rw[(agp o).2 (by omega)]at hc
    cases hc
   rw[e];exact auU w g o ho s hs u _ rfl hm0 hc
  | true=>
   have hp:=(agp o).1 hc;by_cases hle:o+s<=bs.length
   · obtain⟨p,rfl⟩:∃p:Nat,o=(p:Int):=⟨o.toNat,by omega⟩;obtain⟨q,rfl⟩:∃q:Nat,s=(q:Int):=⟨s.toNat,by omega⟩;have e:ad5 bs (p:Int) (q:Int) u=some (akB (akB bs p (ab9 (q:Int) u)) (p+q-8) (ab9 (q:Int) u)):=by
      unfold ad5;rw[if_pos ⟨hz,(aaZ _ _ _).2 (by omega)⟩,Int.toNat_natCast,show((p:Int)+(q:Int)-8).toNat=p+q-8 by omega]
     rw[e];exact auW h hb hl p q u _ rfl hm2 hm0 hc (by omega) (by omega)
   · have e:ad5 bs o s u=none:=by
      unfold ad5;rw[if_neg];rintro⟨_,h2⟩;have:=(aaZ _ _ _).1 h2;omega
     rw[e];exact auV h hb hl o ho s hs u _ rfl hm2 hm0 hc (by omega) (by omega)
theorem ajx:auM:=by
 intro w g base cap c A bs x h hb hl hx;by_cases h0:bs.length<184
 · obtain rfl:none=x:=by rw[<-hx];unfold abA;rw[if_pos h0]
   have HL:=hE0 (abF h);clear hx;go_enter Tryz.func60,Tryz.ntmps60
   go_wp2_with fail
   with_reducible refine HL.out.mono ?_
   rintro e w2 ⟨rfl,rfl⟩;go_wp2
   go_ret2
   exact⟨none,0,rfl,World.ownsRow_nil _ _ _ _,Below.refl _ _⟩
 · have hx':acZ bs (bs.length+1) 184=x:=by rw[<-hx];unfold abA;rw[if_neg h0]
   obtain⟨i0,hi,hz0,hz1,hz2⟩:=info_parts atO;have HX:=hE0 hx';have HAR:=hE0 h;have HBASE:=hE0 hb;have HL:=hE0 (abF h);obtain⟨B0,hB0⟩:=nmE w.heap.size;have HB0:=hE0 hB0;clear hx hx' h hB0 hb;go_enter Tryz.func60,Tryz.ntmps60
   go_wp2_with fail
   with_reducible refine HL.out.mono ?_
   rintro e w2 ⟨rfl,rfl⟩;go_wp2
   go_loopw [4,5] (fun q t wr=>∃(l:List Bk) (o k:Nat),t= .int .i64 (o:Int)/\184<=o/\o<=bs.length/\bs.length<o+k/\l.length*32<=o/\x=(acZ bs k o).map (l++ ·)/\wr.ownsRow B0 112 3 q l.length (abC l)/\Below B0 w wr) (fun _ t _=>bs.length-(intOf t).toNat)
   case atStart=>exact⟨[],184,bs.length+1,rfl,Nat.le_refl _,by omega,by omega,by simp,by rw[HX.out];simp,World.ownsRow_nil _ _ _ _,Below.refl _ _⟩
   case round=>
    obtain⟨l,o,k,rfl,ho1,ho2,hk,hll,hxl,hown,hb⟩:=hrel;obtain⟨A7,c7,rfl⟩:=alV hown;obtain⟨k,rfl⟩:∃k',k=k'+1:=⟨k-1,by omega⟩;have hBw:B0<=wr.heap.size:=by have:=hb.size;have:=HB0.out;omega
    have har:=HAR.out.below (by rw[HB0.out];exact hb);have HLR:=hE0 (abF har);by_cases hlt:o<bs.length
    · cases hg:aa2 bs (o:Int)with
      | none=>
       have hG:=ajv wr g base cap c A bs (o:Int) _ har HBASE.out hl (by omega) hg;dsimp only[aay,bkV,Option.isSome,aat]at hG;obtain rfl:x=none:=by rw[hxl];simp[acZ,hlt,hg]
       have HG:=hE0 hG;have HB:=hE0 hb;clear hG hown hb hg hxl har HX HAR;go_wp2_with fail
       with_reducible refine HLR.out.mono ?_
       rintro e w2 ⟨rfl,rfl⟩;go_wp2_with fail
       with_reducible refine HG.out.mono ?_
       rintro e w2 ⟨rfl,hb2⟩;have HB2:=hE0 (HB.out.trans (hb2.mono hBw));clear hb2;go_wp2
       go_ret2
       exact⟨none,0,rfl,World.ownsRow_nil _ _ _ _,by rw[HB0.out];exact HB2.out.alloc (by have:=HB2.out.size;have:=HB0.out;omega) _⟩
      | some y=>
       obtain⟨yo,ys,yu⟩:=y;obtain⟨q1,_,_,q2,q3,_⟩:=aaw hg;dsimp only at q1 q2 q3;obtain rfl:o=yo:=by omega
       have q4:=(aac _).1 q3;have hG:=ajv wr g base cap c A bs (o:Int) _ har HBASE.out hl (by omega) hg;dsimp only[aay,bkV,Bk.val,Option.isSome,aat]at hG;have hxl':x=(acZ bs k (o+ys)).map ((l++ [⟨o,ys,yu⟩])++ ·):=by
        rw[hxl];simp[acZ,hlt,hg,Option.map_map,Function.comp_def]
       have HG:=hE0 hG;have HB:=hE0 hb;have HXL:=hE0 hxl';have HOWN:=hE0 hown;have HALT:Hid (∀k,(Value.slice A7 l.length c7).ownBlock=some k->B0<=k/\k<wr.heap.size):=hown.lt;clear hG hown hb hg hxl hxl' har q1 q3 HX HAR;go_wp2_with fail
       with_reducible refine HLR.out.mono ?_
       rintro e w2 ⟨rfl,rfl⟩;go_wp2_with fail
       with_reducible refine HG.out.mono ?_
       rintro e w2 ⟨rfl,hb2⟩;have own2:=aaM HOWN.out hb2;have HB2:=hE0 (HB.out.trans (hb2.mono hBw));have hw2:B0<=w2.heap.size:=Nat.le_trans hBw hb2.size;have hwr:=hb2.size;obtain⟨w3,hw3⟩:=nmE (w2.alloc (.cells #[.int .i64 (o:Int), .int .i64 (ys:Int), .bool yu] 112));obtain⟨w4,hw4⟩:=nmE (w3.alloc (.cells #[.int .i64 (o:Int), .int .i64 (ys:Int), .bool yu] 112));have b3:=abE hw3;have b4:=abE hw4;have own4:=aaM (aaM own2 b3) b4;have n4:=anE hw4;have s3:w3.heap.size=w2.heap.size+1:=by rw[<-hw3];simp
       have n3:=anE hw3;obtain⟨⟨d0,d1,d2⟩,_⟩:=aad n3;have n4':=(b4.block _ (aaa n3)).trans n3;have HNEW:Hid (∀j u,[Value.int .i64 (o:Int), .int .i64 (ys:Int), .bool yu][j]?=some u->w4.cell? ((⟨w3.heap.size,0,none⟩:Addr).add j)=some u):=fun j u hu=>by
        have e:(⟨w3.heap.size,0,none⟩:Addr).add j=⟨w3.heap.size,j,none⟩:=by unfold Addr.add;split<;>simp_all
        rw[e,cell_of_row w4 _ j _ _ (0,0) n4];simpa using hu
       have HONE:Hid (∀u∈ [Value.int .i64 (o:Int), .int .i64 (ys:Int), .bool yu],u.oneCell'=true):=fun u hu=>by
        simp at hu;rcases hu with rfl | rfl | rfl<;>rfl
       have hB4:B0<=w4.heap.size:=by have:=b4.size;omega
       have HB4:=hE0 (HB2.out.trans ((b3.trans (b4.mono b3.size)).mono hw2));have OWN4:=hE0 own4;have HN4:=hE0 n4';have hs4:w3.heap.size<w4.heap.size:=aaa n4;have HS3:=hE0 s3;have HFL:Hid (abC (l++ [⟨o,ys,yu⟩])=abC l++ [.int .i64 (o:Int), .int .i64 (ys:Int), .bool yu]):=ajd _ _;have hg2:w2.heap.size<w4.heap.size:=aaa n4';clear own2 own4 n3 n4 n4' b3 b4 hb2 HOWN HG s3;go_wp2_with (first
        | (at_builtin;go_must (refine wpList_append_own _ rfl _ _ 56 rfl B0 112 i0 _ 3 24 Tryz.underlying56 hi hz0 hz1 hz2 rfl (by decide) _ l.length (abC l) rfl OWN4.out ⟨w3.heap.size,0,none⟩ 1 1 [.int .i64 (o:Int), .int .i64 (ys:Int), .bool yu] rfl rfl HNEW.out HONE.out (by unfold maxLen;omega) (by omega) hB4 ?_);intro x5 w5 own5 gr5 at5
           have gr5':w4.grownBy w5 (Value.slice A7 l.length c7).ownBlock:=gr5;have e5:=(gr5'.block _ hg2 (fun e=>by have:=(HALT.out _ e.symm).2;omega)).trans HN4.out;obtain⟨⟨c0,c1,c2⟩,_⟩:=aad e5;have HB5:Hid (Below B0 w w5):=HB4.out.grown gr5' hB4 (fun k hk=>(HALT.out k hk).1);have OWN5:Hid (w5.ownsRow B0 112 3 x5 (l.length+1) (abC (l++ [⟨o,ys,yu⟩]))):=(show World.ownsRow _ _ _ _ _ _ _ by rw[HFL.out];exact own5);clear own5 gr5 gr5' at5 e5)
        | fail)
       go_roundw
       case rel=>exact⟨l++ [⟨o,ys,yu⟩],o+ys,k,by go_num,by omega,by omega,by omega,by rw[List.length_append,List.length_singleton];omega,HXL.out,by rw[List.length_append,List.length_singleton];exact OWN5.out,HB5.out⟩
       case measure=>simp[intOf];omega
    · obtain rfl:o=bs.length:=by omega
      obtain rfl:x=some l:=by rw[hxl];simp[acZ]
      have HB:=hE0 hb;have HO:=hE0 hown;clear hxl hown hb HX har HAR;go_wp2_with fail
      with_reducible refine HLR.out.mono ?_
      rintro e w2 ⟨rfl,rfl⟩;go_wp2
      go_ret2
      exact⟨A7,c7,rfl,by rw[HB0.out];exact HO.out,by rw[HB0.out];exact HB.out⟩
structure St (wB W:World) (g base cap:Nat) (A:Option Addr) (c:Nat) (bs:List UInt8) (L:List (Nat × Obj)):Prop where
 bel:Below wB.heap.size wB W
 ar:Ar W 195 g base cap A c bs
 gB:wB.heap.size<=g
 aB:∀a,A=some a->wB.heap.size<=a.block
 has:∀p∈L,W.heap[p.1]?=some p.2
section
variable {wB W W':World} {g base cap c:Nat} {A:Option Addr} {bs:List UInt8} {L:List (Nat × Obj)}
theorem St.size (h:St wB W g base cap A c bs L):wB.heap.size<=W.heap.size:=h.bel.size
theorem St.below (h:St wB W g base cap A c bs L) (hb:Below W.heap.size W W'):St wB W' g base cap A c bs L:=
 ⟨h.bel.trans (hb.mono h.size),h.ar.below hb,h.gB,h.aB,fun p hp=>(hb.block p.1 (aae (h.has p hp))).trans (h.has p hp)⟩
theorem St.became{out:List UInt8}(h:St wB W g base cap A c bs L) (hb:Became 195 g base cap A out W W'):∃A' c',St wB W' g base cap A' c' out []:=by
 obtain⟨A',c',har,hbl,hA⟩:=hb.below (B:=wB.heap.size) h.gB h.aB h.size;exact⟨A',c',h.bel.trans hbl,har,h.gB,hA,fun p hp=>by cases hp⟩
end
section
variable {P:Program} {ops:Array Oper} {Q:Exit->Act->World->Prop}
end
theorem ajy (ρ:Operand->Value) (o:Oper) (ho:o.op= .alloc 112) (w:World):
 (execOp ρ o).run Tryz.prog w= .ok (.value (.pointer (some ⟨w.heap.size,0,none⟩))) (w.alloc (.cells #[.int .i64 0, .int .i64 0, .bool false] 112)):=by
 unfold execOp;simp only[ho];simp[go_sem]
theorem ao5 (ρ:Operand->Value) (o:Oper) (x y:Operand) (ho:o.op= .store 112 x y) (w:World) (gx:Nat) (p q:Int) (r:Bool) (v0 v1 v2:Value) (hx:ρ x= .pointer (some ⟨gx,0,none⟩)) (hy:ρ y= .agg #[.int .i64 p, .int .i64 q, .bool r]) (h:w.heap[gx]?=some (.cells #[v0,v1,v2] 112 (0,0))):
 (execOp ρ o).run Tryz.prog w= .ok .skip (((w.setCell ⟨gx,0,none⟩ (.int .i64 p)).setCell ⟨gx,1,none⟩ (.int .i64 q)).setCell ⟨gx,2,none⟩ (.bool r)):=by
 obtain⟨⟨e0,e1,e2⟩,f0,f1,f2⟩:=aad h;unfold execOp;simp only[ho,hx,hy];simp[go_sem,e0,e1,e2,f0,f1,f2]
section
variable {wB W:World} {g base cap c:Nat} {A:Option Addr} {bs:List UInt8} {L:List (Nat × Obj)}
end
def aeO (x:Option (List Nat)) (k:Int) (w:World) (e:Ending) (w':World):Prop:=
 ∃A' c',e= .returned (.tuple #[.slice A' (x.getD []).length c',aat x.isSome k])/\w'.ownsRow w.heap.size 3 1 (.slice A' (x.getD []).length c') (x.getD []).length ((x.getD []).map iV)/\Below w.heap.size w w'
def avr:Prop:=∀(w:World) (g base cap c:Nat) (A:Option Addr) (bs:List UInt8) (o:Int) (y:Option (List UInt8)),Ar w 195 g base cap A c bs->base<=4611686018427387904->bs.length<=16384->(-9223372036854775808<=o/\o<=9223372036854775807)->ag8 bs o=y->
 Calls Tryz.prog 174 #[.pointer (some ⟨g,0,none⟩), .int .i64 o] w fun e w'=>ao1 3 195 g base cap A y w e w'
def auY:Prop:=∀(w:World) (g base cap c:Nat) (A:Option Addr) (bs:List UInt8) (o:Int) (y:Option (List UInt8)),Ar w 195 g base cap A c bs->base<=4611686018427387904->bs.length<=16384->(-9223372036854775808<=o/\o<=9223372036854775807)->aee bs o=y->
 Calls Tryz.prog 271 #[.pointer (some ⟨g,0,none⟩), .int .i64 o] w fun e w'=>ao1 3 195 g base cap A y w e w'
def avs:Prop:=∀(w:World) (g base cap c:Nat) (A:Option Addr) (bs:List UInt8) (k:Nat) (x:Option (List Nat)),Ar w 195 g base cap A c bs->base<=4611686018427387904->bs.length<=16384->k<22->afk bs k=x->
 Calls Tryz.prog 102 #[.pointer (some ⟨g,0,none⟩), .int .i64 (k:Int)] w fun e w'=>aeO x 3 w e w'
theorem asP{a b:Int}(h:a=b):Ending.returned (.int .u64 a)= .returned (.int .u64 b):=by rw[h]
theorem agq{t:TypeId}{g base cap:Nat}{A:Option Addr}{b1 b2:List UInt8}{w w1:World}{F:Nat}{args:Array Value}{r:Ending}(h:Became t g base cap A b1 w w1)
 (hc:∀A' c',Ar w1 t g base cap A' c' b1->Calls Tryz.prog F args w1 fun e w2=>e=r/\Became t g base cap A' b2 w1 w2):Calls Tryz.prog F args w1 fun e w2=>e=r/\Became t g base cap A b2 w w2:=by
 obtain⟨A',c',a,tc,k⟩:=h;refine(hc A' c' a).mono ?_;rintro e w2 ⟨h1,h2⟩;exact⟨h1,Became.trans a tc k h2⟩
section
variable {w:World} {g base cap c:Nat} {A:Option Addr} {bs:List UInt8}
theorem aai (h:Ar w 195 g base cap A c bs) (hb:base<=4611686018427387904) (hl:bs.length<=16384) (o:Int) (p:Nat) (hp:o=(p:Int)) (ho:p+8<=bs.length) (v:Nat) (hv:aaf bs p=v):
 Calls Tryz.prog 164 #[.pointer (some ⟨g,0,none⟩), .int .i64 o] w fun e w'=>e= .returned (.int .u64 (v:Int))/\w=w':=by
 subst hp;have HA:=hE0 (acc h);have hwd:=abH h hb hl (p:Int) (by omega) (some v) (by unfold word?;rw[if_pos (by omega),Int.toNat_natCast,hv]);dsimp only[wdV]at hwd;rw[aih base hb p (by omega),show((base+p:Nat):Int)=(base:Int)+(p:Int) by omega]at hwd;have HW:=hE0 hwd;have hp2:p<=16384:=by omega
 clear hwd h hv ho hl;go_enter Tryz.func164,Tryz.ntmps164
 go_wp2_with fail
 with_reducible refine HA.out.mono ?_
 rintro e w1 ⟨rfl,rfl⟩;go_wp2_with fail
 refine HW.out.mono ?_;rintro e w1 ⟨rfl,rfl⟩;go_wp2
 go_ret
 exact⟨rfl,rfl⟩
theorem aii (h:Ar w 195 g base cap A c bs) (hb:base<=4611686018427387904) (hl:bs.length<=16384) (o:Int) (p:Nat) (hp:o=(p:Int)) (ho:p+8<=bs.length) (v:Nat) (hv:v<18446744073709551616):
 Calls Tryz.prog 228 #[.pointer (some ⟨g,0,none⟩), .int .i64 o, .int .u64 (v:Int)] w fun e w'=>e= .returned (.tuple #[])/\Became 195 g base cap A (lyN bs p v) w w':=by
 subst hp;have HA:=hE0 (acc h);have hwd:=ae0 h (by omega) (base+p) p v (by omega) hv (by omega) (by omega) ho;rw[show lay bs p (aaF 8 v)=lyN bs p v from aia bs p v,show((base+p:Nat):Int)=(base:Int)+(p:Int) by omega]at hwd;have HW:=hE0 hwd;have hp2:p<=16384:=by omega
 clear hwd h ho hl;go_enter Tryz.func228,Tryz.ntmps228
 go_wp2_with fail
 with_reducible refine HA.out.mono ?_
 rintro e w1 ⟨rfl,rfl⟩;go_wp2_with fail
 refine HW.out.mono ?_;rintro e w1 ⟨rfl,hbe⟩;have HB:=hE0 hbe;clear hbe;go_wp2
 go_end0
 exact⟨rfl,HB.out⟩
theorem aaE (w:World) (k:Nat) (hk:k<22):
 Calls Tryz.prog 165 #[.int .i64 (k:Int)] w fun e w'=>e= .returned (.int .i64 (8+8*(k:Int)))/\w=w':=by
 go_enter Tryz.func165,Tryz.ntmps165
 go_wp2
 go_ret
 exact⟨rfl,rfl⟩
theorem aij (w:World) (k:Nat) (hk:k<22):
 Calls Tryz.prog 223 #[.int .i64 (k:Int)] w fun e w'=>e= .returned (.int .u64 ((2^k:Nat):Int))/\w=w':=by
 have HP:=hE0 (aky k hk);go_enter Tryz.func223,Tryz.ntmps223
 go_wp2
 go_ret
 refine⟨asP ?_,rfl⟩;have hq:=HP.out;have e:(2:Int)^k=((2^k:Nat):Int):=by rw[Int.natCast_pow];rfl
 rw[IntKind.wrap_u64,e];clear e HP;generalize 2^k=q at hq;omega
end
section
variable {w:World} {g base cap c:Nat} {A:Option Addr} {bs:List UInt8}
theorem aik (h:Ar w 195 g base cap A c bs) (hb:base<=4611686018427387904) (hl:bs.length<=16384) (o:Int) (ho: -9223372036854775808<=o/\o<=9223372036854775807) (hk:aaX bs o<0):
 Calls Tryz.prog 227 #[.pointer (some ⟨g,0,none⟩), .int .i64 o] w fun e w'=>e= .returned (.tuple #[.int .i64 0, .bool false])/\Below w.heap.size w w':=by
 cases hg:aa2 bs o with
 | none=>
  have hG:=ajv w g base cap c A bs o _ h hb hl ho hg;dsimp only[aay,bkV,Option.isSome,aat]at hG;have HG:=hE0 hG;clear hG h hk hg;go_enter Tryz.func227,Tryz.ntmps227
  go_wp2_with fail
  with_reducible refine HG.out.mono ?_
  rintro e w1 ⟨rfl,hb⟩;go_wp2
  go_ret2
  exact⟨rfl,hb.alloc hb.size _⟩
 | some x=>
  obtain⟨xo,xs,xu⟩:=x;have hG:=ajv w g base cap c A bs o _ h hb hl ho hg;dsimp only[aay,bkV,Bk.val,Option.isSome,aat]at hG;have q3:=(aaw hg).2.2.2.2.1;dsimp only at q3;have q:=(aac _).1 q3
  cases xu with
  | true=>
   have HG:=hE0 hG;clear hG h hk hg q3;go_enter Tryz.func227,Tryz.ntmps227
   go_wp2_with fail
   with_reducible refine HG.out.mono ?_
   rintro e w1 ⟨rfl,hb⟩;go_wp2
   go_ret2
   exact⟨rfl,hb.alloc hb.size _⟩
  | false=>
   obtain⟨d,hd,_⟩:=abs (x:=⟨xo,xs,false⟩) q3;dsimp only at hd;unfold aaX at hk;rw[hg]at hk;dsimp only at hk;rw[hd]at hk;simp at hk;omega
theorem aaV (h:Ar w 195 g base cap A c bs) (hb:base<=4611686018427387904) (hl:bs.length<=16384) (o:Int) (ho: -9223372036854775808<=o/\o<=9223372036854775807) (k:Nat) (hk:aaX bs o=(k:Int)):
 Calls Tryz.prog 227 #[.pointer (some ⟨g,0,none⟩), .int .i64 o] w fun e w'=>e= .returned (.tuple #[.int .i64 (k:Int), .bool true])/\Below w.heap.size w w':=by
 cases hg:aa2 bs o with
 | none=>unfold aaX at hk;rw[hg]at hk;dsimp only at hk;omega
 | some x=>
  obtain⟨xo,xs,xu⟩:=x;have hG:=ajv w g base cap c A bs o _ h hb hl ho hg;dsimp only[aay,bkV,Bk.val,Option.isSome,aat]at hG;have q:=(aac _).1 (aaw hg).2.2.2.2.1;dsimp only at q
  cases xu with
  | true=>unfold aaX at hk;rw[hg]at hk;simp at hk
  | false=>
   have hk':aap (xs:Int)=(k:Int):=by rw[<-hk];unfold aaX;rw[hg];rfl
   have HC:=hE0 (fun w=>ajf w (xs:Int) (by omega));rw[hk']at HC;have HG:=hE0 hG;clear hG h hk hg hk';go_enter Tryz.func227,Tryz.ntmps227
   go_wp2_with fail
   with_reducible refine HG.out.mono ?_
   rintro e w1 ⟨rfl,hb⟩;go_wp2_with fail
   with_reducible refine(HC.out _).mono ?_
   rintro e w2 ⟨rfl,hb2⟩;have hb3:=hb.alloc hb.size (.cells #[.int .i64 (xo:Int), .int .i64 (xs:Int), .bool false] 112);have HB:=hE0 (hb3.trans (hb2.mono hb3.size));clear hb hb2 hb3;go_wp2
   go_ret2
   exact⟨rfl,HB.out⟩
theorem adq (h:Ar w 195 g base cap A c bs) (hb:base<=4611686018427387904) (hl:bs.length<=16384) (k p:Nat) (hk:k<22) (hp:p<18446744073709551616) (b:Bool) (hm:aao bs p (k:Int)=b):
 Calls Tryz.prog 224 #[.pointer (some ⟨g,0,none⟩), .int .i64 (k:Int), .int .u64 (p:Int)] w fun e w'=>e= .returned (.bool b)/\Below w.heap.size w w':=by
 have HL:=hE0 (abF h);by_cases h0:bs.length<=p
 · obtain rfl:false=b:=by
    rw[<-hm]
    cases hq:aao bs p (k:Int)with
    | true=>have:=aaK hq;omega
    | false=>rfl
   clear hm h;go_enter Tryz.func224,Tryz.ntmps224
   go_wp2_with fail
   with_reducible refine HL.out.mono ?_
   rintro e w1 ⟨rfl,rfl⟩;go_wp2
   go_ret
   exact⟨rfl,Below.refl _ _⟩
 · have h1:p<bs.length:=by omega
   rw[ai3,decide_eq_true (by omega),Bool.true_and]at hm;rcases aef bs (p:Int)with hf | ⟨j,hf⟩
   · obtain rfl:false=b:=by rw[<-hm];exact(beq_eq_false_iff_ne.2 (by omega)).symm
     have HF:=hE0 (aik h hb hl (p:Int) (by omega) hf);clear hm h hf;go_enter Tryz.func224,Tryz.ntmps224
     go_wp2_with fail
     with_reducible refine HL.out.mono ?_
     rintro e w1 ⟨rfl,rfl⟩;go_wp2_with fail
     with_reducible refine HF.out.mono ?_
     rintro e w1 ⟨rfl,hb1⟩;have HB:=hE0 hb1;clear hb1;go_wp2
     go_ret
     exact⟨rfl,HB.out⟩
   · have HF:=hE0 (aaV h hb hl (p:Int) (by omega) j hf);rw[hf]at hm;have HM:=hE0 hm;have hj:=(aa0 hf).2.2;clear hm h hf;go_enter Tryz.func224,Tryz.ntmps224
     go_wp2_with fail
     with_reducible refine HL.out.mono ?_
     rintro e w1 ⟨rfl,rfl⟩;go_wp2_with fail
     with_reducible refine HF.out.mono ?_
     rintro e w1 ⟨rfl,hb1⟩;have HB:=hE0 hb1;clear hb1;go_wp2
     go_ret
     exact⟨ar3 HM.out,HB.out⟩
theorem aby (h:Ar w 195 g base cap A c bs) (hb:base<=4611686018427387904) (hl:bs.length<=16384) (k p q u:Nat) (hk:k<22) (hp:p<18446744073709551616) (hq:q<=16) (b:Bool) (hm:abl bs k p q u=b):
 Calls Tryz.prog 167 #[.pointer (some ⟨g,0,none⟩), .int .i64 (k:Int), .int .u64 (p:Int), .int .i64 (q:Int), .int .u64 (u:Int)] w fun e w'=>e= .returned (.bool b)/\Below w.heap.size w w':=by
 unfold abl at hm
 cases hmb:aao bs p (k:Int)with
 | false=>
  rw[hmb]at hm;obtain rfl:false=b:=hm;have HM:=hE0 (adq h hb hl k p hk hp false hmb);clear hmb h;go_enter Tryz.func167,Tryz.ntmps167
  go_wp2_with fail
  with_reducible refine HM.out.mono ?_
  rintro e w1 ⟨rfl,hb1⟩;have HB:=hE0 hb1;clear hb1;go_wp2
  go_ret
  exact⟨rfl,HB.out⟩
 | true=>
  have hin:=aaK hmb;obtain⟨v,hv⟩:=nmE (aaf bs (p+q));have hvl:v<18446744073709551616:=by rw[<-hv];exact aan _ _
  rw[hmb,hv,Bool.true_and]at hm;have hm2:((v:Int)==(u:Int))=b:=by rw[<-hm,Bool.eq_iff_iff,beq_iff_eq,beq_iff_eq];omega
  have HM:=hE0 (adq h hb hl k p hk hp true hmb);have HN:=hE0 (fun w1 (hb1:Below w.heap.size w w1)=>aai (h.below hb1) hb hl ((p:Int)+(q:Int)) (p+q) (by omega) (by omega) v hv);have HV:=hE0 hm2;clear hmb h hm hm2 hv;go_enter Tryz.func167,Tryz.ntmps167
  go_wp2_with fail
  with_reducible refine HM.out.mono ?_
  rintro e w1 ⟨rfl,hb1⟩;have HB:=hE0 hb1;clear hb1;go_wp2_with fail
  refine(HN.out _ HB.out).mono ?_;rintro e w2 ⟨rfl,rfl⟩;go_wp2
  go_ret
  exact⟨ar3 HV.out,HB.out⟩
theorem akQ (h:Ar w 195 g base cap A c bs) (hb:base<=4611686018427387904) (hl:bs.length<=16384) (hl2:184<=bs.length) (k:Nat) (hk:k<22) (b:Bool) (hm:acq (aaf bs 0) k=b):
 Calls Tryz.prog 166 #[.pointer (some ⟨g,0,none⟩), .int .i64 (k:Int)] w fun e w'=>e= .returned (.bool b)/\w=w':=by
 obtain⟨v,hv⟩:=nmE (aaf bs 0);have hvl:v<18446744073709551616:=by rw[<-hv];exact aan _ _
 have HN:=hE0 (aai h hb hl 0 0 rfl (by omega) v hv);rw[hv]at hm;have HV:=hE0 ((asx v k hvl hk).trans hm);have HT:=hE0 (aij w k hk);obtain⟨m,hm2⟩:=nmE (2^k);have hml:m<=2097152:=by rw[<-hm2];exact aky k hk
 rw[hm2]at HV HT;clear hm hv h hm2;go_enter Tryz.func166,Tryz.ntmps166
 go_wp2_with fail
 with_reducible refine HN.out.mono ?_
 rintro e w1 ⟨rfl,rfl⟩;go_wp2_with fail
 with_reducible refine HT.out.mono ?_
 rintro e w1 ⟨rfl,rfl⟩;go_wp2
 go_ret
 exact⟨ar3 HV.out,rfl⟩
end
section
variable {w w1:World} {g base cap c:Nat} {A:Option Addr} {bs b1:List UInt8}
theorem abn (h:Ar w 195 g base cap A c bs) (hb:Below w.heap.size w w1):Became 195 g base cap A bs w w1:=⟨A,c,h.below hb,Tch.of_below hb, .inl rfl⟩
theorem aaP (h:Became 195 g base cap A b1 w w1) (hb:base<=4611686018427387904) (hl:b1.length<=16384) (o:Int) (p:Nat) (hp:o=(p:Int)) (ho:p+8<=b1.length) (v:Nat) (hv:v<18446744073709551616):
 Calls Tryz.prog 228 #[.pointer (some ⟨g,0,none⟩), .int .i64 o, .int .u64 (v:Int)] w1 fun e w2=>e= .returned (.tuple #[])/\Became 195 g base cap A (lyN b1 p v) w w2:=
 agq h fun _ _ a=>aii a hb hl o p hp ho v hv
theorem ahp (h:Became 195 g base cap A b1 w w1) (hb:base<=4611686018427387904) (hl:b1.length<=16384) (o:Int) (p:Nat) (hp:o=(p:Int)) (ho:p+8<=b1.length) (v:Nat) (hv:aaf b1 p=v):
 Calls Tryz.prog 164 #[.pointer (some ⟨g,0,none⟩), .int .i64 o] w1 fun e w2=>e= .returned (.int .u64 (v:Int))/\w1=w2:=by
 obtain⟨_,_,a,_,_⟩:=h;exact aai a hb hl o p hp ho v hv
theorem ajz (h:Ar w 195 g base cap A c bs) (hb:base<=4611686018427387904) (n:Nat) (hn:bs.length=n) (hl:n<=16384) (hl2:184<=n) (k:Nat) (hk:k<22):
 Calls Tryz.prog 229 #[.pointer (some ⟨g,0,none⟩), .int .i64 (k:Int), .int .u64 0] w fun e w'=>e= .returned (.tuple #[])/\Became 195 g base cap A (abB (lyN bs (8+8*k) 0) k) w w':=by
 obtain⟨b1,hb1⟩:=nmE (lyN bs (8+8*k) 0);have hbl:b1.length=n:=by rw[<-hb1,aah _ _ _ (by omega)];exact hn
 have hw1:aaf b1 (8+8*k)=0:=by rw[<-hb1];exact abw _ _ _ (by omega) (by omega)
 obtain⟨v0,hv0⟩:=nmE (aaf b1 0);have hvl:v0<18446744073709551616:=by rw[<-hv0];exact aan _ _
 obtain⟨m,hm⟩:=nmE (2^k);have hml:m<=2097152:=by rw[<-hm];exact aky k hk
 obtain⟨x,hx⟩:=nmE (aex v0 k false);have hxl:x<18446744073709551616:=by rw[<-hx];exact ah2 v0 k hk hvl false
 have hand:bits .andNot .u64 (v0:Int) (m:Int)=(x:Int):=by rw[<-hm,<-hx];exact aha v0 k hvl hk
 have hmk:abB b1 k=lyN b1 0 x:=by rw[alO b1 k (by omega),hw1,hv0];simpa using congrArg (lyN b1 0) hx
 have HS1:=aii h hb (by omega) (8+8*(k:Int)) (8+8*k) (by omega) (by omega) 0 (by omega);rw[hb1]at HS1 ⊢;rw[hmk];have HS1:=hE0 HS1;have HF:=hE0 (aaE w k hk);have HT:=fun W=>aij W k hk;rw[hm]at HT;have HT:=hE0 HT;have HN:=hE0 (fun W (hB:Became 195 g base cap A b1 w W)=>ahp hB hb (by omega) 0 0 rfl (by omega) v0 hv0);have HS2:=hE0 (fun W (hB:Became 195 g base cap A b1 w W)=>aaP hB hb (by omega) 0 0 rfl (by omega) x hxl);clear h hb1 hw1 hv0 hm hx hmk hn hbl;go_enter Tryz.func229,Tryz.ntmps229
 go_wp2_with fail
 with_reducible refine HF.out.mono ?_
 rintro e w2 ⟨rfl,rfl⟩;go_wp2_with fail
 refine HS1.out.mono ?_;rintro e w2 ⟨rfl,be1⟩;have B1:=hE0 be1;clear be1;go_wp2_with fail
 refine(HN.out _ B1.out).mono ?_;rintro e w3 ⟨rfl,rfl⟩;go_wp2_with fail
 with_reducible refine(HT.out _).mono ?_
 rintro e w3 ⟨rfl,rfl⟩;go_wp2_with fail
 refine(HS2.out _ B1.out).mono ?_;rintro e w3 ⟨rfl,be2⟩;have B2:=hE0 be2;clear be2;go_wp2
 go_end0
 exact⟨rfl,B2.out⟩
theorem ail (h:Ar w 195 g base cap A c bs) (hb:base<=4611686018427387904) (n:Nat) (hn:bs.length=n) (hl:n<=16384) (hl2:184<=n) (k:Nat) (hk:k<22) (v:Nat) (hv:v<18446744073709551616) (hv0:v≠0):
 Calls Tryz.prog 229 #[.pointer (some ⟨g,0,none⟩), .int .i64 (k:Int), .int .u64 (v:Int)] w fun e w'=>e= .returned (.tuple #[])/\Became 195 g base cap A (abB (lyN bs (8+8*k) v) k) w w':=by
 obtain⟨b1,hb1⟩:=nmE (lyN bs (8+8*k) v);have hbl:b1.length=n:=by rw[<-hb1,aah _ _ _ (by omega)];exact hn
 have hw1:aaf b1 (8+8*k)=v:=by rw[<-hb1];exact abw _ _ _ (by omega) (by omega)
 obtain⟨v1,hv1⟩:=nmE (aaf b1 0);have hvl:v1<18446744073709551616:=by rw[<-hv1];exact aan _ _
 obtain⟨m,hm⟩:=nmE (2^k);have hml:m<=2097152:=by rw[<-hm];exact aky k hk
 obtain⟨x,hx⟩:=nmE (aex v1 k false);obtain⟨y,hy⟩:=nmE (aex v1 k true);have hxl:x<18446744073709551616:=by rw[<-hx];exact ah2 v1 k hk hvl false
 have hyl:y<18446744073709551616:=by rw[<-hy];exact ah2 v1 k hk hvl true
 have hand:bits .andNot .u64 (v1:Int) (m:Int)=(x:Int):=by rw[<-hm,<-hx];exact aha v1 k hvl hk
 have hor:bits .or .u64 (x:Int) (m:Int)=(y:Int):=by
  rw[<-hy,aqK,hx,<-hm];exact atM x k hxl hk (by rw[<-hx];exact aoe v1 k)
 have hmk:abB b1 k=lyN b1 0 y:=by rw[alO b1 k (by omega),hw1,hv1,decide_eq_true hv0,hy]
 have hne:((v:Int) !=0)=true:=by rw[bne_iff_ne];omega
 have HS1:=aii h hb (by omega) (8+8*(k:Int)) (8+8*k) (by omega) (by omega) v hv;rw[hb1]at HS1 ⊢;rw[hmk];have HS1:=hE0 HS1;have HF:=hE0 (aaE w k hk);have HT:=fun W=>aij W k hk;rw[hm]at HT;have HT:=hE0 HT;have HN:=hE0 (fun W (hB:Became 195 g base cap A b1 w W)=>ahp hB hb (by omega) 0 0 rfl (by omega) v1 hv1);have HS2:=hE0 (fun W (hB:Became 195 g base cap A b1 w W)=>aaP hB hb (by omega) 0 0 rfl (by omega) y hyl);clear h hb1 hw1 hv1 hm hx hy hmk hn hbl;go_enter Tryz.func229,Tryz.ntmps229
 go_wp2_with fail
 with_reducible refine HF.out.mono ?_
 rintro e w2 ⟨rfl,rfl⟩;go_wp2_with fail
 refine HS1.out.mono ?_;rintro e w2 ⟨rfl,be1⟩;have B1:=hE0 be1;clear be1;go_wp2_with fail
 refine(HN.out _ B1.out).mono ?_;rintro e w3 ⟨rfl,rfl⟩;go_wp2_with fail
 with_reducible refine(HT.out _).mono ?_
 rintro e w3 ⟨rfl,rfl⟩;go_wp2_with fail
 with_reducible refine(HT.out _).mono ?_
 rintro e w3 ⟨rfl,rfl⟩;go_wp2_with fail
 refine(HS2.out _ B1.out).mono ?_;rintro e w3 ⟨rfl,be2⟩;have B2:=hE0 be2;clear be2;go_wp2
 go_end0
 exact⟨rfl,B2.out⟩
theorem abd (h:Became 195 g base cap A b1 w w1) (hb:base<=4611686018427387904) (n:Nat) (hn:b1.length=n) (hl:n<=16384) (hl2:184<=n) (k:Nat) (hk:k<22) (v:Nat) (hv:v<18446744073709551616):
 Calls Tryz.prog 229 #[.pointer (some ⟨g,0,none⟩), .int .i64 (k:Int), .int .u64 (v:Int)] w1 fun e w2=>e= .returned (.tuple #[])/\Became 195 g base cap A (abB (lyN b1 (8+8*k) v) k) w w2:=by
 refine agq h fun _ _ a=> ?_;by_cases h0:v=0
 · subst h0;exact ajz a hb n hn hl hl2 k hk
 · exact ail a hb n hn hl hl2 k hk v hv h0
end
section
variable {w:World} {g base cap c:Nat} {A:Option Addr} {bs:List UInt8}
theorem asQ (h:Ar w 195 g base cap A c bs) (hb:base<=4611686018427387904) (n:Nat) (hn:bs.length=n) (hl:n<=16384) (o:Int) (ho: -9223372036854775808<=o/\o<=9223372036854775807) (hk:aaX bs o<0):
 Calls Tryz.prog 174 #[.pointer (some ⟨g,0,none⟩), .int .i64 o] w fun e w'=>e= .returned (aat false 3)/\Below w.heap.size w w':=by
 have HF:=hE0 (aik h hb (by omega) o ho hk);clear h hk hn;go_enter Tryz.func174,Tryz.ntmps174
 go_wp2_with fail
 with_reducible refine HF.out.mono ?_
 rintro e w1 ⟨rfl,hb1⟩;have HB:=hE0 hb1;clear hb1;go_wp2
 go_ret
 exact⟨rfl,HB.out⟩
theorem ao6 (h:Ar w 195 g base cap A c bs) (hb:base<=4611686018427387904) (n:Nat) (hn:bs.length=n) (hl:n<=16384) (p k f:Nat) (hk:aaX bs (p:Int)=(k:Int)) (hf:aaf bs (8+8*k)=f) (hfp:f=p):
 Calls Tryz.prog 174 #[.pointer (some ⟨g,0,none⟩), .int .i64 (p:Int)] w fun e w'=>e= .returned (aat false 3)/\Below w.heap.size w w':=by
 obtain⟨p184,p32,k22⟩:=aa0 hk;have hfl:f<18446744073709551616:=by rw[<-hf];exact aan _ _
 have HF:=hE0 (aaV h hb (by omega) (p:Int) (by omega) k hk);have HFA:=hE0 (fun W=>aaE W k k22);have HNF:=hE0 (fun W (hB:Below w.heap.size w W)=>aai (h.below hB) hb (by omega) (8+8*(k:Int)) (8+8*k) (by omega) (by omega) f hf);have hp2:p+32<=n:=by omega
 have hp3:184<=p:=by omega
 have s1:((f:Int)==(p:Int))=true:=by rw[beq_iff_eq];omega
 clear h hk hf hn hfp;go_enter Tryz.func174,Tryz.ntmps174
 go_wp2_with fail
 with_reducible refine HF.out.mono ?_
 rintro e w1 ⟨rfl,hb1⟩;have HB:=hE0 hb1;clear hb1 HF;go_wp2_with fail
 refine(HFA.out _).mono ?_;rintro e w9 ⟨rfl,rfl⟩;go_wp2_with fail
 refine(HNF.out _ HB.out).mono ?_;rintro e w9 ⟨rfl,rfl⟩;clear HFA HNF;go_wp2
 go_ret
 exact⟨rfl,HB.out⟩
theorem am8 (h:Ar w 195 g base cap A c bs) (hb:base<=4611686018427387904) (n:Nat) (hn:bs.length=n) (hl:n<=16384) (p k f:Nat) (hk:aaX bs (p:Int)=(k:Int)) (hf:aaf bs (8+8*k)=f) (hfp:f≠p) (hf0:f≠0) (hm:aao bs f (k:Int)=false):
 Calls Tryz.prog 174 #[.pointer (some ⟨g,0,none⟩), .int .i64 (p:Int)] w fun e w'=>e= .returned (aat false 3)/\Below w.heap.size w w':=by
 obtain⟨p184,p32,k22⟩:=aa0 hk;have hfl:f<18446744073709551616:=by rw[<-hf];exact aan _ _
 have HF:=hE0 (aaV h hb (by omega) (p:Int) (by omega) k hk);have HFA:=hE0 (fun W=>aaE W k k22);have HNF:=hE0 (fun W (hB:Below w.heap.size w W)=>aai (h.below hB) hb (by omega) (8+8*(k:Int)) (8+8*k) (by omega) (by omega) f hf);have hp2:p+32<=n:=by omega
 have hp3:184<=p:=by omega
 have HM:=hE0 (fun W (hB:Below w.heap.size w W)=>adq (h.below hB) hb (by omega) k f k22 hfl _ hm);have s1:((f:Int)==(p:Int))=false:=by rw[beq_eq_false_iff_ne];omega
 have s2:((f:Int) !=0)=true:=by rw[bne_iff_ne];omega
 clear h hk hf hn hm;go_enter Tryz.func174,Tryz.ntmps174
 go_wp2_with fail
 with_reducible refine HF.out.mono ?_
 rintro e w1 ⟨rfl,hb1⟩;have HB:=hE0 hb1;clear hb1 HF;go_wp2_with fail
 refine(HFA.out _).mono ?_;rintro e w9 ⟨rfl,rfl⟩;go_wp2_with fail
 refine(HNF.out _ HB.out).mono ?_;rintro e w9 ⟨rfl,rfl⟩;clear HFA HNF;go_wp2_with fail
 refine(HM.out _ HB.out).mono ?_;rintro e w2 ⟨rfl,hb2⟩;have HB2:=hE0 (HB.out.trans (hb2.mono HB.out.size));clear hb2 HM HB;go_wp2
 go_ret
 exact⟨rfl,HB2.out⟩
theorem am9 (h:Ar w 195 g base cap A c bs) (hb:base<=4611686018427387904) (n:Nat) (hn:bs.length=n) (hl:n<=16384) (p k f:Nat) (hk:aaX bs (p:Int)=(k:Int)) (hf:aaf bs (8+8*k)=f) (hf0:f=0):
 Calls Tryz.prog 174 #[.pointer (some ⟨g,0,none⟩), .int .i64 (p:Int)] w fun e w'=>e= .returned (aat true 3)/\Became 195 g base cap A (abB (lyN (lyN (lyN bs (p+8) f) (p+16) 0) (8+8*k) p) k) w w':=by
 obtain⟨p184,p32,k22⟩:=aa0 hk;have hfl:f<18446744073709551616:=by rw[<-hf];exact aan _ _
 have HF:=hE0 (aaV h hb (by omega) (p:Int) (by omega) k hk);have HFA:=hE0 (fun W=>aaE W k k22);have HNF:=hE0 (fun W (hB:Below w.heap.size w W)=>aai (h.below hB) hb (by omega) (8+8*(k:Int)) (8+8*k) (by omega) (by omega) f hf);have hp2:p+32<=n:=by omega
 have hp3:184<=p:=by omega
 have s1:((f:Int)==(p:Int))=false:=by rw[beq_eq_false_iff_ne];omega
 have s2:((f:Int) !=0)=false:=by subst hf0;rfl
 have HBO:=hE0 (fun W (hB:Below w.heap.size w W)=>abn h hB);obtain⟨b1,hb1⟩:∃b,lyN bs (p+8) f=b:=⟨_,rfl⟩;have nb1:b1.length=n:=by rw[<-hb1,aah _ _ _ (by omega)];exact hn
 have HS1:=fun W (hB:Became 195 g base cap A bs w W)=>aaP hB hb (by omega) ((p:Int)+8) (p+8) (by omega) (by omega) f hfl;rw[hb1]at HS1 ⊢;have HS1:=hE0 HS1;obtain⟨b2,hb2⟩:∃b,lyN b1 (p+16) 0=b:=⟨_,rfl⟩;have nb2:b2.length=n:=by rw[<-hb2,aah _ _ _ (by omega)];exact nb1
 have HS2:=fun W (hB:Became 195 g base cap A b1 w W)=>aaP hB hb (by omega) ((p:Int)+16) (p+16) (by omega) (by omega) 0 (by omega);rw[hb2]at HS2 ⊢;have HS2:=hE0 HS2;have HSF:=hE0 (fun W (hB:Became 195 g base cap A b2 w W)=>abd hB hb n nb2 hl (by omega) k k22 p (by omega));clear hb1 nb1 hb2 nb2;clear h hk hf hn hf0;go_enter Tryz.func174,Tryz.ntmps174
 go_wp2_with fail
 with_reducible refine HF.out.mono ?_
 rintro e w1 ⟨rfl,hb1⟩;have HB:=hE0 hb1;clear hb1 HF;go_wp2_with fail
 refine(HFA.out _).mono ?_;rintro e w9 ⟨rfl,rfl⟩;go_wp2_with fail
 refine(HNF.out _ HB.out).mono ?_;rintro e w9 ⟨rfl,rfl⟩;clear HFA HNF;have G0:=hE0 (HBO.out _ HB.out);clear HBO HB;go_wp2_with fail
 refine(HS1.out _ G0.out).mono ?_;rintro e x1 ⟨rfl,bb⟩;have G1:=hE0 bb;clear bb HS1 G0;go_wp2_with fail
 refine(HS2.out _ G1.out).mono ?_;rintro e x2 ⟨rfl,bb⟩;have G2:=hE0 bb;clear bb HS2 G1;go_wp2_with fail
 refine(HSF.out _ G2.out).mono ?_;rintro e x9 ⟨rfl,bb⟩;have G9:=hE0 bb;clear bb HSF G2;go_wp2
 go_ret
 exact⟨rfl,G9.out⟩
theorem akR (h:Ar w 195 g base cap A c bs) (hb:base<=4611686018427387904) (n:Nat) (hn:bs.length=n) (hl:n<=16384) (p k f:Nat) (hk:aaX bs (p:Int)=(k:Int)) (hf:aaf bs (8+8*k)=f) (hfp:f≠p) (hf0:f≠0) (hm:aao bs f (k:Int)=true):
 Calls Tryz.prog 174 #[.pointer (some ⟨g,0,none⟩), .int .i64 (p:Int)] w fun e w'=>e= .returned (aat true 3)/\Became 195 g base cap A (abB (lyN (lyN (lyN (lyN bs (p+8) f) (p+16) 0) (f+16) p) (8+8*k) p) k) w w':=by
 obtain⟨p184,p32,k22⟩:=aa0 hk;have hfl:f<18446744073709551616:=by rw[<-hf];exact aan _ _
 have HF:=hE0 (aaV h hb (by omega) (p:Int) (by omega) k hk);have HFA:=hE0 (fun W=>aaE W k k22);have HNF:=hE0 (fun W (hB:Below w.heap.size w W)=>aai (h.below hB) hb (by omega) (8+8*(k:Int)) (8+8*k) (by omega) (by omega) f hf);have hp2:p+32<=n:=by omega
 have hp3:184<=p:=by omega
 have HM:=hE0 (fun W (hB:Below w.heap.size w W)=>adq (h.below hB) hb (by omega) k f k22 hfl _ hm);have s1:((f:Int)==(p:Int))=false:=by rw[beq_eq_false_iff_ne];omega
 have s2:((f:Int) !=0)=true:=by rw[bne_iff_ne];omega
 have hfin:=aaK hm;have hf16:f+16+8<=n:=by omega
 have hf1:f<=16384:=by omega
 have HBO:=hE0 (fun W (hB:Below w.heap.size w W)=>abn h hB);obtain⟨b1,hb1⟩:∃b,lyN bs (p+8) f=b:=⟨_,rfl⟩;have nb1:b1.length=n:=by rw[<-hb1,aah _ _ _ (by omega)];exact hn
 have HS1:=fun W (hB:Became 195 g base cap A bs w W)=>aaP hB hb (by omega) ((p:Int)+8) (p+8) (by omega) (by omega) f hfl;rw[hb1]at HS1 ⊢;have HS1:=hE0 HS1;obtain⟨b2,hb2⟩:∃b,lyN b1 (p+16) 0=b:=⟨_,rfl⟩;have nb2:b2.length=n:=by rw[<-hb2,aah _ _ _ (by omega)];exact nb1
 have HS2:=fun W (hB:Became 195 g base cap A b1 w W)=>aaP hB hb (by omega) ((p:Int)+16) (p+16) (by omega) (by omega) 0 (by omega);rw[hb2]at HS2 ⊢;have HS2:=hE0 HS2;obtain⟨b3,hb3⟩:∃b,lyN b2 (f+16) p=b:=⟨_,rfl⟩;have nb3:b3.length=n:=by rw[<-hb3,aah _ _ _ (by omega)];exact nb2
 have HS3:=fun W (hB:Became 195 g base cap A b2 w W)=>aaP hB hb (by omega) ((f:Int)+16) (f+16) (by omega) (by omega) p (by omega);rw[hb3]at HS3 ⊢;have HS3:=hE0 HS3;have HSF:=hE0 (fun W (hB:Became 195 g base cap A b3 w W)=>abd hB hb n nb3 hl (by omega) k k22 p (by omega));clear hb1 nb1 hb2 nb2 hb3 nb3;clear h hk hf hn hm;go_enter Tryz.func174,Tryz.ntmps174
 go_wp2_with fail
 with_reducible refine HF.out.mono ?_
 rintro e w1 ⟨rfl,hb1⟩;have HB:=hE0 hb1;clear hb1 HF;go_wp2_with fail
 refine(HFA.out _).mono ?_;rintro e w9 ⟨rfl,rfl⟩;go_wp2_with fail
 refine(HNF.out _ HB.out).mono ?_;rintro e w9 ⟨rfl,rfl⟩;clear HFA HNF;go_wp2_with fail
 refine(HM.out _ HB.out).mono ?_;rintro e w2 ⟨rfl,hb2⟩;have HB2:=hE0 (HB.out.trans (hb2.mono HB.out.size));clear hb2 HM HB;have G0:=hE0 (HBO.out _ HB2.out);clear HBO HB2;go_wp2_with fail
 refine(HS1.out _ G0.out).mono ?_;rintro e x1 ⟨rfl,bb⟩;have G1:=hE0 bb;clear bb HS1 G0;go_wp2_with fail
 refine(HS2.out _ G1.out).mono ?_;rintro e x2 ⟨rfl,bb⟩;have G2:=hE0 bb;clear bb HS2 G1;go_wp2_with fail
 refine(HS3.out _ G2.out).mono ?_;rintro e x3 ⟨rfl,bb⟩;have G3:=hE0 bb;clear bb HS3 G2;go_wp2_with fail
 refine(HSF.out _ G3.out).mono ?_;rintro e x9 ⟨rfl,bb⟩;have G9:=hE0 bb;clear bb HSF G3;go_wp2
 go_ret
 exact⟨rfl,G9.out⟩
end
theorem avl:avr:=by
 intro w g base cap c A bs o y h hb hl ho hy;subst hy;rcases aef bs o with hk | ⟨k,hk⟩
 · have e:ag8 bs o=none:=by unfold ag8;rw[if_pos hk]
   rw[e];exact asQ h hb _ rfl hl o ho hk
 · obtain⟨p184,p32,k22⟩:=aa0 hk;obtain⟨p,rfl⟩:∃p:Nat,o=(p:Int):=⟨o.toNat,by omega⟩;obtain⟨f,hf⟩:=nmE (aaf bs (8+8*k));have e:ag8 bs (p:Int)=if (f:Int)=(p:Int)\/(f≠0/\aao bs f (k:Int)=false) then none else some (abB (lyN (if f≠0 then lyN (lyN (lyN bs (p+8) f) (p+16) 0) (f+16) p else lyN (lyN bs (p+8) f) (p+16) 0) (8+8*k) p) k):=by
    unfold ag8;rw[hk,if_neg (by omega)];simp only[Int.toNat_natCast,hf]
   rw[e];by_cases hfp:f=p
   · rw[if_pos (.inl (by omega))];exact ao6 h hb _ rfl hl p k f hk hf hfp
   · by_cases hf0:f=0
     · rw[if_neg (by omega),if_neg (by omega)];exact am9 h hb _ rfl hl p k f hk hf hf0
     · cases hm:aao bs f (k:Int)with
       | false=>
        rw[if_pos (.inr ⟨hf0,rfl⟩)];exact am8 h hb _ rfl hl p k f hk hf hfp hf0 hm
       | true=>
        rw[if_neg (fun h1=>h1.elim (fun h2=>hfp (by omega)) (fun h2=>by cases h2.2)),if_pos hf0];exact akR h hb _ rfl hl p k f hk hf hfp hf0 hm
theorem abo{bs:List UInt8}{k v j u:Nat}(h:abl bs k v j u=true):aao bs v (k:Int)=true:=by
 unfold abl at h;rw[Bool.and_eq_true]at h;exact h.1
section
variable {w:World} {g base cap c:Nat} {A:Option Addr} {bs:List UInt8}
theorem arc (h:Ar w 195 g base cap A c bs) (hb:base<=4611686018427387904) (n:Nat) (hn:bs.length=n) (hl:n<=16384) (o:Int) (ho: -9223372036854775808<=o/\o<=9223372036854775807) (hk:aaX bs o<0):
 Calls Tryz.prog 271 #[.pointer (some ⟨g,0,none⟩), .int .i64 o] w fun e w'=>e= .returned (aat false 3)/\Below w.heap.size w w':=by
 have HF:=hE0 (aik h hb (by omega) o ho hk);clear h hk hn;go_enter Tryz.func271,Tryz.ntmps271
 go_wp2_with fail
 with_reducible refine HF.out.mono ?_
 rintro e w1 ⟨rfl,hb1⟩;have HB:=hE0 hb1;clear hb1;go_wp2
 go_ret
 exact⟨rfl,HB.out⟩
theorem akS (h:Ar w 195 g base cap A c bs) (hb:base<=4611686018427387904) (n:Nat) (hn:bs.length=n) (hl:n<=16384) (q k f m p:Nat) (hk:aaX bs (q:Int)=(k:Int)) (hf:aaf bs (8+8*k)=f) (hm:aaf bs (q+8)=m) (hp:aaf bs (q+16)=p) (hp0:p=0) (hfq:f≠q):
 Calls Tryz.prog 271 #[.pointer (some ⟨g,0,none⟩), .int .i64 (q:Int)] w fun e w'=>e= .returned (aat false 3)/\Below w.heap.size w w':=by
 obtain⟨q184,q32,k22⟩:=aa0 hk;have hfl:f<18446744073709551616:=by rw[<-hf];exact aan _ _
 have hml:m<18446744073709551616:=by rw[<-hm];exact aan _ _
 have hpl:p<18446744073709551616:=by rw[<-hp];exact aan _ _
 have HF:=hE0 (aaV h hb (by omega) (q:Int) (by omega) k hk);have HFA:=hE0 (fun W=>aaE W k k22);have HNF:=hE0 (fun W (hB:Below w.heap.size w W)=>aai (h.below hB) hb (by omega) (8+8*(k:Int)) (8+8*k) (by omega) (by omega) f hf);have HNM:=hE0 (fun W (hB:Below w.heap.size w W)=>aai (h.below hB) hb (by omega) ((q:Int)+8) (q+8) (by omega) (by omega) m hm);have HNP:=hE0 (fun W (hB:Below w.heap.size w W)=>aai (h.below hB) hb (by omega) ((q:Int)+16) (q+16) (by omega) (by omega) p hp);have hq2:q+32<=n:=by omega
 have hq3:184<=q:=by omega
 have s1:((p:Int)==0)=true:=by subst hp0;rfl
 have s1b:((p:Int) !=0)=false:=by subst hp0;rfl
 have s2:((f:Int) !=(q:Int))=true:=by rw[bne_iff_ne];omega
 clear h hk hf hn hm hp hp0;go_enter Tryz.func271,Tryz.ntmps271
 go_wp2_with fail
 with_reducible refine HF.out.mono ?_
 rintro e w1 ⟨rfl,hb1⟩;have HB:=hE0 hb1;clear hb1 HF;go_wp2_with fail
 refine(HFA.out _).mono ?_;rintro e w9 ⟨rfl,rfl⟩;go_wp2_with fail
 refine(HNF.out _ HB.out).mono ?_;rintro e w9 ⟨rfl,rfl⟩;go_wp2_with fail
 refine(HNM.out _ HB.out).mono ?_;rintro e w9 ⟨rfl,rfl⟩;go_wp2_with fail
 refine(HNP.out _ HB.out).mono ?_;rintro e w9 ⟨rfl,rfl⟩;clear HFA HNF HNM HNP;go_wp2
 go_ret
 exact⟨rfl,HB.out⟩
theorem ana (h:Ar w 195 g base cap A c bs) (hb:base<=4611686018427387904) (n:Nat) (hn:bs.length=n) (hl:n<=16384) (q k f m p:Nat) (hk:aaX bs (q:Int)=(k:Int)) (hf:aaf bs (8+8*k)=f) (hm:aaf bs (q+8)=m) (hp:aaf bs (q+16)=p) (hp0:p≠0) (hpm:abl bs k p 8 q=false):
 Calls Tryz.prog 271 #[.pointer (some ⟨g,0,none⟩), .int .i64 (q:Int)] w fun e w'=>e= .returned (aat false 3)/\Below w.heap.size w w':=by
 obtain⟨q184,q32,k22⟩:=aa0 hk;have hfl:f<18446744073709551616:=by rw[<-hf];exact aan _ _
 have hml:m<18446744073709551616:=by rw[<-hm];exact aan _ _
 have hpl:p<18446744073709551616:=by rw[<-hp];exact aan _ _
 have HF:=hE0 (aaV h hb (by omega) (q:Int) (by omega) k hk);have HFA:=hE0 (fun W=>aaE W k k22);have HNF:=hE0 (fun W (hB:Below w.heap.size w W)=>aai (h.below hB) hb (by omega) (8+8*(k:Int)) (8+8*k) (by omega) (by omega) f hf);have HNM:=hE0 (fun W (hB:Below w.heap.size w W)=>aai (h.below hB) hb (by omega) ((q:Int)+8) (q+8) (by omega) (by omega) m hm);have HNP:=hE0 (fun W (hB:Below w.heap.size w W)=>aai (h.below hB) hb (by omega) ((q:Int)+16) (q+16) (by omega) (by omega) p hp);have hq2:q+32<=n:=by omega
 have hq3:184<=q:=by omega
 have s1:((p:Int)==0)=false:=by rw[beq_eq_false_iff_ne];omega
 have s1b:((p:Int) !=0)=true:=by rw[bne_iff_ne];omega
 have HPM:=hE0 (fun W (hB:Below w.heap.size w W)=>aby (h.below hB) hb (by omega) k p 8 q k22 hpl (by omega) _ hpm);clear h hk hf hn hm hp hpm;go_enter Tryz.func271,Tryz.ntmps271
 go_wp2_with fail
 with_reducible refine HF.out.mono ?_
 rintro e w1 ⟨rfl,hb1⟩;have HB:=hE0 hb1;clear hb1 HF;go_wp2_with fail
 refine(HFA.out _).mono ?_;rintro e w9 ⟨rfl,rfl⟩;go_wp2_with fail
 refine(HNF.out _ HB.out).mono ?_;rintro e w9 ⟨rfl,rfl⟩;go_wp2_with fail
 refine(HNM.out _ HB.out).mono ?_;rintro e w9 ⟨rfl,rfl⟩;go_wp2_with fail
 refine(HNP.out _ HB.out).mono ?_;rintro e w9 ⟨rfl,rfl⟩;clear HFA HNF HNM HNP;go_wp2_with fail
 refine(HPM.out _ HB.out).mono ?_;rintro e w2 ⟨rfl,hb2⟩;have HB2:=hE0 (HB.out.trans (hb2.mono HB.out.size));clear hb2 HPM HB;go_wp2
 go_ret
 exact⟨rfl,HB2.out⟩
theorem akT (h:Ar w 195 g base cap A c bs) (hb:base<=4611686018427387904) (n:Nat) (hn:bs.length=n) (hl:n<=16384) (q k f m p:Nat) (hk:aaX bs (q:Int)=(k:Int)) (hf:aaf bs (8+8*k)=f) (hm:aaf bs (q+8)=m) (hp:aaf bs (q+16)=p) (hp0:p=0) (hfq:f=q) (hn0:m≠0) (hnm:abl bs k m 16 q=false):
 Calls Tryz.prog 271 #[.pointer (some ⟨g,0,none⟩), .int .i64 (q:Int)] w fun e w'=>e= .returned (aat false 3)/\Below w.heap.size w w':=by
 obtain⟨q184,q32,k22⟩:=aa0 hk;have hfl:f<18446744073709551616:=by rw[<-hf];exact aan _ _
 have hml:m<18446744073709551616:=by rw[<-hm];exact aan _ _
 have hpl:p<18446744073709551616:=by rw[<-hp];exact aan _ _
 have HF:=hE0 (aaV h hb (by omega) (q:Int) (by omega) k hk);have HFA:=hE0 (fun W=>aaE W k k22);have HNF:=hE0 (fun W (hB:Below w.heap.size w W)=>aai (h.below hB) hb (by omega) (8+8*(k:Int)) (8+8*k) (by omega) (by omega) f hf);have HNM:=hE0 (fun W (hB:Below w.heap.size w W)=>aai (h.below hB) hb (by omega) ((q:Int)+8) (q+8) (by omega) (by omega) m hm);have HNP:=hE0 (fun W (hB:Below w.heap.size w W)=>aai (h.below hB) hb (by omega) ((q:Int)+16) (q+16) (by omega) (by omega) p hp);have hq2:q+32<=n:=by omega
 have hq3:184<=q:=by omega
 have s1:((p:Int)==0)=true:=by subst hp0;rfl
 have s1b:((p:Int) !=0)=false:=by subst hp0;rfl
 have s2:((f:Int) !=(q:Int))=false:=by rw[bne_eq_false_iff_eq];omega
 have HNH:=hE0 (fun W (hB:Below w.heap.size w W)=>aby (h.below hB) hb (by omega) k m 16 q k22 hml (by omega) _ hnm);have s3:((m:Int) !=0)=true:=by rw[bne_iff_ne];omega
 clear h hk hf hn hm hp hnm hp0 hfq;go_enter Tryz.func271,Tryz.ntmps271
 go_wp2_with fail
 with_reducible refine HF.out.mono ?_
 rintro e w1 ⟨rfl,hb1⟩;have HB:=hE0 hb1;clear hb1 HF;go_wp2_with fail
 refine(HFA.out _).mono ?_;rintro e w9 ⟨rfl,rfl⟩;go_wp2_with fail
 refine(HNF.out _ HB.out).mono ?_;rintro e w9 ⟨rfl,rfl⟩;go_wp2_with fail
 refine(HNM.out _ HB.out).mono ?_;rintro e w9 ⟨rfl,rfl⟩;go_wp2_with fail
 refine(HNP.out _ HB.out).mono ?_;rintro e w9 ⟨rfl,rfl⟩;clear HFA HNF HNM HNP;go_wp2_with fail
 refine(HNH.out _ HB.out).mono ?_;rintro e w3 ⟨rfl,hb3⟩;have HB3:=hE0 (HB.out.trans (hb3.mono HB.out.size));clear hb3 HNH HB;go_wp2
 go_ret
 exact⟨rfl,HB3.out⟩
theorem akU (h:Ar w 195 g base cap A c bs) (hb:base<=4611686018427387904) (n:Nat) (hn:bs.length=n) (hl:n<=16384) (q k f m p:Nat) (hk:aaX bs (q:Int)=(k:Int)) (hf:aaf bs (8+8*k)=f) (hm:aaf bs (q+8)=m) (hp:aaf bs (q+16)=p) (hp0:p≠0) (hpm:abl bs k p 8 q=true) (hn0:m≠0) (hnm:abl bs k m 16 q=false):
 Calls Tryz.prog 271 #[.pointer (some ⟨g,0,none⟩), .int .i64 (q:Int)] w fun e w'=>e= .returned (aat false 3)/\Below w.heap.size w w':=by
 obtain⟨q184,q32,k22⟩:=aa0 hk;have hfl:f<18446744073709551616:=by rw[<-hf];exact aan _ _
 have hml:m<18446744073709551616:=by rw[<-hm];exact aan _ _
 have hpl:p<18446744073709551616:=by rw[<-hp];exact aan _ _
 have HF:=hE0 (aaV h hb (by omega) (q:Int) (by omega) k hk);have HFA:=hE0 (fun W=>aaE W k k22);have HNF:=hE0 (fun W (hB:Below w.heap.size w W)=>aai (h.below hB) hb (by omega) (8+8*(k:Int)) (8+8*k) (by omega) (by omega) f hf);have HNM:=hE0 (fun W (hB:Below w.heap.size w W)=>aai (h.below hB) hb (by omega) ((q:Int)+8) (q+8) (by omega) (by omega) m hm);have HNP:=hE0 (fun W (hB:Below w.heap.size w W)=>aai (h.below hB) hb (by omega) ((q:Int)+16) (q+16) (by omega) (by omega) p hp);have hq2:q+32<=n:=by omega
 have hq3:184<=q:=by omega
 have s1:((p:Int)==0)=false:=by rw[beq_eq_false_iff_ne];omega
 have s1b:((p:Int) !=0)=true:=by rw[bne_iff_ne];omega
 have HPM:=hE0 (fun W (hB:Below w.heap.size w W)=>aby (h.below hB) hb (by omega) k p 8 q k22 hpl (by omega) _ hpm);have HNH:=hE0 (fun W (hB:Below w.heap.size w W)=>aby (h.below hB) hb (by omega) k m 16 q k22 hml (by omega) _ hnm);have s3:((m:Int) !=0)=true:=by rw[bne_iff_ne];omega
 clear h hk hf hn hm hp hpm hnm;go_enter Tryz.func271,Tryz.ntmps271
 go_wp2_with fail
 with_reducible refine HF.out.mono ?_
 rintro e w1 ⟨rfl,hb1⟩;have HB:=hE0 hb1;clear hb1 HF;go_wp2_with fail
 refine(HFA.out _).mono ?_;rintro e w9 ⟨rfl,rfl⟩;go_wp2_with fail
 refine(HNF.out _ HB.out).mono ?_;rintro e w9 ⟨rfl,rfl⟩;go_wp2_with fail
 refine(HNM.out _ HB.out).mono ?_;rintro e w9 ⟨rfl,rfl⟩;go_wp2_with fail
 refine(HNP.out _ HB.out).mono ?_;rintro e w9 ⟨rfl,rfl⟩;clear HFA HNF HNM HNP;go_wp2_with fail
 refine(HPM.out _ HB.out).mono ?_;rintro e w2 ⟨rfl,hb2⟩;have HB2:=hE0 (HB.out.trans (hb2.mono HB.out.size));clear hb2 HPM HB;go_wp2_with fail
 refine(HNH.out _ HB2.out).mono ?_;rintro e w3 ⟨rfl,hb3⟩;have HB3:=hE0 (HB2.out.trans (hb3.mono HB2.out.size));clear hb3 HNH HB2;go_wp2
 go_ret
 exact⟨rfl,HB3.out⟩
theorem ao7 (h:Ar w 195 g base cap A c bs) (hb:base<=4611686018427387904) (n:Nat) (hn:bs.length=n) (hl:n<=16384) (q k f m p:Nat) (hk:aaX bs (q:Int)=(k:Int)) (hf:aaf bs (8+8*k)=f) (hm:aaf bs (q+8)=m) (hp:aaf bs (q+16)=p) (hp0:p=0) (hfq:f=q) (hn0:m=0):
 Calls Tryz.prog 271 #[.pointer (some ⟨g,0,none⟩), .int .i64 (q:Int)] w fun e w'=>e= .returned (aat true 3)/\Became 195 g base cap A (abB (lyN bs (8+8*k) m) k) w w':=by
 obtain⟨q184,q32,k22⟩:=aa0 hk;have hfl:f<18446744073709551616:=by rw[<-hf];exact aan _ _
 have hml:m<18446744073709551616:=by rw[<-hm];exact aan _ _
 have hpl:p<18446744073709551616:=by rw[<-hp];exact aan _ _
 have HF:=hE0 (aaV h hb (by omega) (q:Int) (by omega) k hk);have HFA:=hE0 (fun W=>aaE W k k22);have HNF:=hE0 (fun W (hB:Below w.heap.size w W)=>aai (h.below hB) hb (by omega) (8+8*(k:Int)) (8+8*k) (by omega) (by omega) f hf);have HNM:=hE0 (fun W (hB:Below w.heap.size w W)=>aai (h.below hB) hb (by omega) ((q:Int)+8) (q+8) (by omega) (by omega) m hm);have HNP:=hE0 (fun W (hB:Below w.heap.size w W)=>aai (h.below hB) hb (by omega) ((q:Int)+16) (q+16) (by omega) (by omega) p hp);have hq2:q+32<=n:=by omega
 have hq3:184<=q:=by omega
 have s1:((p:Int)==0)=true:=by subst hp0;rfl
 have s1b:((p:Int) !=0)=false:=by subst hp0;rfl
 have s2:((f:Int) !=(q:Int))=false:=by rw[bne_eq_false_iff_eq];omega
 have s3:((m:Int) !=0)=false:=by subst hn0;rfl
 have s4:((f:Int)==(q:Int))=true:=by rw[beq_iff_eq];omega
 have HBO:=hE0 (fun W (hB:Below w.heap.size w W)=>abn h hB);have HSF:=hE0 (fun W (hB:Became 195 g base cap A bs w W)=>abd hB hb n hn hl (by omega) k k22 m (by omega));clear h hk hf hn hm hp hp0 hfq hn0;go_enter Tryz.func271,Tryz.ntmps271
 go_wp2_with fail
 with_reducible refine HF.out.mono ?_
 rintro e w1 ⟨rfl,hb1⟩;have HB:=hE0 hb1;clear hb1 HF;go_wp2_with fail
 refine(HFA.out _).mono ?_;rintro e w9 ⟨rfl,rfl⟩;go_wp2_with fail
 refine(HNF.out _ HB.out).mono ?_;rintro e w9 ⟨rfl,rfl⟩;go_wp2_with fail
 refine(HNM.out _ HB.out).mono ?_;rintro e w9 ⟨rfl,rfl⟩;go_wp2_with fail
 refine(HNP.out _ HB.out).mono ?_;rintro e w9 ⟨rfl,rfl⟩;clear HFA HNF HNM HNP;have G0:=hE0 (HBO.out _ HB.out);clear HBO HB;go_wp2_with fail
 refine(HSF.out _ G0.out).mono ?_;rintro e x9 ⟨rfl,bb⟩;have G9:=hE0 bb;clear bb HSF G0;go_wp2
 go_ret
 exact⟨rfl,G9.out⟩
theorem ao8 (h:Ar w 195 g base cap A c bs) (hb:base<=4611686018427387904) (n:Nat) (hn:bs.length=n) (hl:n<=16384) (q k f m p:Nat) (hk:aaX bs (q:Int)=(k:Int)) (hf:aaf bs (8+8*k)=f) (hm:aaf bs (q+8)=m) (hp:aaf bs (q+16)=p) (hp0:p=0) (hfq:f=q) (hn0:m≠0) (hnm:abl bs k m 16 q=true):
 Calls Tryz.prog 271 #[.pointer (some ⟨g,0,none⟩), .int .i64 (q:Int)] w fun e w'=>e= .returned (aat true 3)/\Became 195 g base cap A (abB (lyN (lyN bs (m+16) p) (8+8*k) m) k) w w':=by
 obtain⟨q184,q32,k22⟩:=aa0 hk;have hfl:f<18446744073709551616:=by rw[<-hf];exact aan _ _
 have hml:m<18446744073709551616:=by rw[<-hm];exact aan _ _
 have hpl:p<18446744073709551616:=by rw[<-hp];exact aan _ _
 have HF:=hE0 (aaV h hb (by omega) (q:Int) (by omega) k hk);have HFA:=hE0 (fun W=>aaE W k k22);have HNF:=hE0 (fun W (hB:Below w.heap.size w W)=>aai (h.below hB) hb (by omega) (8+8*(k:Int)) (8+8*k) (by omega) (by omega) f hf);have HNM:=hE0 (fun W (hB:Below w.heap.size w W)=>aai (h.below hB) hb (by omega) ((q:Int)+8) (q+8) (by omega) (by omega) m hm);have HNP:=hE0 (fun W (hB:Below w.heap.size w W)=>aai (h.below hB) hb (by omega) ((q:Int)+16) (q+16) (by omega) (by omega) p hp);have hq2:q+32<=n:=by omega
 have hq3:184<=q:=by omega
 have s1:((p:Int)==0)=true:=by subst hp0;rfl
 have s1b:((p:Int) !=0)=false:=by subst hp0;rfl
 have s2:((f:Int) !=(q:Int))=false:=by rw[bne_eq_false_iff_eq];omega
 have HNH:=hE0 (fun W (hB:Below w.heap.size w W)=>aby (h.below hB) hb (by omega) k m 16 q k22 hml (by omega) _ hnm);have s3:((m:Int) !=0)=true:=by rw[bne_iff_ne];omega
 have s4:((f:Int)==(q:Int))=true:=by rw[beq_iff_eq];omega
 have hnin:=aaK (abo hnm);have hn16:m+32<=n:=by omega
 have HBO:=hE0 (fun W (hB:Below w.heap.size w W)=>abn h hB);obtain⟨b1,hb1⟩:∃b,lyN bs (m+16) p=b:=⟨_,rfl⟩;have nb1:b1.length=n:=by rw[<-hb1,aah _ _ _ (by omega)];exact hn
 have HS1:=fun W (hB:Became 195 g base cap A bs w W)=>aaP hB hb (by omega) ((m:Int)+16) (m+16) (by omega) (by omega) p hpl;rw[hb1]at HS1 ⊢;have HS1:=hE0 HS1;have HSF:=hE0 (fun W (hB:Became 195 g base cap A b1 w W)=>abd hB hb n nb1 hl (by omega) k k22 m (by omega));clear hb1 nb1;clear h hk hf hn hm hp hnm hp0 hfq;go_enter Tryz.func271,Tryz.ntmps271
 go_wp2_with fail
 with_reducible refine HF.out.mono ?_
 rintro e w1 ⟨rfl,hb1⟩;have HB:=hE0 hb1;clear hb1 HF;go_wp2_with fail
 refine(HFA.out _).mono ?_;rintro e w9 ⟨rfl,rfl⟩;go_wp2_with fail
 refine(HNF.out _ HB.out).mono ?_;rintro e w9 ⟨rfl,rfl⟩;go_wp2_with fail
 refine(HNM.out _ HB.out).mono ?_;rintro e w9 ⟨rfl,rfl⟩;go_wp2_with fail
 refine(HNP.out _ HB.out).mono ?_;rintro e w9 ⟨rfl,rfl⟩;clear HFA HNF HNM HNP;go_wp2_with fail
 refine(HNH.out _ HB.out).mono ?_;rintro e w3 ⟨rfl,hb3⟩;have HB3:=hE0 (HB.out.trans (hb3.mono HB.out.size));clear hb3 HNH HB;have G0:=hE0 (HBO.out _ HB3.out);clear HBO HB3;go_wp2_with fail
 refine(HS1.out _ G0.out).mono ?_;rintro e x1 ⟨rfl,bb⟩;have G1:=hE0 bb;clear bb HS1 G0;go_wp2_with fail
 refine(HSF.out _ G1.out).mono ?_;rintro e x9 ⟨rfl,bb⟩;have G9:=hE0 bb;clear bb HSF G1;go_wp2
 go_ret
 exact⟨rfl,G9.out⟩
theorem ao9 (h:Ar w 195 g base cap A c bs) (hb:base<=4611686018427387904) (n:Nat) (hn:bs.length=n) (hl:n<=16384) (q k f m p:Nat) (hk:aaX bs (q:Int)=(k:Int)) (hf:aaf bs (8+8*k)=f) (hm:aaf bs (q+8)=m) (hp:aaf bs (q+16)=p) (hp0:p≠0) (hpm:abl bs k p 8 q=true) (hn0:m=0) (hfq:f=q):
 Calls Tryz.prog 271 #[.pointer (some ⟨g,0,none⟩), .int .i64 (q:Int)] w fun e w'=>e= .returned (aat true 3)/\Became 195 g base cap A (abB (lyN (lyN bs (p+8) m) (8+8*k) m) k) w w':=by
 obtain⟨q184,q32,k22⟩:=aa0 hk;have hfl:f<18446744073709551616:=by rw[<-hf];exact aan _ _
 have hml:m<18446744073709551616:=by rw[<-hm];exact aan _ _
 have hpl:p<18446744073709551616:=by rw[<-hp];exact aan _ _
 have HF:=hE0 (aaV h hb (by omega) (q:Int) (by omega) k hk);have HFA:=hE0 (fun W=>aaE W k k22);have HNF:=hE0 (fun W (hB:Below w.heap.size w W)=>aai (h.below hB) hb (by omega) (8+8*(k:Int)) (8+8*k) (by omega) (by omega) f hf);have HNM:=hE0 (fun W (hB:Below w.heap.size w W)=>aai (h.below hB) hb (by omega) ((q:Int)+8) (q+8) (by omega) (by omega) m hm);have HNP:=hE0 (fun W (hB:Below w.heap.size w W)=>aai (h.below hB) hb (by omega) ((q:Int)+16) (q+16) (by omega) (by omega) p hp);have hq2:q+32<=n:=by omega
 have hq3:184<=q:=by omega
 have s1:((p:Int)==0)=false:=by rw[beq_eq_false_iff_ne];omega
 have s1b:((p:Int) !=0)=true:=by rw[bne_iff_ne];omega
 have HPM:=hE0 (fun W (hB:Below w.heap.size w W)=>aby (h.below hB) hb (by omega) k p 8 q k22 hpl (by omega) _ hpm);have s3:((m:Int) !=0)=false:=by subst hn0;rfl
 have s4:((f:Int)==(q:Int))=true:=by rw[beq_iff_eq];omega
 have hpin:=aaK (abo hpm);have hp8:p+32<=n:=by omega
 have HBO:=hE0 (fun W (hB:Below w.heap.size w W)=>abn h hB);obtain⟨b1,hb1⟩:∃b,lyN bs (p+8) m=b:=⟨_,rfl⟩;have nb1:b1.length=n:=by rw[<-hb1,aah _ _ _ (by omega)];exact hn
 have HS1:=fun W (hB:Became 195 g base cap A bs w W)=>aaP hB hb (by omega) ((p:Int)+8) (p+8) (by omega) (by omega) m hml;rw[hb1]at HS1 ⊢;have HS1:=hE0 HS1;have HSF:=hE0 (fun W (hB:Became 195 g base cap A b1 w W)=>abd hB hb n nb1 hl (by omega) k k22 m (by omega));clear hb1 nb1;clear h hk hf hn hm hp hpm hfq hn0;go_enter Tryz.func271,Tryz.ntmps271
 go_wp2_with fail
 with_reducible refine HF.out.mono ?_
 rintro e w1 ⟨rfl,hb1⟩;have HB:=hE0 hb1;clear hb1 HF;go_wp2_with fail
 refine(HFA.out _).mono ?_;rintro e w9 ⟨rfl,rfl⟩;go_wp2_with fail
 refine(HNF.out _ HB.out).mono ?_;rintro e w9 ⟨rfl,rfl⟩;go_wp2_with fail
 refine(HNM.out _ HB.out).mono ?_;rintro e w9 ⟨rfl,rfl⟩;go_wp2_with fail
 refine(HNP.out _ HB.out).mono ?_;rintro e w9 ⟨rfl,rfl⟩;clear HFA HNF HNM HNP;go_wp2_with fail
 refine(HPM.out _ HB.out).mono ?_;rintro e w2 ⟨rfl,hb2⟩;have HB2:=hE0 (HB.out.trans (hb2.mono HB.out.size));clear hb2 HPM HB;have G0:=hE0 (HBO.out _ HB2.out);clear HBO HB2;go_wp2_with fail
 refine(HS1.out _ G0.out).mono ?_;rintro e x1 ⟨rfl,bb⟩;have G1:=hE0 bb;clear bb HS1 G0;go_wp2_with fail
 refine(HSF.out _ G1.out).mono ?_;rintro e x9 ⟨rfl,bb⟩;have G9:=hE0 bb;clear bb HSF G1;go_wp2
 go_ret
 exact⟨rfl,G9.out⟩
theorem apa (h:Ar w 195 g base cap A c bs) (hb:base<=4611686018427387904) (n:Nat) (hn:bs.length=n) (hl:n<=16384) (q k f m p:Nat) (hk:aaX bs (q:Int)=(k:Int)) (hf:aaf bs (8+8*k)=f) (hm:aaf bs (q+8)=m) (hp:aaf bs (q+16)=p) (hp0:p≠0) (hpm:abl bs k p 8 q=true) (hn0:m≠0) (hnm:abl bs k m 16 q=true) (hfq:f=q):
 Calls Tryz.prog 271 #[.pointer (some ⟨g,0,none⟩), .int .i64 (q:Int)] w fun e w'=>e= .returned (aat true 3)/\Became 195 g base cap A (abB (lyN (lyN (lyN bs (p+8) m) (m+16) p) (8+8*k) m) k) w w':=by
 obtain⟨q184,q32,k22⟩:=aa0 hk;have hfl:f<18446744073709551616:=by rw[<-hf];exact aan _ _
 have hml:m<18446744073709551616:=by rw[<-hm];exact aan _ _
 have hpl:p<18446744073709551616:=by rw[<-hp];exact aan _ _
 have HF:=hE0 (aaV h hb (by omega) (q:Int) (by omega) k hk);have HFA:=hE0 (fun W=>aaE W k k22);have HNF:=hE0 (fun W (hB:Below w.heap.size w W)=>aai (h.below hB) hb (by omega) (8+8*(k:Int)) (8+8*k) (by omega) (by omega) f hf);have HNM:=hE0 (fun W (hB:Below w.heap.size w W)=>aai (h.below hB) hb (by omega) ((q:Int)+8) (q+8) (by omega) (by omega) m hm);have HNP:=hE0 (fun W (hB:Below w.heap.size w W)=>aai (h.below hB) hb (by omega) ((q:Int)+16) (q+16) (by omega) (by omega) p hp);have hq2:q+32<=n:=by omega
 have hq3:184<=q:=by omega
 have s1:((p:Int)==0)=false:=by rw[beq_eq_false_iff_ne];omega
 have s1b:((p:Int) !=0)=true:=by rw[bne_iff_ne];omega
 have HPM:=hE0 (fun W (hB:Below w.heap.size w W)=>aby (h.below hB) hb (by omega) k p 8 q k22 hpl (by omega) _ hpm);have HNH:=hE0 (fun W (hB:Below w.heap.size w W)=>aby (h.below hB) hb (by omega) k m 16 q k22 hml (by omega) _ hnm);have s3:((m:Int) !=0)=true:=by rw[bne_iff_ne];omega
 have s4:((f:Int)==(q:Int))=true:=by rw[beq_iff_eq];omega
 have hpin:=aaK (abo hpm);have hp8:p+32<=n:=by omega
 have hnin:=aaK (abo hnm);have hn16:m+32<=n:=by omega
 have HBO:=hE0 (fun W (hB:Below w.heap.size w W)=>abn h hB);obtain⟨b1,hb1⟩:∃b,lyN bs (p+8) m=b:=⟨_,rfl⟩;have nb1:b1.length=n:=by rw[<-hb1,aah _ _ _ (by omega)];exact hn
 have HS1:=fun W (hB:Became 195 g base cap A bs w W)=>aaP hB hb (by omega) ((p:Int)+8) (p+8) (by omega) (by omega) m hml;rw[hb1]at HS1 ⊢;have HS1:=hE0 HS1;obtain⟨b2,hb2⟩:∃b,lyN b1 (m+16) p=b:=⟨_,rfl⟩;have nb2:b2.length=n:=by rw[<-hb2,aah _ _ _ (by omega)];exact nb1
 have HS2:=fun W (hB:Became 195 g base cap A b1 w W)=>aaP hB hb (by omega) ((m:Int)+16) (m+16) (by omega) (by omega) p hpl;rw[hb2]at HS2 ⊢;have HS2:=hE0 HS2;have HSF:=hE0 (fun W (hB:Became 195 g base cap A b2 w W)=>abd hB hb n nb2 hl (by omega) k k22 m (by omega));clear hb1 nb1 hb2 nb2;clear h hk hf hn hm hp hpm hnm hfq;go_enter Tryz.func271,Tryz.ntmps271
 go_wp2_with fail
 with_reducible refine HF.out.mono ?_
 rintro e w1 ⟨rfl,hb1⟩;have HB:=hE0 hb1;clear hb1 HF;go_wp2_with fail
 refine(HFA.out _).mono ?_;rintro e w9 ⟨rfl,rfl⟩;go_wp2_with fail
 refine(HNF.out _ HB.out).mono ?_;rintro e w9 ⟨rfl,rfl⟩;go_wp2_with fail
 refine(HNM.out _ HB.out).mono ?_;rintro e w9 ⟨rfl,rfl⟩;go_wp2_with fail
 refine(HNP.out _ HB.out).mono ?_;rintro e w9 ⟨rfl,rfl⟩;clear HFA HNF HNM HNP;go_wp2_with fail
 refine(HPM.out _ HB.out).mono ?_;rintro e w2 ⟨rfl,hb2⟩;have HB2:=hE0 (HB.out.trans (hb2.mono HB.out.size));clear hb2 HPM HB;go_wp2_with fail
 refine(HNH.out _ HB2.out).mono ?_;rintro e w3 ⟨rfl,hb3⟩;have HB3:=hE0 (HB2.out.trans (hb3.mono HB2.out.size));clear hb3 HNH HB2;have G0:=hE0 (HBO.out _ HB3.out);clear HBO HB3;go_wp2_with fail
 refine(HS1.out _ G0.out).mono ?_;rintro e x1 ⟨rfl,bb⟩;have G1:=hE0 bb;clear bb HS1 G0;go_wp2_with fail
 refine(HS2.out _ G1.out).mono ?_;rintro e x2 ⟨rfl,bb⟩;have G2:=hE0 bb;clear bb HS2 G1;go_wp2_with fail
 refine(HSF.out _ G2.out).mono ?_;rintro e x9 ⟨rfl,bb⟩;have G9:=hE0 bb;clear bb HSF G2;go_wp2
 go_ret
 exact⟨rfl,G9.out⟩
theorem apb (h:Ar w 195 g base cap A c bs) (hb:base<=4611686018427387904) (n:Nat) (hn:bs.length=n) (hl:n<=16384) (q k f m p:Nat) (hk:aaX bs (q:Int)=(k:Int)) (hf:aaf bs (8+8*k)=f) (hm:aaf bs (q+8)=m) (hp:aaf bs (q+16)=p) (hp0:p≠0) (hpm:abl bs k p 8 q=true) (hn0:m=0) (hfq:f≠q):
 Calls Tryz.prog 271 #[.pointer (some ⟨g,0,none⟩), .int .i64 (q:Int)] w fun e w'=>e= .returned (aat true 3)/\Became 195 g base cap A (abB (lyN (lyN bs (p+8) m) (8+8*k) f) k) w w':=by
 obtain⟨q184,q32,k22⟩:=aa0 hk;have hfl:f<18446744073709551616:=by rw[<-hf];exact aan _ _
 have hml:m<18446744073709551616:=by rw[<-hm];exact aan _ _
 have hpl:p<18446744073709551616:=by rw[<-hp];exact aan _ _
 have HF:=hE0 (aaV h hb (by omega) (q:Int) (by omega) k hk);have HFA:=hE0 (fun W=>aaE W k k22);have HNF:=hE0 (fun W (hB:Below w.heap.size w W)=>aai (h.below hB) hb (by omega) (8+8*(k:Int)) (8+8*k) (by omega) (by omega) f hf);have HNM:=hE0 (fun W (hB:Below w.heap.size w W)=>aai (h.below hB) hb (by omega) ((q:Int)+8) (q+8) (by omega) (by omega) m hm);have HNP:=hE0 (fun W (hB:Below w.heap.size w W)=>aai (h.below hB) hb (by omega) ((q:Int)+16) (q+16) (by omega) (by omega) p hp);have hq2:q+32<=n:=by omega
 have hq3:184<=q:=by omega
 have s1:((p:Int)==0)=false:=by rw[beq_eq_false_iff_ne];omega
 have s1b:((p:Int) !=0)=true:=by rw[bne_iff_ne];omega
 have HPM:=hE0 (fun W (hB:Below w.heap.size w W)=>aby (h.below hB) hb (by omega) k p 8 q k22 hpl (by omega) _ hpm);have s3:((m:Int) !=0)=false:=by subst hn0;rfl
 have s4:((f:Int)==(q:Int))=false:=by rw[beq_eq_false_iff_ne];omega
 have hpin:=aaK (abo hpm);have hp8:p+32<=n:=by omega
 have HBO:=hE0 (fun W (hB:Below w.heap.size w W)=>abn h hB);obtain⟨b1,hb1⟩:∃b,lyN bs (p+8) m=b:=⟨_,rfl⟩;have nb1:b1.length=n:=by rw[<-hb1,aah _ _ _ (by omega)];exact hn
 have HS1:=fun W (hB:Became 195 g base cap A bs w W)=>aaP hB hb (by omega) ((p:Int)+8) (p+8) (by omega) (by omega) m hml;rw[hb1]at HS1 ⊢;have HS1:=hE0 HS1;have HSF:=hE0 (fun W (hB:Became 195 g base cap A b1 w W)=>abd hB hb n nb1 hl (by omega) k k22 f (by omega));clear hb1 nb1;clear h hk hf hn hm hp hpm hn0;go_enter Tryz.func271,Tryz.ntmps271
 go_wp2_with fail
 with_reducible refine HF.out.mono ?_
 rintro e w1 ⟨rfl,hb1⟩;have HB:=hE0 hb1;clear hb1 HF;go_wp2_with fail
 refine(HFA.out _).mono ?_;rintro e w9 ⟨rfl,rfl⟩;go_wp2_with fail
 refine(HNF.out _ HB.out).mono ?_;rintro e w9 ⟨rfl,rfl⟩;go_wp2_with fail
 refine(HNM.out _ HB.out).mono ?_;rintro e w9 ⟨rfl,rfl⟩;go_wp2_with fail
 refine(HNP.out _ HB.out).mono ?_;rintro e w9 ⟨rfl,rfl⟩;clear HFA HNF HNM HNP;go_wp2_with fail
 refine(HPM.out _ HB.out).mono ?_;rintro e w2 ⟨rfl,hb2⟩;have HB2:=hE0 (HB.out.trans (hb2.mono HB.out.size));clear hb2 HPM HB;have G0:=hE0 (HBO.out _ HB2.out);clear HBO HB2;go_wp2_with fail
 refine(HS1.out _ G0.out).mono ?_;rintro e x1 ⟨rfl,bb⟩;have G1:=hE0 bb;clear bb HS1 G0;go_wp2_with fail
 refine(HSF.out _ G1.out).mono ?_;rintro e x9 ⟨rfl,bb⟩;have G9:=hE0 bb;clear bb HSF G1;go_wp2
 go_ret
 exact⟨rfl,G9.out⟩
theorem apc (h:Ar w 195 g base cap A c bs) (hb:base<=4611686018427387904) (n:Nat) (hn:bs.length=n) (hl:n<=16384) (q k f m p:Nat) (hk:aaX bs (q:Int)=(k:Int)) (hf:aaf bs (8+8*k)=f) (hm:aaf bs (q+8)=m) (hp:aaf bs (q+16)=p) (hp0:p≠0) (hpm:abl bs k p 8 q=true) (hn0:m≠0) (hnm:abl bs k m 16 q=true) (hfq:f≠q):
 Calls Tryz.prog 271 #[.pointer (some ⟨g,0,none⟩), .int .i64 (q:Int)] w fun e w'=>e= .returned (aat true 3)/\Became 195 g base cap A (abB (lyN (lyN (lyN bs (p+8) m) (m+16) p) (8+8*k) f) k) w w':=by
 obtain⟨q184,q32,k22⟩:=aa0 hk;have hfl:f<18446744073709551616:=by rw[<-hf];exact aan _ _
 have hml:m<18446744073709551616:=by rw[<-hm];exact aan _ _
 have hpl:p<18446744073709551616:=by rw[<-hp];exact aan _ _
 have HF:=hE0 (aaV h hb (by omega) (q:Int) (by omega) k hk);have HFA:=hE0 (fun W=>aaE W k k22);have HNF:=hE0 (fun W (hB:Below w.heap.size w W)=>aai (h.below hB) hb (by omega) (8+8*(k:Int)) (8+8*k) (by omega) (by omega) f hf);have HNM:=hE0 (fun W (hB:Below w.heap.size w W)=>aai (h.below hB) hb (by omega) ((q:Int)+8) (q+8) (by omega) (by omega) m hm);have HNP:=hE0 (fun W (hB:Below w.heap.size w W)=>aai (h.below hB) hb (by omega) ((q:Int)+16) (q+16) (by omega) (by omega) p hp);have hq2:q+32<=n:=by omega
 have hq3:184<=q:=by omega
 have s1:((p:Int)==0)=false:=by rw[beq_eq_false_iff_ne];omega
 have s1b:((p:Int) !=0)=true:=by rw[bne_iff_ne];omega
 have HPM:=hE0 (fun W (hB:Below w.heap.size w W)=>aby (h.below hB) hb (by omega) k p 8 q k22 hpl (by omega) _ hpm);have HNH:=hE0 (fun W (hB:Below w.heap.size w W)=>aby (h.below hB) hb (by omega) k m 16 q k22 hml (by omega) _ hnm);have s3:((m:Int) !=0)=true:=by rw[bne_iff_ne];omega
 have s4:((f:Int)==(q:Int))=false:=by rw[beq_eq_false_iff_ne];omega
 have hpin:=aaK (abo hpm);have hp8:p+32<=n:=by omega
 have hnin:=aaK (abo hnm);have hn16:m+32<=n:=by omega
 have HBO:=hE0 (fun W (hB:Below w.heap.size w W)=>abn h hB);obtain⟨b1,hb1⟩:∃b,lyN bs (p+8) m=b:=⟨_,rfl⟩;have nb1:b1.length=n:=by rw[<-hb1,aah _ _ _ (by omega)];exact hn
 have HS1:=fun W (hB:Became 195 g base cap A bs w W)=>aaP hB hb (by omega) ((p:Int)+8) (p+8) (by omega) (by omega) m hml;rw[hb1]at HS1 ⊢;have HS1:=hE0 HS1;obtain⟨b2,hb2⟩:∃b,lyN b1 (m+16) p=b:=⟨_,rfl⟩;have nb2:b2.length=n:=by rw[<-hb2,aah _ _ _ (by omega)];exact nb1
 have HS2:=fun W (hB:Became 195 g base cap A b1 w W)=>aaP hB hb (by omega) ((m:Int)+16) (m+16) (by omega) (by omega) p hpl;rw[hb2]at HS2 ⊢;have HS2:=hE0 HS2;have HSF:=hE0 (fun W (hB:Became 195 g base cap A b2 w W)=>abd hB hb n nb2 hl (by omega) k k22 f (by omega));clear hb1 nb1 hb2 nb2;clear h hk hf hn hm hp hpm hnm;go_enter Tryz.func271,Tryz.ntmps271
 go_wp2_with fail
 with_reducible refine HF.out.mono ?_
 rintro e w1 ⟨rfl,hb1⟩;have HB:=hE0 hb1;clear hb1 HF;go_wp2_with fail
 refine(HFA.out _).mono ?_;rintro e w9 ⟨rfl,rfl⟩;go_wp2_with fail
 refine(HNF.out _ HB.out).mono ?_;rintro e w9 ⟨rfl,rfl⟩;go_wp2_with fail
 refine(HNM.out _ HB.out).mono ?_;rintro e w9 ⟨rfl,rfl⟩;go_wp2_with fail
 refine(HNP.out _ HB.out).mono ?_;rintro e w9 ⟨rfl,rfl⟩;clear HFA HNF HNM HNP;go_wp2_with fail
 refine(HPM.out _ HB.out).mono ?_;rintro e w2 ⟨rfl,hb2⟩;have HB2:=hE0 (HB.out.trans (hb2.mono HB.out.size));clear hb2 HPM HB;go_wp2_with fail
 refine(HNH.out _ HB2.out).mono ?_;rintro e w3 ⟨rfl,hb3⟩;have HB3:=hE0 (HB2.out.trans (hb3.mono HB2.out.size));clear hb3 HNH HB2;have G0:=hE0 (HBO.out _ HB3.out);clear HBO HB3;go_wp2_with fail
 refine(HS1.out _ G0.out).mono ?_;rintro e x1 ⟨rfl,bb⟩;have G1:=hE0 bb;clear bb HS1 G0;go_wp2_with fail
 refine(HS2.out _ G1.out).mono ?_;rintro e x2 ⟨rfl,bb⟩;have G2:=hE0 bb;clear bb HS2 G1;go_wp2_with fail
 refine(HSF.out _ G2.out).mono ?_;rintro e x9 ⟨rfl,bb⟩;have G9:=hE0 bb;clear bb HSF G2;go_wp2
 go_ret
 exact⟨rfl,G9.out⟩
end
theorem adU{bs:List UInt8}{k v j u:Nat}(h:abl bs k v j u=false):aao bs v (k:Int)=false\/(aaf bs (v+j):Int)≠(u:Int):=by
 unfold abl at h;rw[Bool.and_eq_false_iff,beq_eq_false_iff_ne]at h;rcases h with h | h
 · exact .inl h
 · exact .inr (by omega)
theorem aeo{bs:List UInt8}{k v j u:Nat}(h:abl bs k v j u=true):¬(aao bs v (k:Int)=false\/(aaf bs (v+j):Int)≠(u:Int)):=by
 unfold abl at h;rw[Bool.and_eq_true,beq_iff_eq]at h;rintro(h1 | h1)
 · rw[h.1]at h1;cases h1
 · exact h1 (by omega)
theorem ard (bs:List UInt8) (o v e k:Nat) (h1:o+8<=e) (h2:e+8<=bs.length):lyN (lyN bs e k) o v=lyN (lyN bs o v) e k:=by
 have:=ajw bs o v e k h1 h2;simpa only[aia]using this
theorem atX:auY:=by
 intro w g base cap c A bs o y h hb hl ho hy;subst hy;rcases aef bs o with hk | ⟨k,hk⟩
 · have e:aee bs o=none:=by unfold aee;rw[if_pos hk]
   rw[e];exact arc h hb _ rfl hl o ho hk
 · obtain⟨q184,q32,k22⟩:=aa0 hk;obtain⟨q,rfl⟩:∃q:Nat,o=(q:Int):=⟨o.toNat,by omega⟩;obtain⟨f,hf⟩:=nmE (aaf bs (8+8*k));obtain⟨m,hm⟩:=nmE (aaf bs (q+8));obtain⟨p,hp⟩:=nmE (aaf bs (q+16));have e:aee bs (q:Int)=if p=0/\(f:Int)≠(q:Int) then none
    else if p≠0/\(aao bs p (k:Int)=false\/(aaf bs (p+8):Int)≠(q:Int)) then none
    else if m≠0/\(aao bs m (k:Int)=false\/(aaf bs (m+16):Int)≠(q:Int)) then none
    else some (abB (if p≠0/\(f:Int)=(q:Int) then lyN (if m≠0 then lyN (if p=0 then lyN bs (8+8*k) m else lyN bs (p+8) m) (m+16) p else (if p=0 then lyN bs (8+8*k) m else lyN bs (p+8) m)) (8+8*k) m else (if m≠0 then lyN (if p=0 then lyN bs (8+8*k) m else lyN bs (p+8) m) (m+16) p else (if p=0 then lyN bs (8+8*k) m else lyN bs (p+8) m))) k):=by
    unfold aee;rw[hk,if_neg (by omega)];simp only[Int.toNat_natCast,hf,hm,hp]
   rw[e];by_cases hp0:p=0
   · by_cases hfq:f=q
     · rw[if_neg (by omega),if_neg (by omega)];by_cases hm0:m=0
       · rw[if_neg (by omega),if_neg (by omega),if_neg (by omega),if_pos hp0];exact ao7 h hb _ rfl hl q k f m p hk hf hm hp hp0 hfq hm0
       · cases hmh:abl bs k m 16 q with
         | false=>
          rw[if_pos ⟨hm0,adU hmh⟩];exact akT h hb _ rfl hl q k f m p hk hf hm hp hp0 hfq hm0 hmh
         | true=>
          have hin:=aaK (abo hmh);rw[if_neg (fun h=>aeo hmh h.2),if_neg (by omega),if_pos hm0,if_pos hp0,<-ard bs (8+8*k) m (m+16) p (by omega) (by omega)];exact ao8 h hb _ rfl hl q k f m p hk hf hm hp hp0 hfq hm0 hmh
     · rw[if_pos ⟨hp0,by omega⟩];exact akS h hb _ rfl hl q k f m p hk hf hm hp hp0 hfq
   · rw[if_neg (fun h=>hp0 h.1)]
     cases hph:abl bs k p 8 q with
     | false=>
      rw[if_pos ⟨hp0,adU hph⟩];exact ana h hb _ rfl hl q k f m p hk hf hm hp hp0 hph
     | true=>
      have hpin:=aaK (abo hph);rw[if_neg (fun h=>aeo hph h.2)];by_cases hm0:m=0
      · rw[if_neg (fun h=>h.1 hm0)];by_cases hfq:f=q
        · rw[if_pos ⟨hp0,by omega⟩,if_neg (fun h=>h hm0),if_neg hp0];exact ao9 h hb _ rfl hl q k f m p hk hf hm hp hp0 hph hm0 hfq
        · rw[if_neg (fun h=>hfq (by omega)),if_neg (fun h=>h hm0),if_neg hp0];have e2:lyN (lyN bs (p+8) m) (8+8*k) f=lyN bs (p+8) m:=by
           have h1:aaf (lyN bs (p+8) m) (8+8*k)=f:=by rw[aax _ _ _ _ (by omega) (by omega)];exact hf
           rw[<-h1];exact ah3 _ _ (by rw[aah _ _ _ (by omega)];omega)
          have:=apb h hb _ rfl hl q k f m p hk hf hm hp hp0 hph hm0 hfq;rw[e2]at this;exact this
      · cases hmh:abl bs k m 16 q with
        | false=>
         rw[if_pos ⟨hm0,adU hmh⟩];exact akU h hb _ rfl hl q k f m p hk hf hm hp hp0 hph hm0 hmh
        | true=>
         have hin:=aaK (abo hmh);rw[if_neg (fun h=>aeo hmh h.2)];by_cases hfq:f=q
         · rw[if_pos ⟨hp0,by omega⟩,if_pos hm0,if_neg hp0];exact apa h hb _ rfl hl q k f m p hk hf hm hp hp0 hph hm0 hmh hfq
         · rw[if_neg (fun h=>hfq (by omega)),if_pos hm0,if_neg hp0];have hl1:(lyN bs (p+8) m).length=bs.length:=aah _ _ _ (by omega);have e2:lyN (lyN (lyN bs (p+8) m) (m+16) p) (8+8*k) f=lyN (lyN bs (p+8) m) (m+16) p:=by
            have h1:aaf (lyN (lyN bs (p+8) m) (m+16) p) (8+8*k)=f:=by rw[aax _ _ _ _ (by omega) (by omega),aax _ _ _ _ (by omega) (by omega)];exact hf
            rw[<-h1];exact ah3 _ _ (by rw[aah _ _ _ (by omega)];omega)
           have:=apc h hb _ rfl hl q k f m p hk hf hm hp hp0 hph hm0 hmh hfq;rw[e2]at this;exact this
end Go.Proofs.YtncadccbepjekaaGreatDoor
