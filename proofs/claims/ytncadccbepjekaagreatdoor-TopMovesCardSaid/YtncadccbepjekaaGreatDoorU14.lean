/- Texts of mine, joined. -/
import Derived.Deep.Cut
import Derived.Great.BuildSlice
import Derived.Deep.Grids
import Derived.Deep.Fields
import Derived.Lib.SmallJoins
import Derived.Test.YtncadccbepjekaaGreatDoorU9
import Derived.Test.YtncadccbepjekaaGreatDoorU10
set_option maxRecDepth 100000
set_option maxHeartbeats 8000000
namespace Go.Proofs.YtncadccbepjekaaGreatDoor
open Go.RowKit
theorem apA (n:Int):((auu n:Nat):Int)=n%18446744073709551616:=by unfold auu;omega
theorem afa (w:World) (n:Int) (hn: -9223372036854775808<=n/\n<=9223372036854775807) (A1 A2:Option Addr) (k1 k2:Nat) (l:List Rk) (d:List (List UInt8)) (hr:RkRd w w.heap.size A1 l) (hd:DtRd w w.heap.size A2 d) (hl:l.length<=1000000) (hdl:d.length<=1000000) (y:Bool) (hy:adR n l d=y):
 Calls Tryz.prog 118 #[imV n A1 l.length k1 A2 d.length k2] w fun e w'=>e= .returned (.bool y)/\Below w.heap.size w w':=by
 unfold imV;obtain⟨w1,hw1⟩:=nmE (w.alloc (.cells #[.int .i64 n, .slice A1 l.length k1, .slice A2 d.length k2] 107));have hb1:=abE hw1;have n1:=anE hw1;obtain⟨d0,d1,d2⟩:=aal n1;have hl1:=aaa n1;have HLEN:Hid (∀W,Calls Tryz.prog 178 #[.int .u64 (n%18446744073709551616)] W fun e w'=>e= .returned (.bool (ab0 n))/\W=w'):=fun W=>by
  have h:=agI W (auu n) (by unfold auu;omega) (ab0 n) (ao8 n hn);rw[apA]at h;exact h
 have HB1:=hE0 hb1;have HR:=hE0 hr;have HD:=hE0 hd;have HY:=hE0 hy;obtain⟨ll,hll⟩:=nmE l.length;obtain⟨dl,hdll⟩:=nmE d.length;have HROW:Hid (ab0 n=true->Calls Tryz.prog 179 #[.slice A1 ll k1, .int .i64 n] w1 fun e w'=>e= .returned (.bool (abh n 184 false l))/\Below w1.heap.size w1 w'):=fun hk=>by
  have h3:=(aaT n).1 hk;have:=aj0 w1 A1 k1 l ((hr.below hb1).more hb1.size) hl n ⟨h3.1,h3.2.1⟩ _ rfl;rw[hll]at this;exact this
 have HDAT:Hid (∀W,Below w.heap.size w W->abh n 184 false l=true->Calls Tryz.prog 180 #[.slice A2 dl k2, .slice A1 ll k1] W fun e w'=>e= .returned (.bool (datOk l d))/\Below W.heap.size W w'):=fun W hW hk=>by
  have:=ao9 W A1 A2 k1 k2 l d ((hr.below hW).more hW.size) ((hd.below hW).more hW.size) hl hdl (ae3 hk) _ rfl;rw[hll,hdll]at this;exact this
 rw[hll]at d1;rw[hdll]at d2;rw[hll,hdll];rw[hll,hdll]at hw1 n1;have HN1:=hE0 n1;have HW1:=hE0 hw1;clear hw1 hb1 n1 hr hd hy hll hdll
 cases hlo:ab0 n with
 | false=>
  have HF:Hid (false=y):=(show false=y by rw[<-HY.out];unfold adR;rw[hlo];rfl);rw[hlo]at HLEN;clear hlo;go_enter Tryz.func118,Tryz.ntmps118
  go_wp2_with (first | (rw[HW1.out]) | fail)
  refine(HLEN.out _).mono ?_;rintro e w2 ⟨rfl,rfl⟩;go_wp2
  go_ret
  exact⟨abk HF.out,HB1.out⟩
 | true=>
  have HROW2:=hE0 (HROW.out hlo);rw[hlo]at HLEN
  cases hro:abh n 184 false l with
  | false=>
   have HF:Hid (false=y):=(show false=y by rw[<-HY.out];unfold adR;rw[hlo,hro];rfl);rw[hro]at HROW2;clear hlo hro;go_enter Tryz.func118,Tryz.ntmps118
   go_wp2_with (first | (rw[HW1.out]) | fail)
   refine(HLEN.out _).mono ?_;rintro e w2 ⟨rfl,rfl⟩;go_wp2_with fail
   refine HROW2.out.mono ?_;rintro e w2 ⟨rfl,hb2⟩;have HF2:=hE0 (HB1.out.trans (hb2.mono HB1.out.size));clear hb2;go_wp2
   go_ret
   exact⟨abk HF.out,HF2.out⟩
  | true=>
   have HDAT2:=hE0 (fun W hW=>HDAT.out W hW hro);have HF:Hid (datOk l d=y):=(show datOk l d=y by rw[<-HY.out];unfold adR;rw[hlo,hro];rfl);rw[hro]at HROW2;clear hlo hro;go_enter Tryz.func118,Tryz.ntmps118
   go_wp2_with (first | (rw[HW1.out]) | fail)
   refine(HLEN.out _).mono ?_;rintro e w2 ⟨rfl,rfl⟩;go_wp2_with fail
   refine HROW2.out.mono ?_;rintro e w2 ⟨rfl,hb2⟩;have hb02:=HB1.out.trans (hb2.mono HB1.out.size);have HD3:=hE0 (HDAT2.out w2 hb02);have n2:=(hb2.block _ (aaa HN1.out)).trans HN1.out;obtain⟨e0,e1,e2⟩:=aal n2;have hl2:=aaa n2;have HF2:=hE0 hb02;clear hb2 hb02 n2;go_wp2_with fail
   refine HD3.out.mono ?_;rintro e w3 ⟨rfl,hb3⟩;have HF3:=hE0 (HF2.out.trans (hb3.mono HF2.out.size));clear hb3;go_wp2
   go_ret
   exact⟨abk HF.out,HF3.out⟩
theorem ab7{w w':World}{B' base n size:Nat}{t:TypeId}{v:Value}{xs:List Value}(h:w.ownsRow base t size v n xs) (hb:Below B' w w') (hlt:∀k,v.ownBlock=some k->k<B'):w'.ownsRow base t size v n xs:=by
 refine⟨h.1,?_⟩;rcases h.2 with h2 | ⟨g,cap,cur,hv,hg,hh,r⟩
 · exact .inl h2
 · exact .inr ⟨g,cap,cur,hv,hg,(hb.block g (hlt g (by rw[hv];rfl))).trans hh,r⟩
theorem acO{w w':World}{base n size:Nat}{t:TypeId}{v:Value}{xs:List Value}{r:Option Nat}(h:w.ownsRow base t size v n xs) (hg:w.grownBy w' r) (hne:∀k,v.ownBlock=some k->r≠some k):w'.ownsRow base t size v n xs:=by
 refine⟨h.1,?_⟩;rcases h.2 with h2 | ⟨g,cap,cur,hv,hb,hh,q⟩
 · exact .inl h2
 · have hk:v.ownBlock=some g:=by rw[hv];rfl
   refine .inr ⟨g,cap,cur,hv,hb,?_,q⟩;obtain⟨_,_,_,_,h5⟩:=hg;exact(h5 g (h.lt g hk).2 (fun e=>hne g hk e.symm)).trans hh
theorem acY{w:World}{base base' n size:Nat}{t:TypeId}{v:Value}{xs:List Value}(h:w.ownsRow base t size v n xs) (hb:base'<=base):w.ownsRow base' t size v n xs:=by
 refine⟨h.1,?_⟩;rcases h.2 with h2 | ⟨g,cap,cur,hv,hg,r⟩
 · exact .inl h2
 · exact .inr ⟨g,cap,cur,hv,Nat.le_trans hb hg,r⟩
theorem aeJ{w:World}{base n size:Nat}{t:TypeId}{v:Value}{xs:List Value}(h:w.ownsRow base t size v n xs):∃A c,v= .slice A n c/\(A=none->c=0):=by
 rcases h.2 with⟨rfl,h0⟩ | ⟨g,cap,cur,rfl,_⟩
 · exact⟨none,0,by rw[h0],fun _=>rfl⟩
 · exact⟨_,cap,rfl,fun e=>by cases e⟩
theorem ab8{w:World}{base n c:Nat}{A:Option Addr}{bs:List UInt8}(h:w.ownsRow base 5 1 (.slice A n c) n (bs.map bv)):Rd w w.heap.size A n bs:=by
 obtain⟨A',c',e,_,hr⟩:=agx h;injection e with e1 _ _;subst e1;exact hr
theorem anP (n:Nat) (l:List Rk) (d:List (List UInt8)):ah0 n l++d.flatten++ahZ d.flatten=akX n l d:=by
 unfold akX agd;rw[List.drop_left' rfl]
theorem anQ (n:Nat) (l:List Rk) (d:List (List UInt8)):akX n l d++ahZ (akX n l d)=aaH n l d:=by unfold aaH agd;rw[List.drop_zero]
theorem amM (n:Nat) (l:List Rk) (d:List (List UInt8)):(akX n l d).length=36+8*l.length+d.flatten.length:=by
 rw[<-anP,List.length_append,List.length_append,ady,ab6];omega
theorem afD (n:Nat) (l:List Rk) (d:List (List UInt8)):(aaH n l d).length=40+8*l.length+d.flatten.length:=by
 rw[<-anQ,List.length_append,amM,ab6];omega
theorem arK (l:List Rk) (j:Nat):(acw (l.take j)).length<=8*l.length:=by rw[ad2,List.length_take];omega
section
variable {P:Program}
theorem aka (v:World) (t e:TypeId) (g:Nat) (C:Array Value) (n c:Nat) (ht:P.underlying t=some (.slice e)) (he:P.underlying e=some (.int .u8)) (hg:v.heap[g]?=some (.cells C e (0,0))):
 ∃v',(convert t t (.slice (some ⟨g,0,none⟩) n c)).run P v= .ok (.slice (some ⟨g,0,none⟩) n c) v'/\v'.heap[g]?=some (.cells C e (C.size,C.size+1))/\v'.heap.size=v.heap.size/\(∀k,k≠g->v'.heap[k]?=v.heap[k]?)/\∀B,B<=g->Below B v v':=by
 have hsh:v.shape? g=some (e,C.size):=by
  unfold World.shape?;rw[hg]
 refine⟨v.freeze ⟨g,C.size,none⟩ 1,?_,?_,?_,fun k hk=> ?_,fun B hB=> ?_⟩
 · simp[convert,run_underlying ht,run_underlying he,markStringish,hsh]
 · unfold World.freeze;rw[if_neg (by decide)];show(v.heap.modify g _)[g]?=_;rw[Array.getElem?_modify,if_pos rfl,hg];rfl
 · unfold World.freeze;rw[if_neg (by decide)];simp
 · unfold World.freeze;rw[if_neg (by decide)];show(v.heap.modify g _)[k]?=_;rw[Array.getElem?_modify,if_neg (fun e=>hk e.symm)]
 · unfold World.freeze;rw[if_neg (by decide)];refine⟨rfl,rfl,rfl,by simp,fun k hk=> ?_⟩;show(v.heap.modify g _)[k]?=_;rw[Array.getElem?_modify,if_neg (by omega)]
theorem amN{o:Oper}{a:Act}{w w1:World}{f t:TypeId}{x:Operand}{V V':Value}(ho:o.op= .convert f t x) (hx:a.eval x=V) (h:(convert f t V).run P w= .ok V' w1):(execOp a.eval o).run P w= .ok (.value V') w1:=by
 unfold execOp;simp only[ho];rw[hx,Sem.run_bind,h];rfl
end
theorem acs{w:World}{g:Nat}{t:TypeId}{fz:Nat × Nat}{bs:List UInt8}(h:w.heap[g]?=some (.cells (acd bs) t fz)):Rd w w.heap.size (some ⟨g,0,none⟩) bs.length bs:=by
 have hlt:g<w.heap.size:=by
  rcases Nat.lt_or_ge g w.heap.size with h' | h'
  · exact h'
  · rw[Array.getElem?_eq_none h']at h;cases h
 refine⟨rfl,fun _=>⟨g,0,rfl,hlt,fun j u hu=> ?_⟩⟩;rw[Nat.zero_add,cell_of_row w g j _ _ fz h];unfold acd;simp[hu];rfl
theorem agi{w:World}{g:Nat}{cs:Array Value}{t:TypeId}{fz:Nat × Nat}(h:w.heap[g]?=some (.cells cs t fz)):g<w.heap.size:=by
 rcases Nat.lt_or_ge g w.heap.size with h' | h'
 · exact h'
 · rw[Array.getElem?_eq_none h']at h;cases h
theorem arL (w:World):(Instr.buildSlice 37 8 #[(0, .int .u8 67),(1, .int .u8 78),(2, .int .u8 84),(3, .int .u8 76),(4, .int .u8 1),(5, .int .u8 0),(6, .int .u8 0),(7, .int .u8 0)]).run Tryz.prog w= .ok (.slice (some ⟨w.heap.size,0,none⟩) 8 8) (w.alloc (.cells (acd imMarkB) 5)):=by
 have e:acd imMarkB= #[.int .u8 67, .int .u8 78, .int .u8 84, .int .u8 76, .int .u8 1, .int .u8 0, .int .u8 0, .int .u8 0]:=by rfl
 rw[e];simp[go_sem]
theorem apB (w:World) (A B C:Option Addr) (a b c d e f:Nat):(Instr.buildSlice 57 3 #[(0, .slice A a b),(1, .slice B c d),(2, .slice C e f)]).run Tryz.prog w= .ok (.slice (some ⟨w.heap.size,0,none⟩) 3 3) (w.alloc (.cells #[.slice A a b, .slice B c d, .slice C e f] 37)):=by
 simp[go_sem]
theorem arM{w:World}{g:Nat}{A B C:Option Addr}{a b c:Nat}{x y z:List UInt8}(hg:w.heap[g]?=some (.cells #[.slice A x.length a, .slice B y.length b, .slice C z.length c] 37 (0,0)))
 (hx:Rd w w.heap.size A x.length x) (hy:Rd w w.heap.size B y.length y) (hz:Rd w w.heap.size C z.length z) (ha:x.length<=a/\(A=none->a=0)) (hb:y.length<=b/\(B=none->b=0)) (hc:z.length<=c/\(C=none->c=0)) (hl:x.length<=maxLen/\y.length<=maxLen/\z.length<=maxLen):
 DtRd w w.heap.size (some ⟨g,0,none⟩) [x,y,z]:=fun _=>by
 obtain⟨c0,c1,c2⟩:=aal hg;refine⟨g,0,rfl,aaa hg,fun j u hu=> ?_⟩;match j,hu with
 | 0,hu=>injection hu with hu;subst hu;exact⟨A,a,c0,hx,hl.1,ha⟩
 | 1,hu=>injection hu with hu;subst hu;exact⟨B,b,c1,hy,hl.2.1,hb⟩
 | 2,hu=>injection hu with hu;subst hu;exact⟨C,c,c2,hz,hl.2.2,hc⟩
 | j+3,hu=>cases hu
theorem anR (n ll:Nat) (w8:World) (r a b c:Nat) (n8:w8.heap[r]?=some (.cells #[.slice (some ⟨a,0,none⟩) 8 8, .slice (some ⟨b,0,none⟩) 8 8, .slice (some ⟨c,0,none⟩) 8 8] 37 (0,0)))
 (h1:Rd w8 w8.heap.size (some ⟨a,0,none⟩) imMarkB.length imMarkB) (h2:Rd w8 w8.heap.size (some ⟨b,0,none⟩) (aaF 8 n).length (aaF 8 n)) (h3:Rd w8 w8.heap.size (some ⟨c,0,none⟩) (aaF 8 ll).length (aaF 8 ll)):
 Calls Tryz.prog 119 #[.slice (some ⟨r,0,none⟩) 3 3] w8 fun e w'=>∃v,e= .returned v/\w'.ownsRow w8.heap.size 5 1 v 24 ((aey n ll).map bv)/\Below w8.heap.size w8 w':=by
 have hd8:DtRd w8 w8.heap.size (some ⟨r,0,none⟩) [imMarkB,aaF 8 n,aaF 8 ll]:=by
  refine arM (a:=8) (b:=8) (c:=8) (A:=some ⟨a,0,none⟩) (B:=some ⟨b,0,none⟩) (C:=some ⟨c,0,none⟩) ?_ h1 h2 h3 ⟨Nat.le_refl _,fun e=>by cases e⟩ ⟨by rw[aag];exact Nat.le_refl _,fun e=>by cases e⟩ ⟨by rw[aag];exact Nat.le_refl _,fun e=>by cases e⟩ ⟨by unfold maxLen imMarkB;simp,by rw[aag];unfold maxLen;omega,by rw[aag];unfold maxLen;omega⟩;rw[aag,aag];exact n8
 have hc8:=afx w8 (some ⟨r,0,none⟩) 3 [imMarkB,aaF 8 n,aaF 8 ll] hd8 (by simp) (by simp[imMarkB,aag]);have e8:([imMarkB,aaF 8 n,aaF 8 ll]:List (List UInt8)).flatten=aey n ll:=by unfold aey;simp
 rw[e8,ae4]at hc8;exact hc8
def imR (B n ll:Nat) (i:Nat) (D:Nat->Prop) (v:Value) (w:World):Prop:=match i with
 | 0=>¬D 1->∃r,v= .slice (some ⟨r,0,none⟩) 8 8/\B<=r/\w.heap[r]?=some (.cells (acd imMarkB) 5 (0,0))
 | 1=>∃r,v= .slice (some ⟨r,0,none⟩) 8 8/\Rd w w.heap.size (some ⟨r,0,none⟩) imMarkB.length imMarkB
 | 5=>∃r,v= .slice (some ⟨r,0,none⟩) 8 8/\Rd w w.heap.size (some ⟨r,0,none⟩) (aaF 8 n).length (aaF 8 n)
 | 10=>∃r,v= .slice (some ⟨r,0,none⟩) 8 8/\Rd w w.heap.size (some ⟨r,0,none⟩) (aaF 8 ll).length (aaF 8 ll)
 | 11=>D 1/\∃r a b c,v= .slice (some ⟨r,0,none⟩) 3 3/\w.heap[r]?=some (.cells #[.slice (some ⟨a,0,none⟩) 8 8, .slice (some ⟨b,0,none⟩) 8 8, .slice (some ⟨c,0,none⟩) 8 8] 37 (0,0))/\
  Rd w w.heap.size (some ⟨a,0,none⟩) imMarkB.length imMarkB/\Rd w w.heap.size (some ⟨b,0,none⟩) (aaF 8 n).length (aaF 8 n)/\Rd w w.heap.size (some ⟨c,0,none⟩) (aaF 8 ll).length (aaF 8 ll)
 | 12=>D 11/\w.ownsRow B 5 1 v 24 ((aey n ll).map bv)
 | _=>True
def imI:List Nat:= [0,1,5,10,11,12]
def awb (i:Nat):List Nat:=match i with
 | 1=> [0]
 | 10=> [5]
 | 11=> [1,5,10]
 | 12=> [11]
 | _=> []
theorem arN{B n ll:Nat}{D D':Nat->Prop}{v:Value}{w w':World}(hD:∀k,D k->D' k) (hb:Below w.heap.size w w'){i:Nat}(hi:i∈imI) (h:imR B n ll i D v w):imR B n ll i D' v w':=by
 have k:∀{A:Option Addr} {m:Nat} {bs:List UInt8},Rd w w.heap.size A m bs->Rd w' w'.heap.size A m bs:=fun h=>(h.below hb).more hb.size;unfold imI at hi;simp only[List.mem_cons,List.not_mem_nil,or_false]at hi;rcases hi with rfl | rfl | rfl | rfl | rfl | rfl
 · exact fun h1=>(h fun x=>h1 (hD 1 x)).imp fun r h=>⟨h.1,h.2.1,(hb.block _ (agi h.2.2)).trans h.2.2⟩
 · exact h.imp fun r h=>⟨h.1,k h.2⟩
 · exact h.imp fun r h=>⟨h.1,k h.2⟩
 · exact h.imp fun r h=>⟨h.1,k h.2⟩
 · obtain⟨h0,r,a,b,c,h1,h2,h3,h4,h5⟩:=h;exact⟨hD 1 h0,r,a,b,c,h1,(hb.block _ (agi h2)).trans h2,k h3,k h4,k h5⟩
 · exact⟨hD 11 h.1,acG h.2 hb⟩
theorem aiZ (w:World) (n:Nat) (hn:n<9223372036854775808) (A1 A2:Option Addr) (k1 k2:Nat) (l:List Rk) (d:List (List UInt8)) (hr:RkRd w w.heap.size A1 l) (hd:DtRd w w.heap.size A2 d) (hl:l.length<=1000) (hdl:d.length<=1000) (hfl:d.flatten.length<=100000) (hm:adR (n:Int) l d=true):
 Calls Tryz.prog 59 #[imV (n:Int) A1 l.length k1 A2 d.length k2] w fun e w'=>∃A c,e= .returned (.tuple #[.slice A (aaH n l d).length c, .nilIface])/\w'.ownsRow w.heap.size 5 1 (.slice A (aaH n l d).length c) (aaH n l d).length ((aaH n l d).map bv)/\Below w.heap.size w w':=by
 rw[afD];have HPT:=hE0 (fun j=>arK l j);have HFT:=hE0 (fun j=>Nat.le_trans (ae5 d j) hfl);have HTL:=hE0 (ad2 l);obtain⟨fl,hfl'⟩:∃fl,d.flatten.length=fl:=⟨_,rfl⟩;rw[hfl']at hfl;rw[hfl'];have HFL:=hE0 hfl';have HAL:=hE0 (age n l.length);have HTTL:=hE0 (ady n l);have HDL2:=hE0 (amM n l d);obtain⟨w1,hw1⟩:=nmE (w.alloc (.cells #[.int .i64 (n:Int), .slice A1 l.length k1, .slice A2 d.length k2] 107));have hb1:=abE hw1;have n1:=anE hw1;have HM:=hE0 (afa w1 (n:Int) (by omega) A1 A2 k1 k2 l d ((hr.below hb1).more hb1.size) ((hd.below hb1).more hb1.size) (by omega) (by omega) _ hm);unfold imV at HM ⊢;obtain⟨ll,hll⟩:=nmE l.length;obtain⟨dl,hdll⟩:=nmE d.length;have HLL:=hE0 hll;have HDLL:=hE0 hdll;have HPTE:Hid (agd (alf n ll++acw l) 28=ah0 n l):=(show _=_ by rw[<-hll];rfl);obtain⟨T,hT⟩:=nmE ((ah0 n l).length);have HTL2:=hE0 hT;have HPDE:Hid (agd (ah0 n l++d.flatten) T=akX n l d):=(show _=_ by rw[<-hT];rfl);have HTE:Hid (28+8*ll+4=T):=(show _=_ by rw[<-hT,ady,hll];omega);rw[hll]at hl HPT HTL HAL HTTL HDL2;rw[hfl']at HDL2;rw[hdll]at hdl;rw[hll,hdll]at n1 hw1 HM;rw[hll,hdll];obtain⟨d0,d1,d2⟩:=aal n1;have hl1:=aaa n1;have HB1:=hE0 hb1;have HW1:=hE0 hw1;have HR:=hE0 ((hr.below hb1).more hb1.size);have HD:=hE0 ((hd.below hb1).more hb1.size);have HN1:=hE0 n1;clear hw1 hb1 n1 hr hd hll hdll hfl' hm;go_enter Tryz.func59,Tryz.ntmps59
 go_wp2_with (first | (rw[HW1.out]) | fail)
 refine HM.out.mono ?_;rintro e w2 ⟨rfl,hb2⟩;obtain⟨wd,hwd⟩:=nmE w2.drew;have hbd:Below w1.heap.size w1 wd:=by rw[<-hwd];exact hb2.drew
 have nd:=(hbd.block _ (aaa HN1.out)).trans HN1.out;obtain⟨c0,c1,c2⟩:=aal nd;have hld:=aaa nd;have HBD:=hE0 hbd;have HWD:=hE0 hwd;have HND:=hE0 nd;have HPUT:=hE0 (fun W v (hv:v<18446744073709551616)=>agC v W hv);clear hb2 hwd hbd nd d0 d1 d2 HM;go_wp2_with fail
 go_cut [4] from 10 (fun b wx=>wx.ownsRow wd.heap.size 5 1 b 24 ((aey n ll).map bv)/\Below wd.heap.size wd wx)
 case first=>
  refine ac4 wd.heap.size (.two [2,3,4,6,7,8,9] 0 (.two [] 1 (.one [] 5 (.one [] 10 (.one [] 11 (.one [] 12 (.fin [13]))))) 5 (.two [] 1 (.one [] 10 (.one [] 11 (.one [] 12 (.fin [13])))) 10 (.one [] 1 (.one [] 11 (.one [] 12 (.fin [13])))))) 5 (.two [] 0 (.two [] 1 (.one [] 10 (.one [] 11 (.one [] 12 (.fin [13])))) 10 (.one [] 1 (.one [] 11 (.one [] 12 (.fin [13]))))) 10 (.one [] 0 (.one [] 1 (.one [] 11 (.one [] 12 (.fin [13]))))))) [] (by kernel_rfl) (by kernel_rfl) (by kernel_rfl) (fun _ _ _ _ _ h=>h) ?_;rw[HWD.out];have q0:=tfE c0 hld;have q1:=tfE c1 hld;refine aeU (l:= ?segA) ?hsegA ?_
  case hsegA=>simp only[pick,lE1,lE2,lE3];rfl
  repeat (go_big_quiet_step (fail))
  refine wpQuiet_nil ?_;clear q0 q1;refine amt (PT.any_inv (I:=imI) (d:=fun i=>14+i) (dp:=awb) (Inv:=fun D f w=>∀j,D j->imR wd.heap.size n ll j D (f j) w) (w0:=wd) (last:= [13]) (fun i _ j _ e=>Nat.add_left_cancel (show 14+i=14+j from e)) (fun i hi=>ams fun dn f W hn hI hdp hR hb=> ?_) (fun f W hI hb=> ?_) _ [] (fun _=>undef) wd (by kernel_rfl) (fun _ h=>by cases h) (fun _ h=>by cases h) (Below.refl _ _))
  · have hk:∀w',Below W.heap.size W w'->∀j∈dn,imR wd.heap.size n ll j (fun j=>j=i\/j∈dn) (f j) w':=fun w' b j hj=>arN (fun k h=> .inr h) b (hI j hj) (hR j hj);generalize hX:abg (fun i=>14+i) f dn _=X;have ev:∀j∈dn,j<13->X.eval (.tmp (14+j))=f j:=fun j hj h13=>by
     rw[<-hX];exact ahR (d:=fun i=>14+i) (I:=imI) (fun i _ j _ e=>Nat.add_left_cancel (show 14+i=14+j from e)) hI hj _ (by show 14+j<_;simp;omega)
    have old:=fun(t:Nat) (ht:∀i∈imI,14+i≠t)=>ajK (d:=fun i=>14+i) (f:=f) (l:=dn) (t:=t) fun i hi=>ht i (hI i hi);unfold imI at hi;simp only[List.mem_cons,List.not_mem_nil,or_false]at hi;rcases hi with rfl | rfl | rfl | rfl | rfl | rfl
    · have hb1:Below W.heap.size W (W.alloc (.cells (acd imMarkB) 5)):=(Below.refl _ _).alloc (Nat.le_refl _) _;exact ab3 (some 14) (w1:=W.alloc (.cells (acd imMarkB) 5)) (v:= .slice (some ⟨W.heap.size,0,none⟩) 8 8) rfl rfl rfl (acD rfl rfl (arL W)) (hb1.mono hb.size) ⟨wd.heap.size,Nat.le_refl _,_,rfl,fun _=>⟨W.heap.size,rfl,hb.size,heap_alloc_new W _⟩,hk _ hb1⟩
    · have h0:=hdp 0 (by decide);obtain⟨r,e,hr,hg⟩:=hR 0 h0 hn;obtain⟨v',hrun,fm,sz,kp,bl⟩:=aka (P:=Tryz.prog) W 37 5 r (acd imMarkB) 8 8 Tryz.underlying37 Tryz.underlying5 hg;have k:∀{A:Option Addr} {m:Nat} {bs:List UInt8},Rd W W.heap.size A m bs->Rd v' v'.heap.size A m bs:=fun h=>by
       rw[sz];refine h.keep fun p _=> ?_;by_cases ep:p.block=r
       · obtain⟨pb,po,ps⟩:=p;dsimp only at ep;subst ep;simp[World.cell?,hg,fm]
       · exact World.cell?_of_block (kp _ ep)
      refine ab3 (some 15) rfl rfl rfl (amN rfl ((ev 0 h0 (by omega)).trans e) hrun) (bl wd.heap.size hr) ⟨wd.heap.size,Nat.le_refl _,_,rfl,⟨r,rfl,acs fm⟩,fun j hj=> ?_⟩;have hj2:=hI j hj;unfold imI at hj2;simp only[List.mem_cons,List.not_mem_nil,or_false]at hj2;rcases hj2 with rfl | rfl | rfl | rfl | rfl | rfl
      · exact fun h=>absurd (.inl rfl) h
      · exact absurd hj hn
      · exact(hR 5 hj).imp fun r h=>⟨h.1,k h.2⟩
      · exact(hR 10 hj).imp fun r h=>⟨h.1,k h.2⟩
      · exact absurd (hR 11 hj).1 hn
      · exact absurd (hR 11 (hR 12 hj).1).1 hn
    · refine aau (vs:= #[.int .u64 (n:Int)]) Tryz.call120 rfl rfl (congrArg (fun x=> [x]) (by rw[<-hX];exact old 18 (by decide) _)) (R:=fun r w'=>(∃x,r= .slice (some ⟨x,0,none⟩) 8 8/\Rd w' w'.heap.size (some ⟨x,0,none⟩) (aaF 8 n).length (aaF 8 n))/\Below W.heap.size W w') ((HPUT.out W n (by omega)).mono ?_) wd.heap.size (Nat.le_refl _) ?_
      · rintro e w' ⟨rfl,hf,hb'⟩;exact⟨_,rfl,hb'.mono hb.size,⟨_,rfl,acs hf⟩,hb'⟩
      · rintro r w' _ ⟨hx,hb'⟩;exact⟨_,rfl,hx,hk _ hb'⟩
    · refine aau (vs:= #[.int .u64 (ll:Int)]) Tryz.call120 rfl rfl (congrArg (fun x=> [x]) (by rw[<-hX];exact old 23 (by decide) _)) (R:=fun r w'=>(∃x,r= .slice (some ⟨x,0,none⟩) 8 8/\Rd w' w'.heap.size (some ⟨x,0,none⟩) (aaF 8 ll).length (aaF 8 ll))/\Below W.heap.size W w') ((HPUT.out W ll (by omega)).mono ?_) wd.heap.size (Nat.le_refl _) ?_
      · rintro e w' ⟨rfl,hf,hb'⟩;exact⟨_,rfl,hb'.mono hb.size,⟨_,rfl,acs hf⟩,hb'⟩
      · rintro r w' _ ⟨hx,hb'⟩;exact⟨_,rfl,hx,hk _ hb'⟩
    · have h1:=hdp 1 (by decide);have h5:=hdp 5 (by decide);have h10:=hdp 10 (by decide);obtain⟨a,ea,ra⟩:=hR 1 h1;obtain⟨b,eb,rb⟩:=hR 5 h5;obtain⟨c,ec,rc⟩:=hR 10 h10;obtain⟨w8,hw8⟩:=nmE (W.alloc (.cells #[.slice (some ⟨a,0,none⟩) 8 8, .slice (some ⟨b,0,none⟩) 8 8, .slice (some ⟨c,0,none⟩) 8 8] 37));have hb8:=abE hw8;have n8:=anE hw8;have k:∀{A:Option Addr} {m:Nat} {bs:List UInt8},Rd W W.heap.size A m bs->Rd w8 w8.heap.size A m bs:=fun h=>(h.below hb8).more hb8.size;have x1:X.eval (.tmp 15)=_:=(ev 1 h1 (by omega)).trans ea;have x5:X.eval (.tmp 19)=_:=(ev 5 h5 (by omega)).trans eb;have x10:X.eval (.tmp 24)=_:=(ev 10 h10 (by omega)).trans ec;refine ab3 (some 25) (w1:=w8) (v:= .slice (some ⟨W.heap.size,0,none⟩) 3 3) rfl rfl rfl (by rw[<-hw8];exact acD rfl (by simp only[List.map_cons,List.map_nil];rw[x1,x5,x10]) (apB W _ _ _ _ _ _ _ _ _)) (hb8.mono hb.size) ⟨wd.heap.size,Nat.le_refl _,_,rfl,⟨.inr h1,W.heap.size,a,b,c,rfl,n8,k ra,k rb,k rc⟩,hk _ hb8⟩
    · have h11:=hdp 11 (by decide);obtain⟨_,r,a,b,c,er,hg,r1,r2,r3⟩:=hR 11 h11;refine aau (vs:= #[.slice (some ⟨r,0,none⟩) 3 3]) Tryz.call119 rfl rfl (congrArg (fun x=> [x]) ((ev 11 h11 (by omega)).trans er)) (R:=fun q w'=>w'.ownsRow W.heap.size 5 1 q 24 ((aey n ll).map bv)/\Below W.heap.size W w') ((anR n ll W r a b c hg r1 r2 r3).mono ?_) wd.heap.size (Nat.le_refl _) ?_
      · rintro e w' ⟨v,rfl,ho,hb'⟩;exact⟨_,rfl,hb'.mono hb.size,ho,hb'⟩
      · rintro q w' _ ⟨ho,hb'⟩;exact⟨_,rfl,⟨.inr h11,acY ho hb.size⟩,hk _ hb'⟩
  · obtain⟨_,ho⟩:=hI 12 (by decide);have HO:=hE0 ho;have HB:=hE0 hb;clear hI ho hb;unfold imI;simp only[abg,Act.put,List.setIfInBounds_toArray,List.set_cons_zero,List.set_cons_succ,Nat.reduceAdd];refine aeV (l:= ?finA) (t:= []) ?hfinA ?htfinA ?_
    case hfinA=>simp only[pick,lE1,lE2,lE3];rfl
    case htfinA=>rfl
    repeat (go_big_quiet_step (fail))
    refine wpQuiet_nil ?_;go_wp2_with fail
    go_meet
    case rel=>exact⟨HO.out,HB.out⟩
 case rest=>
  obtain⟨ho,hb⟩:=hcut;have HO:=hE0 ho;have HBC:=hE0 hb;clear ho hb;have HW1S:=hE0 (agf wc wd.heap.size _ (aey n ll) 24 0 (ae4 n ll) HO.out HBC.out.size (by omega) (by omega) (by omega));go_wp2_with fail
  refine HW1S.out.mono ?_;rintro e w2 ⟨x2,rfl,ho2,hb2⟩;have HO2:Hid (w2.ownsRow wd.heap.size 5 1 x2 28 ((alf n ll).map bv)):=ho2;have HB2:=hE0 (HBC.out.trans hb2);clear ho2 hb2 HW1S HO HBC;have e1:=(HB2.out.cell (p:=⟨w.heap.size,1,none⟩) hld).trans c1;have hl2:w.heap.size<w2.heap.size:=Nat.lt_of_lt_of_le hld HB2.out.size;go_wp2
  go_loopw [4,32] (fun v t wr=>∃(j:Nat),t= .int .i64 (j:Int)/\j<=ll/\wr.ownsRow wd.heap.size 5 1 v (28+(acw (l.take j)).length) ((alf n ll++acw (l.take j)).map bv)/\Below wd.heap.size wd wr) (fun _ t _=>ll-(intOf t).toNat)
  case atStart=>
   refine⟨0,rfl,Nat.zero_le _,?_,HB2.out⟩;have e:alf n ll++acw (l.take 0)=alf n ll:=by rw[List.take_zero];exact List.append_nil _
   rw[e];exact HO2.out
  case round=>
   obtain⟨j,rfl,hj,hown,hb⟩:=hrel;by_cases hlt:j<ll
   · obtain⟨x,hx⟩:∃x,l[j]?=some x:=⟨l[j]'(by rw[HLL.out];exact hlt),List.getElem?_eq_getElem _⟩;obtain⟨b2,o,rfl,hbb,hcl⟩:=HR.out (by rw[HLL.out];omega);obtain⟨p0,p1,p2,hxo,hxs⟩:=hcl j x hx;have hb1w:=HBD.out.trans (hb.mono HBD.out.size);have r0:=(hb1w.cell (p:=⟨b2,o+j*3,none⟩) hbb).trans p0;have r1:=(hb1w.cell (p:=⟨b2,o+j*3+1,none⟩) hbb).trans p1;have r2:=(hb1w.cell (p:=⟨b2,o+j*3+2,none⟩) hbb).trans p2;have HTG:=hE0 (anz hx);have HT1:=HPT.out j;obtain⟨xo,xs,xu⟩:=x;dsimp only at p0 p1 p2 r0 r1 r2 hxs HTG;obtain⟨w4,hw4⟩:=nmE (wr.alloc (.cells #[.int .i64 xo, .int .i64 xs, .bool xu] 112));have hb4:=abE hw4;have n4:=anE hw4;obtain⟨x0,x1,x2⟩:=aal n4;have hl4:=aaa n4;obtain⟨pk,hpk⟩:=nmE (acf xs xu);have hpkl:pk<18446744073709551616:=by have:=af6 xs xu;omega
     have HPK:=hE0 (fun W=>adc (w:=W) xs xu hxs pk hpk);have HTB:Hid (aoD ⟨xo,xs,xu⟩=aaF 8 pk):=(show _=_ by unfold aoD;dsimp only;rw[hpk]);obtain⟨tn,htn⟩:=nmE ((acw (l.take j)).length);rw[htn]at hown HT1;have HTN:=hE0 htn;have HO4:=hE0 (acG hown hb4);have HB4:=hE0 (hb.trans (hb4.mono hb.size));have HW4:=hE0 hw4;clear hx hcl p0 p1 p2 hown hb hb1w hb4 n4 hw4 hpk htn;go_wp2_with (first | (rw[HW4.out]) | fail)
     refine(HPK.out _).mono ?_;rintro e w5 ⟨rfl,rfl⟩;go_wp2_with fail
     refine(HPUT.out _ pk hpkl).mono ?_;rintro e w6 ⟨rfl,hf6,hb6⟩;have HR6:Hid (Rd w6 w6.heap.size (some ⟨w4.heap.size,0,none⟩) 8 (aaF 8 pk)):=(show Rd _ _ _ _ _ by have:=hf6.reads;rw[aag]at this;exact this);have HO6:=hE0 (acG HO4.out hb6);have HB6:=hE0 (HB4.out.trans (hb6.mono HB4.out.size));clear hf6 hb6;go_wp2_with (first
      | (at_builtin;go_must (refine acm rfl (.tmp 36) (.tmp 42) 37 5 rfl Tryz.underlying37 afw wd.heap.size _ (28+tn) (alf n ll++acw (l.take j)) rfl HO6.out _ (some ⟨w4.heap.size,0,none⟩) 8 8 (aaF 8 pk) rfl HR6.out (fun e=>by cases e) (by omega) HB6.out.size ?_);intro x7 w7 own7 hb7 gr7
         have HX7:Hid (w7.ownsRow wd.heap.size 5 1 x7 ((28+tn)+8) (((alf n ll++acw (l.take j))++(aaF 8 pk)).map bv)/\Below wd.heap.size w6 w7):=⟨own7,hb7⟩;clear own7 hb7 gr7)
      | fail)
     go_roundw
     case rel=>
      refine⟨j+1,by go_num,by omega,?_,HB6.out.trans HX7.out.2⟩;rw[HTG.out,HTB.out,List.length_append,HTN.out,aag,<-List.append_assoc];exact HX7.out.1
     case measure=>simp only[intOf];omega
   · have e:l.take j=l:=List.take_of_length_le (by rw[HLL.out];omega);rw[e,HTL.out]at hown;have HWS:=hE0 (agf wr wd.heap.size _ (alf n ll++acw l) (28+8*ll) 28 (by rw[List.length_append,HAL.out,HTL.out]) hown hb.size (by omega) (by omega) (by omega));rw[HPTE.out]at HWS;have HB:=hE0 hb;clear hown hb e;go_wp2_with fail
     refine HWS.out.mono ?_;rintro e w5 ⟨x5,rfl,ho5,hb5⟩;rw[HTE.out]at ho5;have hT100:T<=10000:=by have:=HTE.out;omega
     have hT0:0<T:=by have:=HTE.out;omega
     have hb5':=HB.out.trans hb5;obtain⟨A5,c5,rfl,hA5⟩:=aeJ ho5;have HO5:=hE0 ho5;have HB5:=hE0 hb5';have e2:=(hb5'.cell (p:=⟨w.heap.size,2,none⟩) hld).trans c2;have hl5:w.heap.size<w5.heap.size:=Nat.lt_of_lt_of_le hld hb5'.size;clear ho5 hb5 hb5' HWS;go_wp2
     go_loopw [4,52] (fun v t wr=>∃(j:Nat),t= .int .i64 (j:Int)/\j<=dl/\wr.ownsRow wd.heap.size 5 1 v (T+(d.take j).flatten.length) ((ah0 n l++(d.take j).flatten).map bv)/\Below wd.heap.size wd wr) (fun _ t _=>dl-(intOf t).toNat)
     case atStart=>
      refine⟨0,rfl,Nat.zero_le _,?_,HB5.out⟩;have e:ah0 n l++(d.take 0).flatten=ah0 n l:=by rw[List.take_zero];exact List.append_nil _
      rw[e];exact HO5.out
     case round=>
      obtain⟨i,rfl,hi,hown,hb⟩:=hrel;have hb1w:=HBD.out.trans (hb.mono HBD.out.size);by_cases hlt2:i<dl
      · obtain⟨y,hy⟩:∃y,d[i]?=some y:=⟨d[i]'(by rw[HDLL.out];exact hlt2),List.getElem?_eq_getElem _⟩;obtain⟨b,o,rfl,hbb,hc⟩:=HD.out (by rw[HDLL.out];omega);obtain⟨A',k',z0,hrd,_,_,hA⟩:=hc i y hy;have z1:=(hb1w.cell (p:=⟨b,o+i,none⟩) hbb).trans z0;have hs1:=HFT.out (i+1);rw[ade hy,List.length_append]at hs1;have HFT2:=hE0 (ade hy);have HRD:=hE0 ((hrd.below hb1w).more hb1w.size);obtain⟨yn,hn'⟩:∃yn,y.length=yn:=⟨_,rfl⟩;have HYN:=hE0 hn';obtain⟨q,hq⟩:=nmE ((d.take i).flatten.length);rw[hq]at hown hs1;have HQ:=hE0 hq;rw[hn']at z0 z1 hs1 HRD;have HO:=hE0 hown;have HB6:=hE0 hb;clear hc hy hn' hown hb hrd hq hb1w z0;go_wp2_with (first
         | (at_builtin;go_must (refine acm rfl (.tmp 56) (.tmp 57) 37 5 rfl Tryz.underlying37 afw wd.heap.size _ (T+q) (ah0 n l++(d.take i).flatten) rfl HO.out _ A' yn k' y rfl HRD.out hA (by omega) HB6.out.size ?_);intro x30 w30 own30 hb30 gr30
            have HX30:Hid (w30.ownsRow wd.heap.size 5 1 x30 ((T+q)+yn) (((ah0 n l++(d.take i).flatten)++y).map bv)/\Below wd.heap.size wr w30):=⟨own30,hb30⟩;clear own30 hb30 gr30)
         | fail)
        go_roundw
        case rel=>
         refine⟨i+1,by go_num,by omega,?_,HB6.out.trans HX30.out.2⟩;rw[HFT2.out,List.length_append,HQ.out,HYN.out,<-List.append_assoc,<-Nat.add_assoc];exact HX30.out.1
        case measure=>simp only[intOf];omega
      · have e:d.take i=d:=List.take_of_length_le (by rw[HDLL.out];omega);rw[e,HFL.out]at hown;have HWS2:=hE0 (agf wr wd.heap.size _ (ah0 n l++d.flatten) (T+fl) T (by rw[List.length_append,HFL.out,HTL2.out]) hown hb.size (by omega) (by omega) (by omega));rw[HPDE.out]at HWS2;have HB6:=hE0 hb;clear hown hb e hb1w;go_wp2_with fail
        refine HWS2.out.mono ?_;rintro e w7 ⟨x7,rfl,ho7,hb7⟩;have HB7:=hE0 (HB6.out.trans hb7);have HWS3:=hE0 (agf w7 wd.heap.size x7 (akX n l d) (T+fl+4) 0 (by rw[HDL2.out];have:=HTE.out;omega) ho7 HB7.out.size (by omega) (by omega) (by omega));clear ho7 hb7 HWS2;go_wp2_with fail
        refine HWS3.out.mono ?_;rintro e w8 ⟨x8,rfl,ho8,hb8⟩;have hfin:w8.ownsRow w.heap.size 5 1 x8 (40+8*ll+fl) ((aaH n l d).map bv):=by
         rw[show T+fl+4+4=40+8*ll+fl by have:=HTE.out;omega]at ho8;exact acY ho8 (Nat.le_trans HB1.out.size HBD.out.size)
        have hbfin:Below w.heap.size w w8:=HB1.out.trans ((HBD.out.trans ((HB7.out.trans hb8).mono HBD.out.size)).mono HB1.out.size);obtain⟨A8,c8,rfl,_⟩:=aeJ hfin;have HFIN:=hE0 (And.intro hfin hbfin);clear hfin hbfin ho8 hb8;go_wp2
        go_ret2
        exact⟨A8,c8,rfl,HFIN.out⟩
def DtO (w:World) (d:List (List UInt8)) (xs:List Value):Prop:=∀(i:Nat) (y:List UInt8),d[i]?=some y->y.length<=100000/\∃A k,xs[i]?=some (.slice A y.length k)/\w.ownsRow 0 5 1 (.slice A y.length k) y.length (y.map bv)
theorem DtO.rd{w:World}{B:Nat}{A:Option Addr}{c:Nat}{d:List (List UInt8)}{xs:List Value}(h:DtO w d xs) (ho:w.ownsRow B 37 1 (.slice A d.length c) d.length xs):DtRd w w.heap.size A d:=fun hn=>by
 rcases ho.2 with⟨hv,h0⟩ | ⟨g,cap,cur,hv,hbg,hg,hnc,hcm,hsz,htk⟩
 · omega
 · injection hv with e1 e2 e3;refine⟨g,0,e1,aaa hg,fun j y hy=> ?_⟩;obtain⟨hyl,A',k,hx,hr⟩:=h j y hy;have hj:j<d.length:=(List.getElem?_eq_some_iff.1 hy).1;obtain⟨A2,k2,e,hk0⟩:=aeJ hr;injection e with e4 e5 e6;subst e4 e6;refine⟨A',k,?_,ab8 hr,by unfold maxLen;omega,?_,hk0⟩
   · rw[Nat.zero_add,cell_of_row _ _ _ _ _ _ hg];rw[<-htk,List.getElem?_take,if_pos (by omega)]at hx;rw[<-hx];simp
   · rcases hr.2 with⟨hv2,h02⟩ | ⟨g2,cap2,cur2,hv2,_,_,hnc2,_⟩
     · omega
     · injection hv2 with _ _ e7;omega
theorem DtO.grown{w w':World}{d:List (List UInt8)}{xs:List Value}{r:Option Nat}(h:DtO w d xs) (hg:w.grownBy w' r) (hr:∀k,r=some k->∃cs t fz,t≠5/\w.heap[k]?=some (.cells cs t fz)):DtO w' d xs:=by
 intro i y hy;obtain⟨hyl,A,k,hx,ho⟩:=h i y hy;refine⟨hyl,A,k,hx,acO ho hg fun q hq hrq=> ?_⟩;obtain⟨cs,t,fz,hne,hc⟩:=hr q hrq;rcases ho.2 with⟨hv,_⟩ | ⟨g,cap,cur,hv,_,hgc,_⟩
 · rw[hv]at hq;cases hq
 · rw[hv]at hq;unfold Value.ownBlock at hq;injection hq with hq;subst hq;rw[hgc]at hc;injection hc with hc;injection hc with _ e _;exact absurd e.symm hne
theorem DtO.snoc{w:World}{d:List (List UInt8)}{xs:List Value}(h:DtO w d xs) (hl:xs.length=d.length){y:List UInt8}{A:Option Addr}{k:Nat}(hy:y.length<=100000) (ho:w.ownsRow 0 5 1 (.slice A y.length k) y.length (y.map bv)):DtO w (d++ [y]) (xs++ [.slice A y.length k]):=by
 intro i z hz;by_cases hi:i<d.length
 · rw[List.getElem?_append_left hi]at hz;rw[List.getElem?_append_left (by omega)];exact h i z hz
 · rw[List.getElem?_append_right (by omega)]at hz;rw[List.getElem?_append_right (by omega),hl];have e:i-d.length=0:=by
    have:=(List.getElem?_eq_some_iff.1 hz).1;simp at this;omega
   rw[e]at hz ⊢;simp at hz;subst hz;exact⟨hy,A,k,rfl,ho⟩
theorem aba{w:World}{base n size:Nat}{t:TypeId}{v:Value}{xs:List Value}(h:w.ownsRow base t size v n xs):∀k,v.ownBlock=some k->k<w.heap.size:=by
 intro k hk;rcases h.2 with⟨hv,_⟩ | ⟨g,cap,cur,hv,_,hg,_⟩
 · rw[hv]at hk;cases hk
 · rw[hv]at hk;unfold Value.ownBlock at hk;injection hk with hk;subst hk;exact aaa hg
theorem adB{w:World}{base n size k:Nat}{t t':TypeId}{v:Value}{xs:List Value}{cs:Array Value}{fz:Nat × Nat}(h:w.ownsRow base t size v n xs) (hk:v.ownBlock=some k) (hc:w.heap[k]?=some (.cells cs t' fz)) (hne:t≠t'):False:=by
 rcases h.2 with⟨hv,_⟩ | ⟨g,cap,cur,hv,_,hg,_⟩
 · rw[hv]at hk;cases hk
 · rw[hv]at hk;unfold Value.ownBlock at hk;injection hk with hk;subst hk;rw[hg]at hc;injection hc with hc;injection hc with _ e _;exact hne e
theorem apC{w:World}{base n size:Nat}{t:TypeId}{v:Value}{xs:List Value}(h:w.ownsRow base t size v n xs):∀k,v.ownBlock=some k->∃cs fz,w.heap[k]?=some (.cells cs t fz):=by
 intro k hk;rcases h.2 with⟨hv,_⟩ | ⟨g,cap,cur,hv,_,hg,_⟩
 · rw[hv]at hk;cases hk
 · rw[hv]at hk;unfold Value.ownBlock at hk;injection hk with hk;subst hk;exact⟨_,_,hg⟩
theorem afb{w:World}{base n size:Nat}{t:TypeId}{v:Value}{xs:List Value}(h:w.ownsRow base t size v n xs):∀k,v.ownBlock=some k->base<=k:=by
 intro k hk;rcases h.2 with⟨hv,_⟩ | ⟨g,cap,cur,hv,hb,_,_⟩
 · rw[hv]at hk;cases hk
 · rw[hv]at hk;unfold Value.ownBlock at hk;injection hk with hk;subst hk;exact hb
theorem act (w:World) (g i:Nat) (v:Value):w.grownBy (w.setCell ⟨g,i,none⟩ v) (some g):=
 ⟨rfl,rfl,rfl,by simp,fun k _ hne=>heap_setCell_other _ _ _ _ (fun e=>hne (by rw[e]))⟩
theorem RkRd.off{w w':World}{B g:Nat}{A:Option Addr}{l:List Rk}{t:TypeId}{fr:Nat × Nat}(h:RkRd w B A l) (hg:w.heap[g]?=some (.cells #[.int .i64 0, .slice none 0 0, .slice none 0 0] t fr)) (hk:∀k,k≠g->w'.heap[k]?=w.heap[k]?):RkRd w' B A l:=fun hn=>by
 obtain⟨b,o,e,hB,hc⟩:=h hn;have hbg:b≠g:=by
  intro e2;subst e2;obtain⟨x,hx⟩:∃x,l[0]?=some x:=⟨l[0]'hn,List.getElem?_eq_getElem _⟩;obtain⟨_,h1,_⟩:=hc 0 x hx;rw[cell_of_row _ _ _ _ _ _ hg]at h1;rcases o with _ | _ | o<;>simp at h1
 refine⟨b,o,e,hB,fun j x hx=> ?_⟩;obtain⟨h0,h1,h2,h3⟩:=hc j x hx;have hh:=hk b hbg;refine⟨?_,?_,?_,h3⟩
 · rw[<-h0];simp[World.cell?,hh]
 · rw[<-h1];simp[World.cell?,hh]
 · rw[<-h2];simp[World.cell?,hh]
theorem DtO.stay{w w':World}{d:List (List UInt8)}{xs:List Value}(h:DtO w d xs) (hb:Below w.heap.size w w'):DtO w' d xs:=by
 intro i y hy;obtain⟨hyl,A,k,hx,ho⟩:=h i y hy;exact⟨hyl,A,k,hx,ab7 ho hb (aba ho)⟩
theorem apD:(Tryz.prog.info? 37).map (fun i=>(i.zero,i.size,i.bytes))=some (some (.slice none 0 0),1,24):=by kernel_rfl
theorem akb (w:World) (A:Option Addr) (n c:Nat):(Instr.buildSlice 57 1 #[(0, .slice A n c)]).run Tryz.prog w= .ok (.slice (some ⟨w.heap.size,0,none⟩) 1 1) (w.alloc (.cells #[.slice A n c] 37)):=by
 obtain⟨i0,hi,hz0,hz1,hz2⟩:=info_parts apD;refine run_buildSlice w 57 37 1 _ _ i0 _ Tryz.underlying57 hi hz0 (by omega) (by omega) ?_;rw[hz1];have e:Array.range (1*1)= #[0]:=by decide
 rw[e];simp[Instr.fill,Value.cells]
theorem adg{w:World}{g:Nat}{t:TypeId}{y0 y1 y2:Value}(h:w.heap[g]?=some (.cells #[y0,y1,y2] t (0,0))):(w.cell? ⟨g,0,none⟩=some y0/\w.cell? ⟨g,1,none⟩=some y1/\w.cell? ⟨g,2,none⟩=some y2)/\(w.frozen? ⟨g,0,none⟩=false/\w.frozen? ⟨g,1,none⟩=false/\w.frozen? ⟨g,2,none⟩=false)/\g<w.heap.size:=
 ⟨⟨by rw[cell_of_row w g 0 _ _ (0,0) h];rfl,by rw[cell_of_row w g 1 _ _ (0,0) h];rfl,by rw[cell_of_row w g 2 _ _ (0,0) h];rfl⟩,⟨frozen_of_row w g 0 _ _ h,frozen_of_row w g 1 _ _ h,frozen_of_row w g 2 _ _ h⟩,aaa h⟩
theorem agV (w:World) (t:TypeId) (y0 y1 y2:Value):∃w',Hid (w.alloc (.cells #[y0,y1,y2] t)=w')/\Hid (w'.heap[w.heap.size]?=some (.cells #[y0,y1,y2] t (0,0)))/\Hid (Below w.heap.size w w'):=
 ⟨_,hE0 rfl,hE0 (heap_alloc_new w _),hE0 ((Below.refl _ _).alloc (Nat.le_refl _) _)⟩
theorem auv{w:World}{g:Nat}{t:TypeId}{y0 y1 y2:Value}(h:Hid (w.heap[g]?=some (.cells #[y0,y1,y2] t (0,0)))) (x0 x1 x2:Value):∃w',Hid ((((w.setCell ⟨g,0,none⟩ x0).setCell ⟨g,1,none⟩ x1).setCell ⟨g,2,none⟩ x2)=w')/\Hid (w'.heap[g]?=some (.cells #[x0,x1,x2] t (0,0)))/\Hid (∀B v,B<=g->Below B v w->Below B v w')/\(w.cell? ⟨g,0,none⟩=some y0/\w.cell? ⟨g,1,none⟩=some y1/\w.cell? ⟨g,2,none⟩=some y2)/\(w.frozen? ⟨g,0,none⟩=false/\w.frozen? ⟨g,1,none⟩=false/\w.frozen? ⟨g,2,none⟩=false)/\g<w.heap.size:=by
 have h0:=h.out;have h1:(_:Option Obj)=some (.cells #[x0,y1,y2] t (0,0)):=heap_setCell_same _ g 0 _ _ x0 h0;have h2:(_:Option Obj)=some (.cells #[x0,x1,y2] t (0,0)):=heap_setCell_same _ g 1 _ _ x1 h1;have h3:(_:Option Obj)=some (.cells #[x0,x1,x2] t (0,0)):=heap_setCell_same _ g 2 _ _ x2 h2;exact⟨_,hE0 rfl,hE0 h3,hE0 (fun B v hB hv=>(Below.setCell (Below.setCell (Below.setCell hv (p:=⟨g,0,none⟩) hB _) (p:=⟨g,1,none⟩) hB _) (p:=⟨g,2,none⟩) hB _)),adg h0⟩
theorem ah8{w:World}{g:Nat}{t:TypeId}{y0 y1 y2 y3 y4 y5 y6:Value}(h:w.heap[g]?=some (.cells #[y0,y1,y2,y3,y4,y5,y6] t (0,0))):(w.cell? ⟨g,0,none⟩=some y0/\w.cell? ⟨g,1,none⟩=some y1/\w.cell? ⟨g,2,none⟩=some y2/\w.cell? ⟨g,3,none⟩=some y3/\w.cell? ⟨g,4,none⟩=some y4/\w.cell? ⟨g,5,none⟩=some y5/\w.cell? ⟨g,6,none⟩=some y6)/\(w.frozen? ⟨g,0,none⟩=false/\w.frozen? ⟨g,1,none⟩=false/\w.frozen? ⟨g,2,none⟩=false/\w.frozen? ⟨g,3,none⟩=false/\w.frozen? ⟨g,4,none⟩=false/\w.frozen? ⟨g,5,none⟩=false/\w.frozen? ⟨g,6,none⟩=false)/\g<w.heap.size:=
 ⟨⟨by rw[cell_of_row w g 0 _ _ (0,0) h];rfl,by rw[cell_of_row w g 1 _ _ (0,0) h];rfl,by rw[cell_of_row w g 2 _ _ (0,0) h];rfl,by rw[cell_of_row w g 3 _ _ (0,0) h];rfl,by rw[cell_of_row w g 4 _ _ (0,0) h];rfl,by rw[cell_of_row w g 5 _ _ (0,0) h];rfl,by rw[cell_of_row w g 6 _ _ (0,0) h];rfl⟩,⟨frozen_of_row w g 0 _ _ h,frozen_of_row w g 1 _ _ h,frozen_of_row w g 2 _ _ h,frozen_of_row w g 3 _ _ h,frozen_of_row w g 4 _ _ h,frozen_of_row w g 5 _ _ h,frozen_of_row w g 6 _ _ h⟩,aaa h⟩
theorem apE (w:World) (t:TypeId) (y0 y1 y2 y3 y4 y5 y6:Value):∃w',Hid (w.alloc (.cells #[y0,y1,y2,y3,y4,y5,y6] t)=w')/\Hid (w'.heap[w.heap.size]?=some (.cells #[y0,y1,y2,y3,y4,y5,y6] t (0,0)))/\Hid (Below w.heap.size w w'):=
 ⟨_,hE0 rfl,hE0 (heap_alloc_new w _),hE0 ((Below.refl _ _).alloc (Nat.le_refl _) _)⟩
theorem auV{w:World}{g:Nat}{t:TypeId}{y0 y1 y2 y3 y4 y5 y6:Value}(h:Hid (w.heap[g]?=some (.cells #[y0,y1,y2,y3,y4,y5,y6] t (0,0)))) (x0 x1 x2 x3 x4 x5 x6:Value):∃w',Hid ((((((((w.setCell ⟨g,0,none⟩ x0).setCell ⟨g,1,none⟩ x1).setCell ⟨g,2,none⟩ x2).setCell ⟨g,3,none⟩ x3).setCell ⟨g,4,none⟩ x4).setCell ⟨g,5,none⟩ x5).setCell ⟨g,6,none⟩ x6)=w')/\Hid (w'.heap[g]?=some (.cells #[x0,x1,x2,x3,x4,x5,x6] t (0,0)))/\Hid (∀B v,B<=g->Below B v w->Below B v w')/\(w.cell? ⟨g,0,none⟩=some y0/\w.cell? ⟨g,1,none⟩=some y1/\w.cell? ⟨g,2,none⟩=some y2/\w.cell? ⟨g,3,none⟩=some y3/\w.cell? ⟨g,4,none⟩=some y4/\w.cell? ⟨g,5,none⟩=some y5/\w.cell? ⟨g,6,none⟩=some y6)/\(w.frozen? ⟨g,0,none⟩=false/\w.frozen? ⟨g,1,none⟩=false/\w.frozen? ⟨g,2,none⟩=false/\w.frozen? ⟨g,3,none⟩=false/\w.frozen? ⟨g,4,none⟩=false/\w.frozen? ⟨g,5,none⟩=false/\w.frozen? ⟨g,6,none⟩=false)/\g<w.heap.size:=by
 have h0:=h.out;have h1:(_:Option Obj)=some (.cells #[x0,y1,y2,y3,y4,y5,y6] t (0,0)):=heap_setCell_same _ g 0 _ _ x0 h0;have h2:(_:Option Obj)=some (.cells #[x0,x1,y2,y3,y4,y5,y6] t (0,0)):=heap_setCell_same _ g 1 _ _ x1 h1;have h3:(_:Option Obj)=some (.cells #[x0,x1,x2,y3,y4,y5,y6] t (0,0)):=heap_setCell_same _ g 2 _ _ x2 h2;have h4:(_:Option Obj)=some (.cells #[x0,x1,x2,x3,y4,y5,y6] t (0,0)):=heap_setCell_same _ g 3 _ _ x3 h3;have h5:(_:Option Obj)=some (.cells #[x0,x1,x2,x3,x4,y5,y6] t (0,0)):=heap_setCell_same _ g 4 _ _ x4 h4;have h6:(_:Option Obj)=some (.cells #[x0,x1,x2,x3,x4,x5,y6] t (0,0)):=heap_setCell_same _ g 5 _ _ x5 h5;have h7:(_:Option Obj)=some (.cells #[x0,x1,x2,x3,x4,x5,x6] t (0,0)):=heap_setCell_same _ g 6 _ _ x6 h6;exact⟨_,hE0 rfl,hE0 h7,hE0 (fun B v hB hv=>(Below.setCell (Below.setCell (Below.setCell (Below.setCell (Below.setCell (Below.setCell (Below.setCell hv (p:=⟨g,0,none⟩) hB _) (p:=⟨g,1,none⟩) hB _) (p:=⟨g,2,none⟩) hB _) (p:=⟨g,3,none⟩) hB _) (p:=⟨g,4,none⟩) hB _) (p:=⟨g,5,none⟩) hB _) (p:=⟨g,6,none⟩) hB _)),ah8 h0⟩
structure Hm (F:Nat->Prop) (w:World) (p:Nat) (H:Hp) (Vb Vd:Value) (gl:Nat) (cs:List Value):Prop where
 obj:w.heap[p]?=some (.cells #[.int .i64 (H.cap:Int),Vb,Vd, .slice (some ⟨gl,0,none⟩) 22 22] 135 (0,0))
 ob:w.ownsRow 0 112 3 Vb H.blks.length (acV H.blks)
 od:w.ownsRow 0 37 1 Vd H.ds.length (H.ds.map Prod.fst)
 row:w.heap[gl]?=some (.cells cs.toArray 23 (0,0))
 len:cs.length=22
 at_:∀d,d<22->∃v,cs[d]?=some v/\w.ownsRow 0 3 1 v (H.lists d).length ((H.lists d).map iV)
 fp:F p
 fl:F gl
 fb:∀k,Vb.ownBlock=some k->F k
 fd:∀k,Vd.ownBlock=some k->F k
 fi:∀d v k,d<22->cs[d]?=some v->v.ownBlock=some k->F k
 sl:∀d∈H.ds,∃A n c,d.1= .slice A n c
def HM (F:Nat->Prop) (w:World) (p:Nat) (H:Hp):Prop:=∃Vb Vd gl cs,Hm F w p H Vb Vd gl cs
def HT (F:Nat->Prop) (w:World) (p:Nat) (H':Hp) (w':World):Prop:=∃F',HM F' w' p H'/\Tch F w w'/\∀k,F' k->F k\/w.heap.size<=k
theorem own_lt{w:World}{base n size:Nat}{t:TypeId}{v:Value}{xs:List Value}(h:w.ownsRow base t size v n xs){k:Nat}(hk:v.ownBlock=some k):k<w.heap.size:=(h.lt k hk).2
section
variable {F F':Nat->Prop} {w w' w2:World} {p gl:Nat} {H H':Hp} {Vb Vd:Value} {cs:List Value}
end
end Go.Proofs.YtncadccbepjekaaGreatDoor
