/- Texts of mine, joined. -/
import Derived.Test.YtncadccbepjekaaGreatDoorP14
import Derived.Test.YtncadccbepjekaaGreatDoorP15
import Derived.Test.YtncadccbepjekaaGreatDoorP16
set_option maxRecDepth 100000
set_option maxHeartbeats 8000000
namespace Go.Proofs.YtncadccbepjekaaGreatDoor
open Go.RowKit
section
variable {P:Program}
theorem akh (v:World) (t e:TypeId) (g:Nat) (C:Array Value) (n c:Nat) (ht:P.underlying t=some (.slice e)) (he:P.underlying e=some (.int .u8)) (hg:v.heap[g]?=some (.cells C e (0,0))):
 ∃v',(convert t t (.slice (some ⟨g,0,none⟩) n c)).run P v= .ok (.slice (some ⟨g,0,none⟩) n c) v'/\v'.heap[g]?=some (.cells C e (C.size,C.size+1))/\v'.heap.size=v.heap.size/\(∀k,k≠g->v'.heap[k]?=v.heap[k]?)/\∀B,B<=g->Below B v v':=by
 have hsh:v.shape? g=some (e,C.size):=by
  unfold World.shape?;rw[hg]
 refine⟨v.freeze ⟨g,C.size,none⟩ 1,?_,?_,?_,fun k hk=> ?_,fun B hB=> ?_⟩
 · simp[convert,run_underlying ht,run_underlying he,markStringish,hsh]
 · unfold World.freeze;rw[if_neg (by decide)];show(v.heap.modify g _)[g]?=_;rw[Array.getElem?_modify,if_pos rfl,hg];rfl
 · unfold World.freeze;rw[if_neg (by decide)];simp
 · unfold World.freeze;rw[if_neg (by decide)];show(v.heap.modify g _)[k]?=_;rw[Array.getElem?_modify,if_neg (fun e=>hk e.symm)]
 · unfold World.freeze;rw[if_neg (by decide)];refine⟨rfl,rfl,rfl,by simp,fun k hk=> ?_⟩;show(v.heap.modify g _)[k]?=_;rw[Array.getElem?_modify,if_neg (by omega)]
theorem amI{o:Oper}{a:Act}{w w1:World}{f t:TypeId}{x:Operand}{V V':Value}(ho:o.op= .convert f t x) (hx:a.eval x=V) (h:(convert f t V).run P w= .ok V' w1):(execOp a.eval o).run P w= .ok (.value V') w1:=by
 unfold execOp;simp only[ho];rw[hx,Sem.run_bind,h];rfl
end
theorem acw{w:World}{g:Nat}{t:TypeId}{fz:Nat × Nat}{bs:List UInt8}(h:w.heap[g]?=some (.cells (acb bs) t fz)):Rd w w.heap.size (some ⟨g,0,none⟩) bs.length bs:=by
 have hlt:g<w.heap.size:=by
  rcases Nat.lt_or_ge g w.heap.size with h' | h'
  · exact h'
  · rw[Array.getElem?_eq_none h']at h;cases h
 refine⟨rfl,fun _=>⟨g,0,rfl,hlt,fun j u hu=> ?_⟩⟩;rw[Nat.zero_add,cell_of_row w g j _ _ fz h];unfold acb;simp[hu];rfl
theorem agc{w:World}{g:Nat}{cs:Array Value}{t:TypeId}{fz:Nat × Nat}(h:w.heap[g]?=some (.cells cs t fz)):g<w.heap.size:=by
 rcases Nat.lt_or_ge g w.heap.size with h' | h'
 · exact h'
 · rw[Array.getElem?_eq_none h']at h;cases h
theorem arZ (w:World):(Instr.buildSlice 37 8 #[(0, .int .u8 67),(1, .int .u8 78),(2, .int .u8 84),(3, .int .u8 76),(4, .int .u8 1),(5, .int .u8 0),(6, .int .u8 0),(7, .int .u8 0)]).run Tryz.prog w= .ok (.slice (some ⟨w.heap.size,0,none⟩) 8 8) (w.alloc (.cells (acb imMarkB) 5)):=by
 have e:acb imMarkB= #[.int .u8 67, .int .u8 78, .int .u8 84, .int .u8 76, .int .u8 1, .int .u8 0, .int .u8 0, .int .u8 0]:=by rfl
 rw[e];simp[go_sem]
theorem apL (w:World) (A B C:Option Addr) (a b c d e f:Nat):(Instr.buildSlice 57 3 #[(0, .slice A a b),(1, .slice B c d),(2, .slice C e f)]).run Tryz.prog w= .ok (.slice (some ⟨w.heap.size,0,none⟩) 3 3) (w.alloc (.cells #[.slice A a b, .slice B c d, .slice C e f] 37)):=by
 simp[go_sem]
theorem ar0{w:World}{g:Nat}{A B C:Option Addr}{a b c:Nat}{x y z:List UInt8}(hg:w.heap[g]?=some (.cells #[.slice A x.length a, .slice B y.length b, .slice C z.length c] 37 (0,0)))
 (hx:Rd w w.heap.size A x.length x) (hy:Rd w w.heap.size B y.length y) (hz:Rd w w.heap.size C z.length z) (ha:x.length<=a/\(A=none->a=0)) (hb:y.length<=b/\(B=none->b=0)) (hc:z.length<=c/\(C=none->c=0)) (hl:x.length<=maxLen/\y.length<=maxLen/\z.length<=maxLen):
 DtRd w w.heap.size (some ⟨g,0,none⟩) [x,y,z]:=fun _=>by
 obtain⟨c0,c1,c2⟩:=aam hg;refine⟨g,0,rfl,aaa hg,fun j u hu=> ?_⟩;match j,hu with
 | 0,hu=>injection hu with hu;subst hu;exact⟨A,a,c0,hx,hl.1,ha⟩
 | 1,hu=>injection hu with hu;subst hu;exact⟨B,b,c1,hy,hl.2.1,hb⟩
 | 2,hu=>injection hu with hu;subst hu;exact⟨C,c,c2,hz,hl.2.2,hc⟩
 | j+3,hu=>cases hu
theorem anM (n ll:Nat) (w8:World) (r a b c:Nat) (n8:w8.heap[r]?=some (.cells #[.slice (some ⟨a,0,none⟩) 8 8, .slice (some ⟨b,0,none⟩) 8 8, .slice (some ⟨c,0,none⟩) 8 8] 37 (0,0)))
 (h1:Rd w8 w8.heap.size (some ⟨a,0,none⟩) imMarkB.length imMarkB) (h2:Rd w8 w8.heap.size (some ⟨b,0,none⟩) (aaJ 8 n).length (aaJ 8 n)) (h3:Rd w8 w8.heap.size (some ⟨c,0,none⟩) (aaJ 8 ll).length (aaJ 8 ll)):
 Calls Tryz.prog 119 #[.slice (some ⟨r,0,none⟩) 3 3] w8 fun e w'=>∃v,e= .returned v/\w'.ownsRow w8.heap.size 5 1 v 24 ((aex n ll).map bv)/\Below w8.heap.size w8 w':=by
 have hd8:DtRd w8 w8.heap.size (some ⟨r,0,none⟩) [imMarkB,aaJ 8 n,aaJ 8 ll]:=by
  refine ar0 (a:=8) (b:=8) (c:=8) (A:=some ⟨a,0,none⟩) (B:=some ⟨b,0,none⟩) (C:=some ⟨c,0,none⟩) ?_ h1 h2 h3 ⟨Nat.le_refl _,fun e=>by cases e⟩ ⟨by rw[aag];exact Nat.le_refl _,fun e=>by cases e⟩ ⟨by rw[aag];exact Nat.le_refl _,fun e=>by cases e⟩ ⟨by unfold maxLen imMarkB;simp,by rw[aag];unfold maxLen;omega,by rw[aag];unfold maxLen;omega⟩;rw[aag,aag];exact n8
 have hc8:=afx w8 (some ⟨r,0,none⟩) 3 [imMarkB,aaJ 8 n,aaJ 8 ll] hd8 (by simp) (by simp[imMarkB,aag]);have e8:([imMarkB,aaJ 8 n,aaJ 8 ll]:List (List UInt8)).flatten=aex n ll:=by unfold aex;simp
 rw[e8,ae1]at hc8;exact hc8
def imR (B n ll:Nat) (i:Nat) (D:Nat->Prop) (v:Value) (w:World):Prop:=match i with
 | 0=>¬D 1->∃r,v= .slice (some ⟨r,0,none⟩) 8 8/\B<=r/\w.heap[r]?=some (.cells (acb imMarkB) 5 (0,0))
 | 1=>∃r,v= .slice (some ⟨r,0,none⟩) 8 8/\Rd w w.heap.size (some ⟨r,0,none⟩) imMarkB.length imMarkB
 | 5=>∃r,v= .slice (some ⟨r,0,none⟩) 8 8/\Rd w w.heap.size (some ⟨r,0,none⟩) (aaJ 8 n).length (aaJ 8 n)
 | 10=>∃r,v= .slice (some ⟨r,0,none⟩) 8 8/\Rd w w.heap.size (some ⟨r,0,none⟩) (aaJ 8 ll).length (aaJ 8 ll)
 | 11=>D 1/\∃r a b c,v= .slice (some ⟨r,0,none⟩) 3 3/\w.heap[r]?=some (.cells #[.slice (some ⟨a,0,none⟩) 8 8, .slice (some ⟨b,0,none⟩) 8 8, .slice (some ⟨c,0,none⟩) 8 8] 37 (0,0))/\
  Rd w w.heap.size (some ⟨a,0,none⟩) imMarkB.length imMarkB/\Rd w w.heap.size (some ⟨b,0,none⟩) (aaJ 8 n).length (aaJ 8 n)/\Rd w w.heap.size (some ⟨c,0,none⟩) (aaJ 8 ll).length (aaJ 8 ll)
 | 12=>D 11/\w.ownsRow B 5 1 v 24 ((aex n ll).map bv)
 | _=>True
def imI:List Nat:= [0,1,5,10,11,12]
def awr (i:Nat):List Nat:=match i with
 | 1=> [0]
 | 10=> [5]
 | 11=> [1,5,10]
 | 12=> [11]
 | _=> []
theorem ar1{B n ll:Nat}{D D':Nat->Prop}{v:Value}{w w':World}(hD:∀k,D k->D' k) (hb:Below w.heap.size w w'){i:Nat}(hi:i∈imI) (h:imR B n ll i D v w):imR B n ll i D' v w':=by
 have k:∀{A:Option Addr} {m:Nat} {bs:List UInt8},Rd w w.heap.size A m bs->Rd w' w'.heap.size A m bs:=fun h=>(h.below hb).more hb.size;unfold imI at hi;simp only[List.mem_cons,List.not_mem_nil,or_false]at hi;rcases hi with rfl | rfl | rfl | rfl | rfl | rfl
 · exact fun h1=>(h fun x=>h1 (hD 1 x)).imp fun r h=>⟨h.1,h.2.1,(hb.block _ (agc h.2.2)).trans h.2.2⟩
 · exact h.imp fun r h=>⟨h.1,k h.2⟩
 · exact h.imp fun r h=>⟨h.1,k h.2⟩
 · exact h.imp fun r h=>⟨h.1,k h.2⟩
 · obtain⟨h0,r,a,b,c,h1,h2,h3,h4,h5⟩:=h;exact⟨hD 1 h0,r,a,b,c,h1,(hb.block _ (agc h2)).trans h2,k h3,k h4,k h5⟩
 · exact⟨hD 11 h.1,acL h.2 hb⟩
theorem ar2 (w:World) (n:Nat) (hn:n<9223372036854775808) (A1 A2:Option Addr) (k1 k2:Nat) (l:List Rk) (d:List (List UInt8)) (hr:RkRd w w.heap.size A1 l) (hd:DtRd w w.heap.size A2 d) (hl:l.length<=1000) (hdl:d.length<=1000) (hfl:d.flatten.length<=100000) (hm:aew (n:Int) l d=true):
 Calls Tryz.prog 59 #[imV (n:Int) A1 l.length k1 A2 d.length k2] w fun e w'=>∃A c,e= .returned (.tuple #[.slice A (aaZ n l d).length c, .nilIface])/\w'.ownsRow w.heap.size 5 1 (.slice A (aaZ n l d).length c) (aaZ n l d).length ((aaZ n l d).map bv)/\Below w.heap.size w w':=by
 rw[ah3];have HPT:=hE0 (fun j=>arT l j);have HFT:=hE0 (fun j=>Nat.le_trans (ae8 d j) hfl);have HTL:=hE0 (ad0 l);obtain⟨fl,hfl'⟩:∃fl,d.flatten.length=fl:=⟨_,rfl⟩;rw[hfl']at hfl;rw[hfl'];have HFL:=hE0 hfl';have HAL:=hE0 (af4 n l.length);have HTTL:=hE0 (adt n l);have HDL2:=hE0 (amF n l d);obtain⟨w1,hw1⟩:=nmE (w.alloc (.cells #[.int .i64 (n:Int), .slice A1 l.length k1, .slice A2 d.length k2] 107));have hb1:=abE hw1;have n1:=anE hw1;have HM:=hE0 (ae7 w1 (n:Int) (by omega) A1 A2 k1 k2 l d ((hr.below hb1).more hb1.size) ((hd.below hb1).more hb1.size) (by omega) (by omega) _ hm);unfold imV at HM ⊢;obtain⟨ll,hll⟩:=nmE l.length;obtain⟨dl,hdll⟩:=nmE d.length;have HLL:=hE0 hll;have HDLL:=hE0 hdll;have HPTE:Hid (af3 (alf n ll++acA l) 28=ahP n l):=(show _=_ by rw[<-hll];rfl);obtain⟨T,hT⟩:=nmE ((ahP n l).length);have HTL2:=hE0 hT;have HPDE:Hid (af3 (ahP n l++d.flatten) T=akV n l d):=(show _=_ by rw[<-hT];rfl);have HTE:Hid (28+8*ll+4=T):=(show _=_ by rw[<-hT,adt,hll];omega);rw[hll]at hl HPT HTL HAL HTTL HDL2;rw[hfl']at HDL2;rw[hdll]at hdl;rw[hll,hdll]at n1 hw1 HM;rw[hll,hdll];obtain⟨d0,d1,d2⟩:=aam n1;have hl1:=aaa n1;have HB1:=hE0 hb1;have HW1:=hE0 hw1;have HR:=hE0 ((hr.below hb1).more hb1.size);have HD:=hE0 ((hd.below hb1).more hb1.size);have HN1:=hE0 n1;clear hw1 hb1 n1 hr hd hll hdll hfl' hm;go_enter Tryz.func59,Tryz.ntmps59
 go_wp2_with (first | (rw[HW1.out]) | fail)
 refine HM.out.mono ?_;rintro e w2 ⟨rfl,hb2⟩;obtain⟨wd,hwd⟩:=nmE w2.drew;have hbd:Below w1.heap.size w1 wd:=by rw[<-hwd];exact hb2.drew
 have nd:=(hbd.block _ (aaa HN1.out)).trans HN1.out;obtain⟨c0,c1,c2⟩:=aam nd;have hld:=aaa nd;have HBD:=hE0 hbd;have HWD:=hE0 hwd;have HND:=hE0 nd;have HPUT:=hE0 (fun W v (hv:v<18446744073709551616)=>agr v W hv);clear hb2 hwd hbd nd d0 d1 d2 HM;go_wp2_with fail
 go_cut [4] from 10 (fun b wx=>wx.ownsRow wd.heap.size 5 1 b 24 ((aex n ll).map bv)/\Below wd.heap.size wd wx)
 case first=>
  refine aaD wd.heap.size (.two [2,3,4,6,7,8,9] 0 (.two [] 1 (.one [] 5 (.one [] 10 (.one [] 11 (.one [] 12 (.fin [13]))))) 5 (.two [] 1 (.one [] 10 (.one [] 11 (.one [] 12 (.fin [13])))) 10 (.one [] 1 (.one [] 11 (.one [] 12 (.fin [13])))))) 5 (.two [] 0 (.two [] 1 (.one [] 10 (.one [] 11 (.one [] 12 (.fin [13])))) 10 (.one [] 1 (.one [] 11 (.one [] 12 (.fin [13]))))) 10 (.one [] 0 (.one [] 1 (.one [] 11 (.one [] 12 (.fin [13]))))))) [] (by kernel_rfl) (by kernel_rfl) (by kernel_rfl) (fun _ _ _ _ _ h=>h) ?_;rw[HWD.out];have q0:=tfE c0 hld;have q1:=tfE c1 hld;refine abL (l:= ?segA) ?hsegA ?_
  case hsegA=>simp only[pick,lE1,lE2,lE3];rfl
  repeat (go_big_quiet_step (fail))
  refine wpQuiet_nil ?_;clear q0 q1;refine amo (PT.any_inv (I:=imI) (d:=fun i=>14+i) (dp:=awr) (Inv:=fun D f w=>∀j,D j->imR wd.heap.size n ll j D (f j) w) (w0:=wd) (last:= [13]) (fun i _ j _ e=>Nat.add_left_cancel (show 14+i=14+j from e)) (fun i hi=>amn fun dn f W hn hI hdp hR hb=> ?_) (fun f W hI hb=> ?_) _ [] (fun _=>undef) wd (by kernel_rfl) (fun _ h=>by cases h) (fun _ h=>by cases h) (Below.refl _ _))
  · have hk:∀w',Below W.heap.size W w'->∀j∈dn,imR wd.heap.size n ll j (fun j=>j=i\/j∈dn) (f j) w':=fun w' b j hj=>ar1 (fun k h=> .inr h) b (hI j hj) (hR j hj);generalize hX:abg (fun i=>14+i) f dn _=X;have ev:∀j∈dn,j<13->X.eval (.tmp (14+j))=f j:=fun j hj h13=>by
     rw[<-hX];exact ahG (d:=fun i=>14+i) (I:=imI) (fun i _ j _ e=>Nat.add_left_cancel (show 14+i=14+j from e)) hI hj _ (by show 14+j<_;simp;omega)
    have old:=fun(t:Nat) (ht:∀i∈imI,14+i≠t)=>ajF (d:=fun i=>14+i) (f:=f) (l:=dn) (t:=t) fun i hi=>ht i (hI i hi);unfold imI at hi;simp only[List.mem_cons,List.not_mem_nil,or_false]at hi;rcases hi with rfl | rfl | rfl | rfl | rfl | rfl
    · have hb1:Below W.heap.size W (W.alloc (.cells (acb imMarkB) 5)):=(Below.refl _ _).alloc (Nat.le_refl _) _;exact aas (some 14) (w1:=W.alloc (.cells (acb imMarkB) 5)) (v:= .slice (some ⟨W.heap.size,0,none⟩) 8 8) rfl rfl rfl (aaQ rfl rfl (arZ W)) (hb1.mono hb.size) ⟨wd.heap.size,Nat.le_refl _,_,rfl,fun _=>⟨W.heap.size,rfl,hb.size,heap_alloc_new W _⟩,hk _ hb1⟩
    · have h0:=hdp 0 (by decide);obtain⟨r,e,hr,hg⟩:=hR 0 h0 hn;obtain⟨v',hrun,fm,sz,kp,bl⟩:=akh (P:=Tryz.prog) W 37 5 r (acb imMarkB) 8 8 Tryz.underlying37 Tryz.underlying5 hg;have k:∀{A:Option Addr} {m:Nat} {bs:List UInt8},Rd W W.heap.size A m bs->Rd v' v'.heap.size A m bs:=fun h=>by
       rw[sz];refine h.keep fun p _=> ?_;by_cases ep:p.block=r
       · obtain⟨pb,po,ps⟩:=p;dsimp only at ep;subst ep;simp[World.cell?,hg,fm]
       · exact World.cell?_of_block (kp _ ep)
      refine aas (some 15) rfl rfl rfl (amI rfl ((ev 0 h0 (by omega)).trans e) hrun) (bl wd.heap.size hr) ⟨wd.heap.size,Nat.le_refl _,_,rfl,⟨r,rfl,acw fm⟩,fun j hj=> ?_⟩;have hj2:=hI j hj;unfold imI at hj2;simp only[List.mem_cons,List.not_mem_nil,or_false]at hj2;rcases hj2 with rfl | rfl | rfl | rfl | rfl | rfl
      · exact fun h=>absurd (.inl rfl) h
      · exact absurd hj hn
      · exact(hR 5 hj).imp fun r h=>⟨h.1,k h.2⟩
      · exact(hR 10 hj).imp fun r h=>⟨h.1,k h.2⟩
      · exact absurd (hR 11 hj).1 hn
      · exact absurd (hR 11 (hR 12 hj).1).1 hn
    · refine aar (vs:= #[.int .u64 (n:Int)]) Tryz.call120 rfl rfl (congrArg (fun x=> [x]) (by rw[<-hX];exact old 18 (by decide) _)) (R:=fun r w'=>(∃x,r= .slice (some ⟨x,0,none⟩) 8 8/\Rd w' w'.heap.size (some ⟨x,0,none⟩) (aaJ 8 n).length (aaJ 8 n))/\Below W.heap.size W w') ((HPUT.out W n (by omega)).mono ?_) wd.heap.size (Nat.le_refl _) ?_
      · rintro e w' ⟨rfl,hf,hb'⟩;exact⟨_,rfl,hb'.mono hb.size,⟨_,rfl,acw hf⟩,hb'⟩
      · rintro r w' _ ⟨hx,hb'⟩;exact⟨_,rfl,hx,hk _ hb'⟩
    · refine aar (vs:= #[.int .u64 (ll:Int)]) Tryz.call120 rfl rfl (congrArg (fun x=> [x]) (by rw[<-hX];exact old 23 (by decide) _)) (R:=fun r w'=>(∃x,r= .slice (some ⟨x,0,none⟩) 8 8/\Rd w' w'.heap.size (some ⟨x,0,none⟩) (aaJ 8 ll).length (aaJ 8 ll))/\Below W.heap.size W w') ((HPUT.out W ll (by omega)).mono ?_) wd.heap.size (Nat.le_refl _) ?_
      · rintro e w' ⟨rfl,hf,hb'⟩;exact⟨_,rfl,hb'.mono hb.size,⟨_,rfl,acw hf⟩,hb'⟩
      · rintro r w' _ ⟨hx,hb'⟩;exact⟨_,rfl,hx,hk _ hb'⟩
    · have h1:=hdp 1 (by decide);have h5:=hdp 5 (by decide);have h10:=hdp 10 (by decide);obtain⟨a,ea,ra⟩:=hR 1 h1;obtain⟨b,eb,rb⟩:=hR 5 h5;obtain⟨c,ec,rc⟩:=hR 10 h10;obtain⟨w8,hw8⟩:=nmE (W.alloc (.cells #[.slice (some ⟨a,0,none⟩) 8 8, .slice (some ⟨b,0,none⟩) 8 8, .slice (some ⟨c,0,none⟩) 8 8] 37));have hb8:=abE hw8;have n8:=anE hw8;have k:∀{A:Option Addr} {m:Nat} {bs:List UInt8},Rd W W.heap.size A m bs->Rd w8 w8.heap.size A m bs:=fun h=>(h.below hb8).more hb8.size;have x1:X.eval (.tmp 15)=_:=(ev 1 h1 (by omega)).trans ea;have x5:X.eval (.tmp 19)=_:=(ev 5 h5 (by omega)).trans eb;have x10:X.eval (.tmp 24)=_:=(ev 10 h10 (by omega)).trans ec;refine aas (some 25) (w1:=w8) (v:= .slice (some ⟨W.heap.size,0,none⟩) 3 3) rfl rfl rfl (by rw[<-hw8];exact aaQ rfl (by simp only[List.map_cons,List.map_nil];rw[x1,x5,x10]) (apL W _ _ _ _ _ _ _ _ _)) (hb8.mono hb.size) ⟨wd.heap.size,Nat.le_refl _,_,rfl,⟨.inr h1,W.heap.size,a,b,c,rfl,n8,k ra,k rb,k rc⟩,hk _ hb8⟩
    · have h11:=hdp 11 (by decide);obtain⟨_,r,a,b,c,er,hg,r1,r2,r3⟩:=hR 11 h11;refine aar (vs:= #[.slice (some ⟨r,0,none⟩) 3 3]) Tryz.call119 rfl rfl (congrArg (fun x=> [x]) ((ev 11 h11 (by omega)).trans er)) (R:=fun q w'=>w'.ownsRow W.heap.size 5 1 q 24 ((aex n ll).map bv)/\Below W.heap.size W w') ((anM n ll W r a b c hg r1 r2 r3).mono ?_) wd.heap.size (Nat.le_refl _) ?_
      · rintro e w' ⟨v,rfl,ho,hb'⟩;exact⟨_,rfl,hb'.mono hb.size,ho,hb'⟩
      · rintro q w' _ ⟨ho,hb'⟩;exact⟨_,rfl,⟨.inr h11,adx ho hb.size⟩,hk _ hb'⟩
  · obtain⟨_,ho⟩:=hI 12 (by decide);have HO:=hE0 ho;have HB:=hE0 hb;clear hI ho hb;unfold imI;simp only[abg,Act.put,List.setIfInBounds_toArray,List.set_cons_zero,List.set_cons_succ,Nat.reduceAdd];refine aaW (l:= ?finA) (t:= []) ?hfinA ?htfinA ?_
    case hfinA=>simp only[pick,lE1,lE2,lE3];rfl
    case htfinA=>rfl
    repeat (go_big_quiet_step (fail))
    refine wpQuiet_nil ?_;go_wp2_with fail
    go_meet
    case rel=>exact⟨HO.out,HB.out⟩
 case rest=>
  obtain⟨ho,hb⟩:=hcut;have HO:=hE0 ho;have HBC:=hE0 hb;clear ho hb;have HW1S:=hE0 (af7 wc wd.heap.size _ (aex n ll) 24 0 (ae1 n ll) HO.out HBC.out.size (by omega) (by omega) (by omega));go_wp2_with fail
  refine HW1S.out.mono ?_;rintro e w2 ⟨x2,rfl,ho2,hb2⟩;have HO2:Hid (w2.ownsRow wd.heap.size 5 1 x2 28 ((alf n ll).map bv)):=ho2;have HB2:=hE0 (HBC.out.trans hb2);clear ho2 hb2 HW1S HO HBC;have e1:=(HB2.out.cell (p:=⟨w.heap.size,1,none⟩) hld).trans c1;have hl2:w.heap.size<w2.heap.size:=Nat.lt_of_lt_of_le hld HB2.out.size;go_wp2
  go_loopw [4,32] (fun v t wr=>∃(j:Nat),t= .int .i64 (j:Int)/\j<=ll/\wr.ownsRow wd.heap.size 5 1 v (28+(acA (l.take j)).length) ((alf n ll++acA (l.take j)).map bv)/\Below wd.heap.size wd wr) (fun _ t _=>ll-(intOf t).toNat)
  case atStart=>
   refine⟨0,rfl,Nat.zero_le _,?_,HB2.out⟩;have e:alf n ll++acA (l.take 0)=alf n ll:=by rw[List.take_zero];exact List.append_nil _
   rw[e];exact HO2.out
  case round=>
   obtain⟨j,rfl,hj,hown,hb⟩:=hrel;by_cases hlt:j<ll
   · obtain⟨x,hx⟩:∃x,l[j]?=some x:=⟨l[j]'(by rw[HLL.out];exact hlt),List.getElem?_eq_getElem _⟩;obtain⟨b2,o,rfl,hbb,hcl⟩:=HR.out (by rw[HLL.out];omega);obtain⟨p0,p1,p2,hxo,hxs⟩:=hcl j x hx;have hb1w:=HBD.out.trans (hb.mono HBD.out.size);have r0:=(hb1w.cell (p:=⟨b2,o+j*3,none⟩) hbb).trans p0;have r1:=(hb1w.cell (p:=⟨b2,o+j*3+1,none⟩) hbb).trans p1;have r2:=(hb1w.cell (p:=⟨b2,o+j*3+2,none⟩) hbb).trans p2;have HTG:=hE0 (anw hx);have HT1:=HPT.out j;obtain⟨xo,xs,xu⟩:=x;dsimp only at p0 p1 p2 r0 r1 r2 hxs HTG;obtain⟨w4,hw4⟩:=nmE (wr.alloc (.cells #[.int .i64 xo, .int .i64 xs, .bool xu] 112));have hb4:=abE hw4;have n4:=anE hw4;obtain⟨x0,x1,x2⟩:=aam n4;have hl4:=aaa n4;obtain⟨pk,hpk⟩:=nmE (acf xs xu);have hpkl:pk<18446744073709551616:=by have:=afX xs xu;omega
     have HPK:=hE0 (fun W=>ac9 (w:=W) xs xu hxs pk hpk);have HTB:Hid (aou ⟨xo,xs,xu⟩=aaJ 8 pk):=(show _=_ by unfold aou;dsimp only;rw[hpk]);obtain⟨tn,htn⟩:=nmE ((acA (l.take j)).length);rw[htn]at hown HT1;have HTN:=hE0 htn;have HO4:=hE0 (acL hown hb4);have HB4:=hE0 (hb.trans (hb4.mono hb.size));have HW4:=hE0 hw4;clear hx hcl p0 p1 p2 hown hb hb1w hb4 n4 hw4 hpk htn;go_wp2_with (first | (rw[HW4.out]) | fail)
     refine(HPK.out _).mono ?_;rintro e w5 ⟨rfl,rfl⟩;go_wp2_with fail
     refine(HPUT.out _ pk hpkl).mono ?_;rintro e w6 ⟨rfl,hf6,hb6⟩;have HR6:Hid (Rd w6 w6.heap.size (some ⟨w4.heap.size,0,none⟩) 8 (aaJ 8 pk)):=(show Rd _ _ _ _ _ by have:=hf6.reads;rw[aag]at this;exact this);have HO6:=hE0 (acL HO4.out hb6);have HB6:=hE0 (HB4.out.trans (hb6.mono HB4.out.size));clear hf6 hb6;go_wp2_with (first
      | (at_builtin;go_must (refine aco rfl (.tmp 36) (.tmp 42) 37 5 rfl Tryz.underlying37 afw wd.heap.size _ (28+tn) (alf n ll++acA (l.take j)) rfl HO6.out _ (some ⟨w4.heap.size,0,none⟩) 8 8 (aaJ 8 pk) rfl HR6.out (fun e=>by cases e) (by omega) HB6.out.size ?_);intro x7 w7 own7 hb7 gr7
         have HX7:Hid (w7.ownsRow wd.heap.size 5 1 x7 ((28+tn)+8) (((alf n ll++acA (l.take j))++(aaJ 8 pk)).map bv)/\Below wd.heap.size w6 w7):=⟨own7,hb7⟩;clear own7 hb7 gr7)
      | fail)
     go_roundw
     case rel=>
      refine⟨j+1,by go_num,by omega,?_,HB6.out.trans HX7.out.2⟩;rw[HTG.out,HTB.out,List.length_append,HTN.out,aag,<-List.append_assoc];exact HX7.out.1
     case measure=>simp only[intOf];omega
   · have e:l.take j=l:=List.take_of_length_le (by rw[HLL.out];omega);rw[e,HTL.out]at hown;have HWS:=hE0 (af7 wr wd.heap.size _ (alf n ll++acA l) (28+8*ll) 28 (by rw[List.length_append,HAL.out,HTL.out]) hown hb.size (by omega) (by omega) (by omega));rw[HPTE.out]at HWS;have HB:=hE0 hb;clear hown hb e;go_wp2_with fail
     refine HWS.out.mono ?_;rintro e w5 ⟨x5,rfl,ho5,hb5⟩;rw[HTE.out]at ho5;have hT100:T<=10000:=by have:=HTE.out;omega
     have hT0:0<T:=by have:=HTE.out;omega
     have hb5':=HB.out.trans hb5;obtain⟨A5,c5,rfl,hA5⟩:=aeM ho5;have HO5:=hE0 ho5;have HB5:=hE0 hb5';have e2:=(hb5'.cell (p:=⟨w.heap.size,2,none⟩) hld).trans c2;have hl5:w.heap.size<w5.heap.size:=Nat.lt_of_lt_of_le hld hb5'.size;clear ho5 hb5 hb5' HWS;go_wp2
     go_loopw [4,52] (fun v t wr=>∃(j:Nat),t= .int .i64 (j:Int)/\j<=dl/\wr.ownsRow wd.heap.size 5 1 v (T+(d.take j).flatten.length) ((ahP n l++(d.take j).flatten).map bv)/\Below wd.heap.size wd wr) (fun _ t _=>dl-(intOf t).toNat)
     case atStart=>
      refine⟨0,rfl,Nat.zero_le _,?_,HB5.out⟩;have e:ahP n l++(d.take 0).flatten=ahP n l:=by rw[List.take_zero];exact List.append_nil _
      rw[e];exact HO5.out
     case round=>
      obtain⟨i,rfl,hi,hown,hb⟩:=hrel;have hb1w:=HBD.out.trans (hb.mono HBD.out.size);by_cases hlt2:i<dl
      · obtain⟨y,hy⟩:∃y,d[i]?=some y:=⟨d[i]'(by rw[HDLL.out];exact hlt2),List.getElem?_eq_getElem _⟩;obtain⟨b,o,rfl,hbb,hc⟩:=HD.out (by rw[HDLL.out];omega);obtain⟨A',k',z0,hrd,_,_,hA⟩:=hc i y hy;have z1:=(hb1w.cell (p:=⟨b,o+i,none⟩) hbb).trans z0;have hs1:=HFT.out (i+1);rw[ada hy,List.length_append]at hs1;have HFT2:=hE0 (ada hy);have HRD:=hE0 ((hrd.below hb1w).more hb1w.size);obtain⟨yn,hn'⟩:∃yn,y.length=yn:=⟨_,rfl⟩;have HYN:=hE0 hn';obtain⟨q,hq⟩:=nmE ((d.take i).flatten.length);rw[hq]at hown hs1;have HQ:=hE0 hq;rw[hn']at z0 z1 hs1 HRD;have HO:=hE0 hown;have HB6:=hE0 hb;clear hc hy hn' hown hb hrd hq hb1w z0;go_wp2_with (first
         | (at_builtin;go_must (refine aco rfl (.tmp 56) (.tmp 57) 37 5 rfl Tryz.underlying37 afw wd.heap.size _ (T+q) (ahP n l++(d.take i).flatten) rfl HO.out _ A' yn k' y rfl HRD.out hA (by omega) HB6.out.size ?_);intro x30 w30 own30 hb30 gr30
            have HX30:Hid (w30.ownsRow wd.heap.size 5 1 x30 ((T+q)+yn) (((ahP n l++(d.take i).flatten)++y).map bv)/\Below wd.heap.size wr w30):=⟨own30,hb30⟩;clear own30 hb30 gr30)
         | fail)
        go_roundw
        case rel=>
         refine⟨i+1,by go_num,by omega,?_,HB6.out.trans HX30.out.2⟩;rw[HFT2.out,List.length_append,HQ.out,HYN.out,<-List.append_assoc,<-Nat.add_assoc];exact HX30.out.1
        case measure=>simp only[intOf];omega
      · have e:d.take i=d:=List.take_of_length_le (by rw[HDLL.out];omega);rw[e,HFL.out]at hown;have HWS2:=hE0 (af7 wr wd.heap.size _ (ahP n l++d.flatten) (T+fl) T (by rw[List.length_append,HFL.out,HTL2.out]) hown hb.size (by omega) (by omega) (by omega));rw[HPDE.out]at HWS2;have HB6:=hE0 hb;clear hown hb e hb1w;go_wp2_with fail
        refine HWS2.out.mono ?_;rintro e w7 ⟨x7,rfl,ho7,hb7⟩;have HB7:=hE0 (HB6.out.trans hb7);have HWS3:=hE0 (af7 w7 wd.heap.size x7 (akV n l d) (T+fl+4) 0 (by rw[HDL2.out];have:=HTE.out;omega) ho7 HB7.out.size (by omega) (by omega) (by omega));clear ho7 hb7 HWS2;go_wp2_with fail
        refine HWS3.out.mono ?_;rintro e w8 ⟨x8,rfl,ho8,hb8⟩;have hfin:w8.ownsRow w.heap.size 5 1 x8 (40+8*ll+fl) ((aaZ n l d).map bv):=by
         rw[show T+fl+4+4=40+8*ll+fl by have:=HTE.out;omega]at ho8;exact adx ho8 (Nat.le_trans HB1.out.size HBD.out.size)
        have hbfin:Below w.heap.size w w8:=HB1.out.trans ((HBD.out.trans ((HB7.out.trans hb8).mono HBD.out.size)).mono HB1.out.size);obtain⟨A8,c8,rfl,_⟩:=aeM hfin;have HFIN:=hE0 (And.intro hfin hbfin);clear hfin hbfin ho8 hb8;go_wp2
        go_ret2
        exact⟨A8,c8,rfl,HFIN.out⟩
def wk (K:Nat) (left:Int) (off:Bool):Nat:=if off=true then 0 else if left<0 then K else min K left.toNat
def ab1 (left:Int) (j:Nat):Int:=if left<0 then left else left-j
def agO (p:Nat) (b:List UInt8) (j:Nat):List (Nat × List UInt8):=(List.range j).map fun i=>(p+i,agF b i)
theorem aki (p:Nat) (b:List UInt8) (j:Nat):agO p b (j+1)=agO p b j++ [(p+j,agF b j)]:=by simp[agO,List.range_succ]
theorem apM (b:List UInt8) (i:Nat):agF (b.drop (i*512)) 0=agF b i:=by simp[agF]
theorem agP (p:Nat) (b:List UInt8) (j:Nat):(agO p b j).length=j:=by simp[agO]
theorem ah7 (left:Int):ab1 left 0=left:=by unfold ab1;split<;>omega
theorem anN (left:Int) (j:Nat) (h:(j:Int)<=left\/left<0):ab1 (ab1 left j) 1=ab1 left (j+1):=by
 unfold ab1;by_cases h0:left<0
 · simp[h0]
 · have:¬(left-(j:Int)<0):=by omega
   simp[h0,this];omega
section
variable {S:Nat->Prop} {w:World} {g h c:Nat} {W:Option Addr} {cw:Nat} {bs:List UInt8} {ws:List Wr} {left:Int} {off:Bool}
theorem alA (k:Dk S w g h c W cw bs ws left false) (hl:bs.length<=100000) (hws:ws.length<=1000000) (hl0:left≠0) (hl2:left<=9223372036854775807) (i:Nat) (hi:i*512+512<=bs.length) (A:Option Addr) (cA:Nat) (d:List UInt8) (hd:d.length=512) (hr:Rd w w.heap.size A 512 d) (hAg:∀a,A=some a->a.block≠g):
 Calls Tryz.prog 255 #[.pointer (some ⟨g,0,none⟩), .int .i64 (i:Int), .slice A 512 cA] w fun e w'=>e= .returned .nilIface/\(∃W' cw' b cb,Dk (ad1 S w w') w' g h c W' cw' bs (ws++ [⟨i,b,cb,d⟩]) (ab1 left 1) false)/\Tch S w w':=by
 by_cases h0:left<0
 · have e:ab1 left 1=left:=by simp[ab1,h0]
   rw[e];exact anA k hl hws h0 i hi A cA d hd hr
 · have e:ab1 left 1=left-1:=by simp[ab1,h0]
   rw[e];exact anB k hl hws (by omega) hl2 i hi A cA d hd hr hAg
theorem anO (k:Dk S w g h c W cw bs ws left off) (hl:bs.length<=100000) (hbad:off=true\/left=0) (i:Nat) (hi:i*512+512<=bs.length) (A:Option Addr) (cA:Nat):
 Calls Tryz.prog 255 #[.pointer (some ⟨g,0,none⟩), .int .i64 (i:Int), .slice A 512 cA] w fun e w'=>e= .returned (.iface 130 (.int .i64 6))/\Dk S w' g h c W cw bs ws left true/\Tch S w w':=by
 by_cases h0:left=0
 · subst h0;exact anD k hl i hi A cA
 · obtain rfl:off=true:=by rcases hbad with h | h;exact h;exact absurd h h0
   refine(anC k hl h0 i hi A cA).mono ?_;rintro e w' ⟨rfl,rfl⟩;exact⟨rfl,k,Tch.refl _ _⟩
theorem Dk.regrow{S:Nat->Prop}{w w1 w2:World}(k:Dk (ad1 (ad1 S w w1) w1 w2) w2 g h c W cw bs ws left off) (h1:w.heap.size<=w1.heap.size) (h2:w1.heap.size<=w2.heap.size):Dk (ad1 S w w2) w2 g h c W cw bs ws left off:=k.more fun j hj=>by
 rcases(k.foot hj).1 with(h | h) | h
 · exact .inl h
 · exact .inr ⟨h.1,by omega⟩
 · exact .inr ⟨by omega,h.2⟩
theorem Tch.regrow{S:Nat->Prop}{w w1 w2:World}(h:Tch S w w1) (h2:Tch (ad1 S w w1) w1 w2):Tch S w w2:=h.trans h2 fun i hi hg=>by
 rcases hg with h | h
 · exact h
 · omega
theorem anP (k:Dk S w g h c W cw bs ws left off) (N:Nat) (hN:bs.length=512*N) (hN2:N<=128) (hws:ws.length<=100000) (hl2:left<=9223372036854775807) (p:Nat) (A:Option Addr) (cA:Nat) (b:List UInt8) (hr:Rd w w.heap.size A b.length b) (hA:b.length<=cA) (hAm:cA<=9223372036854775807) (hAS:0<b.length->∀a,A=some a->¬S a.block) (K:Nat) (hK:need b.length=K) (hfit:p+K<=N) (m:Nat) (hm:wk K left off=m):
 Calls Tryz.prog 208 #[.pointer (some ⟨g,0,none⟩), .int .i64 (p:Int), .slice A b.length cA] w fun e w'=>e= .returned (if m<K then .iface 130 (.int .i64 6) else .nilIface)/\(∃W' cw' vs,Dk (ad1 S w w') w' g h c W' cw' bs vs (ab1 left m) (off || decide (m<K))/\vs.map Wr.two=ws.map Wr.two++agO p b m)/\Tch S w w':=by
 have hmK:m<=K:=by rw[<-hm];unfold wk;split;omega;split;omega;omega
 have hbl:b.length<=65536:=by unfold need at hK;omega
 have hon:off=true->m=0:=fun e=>by rw[<-hm];unfold wk;simp[e]
 have hml:off=false->(m:Int)<=left\/left<0:=fun e=>by
  rw[<-hm];unfold wk;by_cases h0:left<0
  · exact .inr h0
  · left;simp[e,h0];omega
 have hmlt:off=false->m<K->left=(m:Int):=fun e h=>by
  rw[<-hm]at h ⊢;unfold wk at h ⊢;by_cases h0:left<0
  · simp[e,h0]at h
  · simp[e,h0]at h ⊢;omega
 have HF:=hE0 (aj7 k N hN hN2 p b.length (by rw[hK];exact hfit));have HE:=hE0 (ad7 w b.length (by omega) K hK);have k0:Dk (ad1 S w w) w g h c W cw bs ws (ab1 left 0) off:=by rw[ah7];exact k.more fun j hj=> .inl (k.foot hj).1
 have HK:=hE0 hK;have HNN:=hE0 hN;have HR:=hE0 hr;clear hK hN hr hm k;go_enter Tryz.func208,Tryz.ntmps208
 go_wp2_with fail
 with_reducible refine HF.out.mono ?_
 rintro e w1 ⟨rfl,rfl⟩;go_wp2_with fail
 with_reducible refine HE.out.mono ?_
 rintro e w1 ⟨rfl,rfl⟩;clear HF HE;go_wp2
 go_loopw [19] (fun i wr=>∃j:Nat,j<=m/\i= .int .i64 j/\(∃W' cw' vs,Dk (ad1 S w wr) wr g h c W' cw' bs vs (ab1 left j) off/\vs.map Wr.two=ws.map Wr.two++agO p b j)/\Tch S w wr) (fun i _=>K-(intOf i).toNat)
 case atStart=>exact⟨0,Nat.zero_le _,rfl,⟨W,cw,ws,k0,by simp[agO]⟩,Tch.refl _ _⟩
 case round=>
  obtain⟨j,hj,rfl,⟨W',cw',vs,kr,hvs⟩,ht⟩:=hrel;have hvl:vs.length=ws.length+j:=by have:=congrArg List.length hvs;simpa[agP]using this
  by_cases hlt:j<K
  · have hjb:j*512<b.length:=by have:=HK.out;unfold need at this;omega
    have rr:=HR.out.tch ht (hAS (by omega));obtain⟨bA,oA,rfl,hbA,_⟩:=rr.2 (by omega);obtain⟨cs,hcs⟩:=nmE (b.drop (j*512));have hcl:cs.length=b.length-j*512:=by rw[<-hcs];simp
    have rs:=rr.sub (j*512) (b.length-j*512) (by omega);rw[List.take_of_length_le (by simp),hcs,<-hcl]at rs;have HP:=als wr ⟨bA,oA+j*512,none⟩ (cA-j*512) cs rs (by omega) (by omega);rw[hcl,<-hcs,apM]at HP;have HP:=hE0 HP;have HKR:=hE0 kr;have HVS:=hE0 hvs;have HT:=hE0 ht;have hne:¬cA=j*512:=by omega
    clear rr rs hcs kr hvs ht k0;go_wp2_with fail
    with_reducible refine HP.out.mono ?_
    rintro e w2 ⟨rfl,hf,hb⟩;have rf:=hf.reads;rw[aeK]at rf;have k2:=HKR.out.below hb;by_cases hjm:j<m
    · have hof:off=false:=by
       cases off
       · rfl
       · have:=hon rfl;omega
      subst hof;have hml':=hml rfl;have hl0:ab1 left j≠0:=by unfold ab1;split<;>omega
      have hl3:ab1 left j<=9223372036854775807:=by unfold ab1;split<;>omega
      have HW:=alA k2 (by have:=HNN.out;omega) (by omega) hl0 hl3 (p+j) (by have:=HNN.out;omega) (some ⟨wr.heap.size,0,none⟩) 512 (agF b j) (aeK b j) rf (fun a e=>by
       injection e with e;subst e;have:=HKR.out.lt;dsimp only;omega)
      rw[anN left j (by omega),Int.natCast_add]at HW;have HW:=hE0 HW;have HSZ:=hE0 hb.size;have T2:Hid (Tch (ad1 S w wr) wr w2):=Tch.of_below hb;have HSR:=hE0 HT.out.size;clear hf hb rf k2 hl0 hl3 hne hcl;go_wp2_with fail
      with_reducible refine HW.out.mono ?_
      rintro e w3 ⟨rfl,⟨W3,cw3,b3,cb3,k3⟩,t3⟩;have t23:=T2.out.trans t3 (fun i _ h=>h);have t03:=HT.out.regrow t23;have k3':Dk (ad1 S w w3) w3 g h c W3 cw3 bs (vs++ [⟨p+j,b3,cb3,agF b j⟩]) (ab1 left (j+1)) false:=k3.more fun i hi=>by
       have h1:=HSR.out;have h2:=HSZ.out;have h3:=t3.size;rcases(k3.foot hi).1 with(h | h) | h
       · exact .inl h
       · exact .inr ⟨h.1,by omega⟩
       · exact .inr ⟨by omega,h.2⟩
      have e3:(vs++ [(⟨p+j,b3,cb3,agF b j⟩:Wr)]).map Wr.two=ws.map Wr.two++agO p b (j+1):=by rw[List.map_append,HVS.out,aki,List.append_assoc];rfl
      have K3:=hE0 k3';have E3:=hE0 e3;have T3:=hE0 t03;clear k3 t3 t23 t03 k3' e3 HW T2;go_wp2
      go_roundw
      case rel=>exact⟨j+1,by omega,by go_num,⟨W3,cw3,_,K3.out,E3.out⟩,T3.out⟩
      case measure=>simp[intOf];omega
    · obtain rfl:j=m:=by omega
      have hbad:off=true\/ab1 left j=0:=by
       cases off
       · right;have:=hmlt rfl hlt;unfold ab1;split<;>omega
       · exact .inl rfl
      have HW:=anO k2 (by have:=HNN.out;omega) hbad (p+j) (by have:=HNN.out;omega) (some ⟨wr.heap.size,0,none⟩) 512;rw[Int.natCast_add]at HW;have HW:=hE0 HW;have HSZ:=hE0 hb.size;have T2:Hid (Tch (ad1 S w wr) wr w2):=Tch.of_below hb;clear hf hb rf k2 hne hcl;go_wp2_with fail
      with_reducible refine HW.out.mono ?_
      rintro e w3 ⟨rfl,k3,t3⟩;have t03:=HT.out.regrow (T2.out.trans t3 (fun i _ h=>h));have k3':Dk (ad1 S w w3) w3 g h c W' cw' bs vs (ab1 left j) true:=by
       exact k3.more fun i hi=>by
        have h2:=HSZ.out;have h3:=t3.size;rcases(k3.foot hi).1 with h | h
        · exact .inl h
        · exact .inr ⟨h.1,by omega⟩
      have K3:=hE0 k3';have T3:=hE0 t03;clear k3 t3 t03 k3' HW T2;go_wp2
      go_ret
      exact⟨rfl,⟨W',cw',_,K3.out,HVS.out⟩,T3.out⟩
  · obtain rfl:j=K:=by omega
    obtain rfl:m=j:=by omega
    have K3:=hE0 kr;have T3:=hE0 ht;have HVS:=hE0 hvs;clear kr ht hvs k0;go_wp2
    go_ret
    exact⟨rfl,⟨W',cw',_,K3.out,HVS.out⟩,T3.out⟩
end
def aca (l:List Bk) (o k:Nat):Bool:=l.any fun x=>x.off==o&& !x.used&&aaq (x.size:Int)==(k:Int)
theorem ah8:∀(l:List Bk) (o e:Nat),aby o l e->l.Pairwise (fun a b=>a.off<b.off)
 | [],_,_,_=>List.Pairwise.nil
 | x::r,o,e,⟨a,b,c⟩=>by
  have q:=(aab _).1 b;refine List.pairwise_cons.2 ⟨fun y hy=> ?_,ah8 r _ _ c⟩;have:=((aak r _ _ c).2 y hy).1;omega
theorem alB{l:List Bk}{j:Nat}{x:Bk}(h:l[j]?=some x) (o k:Nat):aca (l.take (j+1)) o k=(aca (l.take j) o k || (x.off==o&& !x.used&&aaq (x.size:Int)==(k:Int))):=arQ h
theorem anQ{l:List Bk}{j:Nat}{x:Bk}(hp:l.Pairwise (fun a b=>a.off<b.off)) (h:l[j]?=some x) (k:Nat):aca (l.take j) x.off k=false:=by
 unfold aca;rw[List.any_eq_false];intro y hy hc;obtain⟨i,hi,e⟩:=List.getElem_of_mem hy;rw[List.length_take]at hi;rw[List.getElem_take]at e;obtain⟨hj,e2⟩:=List.getElem?_eq_some_iff.1 h;have:=List.pairwise_iff_getElem.1 hp i j (by omega) hj (by omega);rw[e,e2]at this;simp at hc;omega
theorem ar3{l:List Bk}{j:Nat}{x:Bk}(h:l[j]?=some x):abl (l.take (j+1))=abl (l.take j)+if x.used=true then 0 else 1:=by
 unfold abl;rw[alv h]
 cases x.used<;>rfl
theorem alC (w:World) (A2:Option Addr) (c2:Nat) (l:List Bk) (hr:BkRd w w.heap.size A2 l) (hl:l.length<=100000) (hp:l.Pairwise (fun a b=>a.off<b.off))
 (hg:∀x∈l,aaG (x.size:Int)=true/\x.off<=100000):
 Calls Tryz.prog 116 #[.slice A2 l.length c2] w fun e w'=>e= .returned (.map (some w.heap.size))/\PSet w' w.heap.size l.length (aca l) (abl l)/\Below w.heap.size w w':=by
 have HR:=hE0 hr;have HG:=hE0 hg;have HP:=hE0 hp;have hmm:= @run_makeMap Tryz.prog;obtain⟨B0,hB0⟩:=nmE w.heap.size;have HB0:=hE0 hB0;have hP0:=PSet.made w;rw[hB0]at hP0;obtain⟨w1,hw1⟩:=nmE (w.alloc (.map #[] 0));have hb1:=abE hw1;rw[hw1]at hP0;have HW1:=hE0 hw1;have HB1:=hE0 hb1;have HP0:=hE0 hP0;clear hr hg hp hP0 hw1 hb1;go_enter Tryz.func116,Tryz.ntmps116
 go_wp2_with (first | (rw[HW1.out]) | fail)
 clear hmm hB0;go_loopw [9] (fun t wr=>∃j:Nat,t= .int .i64 (j:Int)/\j<=l.length/\PSet wr B0 j (aca (l.take j)) (abl (l.take j))/\Below B0 w wr) (fun t _=>l.length-(intOf t).toNat)
 case atStart=>exact⟨0,rfl,Nat.zero_le _,HP0.out,by rw[<-HB0.out];exact HB1.out⟩
 case round=>
  obtain⟨j,rfl,hj,hps,hbe⟩:=hrel;by_cases hlt:j<l.length
  · obtain⟨x,hx⟩:∃x,l[j]?=some x:=⟨l[j],List.getElem?_eq_getElem hlt⟩;obtain⟨b2,o,rfl,hbb,hcl⟩:=HR.out (by omega);rw[HB0.out]at hbb;obtain⟨p0,p1,p2⟩:=hcl j x hx;have ht:=alB hx;have hn:=anQ HP.out hx;have hct:=ar3 hx;obtain⟨hsz,hoff⟩:=HG.out x (List.mem_of_getElem? hx);obtain⟨k,hk,hk22⟩:=abz hsz;have hq:=(aab _).1 hsz;have r0:=aa0 hbe p0 hbb;have r1:=aa0 hbe p1 hbb;have r2:=aa0 hbe p2 hbb;obtain⟨xo,xs,xu⟩:=x;dsimp only at p0 p1 p2 r0 r1 r2 ht hn hct hoff hk hq;have hBr:=hps.lt;obtain⟨w4,hw4⟩:=nmE (wr.alloc (.cells #[.int .i64 (xo:Int), .int .i64 (xs:Int), .bool xu] 112));have hb4:=abE hw4;have n4:=anE hw4;obtain⟨⟨d0,d1,d2⟩,_⟩:=aad n4;have hlt4:=aae n4;have ps4:=hps.below hb4 hBr;have HW4:=hE0 hw4;have HB4:=hE0 (hbe.trans (hb4.mono (by omega)))
    cases xu with
    | true=>
     have hP:PSet w4 B0 (j+1) (aca (l.take (j+1))) (abl (l.take (j+1))):=by
      rw[hct];exact(ps4.mono (Nat.le_succ j)).same fun o k _ _=>by rw[ht];simp
     have HPN:=hE0 hP;clear hx hbe hps p0 p1 p2 hb4 n4 hw4 hcl hk hsz ht hn hct ps4 hP;go_wp2_with (first | (rw[HW4.out]) | fail)
     go_roundw
     case rel=>exact⟨j+1,by go_num,by omega,HPN.out,HB4.out⟩
     case measure=>simp only[intOf];omega
    | false=>
     have hC:=fun W=>ajW W (xs:Int) (by omega);rw[hk]at hC;have HC:=hE0 (hC w4.drew);have HPS:=hE0 (⟨ps4,hlt4⟩:PSet w4 B0 j (aca (l.take j)) (abl (l.take j))/\wr.heap.size<w4.heap.size);have hP:∀W,PSet W B0 (j+1) (fun p' c'=>aca (l.take j) p' c' || (p'==xo&&c'==k)) (abl (l.take j)+1)->PSet W B0 (j+1) (aca (l.take (j+1))) (abl (l.take (j+1))):=fun W h=>by
      rw[hct];refine h.same fun o k' _ _=> ?_;rw[ht,hk];congr 1;rw[Bool.eq_iff_iff];simp;omega
     have HPN:=hE0 hP;have HN:=hE0 (hn k);clear hx hbe hps p0 p1 p2 hb4 n4 hw4 hcl hk hsz ht hn hct ps4 hP hC;go_wp2_with (first | (rw[HW4.out]) | fail)
     refine aao w4.heap.size [([0,1,2,3,4],5)] [6] [7] (by kernel_rfl) (by kernel_rfl) (by kernel_rfl) (fun _ _ _ _ _ h=>h) ?_;have q0:∀z:LaterB w4.heap.size w4.drew,z.val.cell? ⟨wr.heap.size,0,none⟩=some (.int .i64 (xo:Int)):=fun z=>aa0 z.ext d0 hlt4;have q1:∀z:LaterB w4.heap.size w4.drew,z.val.cell? ⟨wr.heap.size,1,none⟩=some (.int .i64 (xs:Int)):=fun z=>aa0 z.ext d1 hlt4;refine tail_cons (l:= ?seg1) ?hseg1 ?_
     case hseg1=>simp only[pick,lE1,lE2,lE3];rfl
     repeat (go_big_quiet_step (fail))
     refine wpQuiet_nil ?_;clear q0 q1;refine aar (vs:= #[.int .i64 (xs:Int)]) Tryz.call177 rfl rfl rfl (R:=fun r w'=>r= .int .i64 (k:Int)/\Below w4.heap.size w4.drew w') (HC.out.mono ?_) w4.heap.size (Nat.le_refl _) ?_
     · rintro e w' ⟨rfl,hb⟩;exact⟨_,rfl,hb,rfl,hb⟩
     rintro r w5 _ ⟨rfl,hb5⟩;have hb6:Below w4.heap.size w4 w5:=⟨hb5.os,hb5.tape,hb5.output,hb5.size,hb5.block⟩;have hs6:w4.heap.size<=w5.heap.size:=hb6.size;have hps5:=HPS.out.1.below hb6 (by omega);refine aaH (l:= ?la1) (t:= ?tl1) ?hla1 ?htl1 ?_
     case hla1=>simp only[pick,lE1,lE2,lE3];rfl
     case htl1=>simp only[pick,lE1,lE2,lE3];rfl
     simp only[Act.put,lE4,lE5,lE6];repeat (go_big_quiet_step (fail))
     refine wpQuiet_nil ?_;refine ao9 rfl _ _ _ rfl rfl hps5 (by unfold maxLen;omega) xo k (by omega) (by omega) rfl rfl HN.out ?_;intro w6 hp6 ht6;have HP6:=hE0 (HPN.out w6 hp6);have HB6:=hE0 ((HB4.out.trans (hb6.mono (by omega))).trans (ht6.below (B:=B0) (fun q hq=>by omega) (by omega)));clear hp6 ht6 hps5 hb5 hb6 hs6;go_wp2
     go_roundw
     case rel=>exact⟨j+1,by go_num,by omega,HP6.out,HB6.out⟩
     case measure=>simp only[intOf];omega
  · have e:l.take j=l:=List.take_of_length_le (by omega);rw[e]at hps;have HPS:=hE0 (hps.mono (n':=l.length) (by omega));have HB:=hE0 hbe;clear hbe hps e;go_wp2
    go_ret
    exact⟨by rw[HB0.out];rfl,by rw[HB0.out];exact HPS.out,by rw[HB0.out];exact HB.out⟩
end Go.Proofs.YtncadccbepjekaaGreatDoor
