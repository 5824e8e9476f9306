/- Texts of mine, joined. -/
import Derived.Test.YtncadccbepjekaaGreatDoorP18
set_option maxRecDepth 100000
set_option maxHeartbeats 4000000
namespace Go.Proofs.YtncadccbepjekaaGreatDoor
open Go.RowKit
theorem ako (w:World) (g n s:Nat) (y:Bool) (hy:akX g n=y):
 Calls Tryz.prog 210 #[.agg #[.int .u64 (g:Int), .int .u64 (n:Int), .int .u32 (s:Int)]] w fun e w'=>e= .returned (.bool y)/\Below w.heap.size w w':=by
 obtain⟨w1,hw1⟩:=nmE (w.alloc (.cells #[.int .u64 (g:Int), .int .u64 (n:Int), .int .u32 (s:Int)] 146));have hb1:=abE hw1;have n1:=anE hw1;obtain⟨c0,c1,c2⟩:=aam n1;have hl1:=aaa n1;have HW1:=hE0 hw1;have HB1:=hE0 hb1;clear hw1 hb1 n1;unfold akX at hy;by_cases h1:1<=g
 · have g1:decide ((1:Int)<=(g:Int))=true:=decide_eq_true (by omega);rw[decide_eq_true h1,Bool.true_and]at hy;by_cases h2:g<=4611686018427387904
   · have g2:decide ((g:Int)<=4611686018427387904)=true:=decide_eq_true (by omega);rw[decide_eq_true h2,Bool.true_and]at hy;have g3:decide ((n:Int)<=65536)=y:=by rw[<-hy];exact decide_eq_decide.mpr (by omega)
     clear hy;go_enter Tryz.func210,Tryz.ntmps210
     go_wp2_with (first | (rw[HW1.out]) | fail)
     go_ret
     exact⟨rfl,HB1.out⟩
   · have g2:decide ((g:Int)<=4611686018427387904)=false:=decide_eq_false (by omega);rw[decide_eq_false h2,Bool.false_and]at hy;subst hy;go_enter Tryz.func210,Tryz.ntmps210
     go_wp2_with (first | (rw[HW1.out]) | fail)
     go_ret
     exact⟨rfl,HB1.out⟩
 · have g1:decide ((1:Int)<=(g:Int))=false:=decide_eq_false (by omega);rw[decide_eq_false h1,Bool.false_and]at hy;subst hy;go_enter Tryz.func210,Tryz.ntmps210
   go_wp2_with (first | (rw[HW1.out]) | fail)
   go_ret
   exact⟨rfl,HB1.out⟩
theorem ar5 (w:World) (g n s:Nat) (hy:akX g n=false):
 Calls Tryz.prog 145 #[.agg #[.int .u64 (g:Int), .int .u64 (n:Int), .int .u32 (s:Int)]] w fun e w'=>e= .returned (.slice none 0 0)/\Below w.heap.size w w':=by
 obtain⟨w1,hw1⟩:=nmE (w.alloc (.cells #[.int .u64 (g:Int), .int .u64 (n:Int), .int .u32 (s:Int)] 146));have hb1:=abE hw1;have n1:=anE hw1;obtain⟨c0,c1,c2⟩:=aam n1;have hl1:=aaa n1;have HM:=hE0 (ako w1 g n s _ hy);have HW1:=hE0 hw1;have HB1:=hE0 hb1;clear hw1 hb1 n1 hy;go_enter Tryz.func145,Tryz.ntmps145
 go_wp2_with (first | (rw[HW1.out]) | fail)
 refine HM.out.mono ?_;rintro e w2 ⟨rfl,hb2⟩;have HF:=hE0 (HB1.out.trans (hb2.mono HB1.out.size));clear hb2;go_wp2
 go_ret
 exact⟨rfl,HF.out⟩
theorem apW (w:World):(Instr.buildSlice 37 8 #[(0, .int .u8 83),(1, .int .u8 76),(2, .int .u8 79),(3, .int .u8 84),(4, .int .u8 0),(5, .int .u8 0),(6, .int .u8 0),(7, .int .u8 0)]).run Tryz.prog w= .ok (.slice (some ⟨w.heap.size,0,none⟩) 8 8) (w.alloc (.cells (acb slMark) 5)):=by
 have e:acb slMark= #[.int .u8 83, .int .u8 76, .int .u8 79, .int .u8 84, .int .u8 0, .int .u8 0, .int .u8 0, .int .u8 0]:=by rfl
 rw[e];exact atO w
theorem apX (w:World) (A B C D:Option Addr) (a b c d e f g h:Nat):(Instr.buildSlice 57 4 #[(0, .slice A a b),(1, .slice B c d),(2, .slice C e f),(3, .slice D g h)]).run Tryz.prog w= .ok (.slice (some ⟨w.heap.size,0,none⟩) 4 4) (w.alloc (.cells #[.slice A a b, .slice B c d, .slice C e f, .slice D g h] 37)):=by
 simp[go_sem]
theorem ar6 (w:World) (A B:Option Addr) (a b c d:Nat):(Instr.buildSlice 57 2 #[(0, .slice A a b),(1, .slice B c d)]).run Tryz.prog w= .ok (.slice (some ⟨w.heap.size,0,none⟩) 2 2) (w.alloc (.cells #[.slice A a b, .slice B c d] 37)):=by
 simp[go_sem]
theorem as5{w:World}{g:Nat}{C:Array Value}{l:List (List UInt8)}(hg:w.heap[g]?=some (.cells C 37 (0,0)))
 (h:∀(j:Nat) (u:List UInt8),l[j]?=some u->∃(A:Option Addr) (k:Nat),C[j]?=some (Value.slice A u.length k)/\Rd w w.heap.size A u.length u/\u.length<=maxLen/\u.length<=k/\(A=none->k=0)):
 DtRd w w.heap.size (some ⟨g,0,none⟩) l:=fun _=>by
 refine⟨g,0,rfl,aaa hg,fun j u hu=> ?_⟩;obtain⟨A,k,hC,hr,h1,h2,h3⟩:=h j u hu;exact⟨A,k,by rw[Nat.zero_add,cell_of_row w g j _ _ (0,0) hg];exact hC,hr,h1,h2,h3⟩
theorem anS (g n s:Nat) (w8:World) (r a b c d:Nat) (hn8:w8.heap[r]?=some (.cells #[.slice (some ⟨a,0,none⟩) 8 8, .slice (some ⟨b,0,none⟩) 8 8, .slice (some ⟨c,0,none⟩) 8 8, .slice (some ⟨d,0,none⟩) 4 4] 37 (0,0)))
 (h1:Rd w8 w8.heap.size (some ⟨a,0,none⟩) slMark.length slMark) (h2:Rd w8 w8.heap.size (some ⟨b,0,none⟩) (aaJ 8 g).length (aaJ 8 g)) (h3:Rd w8 w8.heap.size (some ⟨c,0,none⟩) (aaJ 8 n).length (aaJ 8 n)) (h4:Rd w8 w8.heap.size (some ⟨d,0,none⟩) (aaJ 4 s).length (aaJ 4 s)):
 Calls Tryz.prog 119 #[.slice (some ⟨r,0,none⟩) 4 4] w8 fun e w'=>∃v,e= .returned v/\w'.ownsRow w8.heap.size 5 1 v 28 ((abt g n s).map bv)/\Below w8.heap.size w8 w':=by
 have hd:DtRd w8 w8.heap.size (some ⟨r,0,none⟩) [slMark,aaJ 8 g,aaJ 8 n,aaJ 4 s]:=as5 hn8 (fun j u hu=>by
  match j,hu with
  | 0,hu=>injection hu with hu;subst hu;exact⟨_,8,rfl,h1,by decide,by decide,fun e=>by cases e⟩
  | 1,hu=>injection hu with hu;subst hu;exact⟨some ⟨b,0,none⟩,8,by rw[aag];rfl,h2,by rw[aag];decide,by rw[aag];decide,fun e=>by cases e⟩
  | 2,hu=>injection hu with hu;subst hu;exact⟨some ⟨c,0,none⟩,8,by rw[aag];rfl,h3,by rw[aag];decide,by rw[aag];decide,fun e=>by cases e⟩
  | 3,hu=>injection hu with hu;subst hu;exact⟨some ⟨d,0,none⟩,4,by rw[aag];rfl,h4,by rw[aag];decide,by rw[aag];decide,fun e=>by cases e⟩
  | j+4,hu=>cases hu)
 have hc:=afx w8 (some ⟨r,0,none⟩) 4 [slMark,aaJ 8 g,aaJ 8 n,aaJ 4 s] hd (by simp) (by simp[slMark,aag]);have e:([slMark,aaJ 8 g,aaJ 8 n,aaJ 4 s]:List (List UInt8)).flatten=abt g n s:=by unfold abt;simp
 rw[e,abY]at hc;exact hc
theorem apY{B:Nat}{w0 w:World}{g:Nat}{t:TypeId}{z cs:List UInt8}(h:Fill w g t (cs++z)) (hb:Below B w0 w) (hB:B<=g) (ds:List UInt8) (hl:ds.length=cs.length):
 Fill (w.setRow g (((acb (cs++z)).toList.take 0++(ds.map bv++(acb (cs++z)).toList.drop (0+(ds.map bv).length))).toArray)) g t (ds++z)/\Below B w0 (w.setRow g (((acb (cs++z)).toList.take 0++(ds.map bv++(acb (cs++z)).toList.drop (0+(ds.map bv).length))).toArray)):=by
 refine⟨?_,below_setRow hb hB _⟩;unfold Fill at h ⊢;rw[setRow_heap w g _ _ t _ h];have e:List.drop ds.length (cs++z)=z:=by rw[hl,List.drop_left]
 simp only[acb,List.take_zero,List.nil_append,Nat.zero_add,List.length_map,<-List.map_drop];rw[e,List.map_append]
def slR (B g n s:Nat) (i:Nat) (D:Nat->Prop) (v:Value) (w:World):Prop:=match i with
 | 0=>¬D 1->∃r,v= .slice (some ⟨r,0,none⟩) 8 8/\B<=r/\w.heap[r]?=some (.cells (acb slMark) 5 (0,0))
 | 1=>∃r,v= .slice (some ⟨r,0,none⟩) 8 8/\Rd w w.heap.size (some ⟨r,0,none⟩) slMark.length slMark
 | 4=>∃r,v= .slice (some ⟨r,0,none⟩) 8 8/\Rd w w.heap.size (some ⟨r,0,none⟩) (aaJ 8 g).length (aaJ 8 g)
 | 7=>∃r,v= .slice (some ⟨r,0,none⟩) 8 8/\Rd w w.heap.size (some ⟨r,0,none⟩) (aaJ 8 n).length (aaJ 8 n)
 | 10=>∃r,v= .slice (some ⟨r,0,none⟩) 4 4/\Rd w w.heap.size (some ⟨r,0,none⟩) (aaJ 4 s).length (aaJ 4 s)
 | 11=>D 1/\∃r a b c d,v= .slice (some ⟨r,0,none⟩) 4 4/\w.heap[r]?=some (.cells #[.slice (some ⟨a,0,none⟩) 8 8, .slice (some ⟨b,0,none⟩) 8 8, .slice (some ⟨c,0,none⟩) 8 8, .slice (some ⟨d,0,none⟩) 4 4] 37 (0,0))/\
  Rd w w.heap.size (some ⟨a,0,none⟩) slMark.length slMark/\Rd w w.heap.size (some ⟨b,0,none⟩) (aaJ 8 g).length (aaJ 8 g)/\Rd w w.heap.size (some ⟨c,0,none⟩) (aaJ 8 n).length (aaJ 8 n)/\Rd w w.heap.size (some ⟨d,0,none⟩) (aaJ 4 s).length (aaJ 4 s)
 | 12=>D 11/\w.ownsRow B 5 1 v 28 ((abt g n s).map bv)
 | _=>True
def slI:List Nat:= [0,1,4,7,10,11,12]
def aws (i:Nat):List Nat:=match i with
 | 1=> [0]
 | 7=> [4]
 | 10=> [7]
 | 11=> [1,4,7,10]
 | 12=> [11]
 | _=> []
theorem ar7{B g n s:Nat}{D D':Nat->Prop}{v:Value}{w w':World}(hD:∀k,D k->D' k) (hb:Below w.heap.size w w'){i:Nat}(hi:i∈slI) (h:slR B g n s i D v w):slR B g n s i D' v w':=by
 have k:∀{A:Option Addr} {m:Nat} {bs:List UInt8},Rd w w.heap.size A m bs->Rd w' w'.heap.size A m bs:=fun h=>(h.below hb).more hb.size;unfold slI at hi;simp only[List.mem_cons,List.not_mem_nil,or_false]at hi;rcases hi with rfl | rfl | rfl | rfl | rfl | rfl | rfl
 · exact fun h1=>(h fun x=>h1 (hD 1 x)).imp fun r h=>⟨h.1,h.2.1,(hb.block _ (agc h.2.2)).trans h.2.2⟩
 · exact h.imp fun r h=>⟨h.1,k h.2⟩
 · exact h.imp fun r h=>⟨h.1,k h.2⟩
 · exact h.imp fun r h=>⟨h.1,k h.2⟩
 · exact h.imp fun r h=>⟨h.1,k h.2⟩
 · obtain⟨h0,r,a,b,c,d,h1,h2,h3,h4,h5,h6⟩:=h;exact⟨hD 1 h0,r,a,b,c,d,h1,(hb.block _ (agc h2)).trans h2,k h3,k h4,k h5,k h6⟩
 · exact⟨hD 11 h.1,acL h.2 hb⟩
theorem amM (w:World) (g n s:Nat) (hs:s<4294967296) (hy:akX g n=true):
 Calls Tryz.prog 145 #[.agg #[.int .u64 (g:Int), .int .u64 (n:Int), .int .u32 (s:Int)]] w fun e w'=>∃b,e= .returned (.slice (some ⟨b,0,none⟩) 512 512)/\w.heap.size<=b/\Fill w' b 5 (abQ g n s)/\Below w.heap.size w w':=by
 obtain⟨w1,hw1⟩:=nmE (w.alloc (.cells #[.int .u64 (g:Int), .int .u64 (n:Int), .int .u32 (s:Int)] 146));have hb1:=abE hw1;have n1:=anE hw1;have HM:=hE0 (ako w1 g n s _ hy);unfold akX at hy;simp only[Bool.and_eq_true,decide_eq_true_eq]at hy;have hg64:g<18446744073709551616:=by omega
 have hn64:n<18446744073709551616:=by omega
 obtain⟨d0,d1,d2⟩:=aam n1;have hl1:=aaa n1;have HB1:=hE0 hb1;have HW1:=hE0 hw1;have HN1:=hE0 n1;have HPUTg:=hE0 (fun W=>agr g W hg64);have HPUTn:=hE0 (fun W=>agr n W hn64);have HPUT4:=hE0 (fun W=>aiC s W hs);have HEND:=hE0 (fun w8 r a b c d=>anS g n s w8 r a b c d);clear hw1 hb1 n1 hy;go_enter Tryz.func145,Tryz.ntmps145
 go_wp2_with (first | (rw[HW1.out]) | fail)
 refine HM.out.mono ?_;rintro e w2 ⟨rfl,hb2⟩;obtain⟨wd,hwd⟩:=nmE w2.drew;have hbd:Below w1.heap.size w1 wd:=by rw[<-hwd];exact hb2.drew
 have nd:=(hbd.block _ (aaa HN1.out)).trans HN1.out;obtain⟨c0,c1,c2⟩:=aam nd;have hld:=aaa nd;have HBD:=hE0 hbd;have HWD:=hE0 hwd;clear hb2 hwd hbd nd d0 d1 d2 HM;go_wp2_with fail
 go_cut [3] from 8 (fun b wx=>wx.ownsRow wd.heap.size 5 1 b 28 ((abt g n s).map bv)/\Below wd.heap.size wd wx)
 case first=>
  refine aaD wd.heap.size (.two [2,3,5,6,8,9] 0 (.two [] 1 (.one [] 4 (.one [] 7 (.one [] 10 (.one [] 11 (.one [] 12 (.fin [13])))))) 4 (.two [] 1 (.one [] 7 (.one [] 10 (.one [] 11 (.one [] 12 (.fin [13]))))) 7 (.two [] 1 (.one [] 10 (.one [] 11 (.one [] 12 (.fin [13])))) 10 (.one [] 1 (.one [] 11 (.one [] 12 (.fin [13]))))))) 4 (.two [] 0 (.two [] 1 (.one [] 7 (.one [] 10 (.one [] 11 (.one [] 12 (.fin [13]))))) 7 (.two [] 1 (.one [] 10 (.one [] 11 (.one [] 12 (.fin [13])))) 10 (.one [] 1 (.one [] 11 (.one [] 12 (.fin [13])))))) 7 (.two [] 0 (.two [] 1 (.one [] 10 (.one [] 11 (.one [] 12 (.fin [13])))) 10 (.one [] 1 (.one [] 11 (.one [] 12 (.fin [13]))))) 10 (.one [] 0 (.one [] 1 (.one [] 11 (.one [] 12 (.fin [13])))))))) [] (by kernel_rfl) (by kernel_rfl) (by kernel_rfl) (fun _ _ _ _ _ h=>h) ?_;rw[HWD.out];have q0:=tfE c0 hld;have q1:=tfE c1 hld;have q2:=tfE c2 hld;refine abL (l:= ?segA) ?hsegA ?_
  case hsegA=>simp only[pick,lE1,lE2,lE3];rfl
  repeat (go_big_quiet_step (fail))
  refine wpQuiet_nil ?_;clear q0 q1 q2;refine amo (PT.any_inv (I:=slI) (d:=fun i=>8+i) (dp:=aws) (Inv:=fun D f w=>∀j,D j->slR wd.heap.size g n s j D (f j) w) (w0:=wd) (last:= [13]) (fun i _ j _ e=>Nat.add_left_cancel (show 8+i=8+j from e)) (fun i hi=>amn fun dn f W hn hI hdp hR hb=> ?_) (fun f W hI hb=> ?_) _ [] (fun _=>undef) wd (by kernel_rfl) (fun _ h=>by cases h) (fun _ h=>by cases h) (Below.refl _ _))
  · have hk:∀w',Below W.heap.size W w'->∀j∈dn,slR wd.heap.size g n s j (fun j=>j=i\/j∈dn) (f j) w':=fun w' b j hj=>ar7 (fun k h=> .inr h) b (hI j hj) (hR j hj);generalize hX:abg (fun i=>8+i) f dn _=X;have ev:∀j∈dn,j<13->X.eval (.tmp (8+j))=f j:=fun j hj h13=>by
     rw[<-hX];exact ahG (d:=fun i=>8+i) (I:=slI) (fun i _ j _ e=>Nat.add_left_cancel (show 8+i=8+j from e)) hI hj _ (by show 8+j<_;simp;omega)
    have old:=fun(t:Nat) (ht:∀i∈slI,8+i≠t)=>ajF (d:=fun i=>8+i) (f:=f) (l:=dn) (t:=t) fun i hi=>ht i (hI i hi);unfold slI at hi;simp only[List.mem_cons,List.not_mem_nil,or_false]at hi;rcases hi with rfl | rfl | rfl | rfl | rfl | rfl | rfl
    · have hb1:Below W.heap.size W (W.alloc (.cells (acb slMark) 5)):=(Below.refl _ _).alloc (Nat.le_refl _) _;exact aas (some 8) (w1:=W.alloc (.cells (acb slMark) 5)) (v:= .slice (some ⟨W.heap.size,0,none⟩) 8 8) rfl rfl rfl (aaQ rfl rfl (apW W)) (hb1.mono hb.size) ⟨wd.heap.size,Nat.le_refl _,_,rfl,fun _=>⟨W.heap.size,rfl,hb.size,heap_alloc_new W _⟩,hk _ hb1⟩
    · have h0:=hdp 0 (by decide);obtain⟨r,e,hr,hg⟩:=hR 0 h0 hn;obtain⟨v',hrun,fm,sz,kp,bl⟩:=akh (P:=Tryz.prog) W 37 5 r (acb slMark) 8 8 Tryz.underlying37 Tryz.underlying5 hg;have k:∀{A:Option Addr} {m:Nat} {bs:List UInt8},Rd W W.heap.size A m bs->Rd v' v'.heap.size A m bs:=fun h=>by
       rw[sz];refine h.keep fun p _=> ?_;by_cases ep:p.block=r
       · obtain⟨pb,po,ps⟩:=p;dsimp only at ep;subst ep;simp[World.cell?,hg,fm]
       · exact World.cell?_of_block (kp _ ep)
      refine aas (some 9) rfl rfl rfl (amI rfl ((ev 0 h0 (by omega)).trans e) hrun) (bl wd.heap.size hr) ⟨wd.heap.size,Nat.le_refl _,_,rfl,⟨r,rfl,acw fm⟩,fun j hj=> ?_⟩;have hj2:=hI j hj;unfold slI at hj2;simp only[List.mem_cons,List.not_mem_nil,or_false]at hj2;rcases hj2 with rfl | rfl | rfl | rfl | rfl | rfl | rfl
      · exact fun h=>absurd (.inl rfl) h
      · exact absurd hj hn
      · exact(hR 4 hj).imp fun r h=>⟨h.1,k h.2⟩
      · exact(hR 7 hj).imp fun r h=>⟨h.1,k h.2⟩
      · exact(hR 10 hj).imp fun r h=>⟨h.1,k h.2⟩
      · exact absurd (hR 11 hj).1 hn
      · exact absurd (hR 11 (hR 12 hj).1).1 hn
    · refine aar (vs:= #[.int .u64 (g:Int)]) Tryz.call120 rfl rfl (congrArg (fun x=> [x]) (by rw[<-hX];exact old 11 (by decide) _)) (R:=fun r w'=>(∃x,r= .slice (some ⟨x,0,none⟩) 8 8/\Rd w' w'.heap.size (some ⟨x,0,none⟩) (aaJ 8 g).length (aaJ 8 g))/\Below W.heap.size W w') ((HPUTg.out W).mono ?_) wd.heap.size (Nat.le_refl _) ?_
      · rintro e w' ⟨rfl,hf,hb'⟩;exact⟨_,rfl,hb'.mono hb.size,⟨_,rfl,acw hf⟩,hb'⟩
      · rintro r w' _ ⟨hx,hb'⟩;exact⟨_,rfl,hx,hk _ hb'⟩
    · refine aar (vs:= #[.int .u64 (n:Int)]) Tryz.call120 rfl rfl (congrArg (fun x=> [x]) (by rw[<-hX];exact old 14 (by decide) _)) (R:=fun r w'=>(∃x,r= .slice (some ⟨x,0,none⟩) 8 8/\Rd w' w'.heap.size (some ⟨x,0,none⟩) (aaJ 8 n).length (aaJ 8 n))/\Below W.heap.size W w') ((HPUTn.out W).mono ?_) wd.heap.size (Nat.le_refl _) ?_
      · rintro e w' ⟨rfl,hf,hb'⟩;exact⟨_,rfl,hb'.mono hb.size,⟨_,rfl,acw hf⟩,hb'⟩
      · rintro r w' _ ⟨hx,hb'⟩;exact⟨_,rfl,hx,hk _ hb'⟩
    · refine aar (vs:= #[.int .u32 (s:Int)]) Tryz.call183 rfl rfl (congrArg (fun x=> [x]) (by rw[<-hX];exact old 17 (by decide) _)) (R:=fun r w'=>(∃x,r= .slice (some ⟨x,0,none⟩) 4 4/\Rd w' w'.heap.size (some ⟨x,0,none⟩) (aaJ 4 s).length (aaJ 4 s))/\Below W.heap.size W w') ((HPUT4.out W).mono ?_) wd.heap.size (Nat.le_refl _) ?_
      · rintro e w' ⟨rfl,hf,hb'⟩;exact⟨_,rfl,hb'.mono hb.size,⟨_,rfl,acw hf⟩,hb'⟩
      · rintro r w' _ ⟨hx,hb'⟩;exact⟨_,rfl,hx,hk _ hb'⟩
    · have h1:=hdp 1 (by decide);have h4:=hdp 4 (by decide);have h7:=hdp 7 (by decide);have h10:=hdp 10 (by decide);obtain⟨a,ea,ra⟩:=hR 1 h1;obtain⟨b,eb,rb⟩:=hR 4 h4;obtain⟨c,ec,rc⟩:=hR 7 h7;obtain⟨d,ed,rd⟩:=hR 10 h10;obtain⟨w8,hw8⟩:=nmE (W.alloc (.cells #[.slice (some ⟨a,0,none⟩) 8 8, .slice (some ⟨b,0,none⟩) 8 8, .slice (some ⟨c,0,none⟩) 8 8, .slice (some ⟨d,0,none⟩) 4 4] 37));have hb8:=abE hw8;have n8:=anE hw8;have k:∀{A:Option Addr} {m:Nat} {bs:List UInt8},Rd W W.heap.size A m bs->Rd w8 w8.heap.size A m bs:=fun h=>(h.below hb8).more hb8.size;have x1:X.eval (.tmp 9)=_:=(ev 1 h1 (by omega)).trans ea;have x4:X.eval (.tmp 12)=_:=(ev 4 h4 (by omega)).trans eb;have x7:X.eval (.tmp 15)=_:=(ev 7 h7 (by omega)).trans ec;have x10:X.eval (.tmp 18)=_:=(ev 10 h10 (by omega)).trans ed;refine aas (some 19) (w1:=w8) (v:= .slice (some ⟨W.heap.size,0,none⟩) 4 4) rfl rfl rfl (by rw[<-hw8];exact aaQ rfl (by simp only[List.map_cons,List.map_nil];rw[x1,x4,x7,x10]) (apX W _ _ _ _ _ _ _ _ _ _ _ _)) (hb8.mono hb.size) ⟨wd.heap.size,Nat.le_refl _,_,rfl,⟨.inr h1,W.heap.size,a,b,c,d,rfl,n8,k ra,k rb,k rc,k rd⟩,hk _ hb8⟩
    · have h11:=hdp 11 (by decide);obtain⟨_,r,a,b,c,d,er,hg,r1,r2,r3,r4⟩:=hR 11 h11;refine aar (vs:= #[.slice (some ⟨r,0,none⟩) 4 4]) Tryz.call119 rfl rfl (congrArg (fun x=> [x]) ((ev 11 h11 (by omega)).trans er)) (R:=fun q w'=>w'.ownsRow W.heap.size 5 1 q 28 ((abt g n s).map bv)/\Below W.heap.size W w') ((HEND.out W r a b c d hg r1 r2 r3 r4).mono ?_) wd.heap.size (Nat.le_refl _) ?_
      · rintro e w' ⟨v,rfl,ho,hb'⟩;exact⟨_,rfl,hb'.mono hb.size,ho,hb'⟩
      · rintro q w' _ ⟨ho,hb'⟩;exact⟨_,rfl,⟨.inr h11,adx ho hb.size⟩,hk _ hb'⟩
  · obtain⟨_,ho⟩:=hI 12 (by decide);have HO:=hE0 ho;have HB:=hE0 hb;clear hI ho hb;unfold slI;simp only[abg,Act.put,List.setIfInBounds_toArray,List.set_cons_zero,List.set_cons_succ,Nat.reduceAdd];refine aaW (l:= ?finA) (t:= []) ?hfinA ?htfinA ?_
    case hfinA=>simp only[pick,lE1,lE2,lE3];rfl
    case htfinA=>rfl
    repeat (go_big_quiet_step (fail))
    refine wpQuiet_nil ?_;go_wp2_with fail
    go_meet
    case rel=>exact⟨HO.out,HB.out⟩
 case rest=>
  obtain⟨ho,hb⟩:=hcut;obtain⟨A0,k0,rfl,hA0⟩:=aeM ho;obtain⟨z,hz⟩:=nmE (List.replicate 32 (0:UInt8)++List.replicate 480 0);have hmk:(Instr.makeSlice 37 (.int .i64 512) (.int .i64 512)).run Tryz.prog wc= .ok (.slice (some ⟨wc.heap.size,0,none⟩) 512 512) (wc.alloc (.cells (acb z) 5)):=by
   have:=run_make_row' (P:=Tryz.prog) 37 5 (.int .u8 0) 1 Tryz.underlying37 afp rfl .i64 .i64 512 (by omega) (by omega) wc;rw[acK,show(512:Nat)=32+480 from rfl,<-List.replicate_append_replicate,hz]at this;exact this
  obtain⟨w3,hw3⟩:=nmE (wc.alloc (.cells (acb z) 5));have hf3:Fill w3 wc.heap.size 5 z:=by rw[<-hw3];exact Fill.made wc 5 _
  have hb3:=abE hw3;have HR0:=hE0 (((acS ho).below hb3).more hb3.size);have HK0:=hE0 hA0;obtain⟨u,hu⟩:=nmE (abZ 0 (abt g n s));have hul:u<4294967296:=by rw[<-hu];exact aeh _ _
  have hsum:=ago A0 28 k0 w3.heap.size (abt g n s) w3 HR0.out (by omega);rw[hu]at hsum;have HS:=hE0 hsum;have HU:=hE0 hu;have HF3:=hE0 hf3;have HBC:=hE0 hb;have HB3:=hE0 hb3;have HW3:=hE0 hw3;have HZ:=hE0 hz;have h28:28<=k0:=by
   rcases ho.2 with⟨h',_⟩ | ⟨_,_,_,hv,_,_,h',_,_⟩
   · omega
   · injection hv with _ _ e3;subst e3;exact h'
  clear ho hb hf3 hb3 hw3 hA0 hsum hu hz HPUTg HPUTn HPUT4 HEND;go_wp2_with (first | (rw[HW3.out]) | fail)
  refine HS.out.mono ?_;rintro e w4 ⟨rfl,rfl⟩;go_wp2_with fail
  refine(aiC u _ hul).mono ?_;rintro e w5 ⟨rfl,hf5,hb5⟩;have hf5':w5.heap[w3.heap.size]?=some (.cells (acb (aaJ 4 u)) 5 (0,0)):=hf5;obtain⟨w6,hw6⟩:=nmE (w5.alloc (.cells #[.slice A0 28 k0, .slice (some ⟨w3.heap.size,0,none⟩) 4 4] 37));have hb6:=abE hw6;have n6:=anE hw6;have hb56:=hb5.trans (hb6.mono hb5.size);have hd6:DtRd w6 w6.heap.size (some ⟨w5.heap.size,0,none⟩) [abt g n s,aaJ 4 u]:=as5 n6 (fun j x hx=>by
   match j,hx with
   | 0,hx=>injection hx with hx;subst hx;exact⟨A0,k0,by rw[abY];rfl,by rw[abY];exact(HR0.out.below hb56).more hb56.size,by rw[abY];decide,by rw[abY];exact h28,HK0.out⟩
   | 1,hx=>injection hx with hx;subst hx;exact⟨some ⟨w3.heap.size,0,none⟩,4,by rw[aag];rfl,((acw hf5').below hb6).more hb6.size,by rw[aag];decide,by rw[aag];decide,fun e=>by cases e⟩
   | j+2,hx=>cases hx)
  have hc6:=afx w6 (some ⟨w5.heap.size,0,none⟩) 2 [abt g n s,aaJ 4 u] hd6 (by simp) (by simp[abY,aag]);obtain⟨H,hH⟩:=nmE (abt g n s++ahO (abt g n s));have hHl:H.length=32:=by rw[<-hH,List.length_append,abY,ab6]
  have e6:([abt g n s,aaJ 4 u]:List (List UInt8)).flatten=H:=by rw[<-hH];unfold ahO;rw[HU.out];simp
  rw[e6,hHl]at hc6;have HC6:=hE0 hc6;have HB6:=hE0 hb56;have HW6:=hE0 hw6;have HHL:=hE0 hHl;have HH:=hE0 hH;clear hf5 hf5' hb5 hb6 n6 hd6 hc6 e6 hb56 hw6 hHl hH HS HR0 HK0 HU;have hbs2:=ar6 w5 A0 (some ⟨w3.heap.size,0,none⟩) 28 k0 4 4;go_wp2_with (first | (rw[HW6.out]) | fail)
  clear hbs2;refine HC6.out.mono ?_;rintro e w7 ⟨v7,rfl,ho7,hb7⟩;obtain⟨A7,k7,rfl,_⟩:=aeM ho7;have hB7:=HB6.out.trans (hb7.mono HB6.out.size);have hf7:Fill w7 wc.heap.size 5 (List.replicate 32 (0:UInt8)++List.replicate 480 0):=by
   rw[HZ.out];exact HF3.out.below hB7 HF3.out.lt
  have hbb:=HBC.out.trans ((HB3.out.trans (hB7.mono HB3.out.size)).mono HBC.out.size);have hr7:=acS ho7;obtain⟨b7,o7,e7,_⟩:=hr7.2 (by omega);subst e7;have hov:=apY hf7 hbb HBC.out.size H (by rw[HHL.out];rfl);have hsrc:∀j v,(H.map bv)[j]?=some v->w7.cell? ((⟨b7,o7,none⟩:Addr).add j)=some v:=fun j v hj=>adn hr7 j v hj;have HOV:=hE0 hov;have HSRC:=hE0 hsrc;have HN:Hid ((H.map bv).length=Nat.min 32 512):=(show _=_ by rw[List.length_map,HHL.out];rfl);have HF7:=hE0 hf7;have HFIT:Hid (0+(H.map bv).length<=(acb (List.replicate 32 (0:UInt8)++List.replicate 480 0)).size):=(show _<=_ by rw[adP,List.length_map,HHL.out];simp);clear hov hsrc hf7 hbb hr7 ho7 hb7 hB7;go_wp2_with ((refine wpList_copy_own rfl (.tmp 22) (.tmp 28) 37 37 rfl 5 Tryz.underlying37 (by kernel_rfl) wc.heap.size 0 512 512 ⟨b7,o7,none⟩ 32 k7 rfl rfl _ 5 HF7.out (H.map bv) HN.out HSRC.out HFIT.out (afG _) ?_);generalize w7.setRow _ _=w9 at HOV ⊢)
  go_ret
  have hw1d:=Nat.le_trans HB1.out.size HBD.out.size;refine⟨wc.heap.size,rfl,Nat.le_trans hw1d HBC.out.size,?_,HB1.out.trans ((HBD.out.trans (HOV.out.2.mono HBD.out.size)).mono HB1.out.size)⟩;have e:abQ g n s=H++List.replicate 480 0:=by rw[<-HH.out];rfl
  rw[e];exact HOV.out.1
theorem apZ (w:World) (g n s:Nat) (hs:s<4294967296):
 Calls Tryz.prog 145 #[.agg #[.int .u64 (g:Int), .int .u64 (n:Int), .int .u32 (s:Int)]] w fun e w'=>∃A m c,e= .returned (.slice A m c)/\(A=none->c=0)/\Rd w' w'.heap.size A m (aow g n s)/\Below w.heap.size w w':=by
 cases h:akX g n with
 | false=>
  refine(ar5 w g n s h).mono ?_;rintro e w' ⟨rfl,hb⟩;refine⟨none,0,0,rfl,fun _=>rfl,?_,hb⟩;unfold aow;rw[if_neg (by rw[h];simp)];exact Rd.nil_
 | true=>
  refine(amM w g n s hs h).mono ?_;rintro e w' ⟨b,rfl,_,hf,hb⟩;refine⟨_,512,512,rfl,(fun e=>by cases e),?_,hb⟩;unfold aow;rw[if_pos h];have:=hf.reads;rw[aea]at this;exact this
theorem ar8 (a b:List UInt8):((anh a).toList==(anh b).toList)=decide (a=b):=by
 unfold anh;simp;by_cases h:a=b<;>simp[h]
theorem ahu (w:World) (A1 A2:Option Addr) (n1 c1 n2 c2 B:Nat) (x y:List UInt8) (h1:Rd w B A1 n1 x) (h2:Rd w B A2 n2 y) (t:Bool) (ht:decide (x=y)=t):
 Calls Tryz.prog 251 #[.slice A1 n1 c1, .slice A2 n2 c2] w fun e w'=>e= .returned (.bool t)/\w=w':=by
 have q1:=adR (c:=c1) h1;have q2:=adR (c:=c2) h2;have gy:=ar8 x y;obtain⟨S,hS⟩:=nmE (anh x);obtain⟨T,hT⟩:=nmE (anh y);rw[hS]at q1;rw[hT]at q2;rw[hS,hT,ht]at gy;clear h1 h2 hS hT ht;go_enter Tryz.func251,Tryz.ntmps251
 go_wp2
 go_ret
 exact⟨rfl,rfl⟩
theorem alH{fn:Func}{R:Ending->World->Prop}{a:Act}{w:World}{p u:Tmp}{g:Nat}{x y0 y1 y2:Value}(hres:fn.results= #[.cell p 146, .tmp u]) (hp:a.tmps.getD p undef= .pointer (some ⟨g,0,none⟩)) (hx:a.tmps.getD u undef=x) (hd:a.defers= [])
 (hg:w.heap[g]?=some (.cells #[y0,y1,y2] 146 (0,0))) (hR:R (.returned (.tuple #[.agg #[y0,y1,y2],x])) w):bodyPost Tryz.prog fn R .ret a w:=by
 obtain⟨c0,c1,c2⟩:=aam hg;refine bodyPost_ret (v:= .tuple #[.agg #[y0,y1,y2],x]) ?_ hd hR;rw[results_cell_tmp hres,hp,hx];simp[go_sem,c0,c1,c2]
theorem ar9{fn:Func}{R:Ending->World->Prop}{a:Act}{w:World}{p:Tmp}{g:Nat}{n s:Int}{k:Int}(hres:fn.results= #[.cell p 146]) (hp:a.tmps.getD p undef= .pointer (some ⟨g,0,none⟩)) (hd:a.defers= [])
 (hg:w.heap[g]?=some (.cells #[.int .u64 n, .int .u64 s, .int .u32 k] 146 (0,0))) (hR:R (.returned (.agg #[.int .u64 n, .int .u64 s, .int .u32 k])) w):bodyPost Tryz.prog fn R .ret a w:=by
 refine bodyPost_ret (v:= .agg #[.int .u64 n, .int .u64 s, .int .u32 k]) ?_ hd hR;exact results_cell_row hres _ _ g _ _ _ _ hp hg rfl rfl rfl
theorem ai7 (w:World) (A:Option Addr) (c:Nat) (b:List UInt8) (hr:Rd w w.heap.size A 512 b) (hc:512<=c) (G N S:Nat) (hG:slG b=G) (hN:slN b=N) (hS:slS b=S):
 Calls Tryz.prog 250 #[.slice A 512 c] w fun e w'=>e= .returned (.agg #[.int .u64 (G:Int), .int .u64 (N:Int), .int .u32 (S:Int)])/\Below w.heap.size w w':=by
 obtain⟨w1,hw1⟩:=nmE (w.alloc (.cells #[.int .u64 0, .int .u64 0, .int .u32 0] 146));have hb1:=abE hw1;have n1:=anE hw1;have hr1:=hr.below hb1;have HG:=hE0 (adS A 512 c w.heap.size b 8 w1 hr1 hc (by omega) (by omega));have HN:=hE0 (adS A 512 c w.heap.size b 16 w1 hr1 hc (by omega) (by omega));have HS:=hE0 (amm A 512 c w.heap.size b 24 w1 hr1 hc (by omega) (by omega));unfold slG at hG;unfold slN at hN;unfold slS at hS;rw[hG]at HG;rw[hN]at HN;rw[hS]at HS;obtain⟨z0,z1,z2⟩:=aam n1;obtain⟨f0,f1,f2⟩:=acQ n1;have hl1:=aaa n1;have HW1:=hE0 hw1;have HM:=hE0 (ae9 n1 (.int .u64 (G:Int)) (.int .u64 (N:Int)) (.int .u32 (S:Int)));have HF:=hE0 (((hb1.setCell (p:=⟨w.heap.size,0,none⟩) (Nat.le_refl _) (.int .u64 (G:Int))).setCell (p:=⟨w.heap.size,1,none⟩) (Nat.le_refl _) (.int .u64 (N:Int))).setCell (p:=⟨w.heap.size,2,none⟩) (Nat.le_refl _) (.int .u32 (S:Int)));clear hw1 hb1 n1 hr hr1 hG hN hS;go_enter Tryz.func250,Tryz.ntmps250
 go_wp2_with (first | (rw[HW1.out]) | fail)
 refine HG.out.mono ?_;rintro e w2 ⟨rfl,rfl⟩;go_wp2_with fail
 refine HN.out.mono ?_;rintro e w2 ⟨rfl,rfl⟩;go_wp2_with fail
 refine HS.out.mono ?_;rintro e w2 ⟨rfl,rfl⟩;go_wp2_with fail
 (try simp only[Exit.inBlock,Exit.then])
 refine ar9 (g:=w.heap.size) Tryz.results250 ?_ ?_ HM.out ?_
 · rfl
 · rfl
 · exact⟨rfl,HF.out⟩
theorem ap0 (w:World) (A:Option Addr) (n c:Nat) (hn:n≠512):
 Calls Tryz.prog 205 #[.slice A n c] w fun e w'=>e= .returned (.tuple #[.agg #[.int .u64 0, .int .u64 0, .int .u32 0], .bool false])/\Below w.heap.size w w':=by
 obtain⟨w1,hw1⟩:=nmE (w.alloc (.cells #[.int .u64 0, .int .u64 0, .int .u32 0] 146));have hb1:=abE hw1;have n1:=anE hw1;obtain⟨z0,z1,z2⟩:=aam n1;obtain⟨f0,f1,f2⟩:=acQ n1;have hl1:=aaa n1;have g1:(n !=512)=true:=by rw[bne_iff_ne];exact hn
 have g2:((n:Int) !=512)=true:=by rw[bne_iff_ne];omega
 have HW1:=hE0 hw1;have HM:=hE0 (ae9 n1 (.int .u64 0) (.int .u64 0) (.int .u32 0));have HF:=hE0 (((hb1.setCell (p:=⟨w.heap.size,0,none⟩) (Nat.le_refl _) (.int .u64 0)).setCell (p:=⟨w.heap.size,1,none⟩) (Nat.le_refl _) (.int .u64 0)).setCell (p:=⟨w.heap.size,2,none⟩) (Nat.le_refl _) (.int .u32 0));clear hw1 hb1 n1;go_enter Tryz.func205,Tryz.ntmps205
 go_wp2_with (first | (rw[HW1.out]) | fail)
 (try simp only[Exit.inBlock,Exit.then])
 refine alH (g:=w.heap.size) (x:= .bool false) Tryz.results205 ?_ ?_ ?_ HM.out ?_
 · rfl
 · rfl
 · rfl
 · exact⟨rfl,HF.out⟩
theorem ap1 (w:World) (A:Option Addr) (c:Nat) (b:List UInt8) (hr:Rd w w.heap.size A 512 b) (hc:512<=c) (G N S:Nat) (hG:slG b=G) (hN:slN b=N) (hS:slS b=S) (y:Bool) (hy:decide (aow G N S≠b)=y):
 Calls Tryz.prog 205 #[.slice A 512 c] w fun e w'=>e= .returned (.tuple #[.agg #[.int .u64 (if y=true then 0 else (G:Int)), .int .u64 (if y=true then 0 else (N:Int)), .int .u32 (if y=true then 0 else (S:Int))], .bool (!y)])/\Below w.heap.size w w':=by
 have hSl:S<4294967296:=by
  have h:=agl ((b.drop 24).take 4);have e:((b.drop 24).take 4).length=4:=by rw[List.length_take,List.length_drop,hr.1];rfl
  rw[e]at h;rw[<-hS];exact h
 obtain⟨w1,hw1⟩:=nmE (w.alloc (.cells #[.int .u64 0, .int .u64 0, .int .u32 0] 146));have hb1:=abE hw1;have n1:=anE hw1;have HNUM:=hE0 (ai7 w1 A c b ((hr.below hb1).more hb1.size) hc G N S hG hN hS);have HPUT:=hE0 (fun V=>apZ V G N S hSl);obtain⟨P,hP⟩:=nmE (aow G N S);rw[hP]at hy HPUT;have ht:decide (b=P)= !y:=by
  rw[<-hy];by_cases e:P=b
  · subst e;simp
  · rw[decide_eq_false (fun h=>e h.symm),decide_eq_true e];rfl
 have HT:=hE0 ht;have HR:=hE0 hr;have HB1:=hE0 hb1;have HN1:=hE0 n1;have HW1:=hE0 hw1;clear hw1 hb1 n1 hr hP hy hG hN hS ht;go_enter Tryz.func205,Tryz.ntmps205
 go_wp2_with (first | (rw[HW1.out]) | fail)
 refine HNUM.out.mono ?_;rintro e w2 ⟨rfl,hb2⟩;obtain⟨w3,hw3⟩:=nmE (w2.alloc (.cells #[.int .u64 0, .int .u64 0, .int .u32 0] 146));have hb3:=abE hw3;have n3:=anE hw3;obtain⟨w5,hw5⟩:=nmE ((((w3.setCell ⟨w2.heap.size,0,none⟩ (.int .u64 (G:Int))).setCell ⟨w2.heap.size,1,none⟩ (.int .u64 (N:Int))).setCell ⟨w2.heap.size,2,none⟩ (.int .u32 (S:Int))));have n5:w5.heap[w2.heap.size]?=some (.cells #[.int .u64 (G:Int), .int .u64 (N:Int), .int .u32 (S:Int)] 146 (0,0)):=by rw[<-hw5];exact ae9 n3 _ _ _
 have hb5:Below w2.heap.size w2 w5:=by rw[<-hw5];exact((hb3.setCell (p:=⟨w2.heap.size,0,none⟩) (Nat.le_refl _) _).setCell (p:=⟨w2.heap.size,1,none⟩) (Nat.le_refl _) _).setCell (p:=⟨w2.heap.size,2,none⟩) (Nat.le_refl _) _
 obtain⟨z0,z1,z2⟩:=aam n3;obtain⟨f0,f1,f2⟩:=acQ n3;have hlz:=aaa n3;have hb25:=hb2.trans (hb5.mono hb2.size);have HNR:=hE0 ((hb25.block _ (aaa HN1.out)).trans HN1.out);have HB5:=hE0 (HB1.out.trans (hb25.mono HB1.out.size));have HN5:=hE0 n5;have HW3:=hE0 hw3;have HW5:=hE0 hw5;obtain⟨c0,c1,c2⟩:=aam n5;have hl5:=aaa n5;clear hb2 hw3 hb3 n3 hw5 n5 hb5 hb25 HNUM;go_wp2_with (first | (rw[HW3.out]) | (rw[HW5.out]) | fail)
 clear z0 z1 z2 f0 f1 f2 hlz c0 c1 c2 hl5;refine(HPUT.out w5).mono ?_;rintro e w6 ⟨A6,m6,c6,rfl,_,hr6,hb6⟩;have HB6:=hE0 (HB5.out.trans (hb6.mono HB5.out.size));have HEQ:=hE0 (ahu w6 A A6 512 c m6 c6 w6.heap.size b P ((HR.out.below HB6.out).more HB6.out.size) hr6 _ HT.out);have e6:=(hb6.block _ (aaa HN5.out)).trans HN5.out;have e7:=(hb6.block _ (aaa HNR.out)).trans HNR.out;clear hr6 hb6;go_wp2_with fail
 refine HEQ.out.mono ?_;rintro e w7 ⟨rfl,rfl⟩;obtain⟨r0,r1,r2⟩:=aam e6;have hle:=aaa e6;obtain⟨q0,q1,q2⟩:=aam e7;obtain⟨f0,f1,f2⟩:=acQ e7;have hlq:=aaa e7;have HM:=hE0 (ae9 e7 (.int .u64 (if y=true then 0 else (G:Int))) (.int .u64 (if y=true then 0 else (N:Int))) (.int .u32 (if y=true then 0 else (S:Int))));have HF:=hE0 (((HB6.out.setCell (p:=⟨w.heap.size,0,none⟩) (Nat.le_refl _) (.int .u64 (if y=true then 0 else (G:Int)))).setCell (p:=⟨w.heap.size,1,none⟩) (Nat.le_refl _) (.int .u64 (if y=true then 0 else (N:Int)))).setCell (p:=⟨w.heap.size,2,none⟩) (Nat.le_refl _) (.int .u32 (if y=true then 0 else (S:Int))));clear e6 e7 HEQ
 cases y with
 | true=>
  simp only[if_true]at HM HF;go_wp2
  (try simp only[Exit.inBlock,Exit.then])
  refine alH (g:=w.heap.size) (x:= .bool false) Tryz.results205 ?_ ?_ ?_ HM.out ?_
  · rfl
  · rfl
  · rfl
  · exact⟨rfl,HF.out⟩
 | false=>
  simp only[Bool.false_eq_true,if_false]at HM HF;go_wp2
  (try simp only[Exit.inBlock,Exit.then])
  refine alH (g:=w.heap.size) (x:= .bool true) Tryz.results205 ?_ ?_ ?_ HM.out ?_
  · rfl
  · rfl
  · rfl
  · exact⟨rfl,HF.out⟩
def toB (x:Rk):Bk:=⟨x.o.toNat,x.s.toNat,x.u⟩
def agd:List UInt8->List Bk->List (List UInt8)->List UInt8
 | bs,[],_=>bs
 | bs,x::r,d=>if x.used then agd (lay (aaY bs x) (x.off+8) (d.headD [])) r d.tail else agd (aaY bs x) r d
def alI:List Bk->List (List UInt8)->Prop
 | [],d=>d= []
 | x::r,d=>if x.used then (match d with | []=>False | y::d'=>y.length+16=x.size/\alI r d') else alI r d
theorem age{n:Int}:∀{l:List Rk}{o:Nat}{f:Bool},abh n (o:Int) f l=true->aby o (l.map toB) n.toNat/\l=(l.map toB).map toR/\(∀x∈l,0<=x.o/\32<=x.s/\x.o+x.s<=n)
 | [],o,f,h=>by
  unfold abh at h;have:(o:Int)=n:=by simpa using h
  refine⟨?_,rfl,fun x hx=>by cases hx⟩;show o=n.toNat;omega
 | x::r,o,f,h=>by
  unfold abh at h;simp only[Bool.and_eq_true,beq_iff_eq]at h;obtain⟨ho,hs,hle,_,hr⟩:=h;have hle:=of_decide_eq_true hle;have h3:=(aab _).1 hs;have hr2:abh n ((o+x.s.toNat:Nat):Int) (!x.u) r=true:=by
   rw[show((o+x.s.toNat:Nat):Int)=(o:Int)+x.s from by omega];exact hr
  obtain⟨t1,t2,t3⟩:=age hr2;refine⟨⟨?_,?_,?_⟩,?_,?_⟩
  · show x.o.toNat=o;omega
  · show aaG ((x.s.toNat:Nat):Int)=true;rw[show((x.s.toNat:Nat):Int)=x.s from by omega];exact hs
  · exact t1
  · rw[List.map_cons,List.map_cons,<-t2];congr 1;unfold toR toB;obtain⟨xo,xs,xu⟩:=x;dsimp only at ho h3 ⊢;rw[show((xo.toNat:Nat):Int)=xo from by omega,show((xs.toNat:Nat):Int)=xs from by omega]
  · intro y hy;rcases List.mem_cons.1 hy with rfl | hy
    · omega
    · exact t3 y hy
theorem agf:∀{l:List Rk}{d:List (List UInt8)},(∀x∈l,0<=x.o/\32<=x.s)->datOk l d=true->alI (l.map toB) d
 | [],d,_,h=>by
  unfold datOk at h;rw[List.isEmpty_iff]at h;exact h
 | x::l,d,hz,h=>by
  have hx:=hz x (by simp);have hz2:∀y∈l,0<=y.o/\32<=y.s:=fun y hy=>hz y (by simp[hy]);unfold datOk at h;rw[List.map_cons];unfold alI;show if x.u then _ else _
  cases hu:x.u with
  | false=>
   rw[hu]at h;simp only[Bool.false_eq_true,if_false]at h ⊢;exact agf hz2 h
  | true=>
   rw[hu]at h;simp only[if_true]at h ⊢
   cases d with
   | nil=>cases h
   | cons y d'=>
    simp only[Bool.and_eq_true,beq_iff_eq]at h;refine⟨?_,agf hz2 h.2⟩;show y.length+16=x.s.toNat;omega
theorem amN{bs:List UInt8}{x:Bk}(h:x.off+x.size<=bs.length) (hs:32<=x.size):(aaY bs x).length=bs.length:=by
 unfold aaY;rw[aah _ _ _ (by rw[aah _ _ _ (by omega)];omega),aah _ _ _ (by omega)]
theorem amO{bs:List UInt8}{x:Bk}(h:x.off+x.size<=bs.length) (hs:32<=x.size){q:Nat}(hq:q<x.off\/x.off+x.size<=q):(aaY bs x)[q]?=bs[q]?:=by
 unfold aaY;rw[adU _ _ _ _ (by rw[aah _ _ _ (by omega)];omega) (by omega),adU _ _ _ _ (by omega) (by omega)]
theorem agV:∀(l:List Bk) (bs:List UInt8) (o:Nat) (d:List (List UInt8)),184<=o->o%16=8->aby o l bs.length->alI l d->
 (agd bs l d).length=bs.length/\(∀q,q<o->(agd bs l d)[q]?=bs[q]?)/\(∀x∈l,aa8 (agd bs l d) (x.off:Int)=some x)/\ofD (agd bs l d) l=d
 | [],bs,o,d,_,_,_,hd=>⟨rfl,fun _ _=>rfl,fun x hx=>(by cases hx),hd.symm⟩
 | x::r,bs,o,d,ho,ho2,⟨h1,h2,h3⟩,hd=>by
  have q:=(aab _).1 h2;have hle:=(aak r _ _ h3).1;have hxo:x.off=o:=h1;have hs1:=agt [x] bs o (o+x.size) ho ho2 ⟨h1,h2,rfl⟩ (by omega);have hgx:aa8 (aaY bs x) (x.off:Int)=some x:=hs1.2.1 x (by simp);have hl1:=amN (bs:=bs) (x:=x) (by omega) (by omega);unfold alI at hd;unfold agd ofD
  cases hu:x.used with
  | false=>
   rw[hu]at hd;simp only[Bool.false_eq_true,if_false]at hd ⊢;obtain⟨r1,r2,r3,r4⟩:=agV r (aaY bs x) (o+x.size) d (by omega) (by omega) (by rw[hl1];exact h3) hd;refine⟨by rw[r1,hl1],fun p hp=>by rw[r2 p (by omega),amO (by omega) (by omega) (.inl (by omega))],fun y hy=> ?_,r4⟩;rcases List.mem_cons.1 hy with rfl | hy
   · refine abV (aaY bs y) _ y r1 hgx (aaM _ _ _ fun i _ hi=>r2 i (by omega)) (aaM _ _ _ fun i _ hi=>r2 i (by omega))
   · exact r3 y hy
  | true=>
   rw[hu]at hd;simp only[if_true]at hd ⊢
   cases d with
   | nil=>exact hd.elim
   | cons y d'=>
    obtain⟨hyl,hd'⟩:=hd;simp only[List.headD_cons,List.tail_cons];have hag:=ad9 (bs:=aaY bs x) (x:=x) (x.off+8) y (Nat.le_refl _) (by omega) (by rw[hl1];omega);have hl2:(lay (aaY bs x) (x.off+8) y).length=bs.length:=by rw[hag.1,hl1]
    obtain⟨r1,r2,r3,r4⟩:=agV r (lay (aaY bs x) (x.off+8) y) (o+x.size) d' (by omega) (by omega) (by rw[hl2];exact h3) hd';have hgx2:aa8 (lay (aaY bs x) (x.off+8) y) (x.off:Int)=some x:=abV (aaY bs x) _ x hag.1 hgx (aaM _ _ _ fun i _ hi=>hag.2 i (.inl (by omega))) (aaM _ _ _ fun i h1 _=>hag.2 i (.inr (by omega)));refine⟨by rw[r1,hl2],fun p hp=>by rw[r2 p (by omega),hag.2 p (.inl (by omega)),amO (by omega) (by omega) (.inl (by omega))],fun z hz=> ?_,?_⟩
    · rcases List.mem_cons.1 hz with rfl | hz
      · exact abV _ _ z r1 hgx2 (aaM _ _ _ fun i _ hi=>r2 i (by omega)) (aaM _ _ _ fun i _ hi=>r2 i (by omega))
      · exact r3 z hz
    · rw[r4];congr 1;apply List.ext_getElem?;intro i;rw[List.getElem?_take,List.getElem?_drop];by_cases hi:i<x.size-16
      · rw[if_pos hi,r2 _ (by omega),agH _ _ _ (by rw[hl1];omega) i (by omega)]
      · rw[if_neg hi,List.getElem?_eq_none (by omega)]
theorem ap2{n:Int}:∀{l:List Rk}{o:Int}{f:Bool},abh n o f l=true->(∀j x y,l[j]?=some x->l[j+1]?=some y->x.u=true\/y.u=true)/\(f=true->∀x,l[0]?=some x->x.u=true)
 | [],o,f,h=>⟨fun j x y hx=>by simp at hx,fun _ x hx=>by simp at hx⟩
 | z::r,o,f,h=>by
  unfold abh at h;simp only[Bool.and_eq_true]at h;obtain⟨_,_,_,hf,hr⟩:=h;obtain⟨i1,i2⟩:=ap2 hr;refine⟨fun j x y hx hy=> ?_,fun hft x hx=> ?_⟩
  · cases j with
    | zero=>
     simp at hx;subst hx
     cases hu:z.u with
     | true=>exact .inl rfl
     | false=>exact .inr (i2 (by rw[hu];rfl) y (by simpa using hy))
    | succ j=>exact i1 j x y (by simpa using hx) (by simpa using hy)
  · simp at hx;subst hx;rw[hft]at hf
    cases hu:z.u with
    | true=>rfl
    | false=>rw[hu]at hf;cases hf
theorem ap3{n:Int}{l:List Rk}{o:Int}{f:Bool}(h:abh n o f l=true):aev (l.map toB)=true:=by
 obtain⟨h1,_⟩:=ap2 h;unfold aev;rw[List.all_eq_true];intro i hi;have hi:=List.mem_range.1 hi;rw[List.length_map]at hi;unfold adJ adI
 cases i with
 | zero=>rfl
 | succ i=>
  have e1:(l.map toB)[i+1]?=some (toB l[i+1]):=by rw[List.getElem?_map,List.getElem?_eq_getElem hi];rfl
  have e2:(l.map toB)[i]?=some (toB (l[i]'(by omega))):=by rw[List.getElem?_map,List.getElem?_eq_getElem (show i<l.length by omega)];rfl
  have e3:i+1-1=i:=by omega
  rw[e3];rcases h1 i _ _ (List.getElem?_eq_getElem (show i<l.length by omega)) (List.getElem?_eq_getElem hi)with hu | hu
  · simp[e1,e2,toB,hu]
  · simp[e1,e2,toB,hu]
theorem akp{bs bs':List UInt8}:∀{l:List Bk},(∀x∈l,x.used=true->∀i,x.off+8<=i->i<x.off+8+(x.size-16)->bs'[i]?=bs[i]?)->ofD bs' l=ofD bs l
 | [],_=>rfl
 | x::l,h=>by
  have ih:=akp (l:=l) fun y hy=>h y (by simp[hy]);unfold ofD;rw[ih]
  cases hu:x.used with
  | false=>rfl
  | true=>
   simp only[if_true];congr 1;apply List.ext_getElem?;intro i;rw[List.getElem?_take,List.getElem?_take,List.getElem?_drop,List.getElem?_drop];by_cases hi:i<x.size-16
   · rw[if_pos hi,if_pos hi,h x (by simp) hu _ (by omega) (by omega)]
   · rw[if_neg hi,if_neg hi]
theorem akq{bs out:List UInt8}{l:List Bk}(h:abI bs=some l) (hm:bs.length<=16384) (ho:ab5 bs=some out):∀i,184<=i->(∀y∈l,y.used=false->i<y.off+8\/y.off+24<=i)->out[i]?=bs[i]?:=by
 obtain⟨h184,ht,hg⟩:=aaj h;have hmem:=(aak l _ _ ht).2;have el:(List.replicate 184 (0:UInt8)++bs.drop 184).length=bs.length:=by rw[List.length_append,List.length_replicate,List.length_drop];omega
 have hst:Stands (List.replicate 184 (0:UInt8)++bs.drop 184) l:=by
  refine⟨fun x hx=> ?_,aaN l _ _ ht⟩;obtain⟨a,b,c,_⟩:=hmem x hx;have q:=(aab _).1 c;refine abV bs _ x el (hg x hx) ?_ ?_
  · exact aaM _ _ _ fun i h1 _=>aeU bs 184 i (by omega)
  · exact aaM _ _ _ fun i h1 _=>aeU bs 184 i (by omega)
 have hL:=afs (by rw[el];exact h184) (by rw[el];exact hm) hst (fun p hp _=>adq _ _ _ hp);have e0:(fun _=> [])=abb []:=by funext c;rfl
 rw[e0]at hL;obtain⟨_,_,hk⟩:=aeT l [] _ (fun x hx=>hx) (by simpa using adW l _ _ ht) hL;unfold ab5 at ho;rw[h]at ho;injection ho with ho;dsimp only at ho;rw[ho]at hk;intro i h1 h2;rw[hk i h1 h2];exact aeU bs 184 i h1
theorem aia{N:Nat}{l:List Rk}{d:List (List UInt8)}(h:aew (N:Int) l d=true):
 ∃out,abI (agd (List.replicate N 0) (l.map toB) d)=some (l.map toB)/\(agd (List.replicate N 0) (l.map toB) d).length=N/\ab5 (agd (List.replicate N 0) (l.map toB) d)=some out/\ace out=true/\abI out=some (l.map toB)/\out.length=N/\ofD out (l.map toB)=d:=by
 unfold aew at h;simp only[Bool.and_eq_true]at h;obtain⟨hlo,hr,hdo⟩:=h;have hN:=(aaV _).1 hlo;obtain⟨ht,_,hz⟩:=age (o:=184) hr;rw[Int.toNat_natCast]at ht;have hd:=agf (fun x hx=>⟨(hz x hx).1,(hz x hx).2.1⟩) hdo;have hl0:(List.replicate N (0:UInt8)).length=N:=List.length_replicate;obtain⟨r1,_,r3,r4⟩:=agV (l.map toB) (List.replicate N 0) 184 d (Nat.le_refl _) (by omega) (by rw[hl0];exact ht) hd;rw[hl0]at r1;obtain⟨mid,hmid⟩:=nmE (agd (List.replicate N 0) (l.map toB) d);rw[hmid]at r1 r3 r4 ⊢;have hw:abI mid=some (l.map toB):=ac8 (by rw[r1];exact ht) r3;obtain⟨out,e,_,h2,h3,_,h5⟩:=ajP hw (by omega);refine⟨out,hw,r1,e,by rw[h5];exact ap3 hr,h3,h2.trans r1,?_⟩;rw[<-r4];refine akp fun x hx hu i i1 i2=>akq hw (by omega) e i ?_ fun y hy hyu=> ?_
 · have:=((aak _ _ _ ht).2 x hx).1;omega
 · have hxs:=(aab _).1 ((aak _ _ _ ht).2 x hx).2.2.1;have hys:=(aab _).1 ((aak _ _ _ ht).2 y hy).2.2.1;rcases aaN _ _ _ ht x hx y hy with e | e | e
   · rw[e,hyu]at hu;cases hu
   · omega
   · omega
end Go.Proofs.YtncadccbepjekaaGreatDoor
