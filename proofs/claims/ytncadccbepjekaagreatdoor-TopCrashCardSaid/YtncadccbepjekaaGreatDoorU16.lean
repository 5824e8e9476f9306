/- Texts of mine, joined. -/
import Derived.Test.YtncadccbepjekaaGreatDoorU11
import Derived.Test.YtncadccbepjekaaGreatDoorU12
import Derived.Test.YtncadccbepjekaaGreatDoorU14
set_option maxRecDepth 100000
set_option maxHeartbeats 4000000
namespace Go.Proofs.YtncadccbepjekaaGreatDoor
open Go.RowKit
theorem acu (w:World) (A:Option Addr) (n c B:Nat) (b:List UInt8) (i j:Nat) (hr:Rd w B A n b) (hnc:n<=c) (hc:c<=9223372036854775807) (hn:n<=900000) (hij:i<=j) (hj:j+4<=n) (y:Bool) (hy:(ab2 ((b.drop j).take 4)==abd 0 ((b.drop i).take (j-i)))=y):
 Calls Tryz.prog 279 #[.slice A n c, .int .i64 (i:Int), .int .i64 (j:Int)] w fun e w'=>e= .returned (.bool y)/\w=w':=by
 have HG:=hE0 (amr A n c B b j w hr hnc (by omega) hj);obtain⟨g,off,rfl,_⟩:=hr.2 (by omega);have HSM:=hE0 (agz (some ⟨g,off+i,none⟩) (j-i) (c-i) B _ w (hr.sub i (j-i) (by omega)) (by omega));obtain⟨p,hp⟩:=nmE (ab2 ((b.drop j).take 4));obtain⟨q,hq⟩:=nmE (abd 0 ((b.drop i).take (j-i)));rw[hp]at HG;rw[hq]at HSM;rw[hp,hq]at hy;have HY:Hid (((p:Int)==(q:Int))=y):=(show _=y by
  rw[<-hy];by_cases h:p=q
  · rw[h];simp
  · have e:(p==q)=false:=by rw[beq_eq_false_iff_ne];exact h
    rw[e,beq_eq_false_iff_ne];omega)
 have h1:(i:Int)<=(j:Int):=by omega
 have h2:(j:Int)<=(c:Int):=by omega
 have h3:(i:Int)<(c:Int):=by omega
 clear hr hp hq hy;go_enter Tryz.func279,Tryz.ntmps279
 go_wp2_with fail
 refine HG.out.mono ?_;rintro e w2 ⟨rfl,rfl⟩;go_wp2_with fail
 refine HSM.out.mono ?_;rintro e w2 ⟨rfl,rfl⟩;go_wp2
 go_ret
 exact⟨abk HY.out,rfl⟩
theorem alA:amp imMarkB=⟨#[67,78,84,76,1,0,0,0]⟩:=by rfl
theorem apL (w:World) (A:Option Addr) (n c B:Nat) (b:List UInt8) (hr:Rd w B A n b) (hnc:n<=c) (hc:c<=9223372036854775807) (hn:n<=900000) (h28:28<=n) (hm:b.take 8=imMarkB) (hs:(ab2 ((b.drop 24).take 4)==abd 0 ((b.drop 0).take (24-0)))=true) (N K:Nat) (hN:ab2 ((b.drop 8).take 8)=N) (hK:ab2 ((b.drop 16).take 8)=K) (hlen:ab0 (N:Int)=true) (hk:K<=1024):
 Calls Tryz.prog 275 #[.slice A n c] w fun e w'=>e= .returned (.tuple #[.int .i64 (N:Int), .int .i64 (K:Int), .nilIface])/\w=w':=by
 have HS:=hE0 (acu w A n c B b 0 24 hr hnc hc hn (by omega) (by omega) true hs);have HG1:=hE0 (adY A n c B b 8 w hr hnc (by omega) (by omega));have HG2:=hE0 (adY A n c B b 16 w hr hnc (by omega) (by omega));rw[hN]at HG1;rw[hK]at HG2;have h3:=(aaT (N:Int)).1 hlen;have HL:=hE0 (agI w N (by omega) true hlen);obtain⟨g,off,rfl,_⟩:=hr.2 (by omega);have q1:(convert 37 9 (.slice (some ⟨g,off,none⟩) 8 c)).run Tryz.prog w= .ok (.string ⟨#[67,78,84,76,1,0,0,0]⟩) w:=by
  have h:=hr.sub 0 8 (by omega);rw[List.drop_zero,hm,Nat.add_zero]at h;have h2:=acg (c:=c) h;rw[alA]at h2;exact h2
 have g1:decide (n<28)=false:=decide_eq_false (by omega);have g2:decide (1024<K)=false:=decide_eq_false (by omega);have g3:(8:Int)<=(c:Int):=by omega
 clear hr hm hs hN hK hlen;go_enter Tryz.func275,Tryz.ntmps275
 go_wp2_with fail
 refine HS.out.mono ?_;rintro e w2 ⟨rfl,rfl⟩;go_wp2_with fail
 refine HG1.out.mono ?_;rintro e w2 ⟨rfl,rfl⟩;go_wp2_with fail
 refine HG2.out.mono ?_;rintro e w2 ⟨rfl,rfl⟩;go_wp2_with fail
 refine HL.out.mono ?_;rintro e w2 ⟨rfl,rfl⟩;go_wp2
 go_ret3
 exact⟨rfl,rfl⟩
theorem ai1 (w:World) (k:Nat) (hk:k<=100000):
 Calls Tryz.prog 280 #[.int .i64 (k:Int)] w fun e w'=>e= .returned (.int .i64 ((28+k*8:Nat):Int))/\w=w':=by
 go_enter Tryz.func280,Tryz.ntmps280
 go_wp2
 go_ret
 exact⟨by congr 2,rfl⟩
theorem atD:(Tryz.prog.info? 112).map (fun i=>(i.zero,i.size,i.bytes))=some (some (.agg #[.int .i64 0, .int .i64 0, .bool false]),3,24):=by kernel_rfl
theorem aki{fn:Func}{R:Ending->World->Prop}{a:Act}{w:World}{p u:Tmp}{g:Nat}{x:Value}{n:Int}{A1 A2:Option Addr}{a1 b1 a2 b2:Nat}(hres:fn.results= #[.cell p 107, .tmp u]) (hp:a.tmps.getD p undef= .pointer (some ⟨g,0,none⟩)) (hx:a.tmps.getD u undef=x) (hd:a.defers= [])
 (hg:w.heap[g]?=some (.cells #[.int .i64 n, .slice A1 a1 b1, .slice A2 a2 b2] 107 (0,0))) (hR:R (.returned (.tuple #[.agg #[.int .i64 n, .slice A1 a1 b1, .slice A2 a2 b2],x])) w):bodyPost Tryz.prog fn R .ret a w:=by
 obtain⟨c0,c1,c2⟩:=aal hg;refine bodyPost_ret (v:= .tuple #[.agg #[.int .i64 n, .slice A1 a1 b1, .slice A2 a2 b2],x]) ?_ hd hR;rw[results_cell_tmp hres,hp,hx];simp[go_sem,c0,c1,c2]
theorem aff{y0 y1 y2:Value}{w:World}{g:Nat}{t:TypeId}(h:w.heap[g]?=some (.cells #[y0,y1,y2] t (0,0))) (x0 x1 x2:Value):
 (((w.setCell ⟨g,0,none⟩ x0).setCell ⟨g,1,none⟩ x1).setCell ⟨g,2,none⟩ x2).heap[g]?=some (.cells #[x0,x1,x2] t (0,0)):=by
 have h1:=heap_setCell_same w g 0 _ _ x0 h;have h2:=heap_setCell_same _ g 1 _ _ x1 h1;have h3:=heap_setCell_same _ g 2 _ _ x2 h2;rw[h3];rfl
theorem acP{w:World}{g:Nat}{cs:Array Value}{t:TypeId}(h:w.heap[g]?=some (.cells cs t (0,0))):w.frozen? ⟨g,0,none⟩=false/\w.frozen? ⟨g,1,none⟩=false/\w.frozen? ⟨g,2,none⟩=false:=
 ⟨frozen_of_row w g 0 _ _ h,frozen_of_row w g 1 _ _ h,frozen_of_row w g 2 _ _ h⟩
def slMark:List UInt8:= [83,76,79,84,0,0,0,0]
def abs (g n s:Nat):List UInt8:=slMark++aaF 8 g++aaF 8 n++aaF 4 s
def abx (g n s:Nat):List UInt8:=abs g n s++ahZ (abs g n s)++List.replicate 480 0
theorem abZ (g n s:Nat):(abs g n s).length=28:=by unfold abs slMark;simp[aag]
theorem acQ (g n s:Nat):(abx g n s).length=512:=by unfold abx;rw[List.length_append,List.length_append,abZ,ab6,List.length_replicate]
theorem atE (w:World):(Instr.buildSlice 37 8 #[(0, .int .u8 83),(1, .int .u8 76),(2, .int .u8 79),(3, .int .u8 84),(4, .int .u8 0),(5, .int .u8 0),(6, .int .u8 0),(7, .int .u8 0)]).run Tryz.prog w= .ok (.slice (some ⟨w.heap.size,0,none⟩) 8 8) (w.alloc (.cells #[.int .u8 83, .int .u8 76, .int .u8 79, .int .u8 84, .int .u8 0, .int .u8 0, .int .u8 0, .int .u8 0] 5)):=by
 obtain⟨i0,hi,hz0,hz1,hz2⟩:=info_parts afw;refine run_buildSlice w 37 5 8 _ _ i0 _ Tryz.underlying37 hi hz0 (by omega) (by omega) ?_;rw[hz1];have e:Array.range (8*1)= #[0,1,2,3,4,5,6,7]:=by decide
 rw[e];simp[Instr.fill,Value.cells]
def slG (b:List UInt8):Nat:=ab2 ((b.drop 8).take 8)
def slN (b:List UInt8):Nat:=ab2 ((b.drop 16).take 8)
def slS (b:List UInt8):Nat:=ab2 ((b.drop 24).take 4)
def akZ (g n:Nat):Bool:=decide (1<=g)&&(decide (g<=4611686018427387904)&&decide (n<=65536))
def aoF (g n s:Nat):List UInt8:=if akZ g n=true then abx g n s else []
theorem akj (w:World) (g n s:Nat) (y:Bool) (hy:akZ g n=y):
 Calls Tryz.prog 210 #[.agg #[.int .u64 (g:Int), .int .u64 (n:Int), .int .u32 (s:Int)]] w fun e w'=>e= .returned (.bool y)/\Below w.heap.size w w':=by
 obtain⟨w1,hw1⟩:=nmE (w.alloc (.cells #[.int .u64 (g:Int), .int .u64 (n:Int), .int .u32 (s:Int)] 146));have hb1:=abE hw1;have n1:=anE hw1;obtain⟨c0,c1,c2⟩:=aal n1;have hl1:=aaa n1;have HW1:=hE0 hw1;have HB1:=hE0 hb1;clear hw1 hb1 n1;unfold akZ at hy;by_cases h1:1<=g
 · have g1:decide ((1:Int)<=(g:Int))=true:=decide_eq_true (by omega);rw[decide_eq_true h1,Bool.true_and]at hy;by_cases h2:g<=4611686018427387904
   · have g2:decide ((g:Int)<=4611686018427387904)=true:=decide_eq_true (by omega);rw[decide_eq_true h2,Bool.true_and]at hy;have g3:decide ((n:Int)<=65536)=y:=by rw[<-hy];exact decide_eq_decide.mpr (by omega)
     clear hy;go_enter Tryz.func210,Tryz.ntmps210
     go_wp2_with (first | (rw[HW1.out]) | fail)
     go_ret
     exact⟨rfl,HB1.out⟩
   · have g2:decide ((g:Int)<=4611686018427387904)=false:=decide_eq_false (by omega);rw[decide_eq_false h2,Bool.false_and]at hy;subst hy;go_enter Tryz.func210,Tryz.ntmps210
     go_wp2_with (first | (rw[HW1.out]) | fail)
     go_ret
     exact⟨rfl,HB1.out⟩
 · have g1:decide ((1:Int)<=(g:Int))=false:=decide_eq_false (by omega);rw[decide_eq_false h1,Bool.false_and]at hy;subst hy;go_enter Tryz.func210,Tryz.ntmps210
   go_wp2_with (first | (rw[HW1.out]) | fail)
   go_ret
   exact⟨rfl,HB1.out⟩
theorem arS (w:World) (g n s:Nat) (hy:akZ g n=false):
 Calls Tryz.prog 145 #[.agg #[.int .u64 (g:Int), .int .u64 (n:Int), .int .u32 (s:Int)]] w fun e w'=>e= .returned (.slice none 0 0)/\Below w.heap.size w w':=by
 obtain⟨w1,hw1⟩:=nmE (w.alloc (.cells #[.int .u64 (g:Int), .int .u64 (n:Int), .int .u32 (s:Int)] 146));have hb1:=abE hw1;have n1:=anE hw1;obtain⟨c0,c1,c2⟩:=aal n1;have hl1:=aaa n1;have HM:=hE0 (akj w1 g n s _ hy);have HW1:=hE0 hw1;have HB1:=hE0 hb1;clear hw1 hb1 n1 hy;go_enter Tryz.func145,Tryz.ntmps145
 go_wp2_with (first | (rw[HW1.out]) | fail)
 refine HM.out.mono ?_;rintro e w2 ⟨rfl,hb2⟩;have HF:=hE0 (HB1.out.trans (hb2.mono HB1.out.size));clear hb2;go_wp2
 go_ret
 exact⟨rfl,HF.out⟩
theorem apM (w:World):(Instr.buildSlice 37 8 #[(0, .int .u8 83),(1, .int .u8 76),(2, .int .u8 79),(3, .int .u8 84),(4, .int .u8 0),(5, .int .u8 0),(6, .int .u8 0),(7, .int .u8 0)]).run Tryz.prog w= .ok (.slice (some ⟨w.heap.size,0,none⟩) 8 8) (w.alloc (.cells (acd slMark) 5)):=by
 have e:acd slMark= #[.int .u8 83, .int .u8 76, .int .u8 79, .int .u8 84, .int .u8 0, .int .u8 0, .int .u8 0, .int .u8 0]:=by rfl
 rw[e];exact atE w
theorem apN (w:World) (A B C D:Option Addr) (a b c d e f g h:Nat):(Instr.buildSlice 57 4 #[(0, .slice A a b),(1, .slice B c d),(2, .slice C e f),(3, .slice D g h)]).run Tryz.prog w= .ok (.slice (some ⟨w.heap.size,0,none⟩) 4 4) (w.alloc (.cells #[.slice A a b, .slice B c d, .slice C e f, .slice D g h] 37)):=by
 simp[go_sem]
theorem arT (w:World) (A B:Option Addr) (a b c d:Nat):(Instr.buildSlice 57 2 #[(0, .slice A a b),(1, .slice B c d)]).run Tryz.prog w= .ok (.slice (some ⟨w.heap.size,0,none⟩) 2 2) (w.alloc (.cells #[.slice A a b, .slice B c d] 37)):=by
 simp[go_sem]
theorem asL{w:World}{g:Nat}{C:Array Value}{l:List (List UInt8)}(hg:w.heap[g]?=some (.cells C 37 (0,0)))
 (h:∀(j:Nat) (u:List UInt8),l[j]?=some u->∃(A:Option Addr) (k:Nat),C[j]?=some (Value.slice A u.length k)/\Rd w w.heap.size A u.length u/\u.length<=maxLen/\u.length<=k/\(A=none->k=0)):
 DtRd w w.heap.size (some ⟨g,0,none⟩) l:=fun _=>by
 refine⟨g,0,rfl,aaa hg,fun j u hu=> ?_⟩;obtain⟨A,k,hC,hr,h1,h2,h3⟩:=h j u hu;exact⟨A,k,by rw[Nat.zero_add,cell_of_row w g j _ _ (0,0) hg];exact hC,hr,h1,h2,h3⟩
theorem anT (g n s:Nat) (w8:World) (r a b c d:Nat) (hn8:w8.heap[r]?=some (.cells #[.slice (some ⟨a,0,none⟩) 8 8, .slice (some ⟨b,0,none⟩) 8 8, .slice (some ⟨c,0,none⟩) 8 8, .slice (some ⟨d,0,none⟩) 4 4] 37 (0,0)))
 (h1:Rd w8 w8.heap.size (some ⟨a,0,none⟩) slMark.length slMark) (h2:Rd w8 w8.heap.size (some ⟨b,0,none⟩) (aaF 8 g).length (aaF 8 g)) (h3:Rd w8 w8.heap.size (some ⟨c,0,none⟩) (aaF 8 n).length (aaF 8 n)) (h4:Rd w8 w8.heap.size (some ⟨d,0,none⟩) (aaF 4 s).length (aaF 4 s)):
 Calls Tryz.prog 119 #[.slice (some ⟨r,0,none⟩) 4 4] w8 fun e w'=>∃v,e= .returned v/\w'.ownsRow w8.heap.size 5 1 v 28 ((abs g n s).map bv)/\Below w8.heap.size w8 w':=by
 have hd:DtRd w8 w8.heap.size (some ⟨r,0,none⟩) [slMark,aaF 8 g,aaF 8 n,aaF 4 s]:=asL hn8 (fun j u hu=>by
  match j,hu with
  | 0,hu=>injection hu with hu;subst hu;exact⟨_,8,rfl,h1,by decide,by decide,fun e=>by cases e⟩
  | 1,hu=>injection hu with hu;subst hu;exact⟨some ⟨b,0,none⟩,8,by rw[aag];rfl,h2,by rw[aag];decide,by rw[aag];decide,fun e=>by cases e⟩
  | 2,hu=>injection hu with hu;subst hu;exact⟨some ⟨c,0,none⟩,8,by rw[aag];rfl,h3,by rw[aag];decide,by rw[aag];decide,fun e=>by cases e⟩
  | 3,hu=>injection hu with hu;subst hu;exact⟨some ⟨d,0,none⟩,4,by rw[aag];rfl,h4,by rw[aag];decide,by rw[aag];decide,fun e=>by cases e⟩
  | j+4,hu=>cases hu)
 have hc:=afx w8 (some ⟨r,0,none⟩) 4 [slMark,aaF 8 g,aaF 8 n,aaF 4 s] hd (by simp) (by simp[slMark,aag]);have e:([slMark,aaF 8 g,aaF 8 n,aaF 4 s]:List (List UInt8)).flatten=abs g n s:=by unfold abs;simp
 rw[e,abZ]at hc;exact hc
theorem apO{B:Nat}{w0 w:World}{g:Nat}{t:TypeId}{z cs:List UInt8}(h:Fill w g t (cs++z)) (hb:Below B w0 w) (hB:B<=g) (ds:List UInt8) (hl:ds.length=cs.length):
 Fill (w.setRow g (((acd (cs++z)).toList.take 0++(ds.map bv++(acd (cs++z)).toList.drop (0+(ds.map bv).length))).toArray)) g t (ds++z)/\Below B w0 (w.setRow g (((acd (cs++z)).toList.take 0++(ds.map bv++(acd (cs++z)).toList.drop (0+(ds.map bv).length))).toArray)):=by
 refine⟨?_,below_setRow hb hB _⟩;unfold Fill at h ⊢;rw[setRow_heap w g _ _ t _ h];have e:List.drop ds.length (cs++z)=z:=by rw[hl,List.drop_left]
 simp only[acd,List.take_zero,List.nil_append,Nat.zero_add,List.length_map,<-List.map_drop];rw[e,List.map_append]
def slR (B g n s:Nat) (i:Nat) (D:Nat->Prop) (v:Value) (w:World):Prop:=match i with
 | 0=>¬D 1->∃r,v= .slice (some ⟨r,0,none⟩) 8 8/\B<=r/\w.heap[r]?=some (.cells (acd slMark) 5 (0,0))
 | 1=>∃r,v= .slice (some ⟨r,0,none⟩) 8 8/\Rd w w.heap.size (some ⟨r,0,none⟩) slMark.length slMark
 | 4=>∃r,v= .slice (some ⟨r,0,none⟩) 8 8/\Rd w w.heap.size (some ⟨r,0,none⟩) (aaF 8 g).length (aaF 8 g)
 | 7=>∃r,v= .slice (some ⟨r,0,none⟩) 8 8/\Rd w w.heap.size (some ⟨r,0,none⟩) (aaF 8 n).length (aaF 8 n)
 | 10=>∃r,v= .slice (some ⟨r,0,none⟩) 4 4/\Rd w w.heap.size (some ⟨r,0,none⟩) (aaF 4 s).length (aaF 4 s)
 | 11=>D 1/\∃r a b c d,v= .slice (some ⟨r,0,none⟩) 4 4/\w.heap[r]?=some (.cells #[.slice (some ⟨a,0,none⟩) 8 8, .slice (some ⟨b,0,none⟩) 8 8, .slice (some ⟨c,0,none⟩) 8 8, .slice (some ⟨d,0,none⟩) 4 4] 37 (0,0))/\
  Rd w w.heap.size (some ⟨a,0,none⟩) slMark.length slMark/\Rd w w.heap.size (some ⟨b,0,none⟩) (aaF 8 g).length (aaF 8 g)/\Rd w w.heap.size (some ⟨c,0,none⟩) (aaF 8 n).length (aaF 8 n)/\Rd w w.heap.size (some ⟨d,0,none⟩) (aaF 4 s).length (aaF 4 s)
 | 12=>D 11/\w.ownsRow B 5 1 v 28 ((abs g n s).map bv)
 | _=>True
def slI:List Nat:= [0,1,4,7,10,11,12]
def awg (i:Nat):List Nat:=match i with
 | 1=> [0]
 | 7=> [4]
 | 10=> [7]
 | 11=> [1,4,7,10]
 | 12=> [11]
 | _=> []
theorem arU{B g n s:Nat}{D D':Nat->Prop}{v:Value}{w w':World}(hD:∀k,D k->D' k) (hb:Below w.heap.size w w'){i:Nat}(hi:i∈slI) (h:slR B g n s i D v w):slR B g n s i D' v w':=by
 have k:∀{A:Option Addr} {m:Nat} {bs:List UInt8},Rd w w.heap.size A m bs->Rd w' w'.heap.size A m bs:=fun h=>(h.below hb).more hb.size;unfold slI at hi;simp only[List.mem_cons,List.not_mem_nil,or_false]at hi;rcases hi with rfl | rfl | rfl | rfl | rfl | rfl | rfl
 · exact fun h1=>(h fun x=>h1 (hD 1 x)).imp fun r h=>⟨h.1,h.2.1,(hb.block _ (agi h.2.2)).trans h.2.2⟩
 · exact h.imp fun r h=>⟨h.1,k h.2⟩
 · exact h.imp fun r h=>⟨h.1,k h.2⟩
 · exact h.imp fun r h=>⟨h.1,k h.2⟩
 · exact h.imp fun r h=>⟨h.1,k h.2⟩
 · obtain⟨h0,r,a,b,c,d,h1,h2,h3,h4,h5,h6⟩:=h;exact⟨hD 1 h0,r,a,b,c,d,h1,(hb.block _ (agi h2)).trans h2,k h3,k h4,k h5,k h6⟩
 · exact⟨hD 11 h.1,acG h.2 hb⟩
theorem amQ (w:World) (g n s:Nat) (hs:s<4294967296) (hy:akZ g n=true):
 Calls Tryz.prog 145 #[.agg #[.int .u64 (g:Int), .int .u64 (n:Int), .int .u32 (s:Int)]] w fun e w'=>∃b,e= .returned (.slice (some ⟨b,0,none⟩) 512 512)/\w.heap.size<=b/\Fill w' b 5 (abx g n s)/\Below w.heap.size w w':=by
 obtain⟨w1,hw1⟩:=nmE (w.alloc (.cells #[.int .u64 (g:Int), .int .u64 (n:Int), .int .u32 (s:Int)] 146));have hb1:=abE hw1;have n1:=anE hw1;have HM:=hE0 (akj w1 g n s _ hy);unfold akZ at hy;simp only[Bool.and_eq_true,decide_eq_true_eq]at hy;have hg64:g<18446744073709551616:=by omega
 have hn64:n<18446744073709551616:=by omega
 obtain⟨d0,d1,d2⟩:=aal n1;have hl1:=aaa n1;have HB1:=hE0 hb1;have HW1:=hE0 hw1;have HN1:=hE0 n1;have HPUTg:=hE0 (fun W=>agC g W hg64);have HPUTn:=hE0 (fun W=>agC n W hn64);have HPUT4:=hE0 (fun W=>aiG s W hs);have HEND:=hE0 (fun w8 r a b c d=>anT g n s w8 r a b c d);clear hw1 hb1 n1 hy;go_enter Tryz.func145,Tryz.ntmps145
 go_wp2_with (first | (rw[HW1.out]) | fail)
 refine HM.out.mono ?_;rintro e w2 ⟨rfl,hb2⟩;obtain⟨wd,hwd⟩:=nmE w2.drew;have hbd:Below w1.heap.size w1 wd:=by rw[<-hwd];exact hb2.drew
 have nd:=(hbd.block _ (aaa HN1.out)).trans HN1.out;obtain⟨c0,c1,c2⟩:=aal nd;have hld:=aaa nd;have HBD:=hE0 hbd;have HWD:=hE0 hwd;clear hb2 hwd hbd nd d0 d1 d2 HM;go_wp2_with fail
 go_cut [3] from 8 (fun b wx=>wx.ownsRow wd.heap.size 5 1 b 28 ((abs g n s).map bv)/\Below wd.heap.size wd wx)
 case first=>
  refine ac4 wd.heap.size (.two [2,3,5,6,8,9] 0 (.two [] 1 (.one [] 4 (.one [] 7 (.one [] 10 (.one [] 11 (.one [] 12 (.fin [13])))))) 4 (.two [] 1 (.one [] 7 (.one [] 10 (.one [] 11 (.one [] 12 (.fin [13]))))) 7 (.two [] 1 (.one [] 10 (.one [] 11 (.one [] 12 (.fin [13])))) 10 (.one [] 1 (.one [] 11 (.one [] 12 (.fin [13]))))))) 4 (.two [] 0 (.two [] 1 (.one [] 7 (.one [] 10 (.one [] 11 (.one [] 12 (.fin [13]))))) 7 (.two [] 1 (.one [] 10 (.one [] 11 (.one [] 12 (.fin [13])))) 10 (.one [] 1 (.one [] 11 (.one [] 12 (.fin [13])))))) 7 (.two [] 0 (.two [] 1 (.one [] 10 (.one [] 11 (.one [] 12 (.fin [13])))) 10 (.one [] 1 (.one [] 11 (.one [] 12 (.fin [13]))))) 10 (.one [] 0 (.one [] 1 (.one [] 11 (.one [] 12 (.fin [13])))))))) [] (by kernel_rfl) (by kernel_rfl) (by kernel_rfl) (fun _ _ _ _ _ h=>h) ?_;rw[HWD.out];have q0:=tfE c0 hld;have q1:=tfE c1 hld;have q2:=tfE c2 hld;refine aeU (l:= ?segA) ?hsegA ?_
  case hsegA=>simp only[pick,lE1,lE2,lE3];rfl
  repeat (go_big_quiet_step (fail))
  refine wpQuiet_nil ?_;clear q0 q1 q2;refine amt (PT.any_inv (I:=slI) (d:=fun i=>8+i) (dp:=awg) (Inv:=fun D f w=>∀j,D j->slR wd.heap.size g n s j D (f j) w) (w0:=wd) (last:= [13]) (fun i _ j _ e=>Nat.add_left_cancel (show 8+i=8+j from e)) (fun i hi=>ams fun dn f W hn hI hdp hR hb=> ?_) (fun f W hI hb=> ?_) _ [] (fun _=>undef) wd (by kernel_rfl) (fun _ h=>by cases h) (fun _ h=>by cases h) (Below.refl _ _))
  · have hk:∀w',Below W.heap.size W w'->∀j∈dn,slR wd.heap.size g n s j (fun j=>j=i\/j∈dn) (f j) w':=fun w' b j hj=>arU (fun k h=> .inr h) b (hI j hj) (hR j hj);generalize hX:abg (fun i=>8+i) f dn _=X;have ev:∀j∈dn,j<13->X.eval (.tmp (8+j))=f j:=fun j hj h13=>by
     rw[<-hX];exact ahR (d:=fun i=>8+i) (I:=slI) (fun i _ j _ e=>Nat.add_left_cancel (show 8+i=8+j from e)) hI hj _ (by show 8+j<_;simp;omega)
    have old:=fun(t:Nat) (ht:∀i∈slI,8+i≠t)=>ajK (d:=fun i=>8+i) (f:=f) (l:=dn) (t:=t) fun i hi=>ht i (hI i hi);unfold slI at hi;simp only[List.mem_cons,List.not_mem_nil,or_false]at hi;rcases hi with rfl | rfl | rfl | rfl | rfl | rfl | rfl
    · have hb1:Below W.heap.size W (W.alloc (.cells (acd slMark) 5)):=(Below.refl _ _).alloc (Nat.le_refl _) _;exact ab3 (some 8) (w1:=W.alloc (.cells (acd slMark) 5)) (v:= .slice (some ⟨W.heap.size,0,none⟩) 8 8) rfl rfl rfl (acD rfl rfl (apM W)) (hb1.mono hb.size) ⟨wd.heap.size,Nat.le_refl _,_,rfl,fun _=>⟨W.heap.size,rfl,hb.size,heap_alloc_new W _⟩,hk _ hb1⟩
    · have h0:=hdp 0 (by decide);obtain⟨r,e,hr,hg⟩:=hR 0 h0 hn;obtain⟨v',hrun,fm,sz,kp,bl⟩:=aka (P:=Tryz.prog) W 37 5 r (acd slMark) 8 8 Tryz.underlying37 Tryz.underlying5 hg;have k:∀{A:Option Addr} {m:Nat} {bs:List UInt8},Rd W W.heap.size A m bs->Rd v' v'.heap.size A m bs:=fun h=>by
       rw[sz];refine h.keep fun p _=> ?_;by_cases ep:p.block=r
       · obtain⟨pb,po,ps⟩:=p;dsimp only at ep;subst ep;simp[World.cell?,hg,fm]
       · exact World.cell?_of_block (kp _ ep)
      refine ab3 (some 9) rfl rfl rfl (amN rfl ((ev 0 h0 (by omega)).trans e) hrun) (bl wd.heap.size hr) ⟨wd.heap.size,Nat.le_refl _,_,rfl,⟨r,rfl,acs fm⟩,fun j hj=> ?_⟩;have hj2:=hI j hj;unfold slI at hj2;simp only[List.mem_cons,List.not_mem_nil,or_false]at hj2;rcases hj2 with rfl | rfl | rfl | rfl | rfl | rfl | rfl
      · exact fun h=>absurd (.inl rfl) h
      · exact absurd hj hn
      · exact(hR 4 hj).imp fun r h=>⟨h.1,k h.2⟩
      · exact(hR 7 hj).imp fun r h=>⟨h.1,k h.2⟩
      · exact(hR 10 hj).imp fun r h=>⟨h.1,k h.2⟩
      · exact absurd (hR 11 hj).1 hn
      · exact absurd (hR 11 (hR 12 hj).1).1 hn
    · refine aau (vs:= #[.int .u64 (g:Int)]) Tryz.call120 rfl rfl (congrArg (fun x=> [x]) (by rw[<-hX];exact old 11 (by decide) _)) (R:=fun r w'=>(∃x,r= .slice (some ⟨x,0,none⟩) 8 8/\Rd w' w'.heap.size (some ⟨x,0,none⟩) (aaF 8 g).length (aaF 8 g))/\Below W.heap.size W w') ((HPUTg.out W).mono ?_) wd.heap.size (Nat.le_refl _) ?_
      · rintro e w' ⟨rfl,hf,hb'⟩;exact⟨_,rfl,hb'.mono hb.size,⟨_,rfl,acs hf⟩,hb'⟩
      · rintro r w' _ ⟨hx,hb'⟩;exact⟨_,rfl,hx,hk _ hb'⟩
    · refine aau (vs:= #[.int .u64 (n:Int)]) Tryz.call120 rfl rfl (congrArg (fun x=> [x]) (by rw[<-hX];exact old 14 (by decide) _)) (R:=fun r w'=>(∃x,r= .slice (some ⟨x,0,none⟩) 8 8/\Rd w' w'.heap.size (some ⟨x,0,none⟩) (aaF 8 n).length (aaF 8 n))/\Below W.heap.size W w') ((HPUTn.out W).mono ?_) wd.heap.size (Nat.le_refl _) ?_
      · rintro e w' ⟨rfl,hf,hb'⟩;exact⟨_,rfl,hb'.mono hb.size,⟨_,rfl,acs hf⟩,hb'⟩
      · rintro r w' _ ⟨hx,hb'⟩;exact⟨_,rfl,hx,hk _ hb'⟩
    · refine aau (vs:= #[.int .u32 (s:Int)]) Tryz.call183 rfl rfl (congrArg (fun x=> [x]) (by rw[<-hX];exact old 17 (by decide) _)) (R:=fun r w'=>(∃x,r= .slice (some ⟨x,0,none⟩) 4 4/\Rd w' w'.heap.size (some ⟨x,0,none⟩) (aaF 4 s).length (aaF 4 s))/\Below W.heap.size W w') ((HPUT4.out W).mono ?_) wd.heap.size (Nat.le_refl _) ?_
      · rintro e w' ⟨rfl,hf,hb'⟩;exact⟨_,rfl,hb'.mono hb.size,⟨_,rfl,acs hf⟩,hb'⟩
      · rintro r w' _ ⟨hx,hb'⟩;exact⟨_,rfl,hx,hk _ hb'⟩
    · have h1:=hdp 1 (by decide);have h4:=hdp 4 (by decide);have h7:=hdp 7 (by decide);have h10:=hdp 10 (by decide);obtain⟨a,ea,ra⟩:=hR 1 h1;obtain⟨b,eb,rb⟩:=hR 4 h4;obtain⟨c,ec,rc⟩:=hR 7 h7;obtain⟨d,ed,rd⟩:=hR 10 h10;obtain⟨w8,hw8⟩:=nmE (W.alloc (.cells #[.slice (some ⟨a,0,none⟩) 8 8, .slice (some ⟨b,0,none⟩) 8 8, .slice (some ⟨c,0,none⟩) 8 8, .slice (some ⟨d,0,none⟩) 4 4] 37));have hb8:=abE hw8;have n8:=anE hw8;have k:∀{A:Option Addr} {m:Nat} {bs:List UInt8},Rd W W.heap.size A m bs->Rd w8 w8.heap.size A m bs:=fun h=>(h.below hb8).more hb8.size;have x1:X.eval (.tmp 9)=_:=(ev 1 h1 (by omega)).trans ea;have x4:X.eval (.tmp 12)=_:=(ev 4 h4 (by omega)).trans eb;have x7:X.eval (.tmp 15)=_:=(ev 7 h7 (by omega)).trans ec;have x10:X.eval (.tmp 18)=_:=(ev 10 h10 (by omega)).trans ed;refine ab3 (some 19) (w1:=w8) (v:= .slice (some ⟨W.heap.size,0,none⟩) 4 4) rfl rfl rfl (by rw[<-hw8];exact acD rfl (by simp only[List.map_cons,List.map_nil];rw[x1,x4,x7,x10]) (apN W _ _ _ _ _ _ _ _ _ _ _ _)) (hb8.mono hb.size) ⟨wd.heap.size,Nat.le_refl _,_,rfl,⟨.inr h1,W.heap.size,a,b,c,d,rfl,n8,k ra,k rb,k rc,k rd⟩,hk _ hb8⟩
    · have h11:=hdp 11 (by decide);obtain⟨_,r,a,b,c,d,er,hg,r1,r2,r3,r4⟩:=hR 11 h11;refine aau (vs:= #[.slice (some ⟨r,0,none⟩) 4 4]) Tryz.call119 rfl rfl (congrArg (fun x=> [x]) ((ev 11 h11 (by omega)).trans er)) (R:=fun q w'=>w'.ownsRow W.heap.size 5 1 q 28 ((abs g n s).map bv)/\Below W.heap.size W w') ((HEND.out W r a b c d hg r1 r2 r3 r4).mono ?_) wd.heap.size (Nat.le_refl _) ?_
      · rintro e w' ⟨v,rfl,ho,hb'⟩;exact⟨_,rfl,hb'.mono hb.size,ho,hb'⟩
      · rintro q w' _ ⟨ho,hb'⟩;exact⟨_,rfl,⟨.inr h11,acY ho hb.size⟩,hk _ hb'⟩
  · obtain⟨_,ho⟩:=hI 12 (by decide);have HO:=hE0 ho;have HB:=hE0 hb;clear hI ho hb;unfold slI;simp only[abg,Act.put,List.setIfInBounds_toArray,List.set_cons_zero,List.set_cons_succ,Nat.reduceAdd];refine aeV (l:= ?finA) (t:= []) ?hfinA ?htfinA ?_
    case hfinA=>simp only[pick,lE1,lE2,lE3];rfl
    case htfinA=>rfl
    repeat (go_big_quiet_step (fail))
    refine wpQuiet_nil ?_;go_wp2_with fail
    go_meet
    case rel=>exact⟨HO.out,HB.out⟩
 case rest=>
  obtain⟨ho,hb⟩:=hcut;obtain⟨A0,k0,rfl,hA0⟩:=aeJ ho;obtain⟨z,hz⟩:=nmE (List.replicate 32 (0:UInt8)++List.replicate 480 0);have hmk:(Instr.makeSlice 37 (.int .i64 512) (.int .i64 512)).run Tryz.prog wc= .ok (.slice (some ⟨wc.heap.size,0,none⟩) 512 512) (wc.alloc (.cells (acd z) 5)):=by
   have:=run_make_row' (P:=Tryz.prog) 37 5 (.int .u8 0) 1 Tryz.underlying37 afq rfl .i64 .i64 512 (by omega) (by omega) wc;rw[acE,show(512:Nat)=32+480 from rfl,<-List.replicate_append_replicate,hz]at this;exact this
  obtain⟨w3,hw3⟩:=nmE (wc.alloc (.cells (acd z) 5));have hf3:Fill w3 wc.heap.size 5 z:=by rw[<-hw3];exact Fill.made wc 5 _
  have hb3:=abE hw3;have HR0:=hE0 (((ab8 ho).below hb3).more hb3.size);have HK0:=hE0 hA0;obtain⟨u,hu⟩:=nmE (abd 0 (abs g n s));have hul:u<4294967296:=by rw[<-hu];exact aei _ _
  have hsum:=agz A0 28 k0 w3.heap.size (abs g n s) w3 HR0.out (by omega);rw[hu]at hsum;have HS:=hE0 hsum;have HU:=hE0 hu;have HF3:=hE0 hf3;have HBC:=hE0 hb;have HB3:=hE0 hb3;have HW3:=hE0 hw3;have HZ:=hE0 hz;have h28:28<=k0:=by
   rcases ho.2 with⟨h',_⟩ | ⟨_,_,_,hv,_,_,h',_,_⟩
   · omega
   · injection hv with _ _ e3;subst e3;exact h'
  clear ho hb hf3 hb3 hw3 hA0 hsum hu hz HPUTg HPUTn HPUT4 HEND;go_wp2_with (first | (rw[HW3.out]) | fail)
  refine HS.out.mono ?_;rintro e w4 ⟨rfl,rfl⟩;go_wp2_with fail
  refine(aiG u _ hul).mono ?_;rintro e w5 ⟨rfl,hf5,hb5⟩;have hf5':w5.heap[w3.heap.size]?=some (.cells (acd (aaF 4 u)) 5 (0,0)):=hf5;obtain⟨w6,hw6⟩:=nmE (w5.alloc (.cells #[.slice A0 28 k0, .slice (some ⟨w3.heap.size,0,none⟩) 4 4] 37));have hb6:=abE hw6;have n6:=anE hw6;have hb56:=hb5.trans (hb6.mono hb5.size);have hd6:DtRd w6 w6.heap.size (some ⟨w5.heap.size,0,none⟩) [abs g n s,aaF 4 u]:=asL n6 (fun j x hx=>by
   match j,hx with
   | 0,hx=>injection hx with hx;subst hx;exact⟨A0,k0,by rw[abZ];rfl,by rw[abZ];exact(HR0.out.below hb56).more hb56.size,by rw[abZ];decide,by rw[abZ];exact h28,HK0.out⟩
   | 1,hx=>injection hx with hx;subst hx;exact⟨some ⟨w3.heap.size,0,none⟩,4,by rw[aag];rfl,((acs hf5').below hb6).more hb6.size,by rw[aag];decide,by rw[aag];decide,fun e=>by cases e⟩
   | j+2,hx=>cases hx)
  have hc6:=afx w6 (some ⟨w5.heap.size,0,none⟩) 2 [abs g n s,aaF 4 u] hd6 (by simp) (by simp[abZ,aag]);obtain⟨H,hH⟩:=nmE (abs g n s++ahZ (abs g n s));have hHl:H.length=32:=by rw[<-hH,List.length_append,abZ,ab6]
  have e6:([abs g n s,aaF 4 u]:List (List UInt8)).flatten=H:=by rw[<-hH];unfold ahZ;rw[HU.out];simp
  rw[e6,hHl]at hc6;have HC6:=hE0 hc6;have HB6:=hE0 hb56;have HW6:=hE0 hw6;have HHL:=hE0 hHl;have HH:=hE0 hH;clear hf5 hf5' hb5 hb6 n6 hd6 hc6 e6 hb56 hw6 hHl hH HS HR0 HK0 HU;have hbs2:=arT w5 A0 (some ⟨w3.heap.size,0,none⟩) 28 k0 4 4;go_wp2_with (first | (rw[HW6.out]) | fail)
  clear hbs2;refine HC6.out.mono ?_;rintro e w7 ⟨v7,rfl,ho7,hb7⟩;obtain⟨A7,k7,rfl,_⟩:=aeJ ho7;have hB7:=HB6.out.trans (hb7.mono HB6.out.size);have hf7:Fill w7 wc.heap.size 5 (List.replicate 32 (0:UInt8)++List.replicate 480 0):=by
   rw[HZ.out];exact HF3.out.below hB7 HF3.out.lt
  have hbb:=HBC.out.trans ((HB3.out.trans (hB7.mono HB3.out.size)).mono HBC.out.size);have hr7:=ab8 ho7;obtain⟨b7,o7,e7,_⟩:=hr7.2 (by omega);subst e7;have hov:=apO hf7 hbb HBC.out.size H (by rw[HHL.out];rfl);have hsrc:∀j v,(H.map bv)[j]?=some v->w7.cell? ((⟨b7,o7,none⟩:Addr).add j)=some v:=fun j v hj=>adt hr7 j v hj;have HOV:=hE0 hov;have HSRC:=hE0 hsrc;have HN:Hid ((H.map bv).length=Nat.min 32 512):=(show _=_ by rw[List.length_map,HHL.out];rfl);have HF7:=hE0 hf7;have HFIT:Hid (0+(H.map bv).length<=(acd (List.replicate 32 (0:UInt8)++List.replicate 480 0)).size):=(show _<=_ by rw[adW,List.length_map,HHL.out];simp);clear hov hsrc hf7 hbb hr7 ho7 hb7 hB7;go_wp2_with ((refine wpList_copy_own rfl (.tmp 22) (.tmp 28) 37 37 rfl 5 Tryz.underlying37 (by kernel_rfl) wc.heap.size 0 512 512 ⟨b7,o7,none⟩ 32 k7 rfl rfl _ 5 HF7.out (H.map bv) HN.out HSRC.out HFIT.out (afO _) ?_);generalize w7.setRow _ _=w9 at HOV ⊢)
  go_ret
  have hw1d:=Nat.le_trans HB1.out.size HBD.out.size;refine⟨wc.heap.size,rfl,Nat.le_trans hw1d HBC.out.size,?_,HB1.out.trans ((HBD.out.trans (HOV.out.2.mono HBD.out.size)).mono HB1.out.size)⟩;have e:abx g n s=H++List.replicate 480 0:=by rw[<-HH.out];rfl
  rw[e];exact HOV.out.1
theorem apP (w:World) (g n s:Nat) (hs:s<4294967296):
 Calls Tryz.prog 145 #[.agg #[.int .u64 (g:Int), .int .u64 (n:Int), .int .u32 (s:Int)]] w fun e w'=>∃A m c,e= .returned (.slice A m c)/\(A=none->c=0)/\Rd w' w'.heap.size A m (aoF g n s)/\Below w.heap.size w w':=by
 cases h:akZ g n with
 | false=>
  refine(arS w g n s h).mono ?_;rintro e w' ⟨rfl,hb⟩;refine⟨none,0,0,rfl,fun _=>rfl,?_,hb⟩;unfold aoF;rw[if_neg (by rw[h];simp)];exact Rd.nil_
 | true=>
  refine(amQ w g n s hs h).mono ?_;rintro e w' ⟨b,rfl,_,hf,hb⟩;refine⟨_,512,512,rfl,(fun e=>by cases e),?_,hb⟩;unfold aoF;rw[if_pos h];have:=hf.reads;rw[acQ]at this;exact this
def aby (b:List UInt8) (i j:Nat):Bool:=ab2 ((b.drop j).take 4)==abd 0 ((b.drop i).take (j-i))
def aaQ:List UInt8->Nat->Nat->Option (List Rk)
 | _,0,_=>some []
 | b,k+1,o=>match adT (ab2 (b.take 8))with
  | none=>none
  | some (s,u)=>(aaQ (b.drop 8) k (o+s)).map (⟨(o:Int),(s:Int),u⟩:: ·)
def aaP:List Rk->Nat
 | []=>0
 | x::l=>(if x.u then x.s.toNat-16 else 0)+aaP l
def agk:List Rk->List UInt8->List (List UInt8)
 | [],_=> []
 | x::l,b=>if x.u then b.take (x.s.toNat-16)::agk l (b.drop (x.s.toNat-16)) else agk l b
def acR (b:List UInt8):Nat:=ab2 ((b.drop 8).take 8)
def ac2 (b:List UInt8):Nat:=ab2 ((b.drop 16).take 8)
def adD (b:List UInt8):Nat:=
 if b.length<28 then 3 else if b.take 8≠imMarkB then 3 else if aby b 0 24=false then 9
 else if ab0 (acR b:Int)=false then 3 else if 1024<ac2 b then 3 else 0
def atF (n:Nat) (o:Option (List Rk)):Nat × List Rk:=match o with
 | none=>(3,[])
 | some l=>if abh (n:Int) 184 false l=false then (3,[]) else (0,l)
def abI (b:List UInt8) (n k:Nat):Nat × List Rk:=
 if b.length<32+8*k then (3,[]) else if aby b 28 (28+8*k)=false then (9,[])
 else atF n (aaQ (b.drop 28) k 184)
def aeM (b:List UInt8) (l:List Rk):Nat × List (List UInt8):=
 if b.length≠32+8*l.length+aaP l+8 then (3,[])
 else if aby b (32+8*l.length) (32+8*l.length+aaP l)=false then (9,[])
 else if aby b 0 (32+8*l.length+aaP l+4)=false then (9,[])
 else (0,agk l (b.drop (32+8*l.length)))
theorem afE:∀{k:Nat}{b:List UInt8}{o:Nat}{l:List Rk},aaQ b k o=some l->l.length=k
 | 0,b,o,l,h=>by
  rw[aaQ]at h;injection h with h;rw[<-h];rfl
 | k+1,b,o,l,h=>by
  rw[aaQ]at h;split at h
  · cases h
  · rename_i s u e
    cases hm:aaQ (b.drop 8) k (o+s)with
    | none=>rw[hm]at h;cases h
    | some l'=>
     rw[hm]at h;injection h with h;rw[<-h,List.length_cons,afE hm]
theorem agX:∀{k:Nat}{b:List UInt8}{o:Nat}{l:List Rk},aaQ b k o=some l->aaQ b (k+1) o=match adT (ab2 ((b.drop (8*k)).take 8))with
  | none=>none
  | some (s,u)=>some (l++ [⟨((o+(l.map (·.s.toNat)).sum:Nat):Int),(s:Int),u⟩])
 | 0,b,o,l,h=>by
  rw[aaQ]at h;injection h with h;subst h;rw[aaQ,Nat.mul_zero,List.drop_zero]
  cases hu:adT (ab2 (b.take 8))with
  | none=>rfl
  | some x=>simp[aaQ]
 | k+1,b,o,l,h=>by
  rw[aaQ]at h;split at h
  · cases h
  · rename_i s u e
    cases hm:aaQ (b.drop 8) k (o+s)with
    | none=>rw[hm]at h;cases h
    | some l'=>
     rw[hm]at h;injection h with h;subst h;have ih:=agX hm;rw[aaQ,e];dsimp only;rw[ih,List.drop_drop,show 8+8*k=8*(k+1) from by omega]
     cases hu:adT (ab2 ((b.drop (8*(k+1))).take 8))with
     | none=>rfl
     | some x=>simp[Nat.add_assoc]
theorem alB{k:Nat}:∀{j:Nat}{b:List UInt8}{o:Nat},aaQ b k o=none->aaQ b (k+j) o=none:=by
 induction k with
 | zero=>intro j b o h;rw[aaQ]at h;cases h
 | succ k ih=>
  intro j b o h;rw[show k+1+j=(k+j)+1 from by omega];rw[aaQ]at h ⊢;split at h
  · rfl
  · rename_i s u e
    cases hm:aaQ (b.drop 8) k (o+s)with
    | none=>rw[ih hm];rfl
    | some l'=>rw[hm]at h;cases h
def RkC (cs:Array Value) (l:List Rk):Prop:=∀j x,l[j]?=some x->cs[j*3]?=some (.int .i64 x.o)/\cs[j*3+1]?=some (.int .i64 x.s)/\cs[j*3+2]?=some (.bool x.u)/\
 (-9223372036854775808<=x.o/\x.o<=9223372036854775807)/\(-9223372036854775808<=x.s/\x.s<=9223372036854775807)
theorem RkC.rd{w:World}{g:Nat}{cs:Array Value}{t:TypeId}{l:List Rk}(h:RkC cs l) (hg:w.heap[g]?=some (.cells cs t (0,0))):RkRd w w.heap.size (some ⟨g,0,none⟩) l:=fun _=>by
 refine⟨g,0,rfl,aaa hg,fun j x hx=> ?_⟩;obtain⟨h0,h1,h2,h3⟩:=h j x hx;simp only[Nat.zero_add];exact⟨(cell_of_row _ _ _ _ _ _ hg).trans h0,(cell_of_row _ _ _ _ _ _ hg).trans h1,(cell_of_row _ _ _ _ _ _ hg).trans h2,h3⟩
theorem RkC.snoc{cs:Array Value}{l:List Rk}{k:Nat}(h:RkC cs l) (hs:cs.size=3*k) (hl:l.length<k) (o s:Int) (u:Bool) (ho: -9223372036854775808<=o/\o<=9223372036854775807) (hsb: -9223372036854775808<=s/\s<=9223372036854775807):
 RkC (((cs.setIfInBounds (l.length*3) (.int .i64 o)).setIfInBounds (l.length*3+1) (.int .i64 s)).setIfInBounds (l.length*3+2) (.bool u)) (l++ [⟨o,s,u⟩]):=by
 intro j x hx;by_cases hj:j<l.length
 · rw[List.getElem?_append_left hj]at hx;obtain⟨h0,h1,h2,h3⟩:=h j x hx;simp only[Array.getElem?_setIfInBounds];rw[if_neg (by omega),if_neg (by omega),if_neg (by omega),if_neg (by omega),if_neg (by omega),if_neg (by omega),if_neg (by omega),if_neg (by omega),if_neg (by omega)];exact⟨h0,h1,h2,h3⟩
 · rw[List.getElem?_append_right (by omega)]at hx;have e:j=l.length:=by
    have:=(List.getElem?_eq_some_iff.1 hx).1;simp at this;omega
   subst e;simp at hx;subst hx;simp only[Array.getElem?_setIfInBounds];simp[hs];refine⟨?_,?_,?_,ho,hsb⟩<;>omega
theorem atG (W:World) (k:Nat) (hk:k<=1024):∃cs,cs.size=3*k/\(Instr.makeSlice 56 (.int .i64 (k:Int)) (.int .i64 (k:Int))).run Tryz.prog W= .ok (.slice (some ⟨W.heap.size,0,none⟩) k k) (W.alloc (.cells cs 112)):=by
 obtain⟨i0,hi,hz0,hz1,hz2⟩:=info_parts atD;have h:=run_makeSlice (P:=Tryz.prog) W 56 112 i0 _ Tryz.underlying56 hi hz0 .i64 .i64 k k (by omega) (by omega) (by rw[hz1];omega) (by rw[hz2];omega) (by omega);refine⟨_,?_,h⟩;rw[size_madeCells,hz1];omega
def aux (x:Nat × List Rk) (A:Option Addr):Value:=if x.1=0 then .tuple #[.slice A x.2.length x.2.length, .nilIface] else .tuple #[.slice none 0 0, .iface 130 (.int .i64 (x.1:Int))]
theorem arV{w:World}{g i k:Nat}{cs:Array Value}{t:TypeId}(hg:w.heap[g]?=some (.cells cs t (0,0))) (hs:cs.size=3*k) (hi:i<k):
 (∃y,w.cell? ⟨g,i*3,none⟩=some y)/\(∃y,w.cell? ⟨g,i*3+1,none⟩=some y)/\(∃y,w.cell? ⟨g,i*3+2,none⟩=some y)/\
 w.frozen? ⟨g,i*3,none⟩=false/\w.frozen? ⟨g,i*3+1,none⟩=false/\w.frozen? ⟨g,i*3+2,none⟩=false:=
 ⟨⟨_,(cell_of_row _ _ _ _ _ _ hg).trans (Array.getElem?_eq_getElem (by omega))⟩,⟨_,(cell_of_row _ _ _ _ _ _ hg).trans (Array.getElem?_eq_getElem (by omega))⟩,⟨_,(cell_of_row _ _ _ _ _ _ hg).trans (Array.getElem?_eq_getElem (by omega))⟩,
  frozen_of_row w g _ _ _ hg,frozen_of_row w g _ _ _ hg,frozen_of_row w g _ _ _ hg⟩
theorem apQ{w:World}{g i:Nat}{cs:Array Value}{t:TypeId}(hg:w.heap[g]?=some (.cells cs t (0,0))) (x0 x1 x2:Value):
 (((w.setCell ⟨g,i*3,none⟩ x0).setCell ⟨g,i*3+1,none⟩ x1).setCell ⟨g,i*3+2,none⟩ x2).heap[g]?=some (.cells (((cs.setIfInBounds (i*3) x0).setIfInBounds (i*3+1) x1).setIfInBounds (i*3+2) x2) t (0,0)):=by
 have h1:=heap_setCell_same w g (i*3) _ _ x0 hg;have h2:=heap_setCell_same _ g (i*3+1) _ _ x1 h1;exact heap_setCell_same _ g (i*3+2) _ _ x2 h2
theorem akk (w:World) (A:Option Addr) (n c B N k:Nat) (b:List UInt8) (hr:Rd w B A n b) (hBw:B<=w.heap.size) (hnc:n<=c) (hc:c<=9223372036854775807) (hn:n<=900000) (hN:ab0 (N:Int)=true) (hk:k<=1024):
 Calls Tryz.prog 276 #[.slice A n c, .int .i64 (N:Int), .int .i64 (k:Int)] w fun e w'=>∃A2,e= .returned (aux (abI b N k) A2)/\RkRd w' w'.heap.size A2 (abI b N k).2/\Below w.heap.size w w':=by
 have hbl:b.length=n:=hr.1;have HT:=hE0 (fun W (j:Nat) (hj:j<=1024)=>ai1 W j (by omega));have hT:=(HT.out w k hk);obtain⟨E,hE⟩:=nmE (28+k*8);rw[hE]at hT;have hEb:E<=10000:=by omega
 unfold abI;rw[hbl,show 32+8*k=E+4 from by omega,show 28+8*k=E from by omega];by_cases h1:n<E+4
 · rw[if_pos h1];have g1:decide (n<E+4)=true:=decide_eq_true h1;have g1':decide ((n:Int)<(E:Int)+4)=true:=decide_eq_true (by omega);clear HT hr hbl hE;go_enter Tryz.func276,Tryz.ntmps276
   go_wp2_with fail
   refine hT.mono ?_;rintro e w2 ⟨rfl,rfl⟩;go_wp2
   go_ret2
   exact⟨none,rfl,fun h=>absurd h (by simp),Below.refl _ _⟩
 rw[if_neg h1];have g1:decide (n<E+4)=false:=decide_eq_false h1;have g1':decide ((n:Int)<(E:Int)+4)=false:=decide_eq_false (by omega);obtain⟨sy,hsy⟩:∃y,aby b 28 E=y:=⟨_,rfl⟩;have HS:=hE0 (acu w A n c B b 28 E hr hnc hc hn (by omega) (by omega) sy hsy);rw[hsy]
 cases sy with
 | false=>
  rw[if_pos rfl];clear HT hr hbl hE hsy;go_enter Tryz.func276,Tryz.ntmps276
  go_wp2_with fail
  refine hT.mono ?_;rintro e w2 ⟨rfl,rfl⟩;go_wp2_with fail
  refine HS.out.mono ?_;rintro e w2 ⟨rfl,rfl⟩;go_wp2
  go_ret2
  exact⟨none,rfl,fun h=>absurd h (by simp),Below.refl _ _⟩
 | true=>
  rw[if_neg (by simp)];obtain⟨r,hres⟩:=nmE (atF N (aaQ (b.drop 28) k 184));rw[hres];have HRES:=hE0 hres;clear hres;obtain⟨cs0,hs0,hmk⟩:=atG w k hk;obtain⟨w1,hw1⟩:=nmE (w.alloc (.cells cs0 112));have hb1:=abE hw1;have n1:=anE hw1;have HR:=hE0 ((hr.more hBw));have HN1:=hE0 n1;have HB1:=hE0 hb1;have HW1:=hE0 hw1;have HS0:=hE0 hs0;obtain⟨h184,h16,_⟩:=(aaT (N:Int)).1 hN;have HEE:=hE0 hE;clear hr hbl hsy hw1 hb1 n1 hN hE;go_enter Tryz.func276,Tryz.ntmps276
  go_wp2_with fail
  refine hT.mono ?_;rintro e w2 ⟨rfl,rfl⟩;go_wp2_with fail
  refine HS.out.mono ?_;rintro e w2 ⟨rfl,rfl⟩;go_wp2_with (first | (rw[HW1.out]) | fail)
  go_loopw [10,34] (fun o t wr=>∃(j:Nat) (l:List Rk) (cs:Array Value) (z:Nat),o= .int .i64 (z:Int)/\t= .int .i64 (j:Int)/\j<=k/\z=184+(l.map (·.s.toNat)).sum/\z<=184+20000*j/\aaQ (b.drop 28) j 184=some l/\wr.heap[w.heap.size]?=some (.cells cs 112 (0,0))/\cs.size=3*k/\RkC cs l/\Below w.heap.size w wr) (fun _ t _=>k-(intOf t).toNat)
  case atStart=>exact⟨0,[],cs0,184,rfl,rfl,Nat.zero_le _,rfl,by omega,rfl,HN1.out,HS0.out,fun j x hx=>by simp at hx,HB1.out⟩
  case round=>
   obtain⟨j,l,cs,z,rfl,rfl,hj,hz,hzb,hbk,hg,hsz,hrk,hb⟩:=hrel;have hll:=afE hbk;by_cases hlt:j<k
   · have hT2:=HT.out wr j (by omega);obtain⟨p,hp⟩:=nmE (28+j*8);rw[hp]at hT2;have hG:=adY A n c w.heap.size b p wr (HR.out.below hb) hnc (by omega) (by have:=HEE.out;omega);have hv:ab2 ((b.drop p).take 8)<18446744073709551616:=adV _ (List.length_take_le _ _);have hsn:=agX hbk;rw[List.drop_drop,show 28+8*j=p from by omega]at hsn;obtain⟨v,hvv⟩:=nmE (ab2 ((b.drop p).take 8));rw[hvv]at hG hv hsn;have hU:=abm (w:=wr) v hv;obtain⟨un,hun⟩:=nmE (adT v);rw[hun]at hU hsn;have HG:=hE0 hG;have HU:=hE0 hU;have HT2:=hE0 hT2;have HSN:=hE0 hsn;have HB:=hE0 hb;have hp2:p<=10000:=by omega
     clear hG hU hT2 hsn hb hvv hv
     cases un with
     | none=>
      have HE0:Hid (aaQ (b.drop 28) k 184=none):=(show _=none by
       have h:=alB (j:=k-(j+1)) HSN.out;rw[show j+1+(k-(j+1))=k from by omega]at h;exact h)
      have HR3:Hid (r=(3,[])):=(show _=_ by rw[<-HRES.out,HE0.out];rfl);clear HSN hbk hg hsz hrk hz hll hun hp;unfold ao5 at HU;go_wp2_with fail
      refine HT2.out.mono ?_;rintro e w2 ⟨rfl,rfl⟩;go_wp2_with fail
      refine HG.out.mono ?_;rintro e w2 ⟨rfl,rfl⟩;go_wp2_with fail
      refine HU.out.mono ?_;rintro e w2 ⟨rfl,rfl⟩;go_wp2
      go_ret2
      exact⟨none,by rw[HR3.out];rfl,by rw[HR3.out];exact fun h=>absurd h (by simp),HB.out⟩
     | some x=>
      obtain⟨s,u⟩:=x;have hs3:=(aab _).1 (ac8 hun).1;have hsn:=HSN.out;dsimp only at hsn;rw[<-hz]at hsn;have HRK:=hE0 (hrk.snoc hsz (by omega) (z:Int) (s:Int) u (by omega) (by omega));have HGG:=hE0 (apQ (i:=j) hg (.int .i64 (z:Int)) (.int .i64 (s:Int)) (.bool u));obtain⟨⟨y0,c0⟩,⟨y1,c1⟩,⟨y2,c2⟩,f0,f1,f2⟩:=arV hg hsz hlt;rw[hll]at HRK;have HZ:Hid (((z+s:Nat))=184+((l++ [(⟨(z:Int),(s:Int),u⟩:Rk)]).map (·.s.toNat)).sum):=(show _=_ by
       simp[hz,Nat.add_assoc])
      have HSNN:=hE0 hsn;have HSZ:=hE0 hsz;have hgl:=aaa hg;have HBS:=hE0 (((HB.out.setCell (p:=⟨w.heap.size,j*3,none⟩) (Nat.le_refl _) (.int .i64 (z:Int))).setCell (p:=⟨w.heap.size,j*3+1,none⟩) (Nat.le_refl _) (.int .i64 (s:Int))).setCell (p:=⟨w.heap.size,j*3+2,none⟩) (Nat.le_refl _) (.bool u));clear HSN hbk hg hsz hrk hz hll hun hsn hp;unfold ao5 at HU;go_wp2_with fail
      refine HT2.out.mono ?_;rintro e w2 ⟨rfl,rfl⟩;go_wp2_with fail
      refine HG.out.mono ?_;rintro e w2 ⟨rfl,rfl⟩;go_wp2_with fail
      refine HU.out.mono ?_;rintro e w2 ⟨rfl,rfl⟩;go_wp2
      go_roundw
      case rel=>exact⟨j+1,_,_,z+s,by go_num,by go_num,by omega,HZ.out,by omega,HSNN.out,HGG.out,by simp[HSZ.out],HRK.out,HBS.out⟩
      case measure=>simp only[intOf];omega
   · have e:j=k:=by omega
     subst e;have hrd:=hrk.rd hg;have HRD:=hE0 hrd;obtain⟨y,hy⟩:=nmE (abh (N:Int) 184 false l);have HROW:=hE0 (aj0 wr (some ⟨w.heap.size,0,none⟩) j l hrd (by omega) (N:Int) ⟨h184,h16⟩ y hy);rw[hll]at HROW;have HB:=hE0 hb;have hres:=HRES.out;rw[hbk]at hres;unfold atF at hres;dsimp only at hres;rw[hy]at hres;have HR3:=hE0 hres;clear hres;have HLL:=hE0 hll;clear hrd hy hb hbk hrk hg hsz hz hll
     cases y with
     | false=>
      go_wp2_with fail
      refine HROW.out.mono ?_;rintro e w3 ⟨rfl,hb3⟩;have HF:=hE0 (HB.out.trans (hb3.mono HB.out.size));clear hb3;go_wp2
      go_ret2
      have e:r=(3,[]):=by rw[<-HR3.out];rfl
      exact⟨none,by rw[e];rfl,by rw[e];exact fun h=>absurd h (by simp),HF.out⟩
     | true=>
      go_wp2_with fail
      refine HROW.out.mono ?_;rintro e w3 ⟨rfl,hb3⟩;have HF:=hE0 (HB.out.trans (hb3.mono HB.out.size));have HRF:=hE0 ((HRD.out.below hb3).more hb3.size);clear hb3;go_wp2
      go_ret2
      have e:r=(0,l):=by rw[<-HR3.out];rfl
      exact⟨some ⟨w.heap.size,0,none⟩,by rw[e];unfold aux;rw[if_pos rfl];dsimp only;rw[HLL.out];rfl,by rw[e];exact HRF.out,HF.out⟩
def auX (x:Nat × List (List UInt8)) (A:Option Addr) (c:Nat):Value:=if x.1=0 then .tuple #[.slice A x.2.length c, .nilIface] else .tuple #[.slice none 0 0, .iface 130 (.int .i64 (x.1:Int))]
theorem ai2:∀{l:List Rk},(∀x∈l,aaB x.s=true)->aaP l<=20000*l.length
 | [],_=>Nat.le_refl _
 | x::l,h=>by
  have h1:=ai2 fun y hy=>h y (List.mem_cons_of_mem _ hy);have h2:=(aab _).1 (h x List.mem_cons_self);unfold aaP;rw[List.length_cons];split<;>omega
theorem amR{s:Int}(h:aaB s=true):∃q:Nat,s=((q+16:Nat):Int)/\s.toNat-16=q/\q<=20000:=by
 have h2:=(aab _).1 h;exact⟨s.toNat-16,by omega,rfl,by omega⟩
theorem agY{P:Prop}(h:P:=by
 obtain⟨b2,o,rfl,hbb,hcl⟩:=HL.out (by rw[HM.out];omega);obtain⟨p0,p1,p2,hxo,hxs⟩:=hcl j x hx;have r0:=(hb.cell (p:=⟨b2,o+j*3,none⟩) hbb).trans p0;have r1:=(hb.cell (p:=⟨b2,o+j*3+1,none⟩) hbb).trans p1;have r2:=(hb.cell (p:=⟨b2,o+j*3+2,none⟩) hbb).trans p2;have hsx:=HSZ.out x (List.mem_of_getElem? hx);rw[aeE hx]at hz;unfold aaP at hz;obtain⟨xo,xs,xu⟩:=x;dsimp only at p0 p1 p2 r0 r1 r2 hz hxo hxs hsx;obtain⟨q,hq1,hq2,hq3⟩:=amR hsx;have hxb:16<=xs/\xs<=20016:=by omega
 rw[hq2]at hz;obtain⟨w4,hw4⟩:=nmE (wr.alloc (.cells #[.int .i64 xo, .int .i64 xs, .bool xu] 112));have hb4:Below w.heap.size w w4:=by rw[<-hw4];exact hb.alloc hb.size _
 have n4:=anE hw4;obtain⟨d0,d1,d2⟩:=aal n4;have hl4:=aaa n4;have HHELD:=hE0 (aen w4 xo xs xu hsx);have HW4:=hE0 hw4;have HB4:=hE0 hb4;have HZ:=hE0 hz;clear hx hb p0 p1 p2 hb4 n4 hw4 hcl hz
 cases xu with
 | false=>
  have HF:Hid (z+aaP (l.drop (j+1))=T):=(show _=T by have:=HZ.out;simpa using this);clear hq1 hq2;go_wp2_with (first | (rw[HW4.out]) | fail)
  go_roundw
  case rel=>exact⟨j+1,z,rfl,by go_num,by omega,HF.out,HB4.out⟩
  case measure=>simp only[intOf];omega
 | true=>
  have HF:Hid (z+q+aaP (l.drop (j+1))=T):=(show _=T by have:=HZ.out;rw[if_pos rfl]at this;omega);have HQ:=hE0 hq1;clear hq1 hq2;go_wp2_with (first | (rw[HW4.out]) | fail)
  refine HHELD.out.mono ?_;rintro e w5 ⟨rfl,hb5⟩;have HB5:=hE0 (HB4.out.trans (hb5.mono HB4.out.size));clear hb5;go_wp2_with fail
  go_roundw
  case rel=>exact⟨j+1,z+q,by have:=HQ.out;go_num,by go_num,by omega,HF.out,HB5.out⟩
  case measure=>simp only[intOf];omega
 ):P:=h
theorem anU (w:World) (A A2:Option Addr) (n c B k2:Nat) (b:List UInt8) (l:List Rk) (hr:Rd w B A n b) (hnc:n<=c) (hc:c<=9223372036854775807) (hn:n<=900000) (hl:RkRd w w.heap.size A2 l) (hBw:B<=w.heap.size) (hll:l.length<=1024) (hs:∀x∈l,aaB x.s=true) (hbad:(aeM b l).1≠0):
 Calls Tryz.prog 277 #[.slice A n c, .slice A2 l.length k2] w fun e w'=>e= .returned (auX (aeM b l) none 0)/\(aeM b l).2= []/\Below w.heap.size w w':=by
 have hbl:b.length=n:=hr.1;have hh:=ai2 hs;obtain⟨D,hD⟩:=nmE (aeM b l);rw[hD]at hbad ⊢;unfold aeM at hD;rw[hbl]at hD;obtain⟨m,hm⟩:=nmE l.length;rw[hm]at hll hh hD ⊢;obtain⟨E,hE⟩:=nmE (28+m*8);obtain⟨T,hT⟩:=nmE (E+4+aaP l);have hTE:E+4<=T:=by omega
 rw[show 32+8*m=E+4 from by omega,hT]at hD;have HT:=ai1 w m (by omega);rw[hE]at HT;have HTT:=hE0 HT;have HR:=hE0 (hr.more hBw);have HL:=hE0 hl;have HSZ:=hE0 hs;have HM:=hE0 hm;have HTL:=hE0 hT;have hEb:E<=10000:=by omega
 have hTb:T<=30000000:=by omega
 have HDD:=hE0 hD;clear hr hl hs hm hT HT hD hE hh hbl;go_enter Tryz.func277,Tryz.ntmps277
 go_wp2_with fail
 refine HTT.out.mono ?_;rintro e w2 ⟨rfl,rfl⟩;go_wp2_with fail
 go_loopw [7,20] (fun o t wr=>∃(j z:Nat),o= .int .i64 (z:Int)/\t= .int .i64 (j:Int)/\j<=m/\z+aaP (l.drop j)=T/\Below w.heap.size w wr) (fun _ t _=>m-(intOf t).toNat)
 case atStart=>exact⟨0,E+4,by go_num,rfl,Nat.zero_le _,HTL.out,Below.refl _ _⟩
 case round=>
  obtain⟨j,z,rfl,rfl,hj,hz,hb⟩:=hrel;have hzT:z<=T:=by omega
  by_cases hlt:j<m
  · obtain⟨x,hx⟩:∃x,l[j]?=some x:=⟨l[j]'(by rw[HM.out];exact hlt),List.getElem?_eq_getElem _⟩;exact agY
  · have hd:l.drop j= []:=List.drop_eq_nil_of_le (by rw[HM.out];omega);rw[hd]at hz;have hz2:z=T:=hz;subst hz2;have HB:=hE0 hb;have hR:=HR.out.below hb;have hDD:=HDD.out;clear hb hz hd;by_cases h1:n≠z+8
    · rw[if_pos h1]at hDD;have g1:((n:Int) !=(z:Int)+8)=true:=by rw[bne_iff_ne];omega
      have HD3:=hE0 hDD;clear hDD hR;go_wp2
      go_ret2
      exact⟨by rw[<-HD3.out];rfl,by rw[<-HD3.out],HB.out⟩
    · rw[if_neg h1]at hDD;have h1':n=z+8:=Decidable.byContradiction h1;have g1:((n:Int) !=(z:Int)+8)=false:=by rw[bne_eq_false_iff_eq];omega
      obtain⟨y1,hy1⟩:∃y,aby b (E+4) z=y:=⟨_,rfl⟩;obtain⟨y2,hy2⟩:∃y,aby b 0 (z+4)=y:=⟨_,rfl⟩;rw[hy1,hy2]at hDD;have HS1:=hE0 (acu wr A n c w.heap.size b (E+4) z hR hnc hc hn (by omega) (by omega) y1 hy1);have HS2:=hE0 (acu wr A n c w.heap.size b 0 (z+4) hR hnc hc hn (by omega) (by omega) y2 hy2);rw[show((E+4:Nat):Int)=(E:Int)+4 from by omega]at HS1;rw[show((z+4:Nat):Int)=(z:Int)+4 from by omega]at HS2;have HD3:=hE0 hDD;clear hDD hR hy1 hy2 h1 h1'
      cases y1 with
      | false=>
       go_wp2_with fail
       refine HS1.out.mono ?_;rintro e w5 ⟨rfl,rfl⟩;go_wp2
       go_ret2
       exact⟨by rw[<-HD3.out];rfl,by rw[<-HD3.out];rfl,HB.out⟩
      | true=>
       cases y2 with
       | false=>
        go_wp2_with fail
        refine HS1.out.mono ?_;rintro e w5 ⟨rfl,rfl⟩;go_wp2_with fail
        refine HS2.out.mono ?_;rintro e w5 ⟨rfl,rfl⟩;go_wp2
        go_ret2
        exact⟨by rw[<-HD3.out];rfl,by rw[<-HD3.out];rfl,HB.out⟩
       | true=>
        exact absurd (by rw[<-HD3.out];rfl) hbad
def adr (base:Nat) (o:Int):Nat:=(((base:Int)+o)%18446744073709551616).toNat
theorem asM (base:Nat) (o:Int):adr base o<18446744073709551616:=by unfold adr;omega
theorem ai3 (base:Nat) (hb:base<=4611686018427387904) (o:Nat) (ho:(o:Int)<=9223372036854775807):adr base (o:Int)=base+o:=by unfold adr;omega
theorem apR (base:Nat) (hb:base<=4611686018427387904) (o:Int) (ho: -9223372036854775900<=o/\o<=9223372036854775807) (n k:Nat) (hn:n+k<=1000000) (hk:1<=k) (h:o<0\/(n:Int)<o+k):base<=adr base o->n<adr base o-base+k:=by unfold adr;omega
def wdV (o:Option Nat):Value:=match o with
 | some v=> .tuple #[.int .u64 (v:Int), .nilIface]
 | none=> .tuple #[.int .u64 0, .iface 130 (.int .i64 2)]
def plc (o:Int):Bool:=decide (184<=o)&&(o%16==8)
theorem agZ (o:Int):plc o=true ↔ 184<=o/\o%16=8:=by simp[plc]
section
variable {w:World} {g base cap c:Nat} {A:Option Addr} {bs:List UInt8}
theorem abQ (h:Ar w 195 g base cap A c bs) (hb:base<=4611686018427387904) (hl:bs.length<=16384) (o:Int) (ho: -9223372036854775900<=o/\o<=9223372036854775807) (x:Option Nat) (hx:word? bs o=x):
 Calls Tryz.prog 176 #[.pointer (some ⟨g,0,none⟩), .int .u64 (adr base o:Int)] w fun e w'=>e= .returned (wdV x)/\w=w':=by
 subst hx;by_cases h1:0<=o/\o+8<=bs.length
 · obtain⟨p,rfl⟩:∃p:Nat,o=(p:Int):=⟨o.toNat,by omega⟩;have e:word? bs (p:Int)=some (aaf bs p):=by unfold word?;rw[if_pos (by omega)];rfl
   rw[e,ai3 base hb p (by omega)];exact ate h (by omega) (base+p) p (by omega) (by omega) (by omega) (by omega)
 · have e:word? bs o=none:=by unfold word?;rw[if_neg h1]
   rw[e];exact atf h (by omega) (adr base o) (asM _ _) (apR base hb o ho bs.length 8 (by omega) (by omega) (by omega))
theorem aay (h:Ar w 195 g base cap A c bs) (o:Int):
 Calls Tryz.prog 186 #[.pointer (some ⟨g,0,none⟩), .int .i64 o] w fun e w'=>e= .returned (.int .u64 (adr base o:Int))/\w=w':=by
 have HB:=hE0 (ab4 h);go_enter Tryz.func186,Tryz.ntmps186
 go_wp2_with fail
 refine HB.out.mono ?_;rintro e w1 ⟨rfl,rfl⟩;go_wp2
 go_ret
 exact⟨auA (by simp only[IntKind.wrap_u64];unfold adr;omega),rfl⟩
theorem abn (w:World) (o:Int) (ho: -9223372036854775808<=o/\o<=9223372036854775807) (b:Bool) (hb:plc o=b):
 Calls Tryz.prog 185 #[.int .i64 o] w fun e w'=>e= .returned (.bool b)/\w=w':=by
 by_cases h1:184<=o
 · have e:((o-184)%16==0)=b:=by
    rw[<-hb];unfold plc;rw[decide_eq_true h1,Bool.true_and,Bool.eq_iff_iff,beq_iff_eq,beq_iff_eq];omega
   have HE:=hE0 e;clear hb e;go_enter Tryz.func185,Tryz.ntmps185
   go_wp2
   go_ret
   exact⟨asG HE.out,rfl⟩
 · obtain rfl:false=b:=by rw[<-hb];simp[plc,h1]
   clear hb;go_enter Tryz.func185,Tryz.ntmps185
   go_wp2
   go_ret
   exact⟨rfl,rfl⟩
end
def auy (l:List Bk):Nat->Bool
 | 0=>false
 | j+1=> !adP l j
theorem akl{l:List Bk}{j:Nat}{x:Bk}(h:l[j]?=some x):adP l j=x.used:=by unfold adP;rw[h]
theorem anV (l:List Bk) (j:Nat):(List.range (j+1)).all (adQ l)=((List.range j).all (adQ l)&&adQ l j):=by
 rw[List.range_succ,List.all_append];simp
theorem apS{l:List Bk}{j:Nat}(hj:j<l.length) (h:adQ l j=false):aex l=false:=by
 unfold aex;rw[List.all_eq_false];exact⟨j,List.mem_range.2 hj,by rw[h];decide⟩
theorem arW{l:List Bk}{j:Nat}{x:Bk}(h:l[j]?=some x):adQ l j= !(auy l j&& !x.used):=by
 unfold adQ;rw[akl h]
 cases j with
 | zero=>rfl
 | succ j=>
  simp only[auy,Nat.add_sub_cancel]
  cases x.used<;>cases adP l j<;>rfl
section
variable {w:World} {g base cap c:Nat} {A:Option Addr} {bs:List UInt8}
theorem aaV{B:Nat}{w w':World}(h:Below B w w'){b j:Nat}{v:Value}(hc:w.cell? ⟨b,j,none⟩=some v) (hb:b<B):w'.cell? ⟨b,j,none⟩=some v:=
 (h.cell (p:=⟨b,j,none⟩) hb).trans hc
theorem arX (w:World) (A2:Option Addr) (c2:Nat) (l:List Bk) (hr:BkRd w w.heap.size A2 l) (hc:l.length<=c2/\c2<=9223372036854775807) (y:Bool) (hy:aex l=y):
 Calls Tryz.prog 113 #[.slice A2 l.length c2] w fun e w'=>e= .returned (.bool (!y))/\Below w.heap.size w w':=by
 have HR:=hE0 hr;have HY:=hE0 hy;clear hr hy;go_enter Tryz.func113,Tryz.ntmps113
 go_wp2
 go_loopw [3,8] (fun v t wr=>∃(j:Nat) (b:Bool),t= .int .i64 (j:Int)/\v= .bool b/\b=auy l j/\j<=l.length/\(List.range j).all (adQ l)=true/\Below w.heap.size w wr) (fun _ t _=>l.length-(intOf t).toNat)
 case atStart=>exact⟨0,false,rfl,rfl,rfl,Nat.zero_le _,rfl,Below.refl _ _⟩
 case round=>
  obtain⟨j,b,rfl,rfl,hbw,hj,hall,hbe⟩:=hrel;by_cases hlt:j<l.length
  · obtain⟨x,hx⟩:∃x,l[j]?=some x:=⟨l[j],List.getElem?_eq_getElem hlt⟩;obtain⟨b2,o,rfl,hbb,hcl⟩:=HR.out (by omega);obtain⟨p0,p1,p2⟩:=hcl j x hx;have hp:=arW hx;have hs:=anV l j;rw[hall,Bool.true_and]at hs;have hu:=akl hx;have r0:=aaV hbe p0 hbb;have r1:=aaV hbe p1 hbb;have r2:=aaV hbe p2 hbb;obtain⟨xo,xs,xu⟩:=x;dsimp only at p0 p1 p2 r0 r1 r2 hp hu;rw[<-hbw]at hp;obtain⟨w4,hw4⟩:=nmE (wr.alloc (.cells #[.int .i64 (xo:Int), .int .i64 (xs:Int), .bool xu] 112));have hb4:Below w.heap.size w w4:=by rw[<-hw4];exact hbe.alloc hbe.size _
    have n4:=anE hw4;obtain⟨⟨d0,d1,d2⟩,_⟩:=aad n4;have HW4:=hE0 hw4;have HB4:=hE0 hb4;have HP:=hE0 hp;have HS:=hE0 hs;have HU:=hE0 hu;clear hp hs hu hx hbe p0 p1 p2 hb4 n4 hw4 hcl hall hbw
    cases b<;>cases xu
    · go_wp2_with (first | (rw[HW4.out]) | fail)
      go_roundw
      case rel=>exact⟨j+1,true,by go_num,rfl,by simp[auy,HU.out],by omega,by rw[HS.out,HP.out];rfl,HB4.out⟩
      case measure=>simp only[intOf];omega
    · go_wp2_with (first | (rw[HW4.out]) | fail)
      go_roundw
      case rel=>exact⟨j+1,false,by go_num,rfl,by simp[auy,HU.out],by omega,by rw[HS.out,HP.out];rfl,HB4.out⟩
      case measure=>simp only[intOf];omega
    · obtain rfl:y=false:=by rw[<-HY.out];exact apS hlt HP.out
      go_wp2_with (first | (rw[HW4.out]) | fail)
      go_ret
      exact⟨rfl,HB4.out⟩
    · go_wp2_with (first | (rw[HW4.out]) | fail)
      go_roundw
      case rel=>exact⟨j+1,false,by go_num,rfl,by simp[auy,HU.out],by omega,by rw[HS.out,HP.out];rfl,HB4.out⟩
      case measure=>simp only[intOf];omega
  · obtain rfl:y=true:=by
     rw[<-HY.out];unfold aex;rw[show l.length=j by omega];exact hall
    have HB:=hE0 hbe;clear hbe hall hbw;go_wp2
    go_ret
    exact⟨rfl,HB.out⟩
theorem apT (h:Ar w 195 g base cap A c bs) (hb:base<=4611686018427387904) (hl:bs.length<=16384) (h184:184<=bs.length) (y:Bool) (hy:decide (aaf bs 0<4194304)=y):
 Calls Tryz.prog 114 #[.pointer (some ⟨g,0,none⟩)] w fun e w'=>e= .returned (.bool (!y))/\w=w':=by
 obtain⟨v,hv⟩:=nmE (aaf bs 0);have hvl:v<18446744073709551616:=by rw[<-hv];exact aan _ _
 have hW:=abQ h hb hl 0 (by omega) (some v) (by unfold word?;rw[if_pos (by omega)];simp[hv]);have e0:adr base 0=base:=by unfold adr;omega
 rw[e0]at hW;dsimp only[wdV]at hW;rw[hv]at hy;have HBS:=hE0 (ab4 h);have HW:=hE0 hW;have HY:=hE0 hy;clear hW hy hv h;go_enter Tryz.func114,Tryz.ntmps114
 go_wp2_with fail
 with_reducible refine HBS.out.mono ?_
 rintro e w1 ⟨rfl,rfl⟩;go_wp2_with fail
 with_reducible refine HW.out.mono ?_
 rintro e w1 ⟨rfl,rfl⟩;go_wp2
 go_ret
 exact⟨asG (by rw[<-HY.out,Bool.eq_iff_iff];simp;omega),rfl⟩
end
end Go.Proofs.YtncadccbepjekaaGreatDoor
