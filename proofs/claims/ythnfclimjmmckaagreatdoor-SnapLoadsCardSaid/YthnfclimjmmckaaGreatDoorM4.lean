/- Texts of mine, joined. -/
import Derived.Great.BuildSlice
import Derived.Test.YthnfclimjmmckaaGreatDoorM3
set_option maxRecDepth 100000
set_option maxHeartbeats 8000000
namespace Go.Proofs.YthnfclimjmmckaaGreatDoor
theorem af3{n:Int}:∀{l:List Rk}{e:Int}{f:Bool}{d:List (List UInt8)},abe n e f l=true->datOk l d=true->(d.flatten.length:Int)+e<=n
 | [],e,f,d,h,h2=>by
  unfold abe at h;unfold datOk at h2;rw[beq_iff_eq]at h;have:d= []:=by simpa using h2
  subst this;simp;omega
 | x::r,e,f,d,h,h2=>by
  unfold abe at h;simp only[Bool.and_eq_true,beq_iff_eq,decide_eq_true_eq]at h;obtain⟨_,h3,_,_,h4⟩:=h;have h5:=(aae _).1 h3;unfold datOk at h2;split at h2
  · cases d with
    | nil=>cases h2
    | cons y d'=>
     simp only[Bool.and_eq_true,beq_iff_eq]at h2;have:=af3 h4 h2.2;rw[List.flatten_cons,List.length_append];omega
  · have:=af3 h4 h2;omega
theorem aig{n:Int}{l:List Rk}{d:List (List UInt8)}(h:acG n l d=true):d.flatten.length<=16384/\184<=n/\n<=16384:=by
 unfold acG at h;simp only[Bool.and_eq_true]at h;have h1:=(aaN n).1 h.1;have h2:=af3 h.2.1 h.2.2;omega
open Go.RowKit
def slMark:List UInt8:= [83,76,79,84,0,0,0,0]
def aa8 (g n s:Nat):List UInt8:=slMark++aat 8 g++aat 8 n++aat 4 s
def abA (g n s:Nat):List UInt8:=aa8 g n s++adU (aa8 g n s)++List.replicate 480 0
theorem abN (g n s:Nat):(aa8 g n s).length=28:=by unfold aa8 slMark;simp[aab]
theorem aea (g n s:Nat):(abA g n s).length=512:=by unfold abA;rw[List.length_append,List.length_append,abN,abY,List.length_replicate]
theorem anQ (w:World):(Instr.buildSlice 37 8 #[(0, .int .u8 83),(1, .int .u8 76),(2, .int .u8 79),(3, .int .u8 84),(4, .int .u8 0),(5, .int .u8 0),(6, .int .u8 0),(7, .int .u8 0)]).run Tryz.prog w= .ok (.slice (some ⟨w.heap.size,0,none⟩) 8 8) (w.alloc (.cells #[.int .u8 83, .int .u8 76, .int .u8 79, .int .u8 84, .int .u8 0, .int .u8 0, .int .u8 0, .int .u8 0] 5)):=by
 obtain⟨i0,hi,hz0,hz1,hz2⟩:=info_parts aaR;refine run_buildSlice w 37 5 8 _ _ i0 _ Tryz.underlying37 hi hz0 (by omega) (by omega) ?_;rw[hz1];have e:Array.range (8*1)= #[0,1,2,3,4,5,6,7]:=by decide
 rw[e];simp[Instr.fill,Value.cells]
theorem aht (w:World) (g n s:Nat) (hg:g<18446744073709551616) (hn:n<18446744073709551616) (_hs:s<4294967296) (hno:g<1\/4611686018427387904<g\/65536<n):
 Calls Tryz.prog 64 #[.agg #[.int .u64 (g:Int), .int .u64 (n:Int), .int .u32 (s:Int)]] w fun e w'=>e= .returned (.slice none 0 0)/\Below w.heap.size w w':=by
 obtain⟨w1,hw1⟩:=nmE (w.alloc (.cells #[.int .u64 (g:Int), .int .u64 (n:Int), .int .u32 (s:Int)] 125));have hb1:=abE hw1;have n1:=anE hw1;obtain⟨c0,c1,c2⟩:=aac n1;have hl1:=aaa n1;have HW1:=hE0 hw1;have HB1:=hE0 hb1;clear hw1 hb1 n1;by_cases h1:g<1
 · have g1:decide ((g:Int)<1)=true:=decide_eq_true (by omega);go_enter Tryz.func64,Tryz.ntmps64
   go_wp2_with (first | (rw[HW1.out]) | fail)
   go_ret
   exact⟨rfl,HB1.out⟩
 · have g1:decide ((g:Int)<1)=false:=decide_eq_false (by omega);by_cases h2:4611686018427387904<g
   · have g2:decide ((4611686018427387904:Int)<(g:Int))=true:=decide_eq_true (by omega);go_enter Tryz.func64,Tryz.ntmps64
     go_wp2_with (first | (rw[HW1.out]) | fail)
     go_ret
     exact⟨rfl,HB1.out⟩
   · have g2:decide ((4611686018427387904:Int)<(g:Int))=false:=decide_eq_false (by omega);have g3:decide ((65536:Int)<(n:Int))=true:=decide_eq_true (by omega);go_enter Tryz.func64,Tryz.ntmps64
     go_wp2_with (first | (rw[HW1.out]) | fail)
     go_ret
     exact⟨rfl,HB1.out⟩
theorem afu (w:World) (g n s:Nat) (hs:s<4294967296) (h1:1<=g) (h2:g<=4611686018427387904) (h3:n<=65536):
 Calls Tryz.prog 64 #[.agg #[.int .u64 (g:Int), .int .u64 (n:Int), .int .u32 (s:Int)]] w fun e w'=>∃A c,e= .returned (.slice A 512 c)/\(A=none->c=0)/\w'.ownsRow w.heap.size 5 1 (.slice A 512 c) 512 ((abA g n s).map bv)/\Below w.heap.size w w':=by
 obtain⟨w1,hw1⟩:=nmE (w.alloc (.cells #[.int .u64 (g:Int), .int .u64 (n:Int), .int .u32 (s:Int)] 125));have hb1:=abE hw1;have n1:=anE hw1;obtain⟨w2,hw2⟩:=nmE (w1.alloc (.cells #[.int .u8 83, .int .u8 76, .int .u8 79, .int .u8 84, .int .u8 0, .int .u8 0, .int .u8 0, .int .u8 0] 5));have hb2:=abE hw2;have ho2:w2.ownsRow w1.heap.size 5 1 (.slice (some ⟨w1.heap.size,0,none⟩) 8 8) 8 (slMark.map bv):=by rw[<-hw2];exact World.ownsRow_lit w1 _ 8 (Nat.le_refl _) (by unfold maxLen;omega) rfl
 have g1:decide ((g:Int)<1)=false:=decide_eq_false (by omega);have g2:decide ((4611686018427387904:Int)<(g:Int))=false:=decide_eq_false (by omega);have g3:decide ((65536:Int)<(n:Int))=false:=decide_eq_false (by omega);obtain⟨c0,c1,c2⟩:=aac n1;have d0:=(hb2.cell (p:=⟨w.heap.size,0,none⟩) (aaa n1)).trans c0;have hl2:=Nat.lt_of_lt_of_le (aaa n1) hb2.size;have HC0:=hE0 c0;have HC1:=hE0 c1;have HC2:=hE0 c2;have hl1:=aaa n1;have hm:=fun W=>anQ W;have HW1:=hE0 hw1;have HW2:=hE0 hw2;have HB1:=hE0 hb1;have HN1:=hE0 n1;have HB2:=hE0 hb2;have HO2:=hE0 ho2;have HLOW:=hE0 (fun W v k (hk:k<=8) (hv:v<18446744073709551616)=>ah0 v k W hk hv);have hlt:=hl1;clear hw1 hw2 hb1 n1 hb2 ho2;go_enter Tryz.func64,Tryz.ntmps64
 go_wp2_with (first | (rw[HW1.out]) | (rw[HW2.out]) | fail)
 clear c0 c1 c2 d0 hl1 hl2 hm g1 g2 g3;refine(HLOW.out w2 g 8 (by omega) (by omega)).mono ?_;rintro e w3 ⟨x3,rfl,ho3,hb3⟩;obtain⟨A3,c3,rfl,hA3⟩:=aaU ho3;have HR3:=hE0 (aak ho3);have HP3:=hE0 (aax HO2.out hb3);have HB3:=hE0 (HB2.out.trans (hb3.mono HB2.out.size));have hs3:=HB3.out.size;clear ho3 hb3;go_upto_region 5 with(first
  | (at_builtin;go_must (refine aaj rfl (.tmp 18) (.tmp 21) 37 5 rfl Tryz.underlying37 aaR w1.heap.size (.slice (some ⟨w1.heap.size,0,none⟩) 8 8) (8) (slMark) rfl HP3.out _ A3 8 c3 (aat 8 g) rfl HR3.out hA3 (by omega) hs3 ?_);intro x4 w4 own4 hb4 gr4
     have HO4:Hid (w4.ownsRow w1.heap.size 5 1 x4 (8+8) ((slMark++aat 8 g).map bv)):=own4;have HB4:Hid (Below w1.heap.size w1 w4):=HB3.out.trans hb4;clear own4 hb4 gr4)
  | fail)
 have e4:=(HB4.out.cell (p:=⟨w.heap.size,1,none⟩) hlt).trans HC1.out;have l4:=Nat.lt_of_lt_of_le hlt HB4.out.size;go_wp2_with fail
 clear e4 l4 hs3;refine(HLOW.out w4 n 8 (by omega) (by omega)).mono ?_;rintro e w5 ⟨x5,rfl,ho5,hb5⟩;obtain⟨A5,c5,rfl,hA5⟩:=aaU ho5;have HR5:=hE0 (aak ho5);have HP5:=hE0 (aax HO4.out hb5);have HB5:=hE0 (HB4.out.trans (hb5.mono HB4.out.size));have hs5:=HB5.out.size;clear ho5 hb5;go_upto_region 6 with(first
  | (at_builtin;go_must (refine aaj rfl (.tmp 23) (.tmp 26) 37 5 rfl Tryz.underlying37 aaR w1.heap.size x4 (8+8) (slMark++aat 8 g) rfl HP5.out _ A5 8 c5 (aat 8 n) rfl HR5.out hA5 (by omega) hs5 ?_);intro x6 w6 own6 hb6 gr6
     have HO6:Hid (w6.ownsRow w1.heap.size 5 1 x6 (8+8+8) ((slMark++aat 8 g++aat 8 n).map bv)):=own6;have HB6:Hid (Below w1.heap.size w1 w6):=HB5.out.trans hb6;clear own6 hb6 gr6)
  | fail)
 have e6:=(HB6.out.cell (p:=⟨w.heap.size,2,none⟩) hlt).trans HC2.out;have l6:=Nat.lt_of_lt_of_le hlt HB6.out.size;go_wp2_with fail
 clear e6 l6 hs5;refine(HLOW.out w6 s 4 (by omega) (by omega)).mono ?_;rintro e w7 ⟨x7,rfl,ho7,hb7⟩;obtain⟨A7,c7,rfl,hA7⟩:=aaU ho7;have HR7:=hE0 (aak ho7);have HP7:=hE0 (aax HO6.out hb7);have HB7:=hE0 (HB6.out.trans (hb7.mono HB6.out.size));have hs7:=HB7.out.size;clear ho7 hb7;go_upto_region 7 with(first
  | (at_builtin;go_must (refine aaj rfl (.tmp 28) (.tmp 32) 37 5 rfl Tryz.underlying37 aaR w1.heap.size x6 (8+8+8) (slMark++aat 8 g++aat 8 n) rfl HP7.out _ A7 4 c7 (aat 4 s) rfl HR7.out hA7 (by omega) hs7 ?_);intro x8 w8 own8 hb8 gr8
     have HO8:Hid (w8.ownsRow w1.heap.size 5 1 x8 (8+8+8+4) ((slMark++aat 8 g++aat 8 n++aat 4 s).map bv)):=own8;have HB8:Hid (Below w1.heap.size w1 w8):=HB7.out.trans hb8;clear own8 hb8 gr8)
  | fail)
 obtain⟨A8,c8,rfl,hA8⟩:=aaU HO8.out;have HF:=hE0 (ads w8 A8 (8+8+8+4) c8 _ _ (aak HO8.out) (by omega));go_wp2_with fail
 refine HF.out.mono ?_;rintro e w9 ⟨A9,c9,rfl,hA9,ho9,hb9⟩;have HR9:=hE0 (aak ho9);have HP9:=hE0 (aax HO8.out hb9);have HB9:=hE0 (HB8.out.trans (hb9.mono HB8.out.size));have hs9:=HB9.out.size;clear ho9 hb9 HF;go_upto_region 8 with(first
  | (at_builtin;go_must (refine aaj rfl (.tmp 34) (.tmp 36) 37 5 rfl Tryz.underlying37 aaR w1.heap.size _ (8+8+8+4) (aa8 g n s) rfl HP9.out _ A9 4 c9 (adU (aa8 g n s)) rfl HR9.out hA9 (by omega) hs9 ?_);intro x10 w10 own10 hb10 gr10
     have HO10:Hid (w10.ownsRow w1.heap.size 5 1 x10 (8+8+8+4+4) ((aa8 g n s++adU (aa8 g n s)).map bv)):=own10;have HB10:Hid (Below w1.heap.size w1 w10):=HB9.out.trans hb10;clear own10 hb10 gr10)
  | fail)
 obtain⟨A10,c10,rfl,hA10⟩:=aaU HO10.out;obtain⟨P,hP⟩:=nmE (aa8 g n s++adU (aa8 g n s));have hPl:P.length=8+8+8+4+4:=by rw[<-hP,List.length_append,abN,abY]
 have hoP:=HO10.out;rw[hP,<-hPl]at hoP;obtain⟨A11,c11,w11,hr11,own11,gr11,_⟩:=acA (P:=Tryz.prog) w10 37 3 37 5 .i64 Tryz.underlying37 Tryz.underlying3 aaR w1.heap.size A10 c10 P hoP 480 (by omega) HB10.out.size;have hb11:Below w1.heap.size w10 w11:=(Below.refl _ _).grown gr11 HB10.out.size (abS hoP);rw[hPl]at hr11 own11;have HR11:Hid ((Builtin.append_ #[37,3] 37 #[.slice A10 (8+8+8+4+4) c10, .int .i64 480]).run Tryz.prog w10= .ok (.slice A11 512 c11) w11):=hr11;have HB11:=hE0 (HB1.out.trans ((HB10.out.trans hb11).mono HB1.out.size));have HO11:Hid (w11.ownsRow w.heap.size 5 1 (.slice A11 512 c11) 512 ((abA g n s).map bv)):=(show World.ownsRow _ _ _ _ _ _ _ by
  have e:abA g n s=P++List.replicate 480 0:=by rw[<-hP];rfl
  rw[e];exact aaY own11 (Nat.le_of_lt hlt))
 clear hoP hr11 own11 gr11 hb11 hP hPl;go_wp2_with (first
  | (at_builtin;refine Lib.wpList_append_run _ rfl (.tmp 38) (.const (.int .i64 480)) 37 3 rfl _ _ rfl rfl _ _ HR11.out ?_)
  | fail)
 go_ret
 obtain⟨A12,c12,e12,hA12⟩:=aaU HO11.out;injection e12 with e1 _ e3;exact⟨A11,c11,rfl,by rw[e1,e3];exact hA12,HO11.out,HB11.out⟩
def slG (b:List UInt8):Nat:=abC ((b.drop 8).take 8)
def slN (b:List UInt8):Nat:=abC ((b.drop 16).take 8)
def slS (b:List UInt8):Nat:=abC ((b.drop 24).take 4)
def ahu (g n:Nat):Bool:=decide (1<=g)&&(decide (g<=4611686018427387904)&&decide (n<=65536))
def aji (g n s:Nat):List UInt8:=if ahu g n=true then abA g n s else []
theorem akh (w:World) (g n s:Nat) (hg:g<18446744073709551616) (hn:n<18446744073709551616) (hs:s<4294967296):
 Calls Tryz.prog 64 #[.agg #[.int .u64 (g:Int), .int .u64 (n:Int), .int .u32 (s:Int)]] w fun e w'=>∃A m c,e= .returned (.slice A m c)/\(A=none->c=0)/\Rd w' w'.heap.size A m (aji g n s)/\Below w.heap.size w w':=by
 cases h:ahu g n with
 | false=>
  have hno:g<1\/4611686018427387904<g\/65536<n:=by
   unfold ahu at h;simp only[Bool.and_eq_false_iff,decide_eq_false_iff_not]at h;omega
  refine(aht w g n s hg hn hs hno).mono ?_;rintro e w' ⟨rfl,hb⟩;refine⟨none,0,0,rfl,fun _=>rfl,?_,hb⟩;unfold aji;rw[if_neg (by rw[h];simp)];exact Rd.nil_
 | true=>
  unfold ahu at h;simp only[Bool.and_eq_true,decide_eq_true_eq]at h;refine(afu w g n s hs h.1 h.2.1 h.2.2).mono ?_;rintro e w' ⟨A,c,rfl,hA,ho,hb⟩;refine⟨A,512,c,rfl,hA,?_,hb⟩;unfold aji;rw[if_pos (by unfold ahu;simp[h])];exact aak ho
theorem adJ{fn:Func}{R:Ending->World->Prop}{a:Act}{w:World}{p u:Tmp}{g:Nat}{x y0 y1 y2:Value}(hres:fn.results= #[.cell p 125, .tmp u]) (hp:a.tmps.getD p undef= .pointer (some ⟨g,0,none⟩)) (hx:a.tmps.getD u undef=x) (hd:a.defers= [])
 (hg:w.heap[g]?=some (.cells #[y0,y1,y2] 125 (0,0))) (_h0:y0.oneCell'=true) (_h1:y1.oneCell'=true) (_h2:y2.oneCell'=true) (hR:R (.returned (.tuple #[.agg #[y0,y1,y2],x])) w):bodyPost Tryz.prog fn R .ret a w:=by
 obtain⟨c0,c1,c2⟩:=aac hg;refine bodyPost_ret (v:= .tuple #[.agg #[y0,y1,y2],x]) ?_ hd hR;rw[results_cell_tmp hres,hp,hx];simp[go_sem,c0,c1,c2]
theorem ae2 (ρ:Operand->Value) (o:Oper) (ho:o.op= .alloc 125) (w:World):
 (execOp ρ o).run Tryz.prog w= .ok (.value (.pointer (some ⟨w.heap.size,0,none⟩))) (w.alloc (.cells #[.int .u64 0, .int .u64 0, .int .u32 0] 125)):=by
 unfold execOp;simp only[ho];simp[go_sem]
theorem aki (w:World) (A:Option Addr) (n c:Nat) (hn:n≠512) (_hl:n<=900000):
 Calls Tryz.prog 180 #[.slice A n c] w fun e w'=>e= .returned (.tuple #[.agg #[.int .u64 0, .int .u64 0, .int .u32 0], .bool false])/\Below w.heap.size w w':=by
 obtain⟨w1,hw1⟩:=nmE (w.alloc (.cells #[.int .u64 0, .int .u64 0, .int .u32 0] 125));have hb1:=abE hw1;have n1:=anE hw1;obtain⟨z0,z1,z2⟩:=aac n1;obtain⟨f0,f1,f2⟩:=aay n1;have hl1:=aaa n1;have g1:(n !=512)=true:=by rw[bne_iff_ne];exact hn
 have g2:((n:Int) !=512)=true:=by rw[bne_iff_ne];omega
 have HW1:=hE0 hw1;have HM:=hE0 (aa5 n1 (.int .u64 0) (.int .u64 0) (.int .u32 0));have HF:=hE0 (((hb1.setCell (p:=⟨w.heap.size,0,none⟩) (Nat.le_refl _) (.int .u64 0)).setCell (p:=⟨w.heap.size,1,none⟩) (Nat.le_refl _) (.int .u64 0)).setCell (p:=⟨w.heap.size,2,none⟩) (Nat.le_refl _) (.int .u32 0));clear hw1 hb1 n1;go_enter Tryz.func180,Tryz.ntmps180
 go_wp2_with (first | (rw[HW1.out]) | fail)
 (try simp only[Exit.inBlock,Exit.then])
 refine adJ (g:=w.heap.size) (x:= .bool false) Tryz.results180 ?_ ?_ ?_ HM.out rfl rfl rfl ?_
 · rfl
 · rfl
 · rfl
 · exact⟨rfl,HF.out⟩
theorem akj (w:World) (A:Option Addr) (c:Nat) (b:List UInt8) (hr:Rd w w.heap.size A 512 b) (hc:512<=c) (hc2:c<=9223372036854775807) (G N S:Nat) (hG:slG b=G) (hN:slN b=N) (hS:slS b=S) (y:Bool) (hy:decide (aji G N S≠b)=y):
 Calls Tryz.prog 180 #[.slice A 512 c] w fun e w'=>e= .returned (.tuple #[.agg #[.int .u64 (if y=true then 0 else (G:Int)), .int .u64 (if y=true then 0 else (N:Int)), .int .u32 (if y=true then 0 else (S:Int))], .bool (!y)])/\Below w.heap.size w w':=by
 obtain⟨g,off,rfl,_⟩:=hr.2 (by omega);obtain⟨w1,hw1⟩:=nmE (w.alloc (.cells #[.int .u64 0, .int .u64 0, .int .u32 0] 125));have hb1:=abE hw1;have n1:=anE hw1;obtain⟨wd,hwd⟩:=nmE w1.drew;have hbd:=adE hwd;have nd:=(hbd.block _ (aaa n1)).trans n1;have hBd:=hb1.trans (hbd.mono hb1.size);have hlr:=aaa nd;obtain⟨w3,hw3⟩:=nmE (wd.alloc (.cells #[.int .u64 0, .int .u64 0, .int .u32 0] 125));have hb3:=abE hw3;have n3:=anE hw3;obtain⟨w5,hw5⟩:=nmE ((((w3.setCell ⟨wd.heap.size,0,none⟩ (.int .u64 (G:Int))).setCell ⟨wd.heap.size,1,none⟩ (.int .u64 (N:Int))).setCell ⟨wd.heap.size,2,none⟩ (.int .u32 (S:Int))));have n5:w5.heap[wd.heap.size]?=some (.cells #[.int .u64 (G:Int), .int .u64 (N:Int), .int .u32 (S:Int)] 125 (0,0)):=by rw[<-hw5];exact aa5 n3 _ _ _
 have hb5:Below wd.heap.size wd w5:=by rw[<-hw5];exact((hb3.setCell (p:=⟨wd.heap.size,0,none⟩) (Nat.le_refl _) _).setCell (p:=⟨wd.heap.size,1,none⟩) (Nat.le_refl _) _).setCell (p:=⟨wd.heap.size,2,none⟩) (Nat.le_refl _) _
 obtain⟨we,hwe⟩:=nmE w5.drew;have hbe:=adE hwe;have hbde:=hb5.trans (hbe.mono hb5.size);have HNE:=hE0 ((hbe.block _ (aaa n5)).trans n5);have HNR:=hE0 ((hbde.block _ hlr).trans nd);have HBE:=hE0 (hBd.trans (hbde.mono hBd.size));have HRE:=hE0 ((hr.below HBE.out).more HBE.out.size);have HBwd:=hE0 hBd;have HBw3:=hE0 (hBd.trans (hb3.mono hBd.size));have HBA:=hE0 hb3;have HN3:=hE0 n3;have HW1:=hE0 hw1;have HWD:=hE0 hwd;have HW3:=hE0 hw3;have HW5:=hE0 hw5;have HWE:=hE0 hwe;have HNA:=hE0 (fun V (hV:Below w.heap.size w V)=>aaI (some ⟨g,off+8,none⟩) 8 (c-8) w.heap.size ((b.drop 8).take 8) V ((hr.sub 8 8 (by omega)).below hV) (Nat.le_refl _));have HNB:=hE0 (fun V (hV:Below w.heap.size w V)=>aaI (some ⟨g,off+16,none⟩) 8 (c-16) w.heap.size ((b.drop 16).take 8) V ((hr.sub 16 8 (by omega)).below hV) (Nat.le_refl _));have HNC:=hE0 (fun V (hV:Below w.heap.size w V)=>aaI (some ⟨g,off+24,none⟩) 4 (c-24) w.heap.size ((b.drop 24).take 4) V ((hr.sub 24 4 (by omega)).below hV) (by omega));have hGl:G<18446744073709551616:=by rw[<-hG];exact aaG _ (List.length_take_le _ _)
 have hNl:N<18446744073709551616:=by rw[<-hN];exact aaG _ (List.length_take_le _ _)
 have hSl:S<4294967296:=by
  have h:=afm ((b.drop 24).take 4);have e:((b.drop 24).take 4).length=4:=by rw[List.length_take,List.length_drop,hr.1];rfl
  rw[e]at h;rw[<-hS];exact h
 unfold slG at hG;unfold slN at hN;unfold slS at hS;rw[hG]at HNA;rw[hN]at HNB;rw[hS]at HNC;have HPUT:=hE0 (fun V=>akh V G N S hGl hNl hSl);obtain⟨P,hP⟩:=nmE (aji G N S);rw[hP]at hy HPUT;obtain⟨T,hT⟩:=nmE (adh b);obtain⟨U,hU⟩:=nmE (adh P);have gy:(U.toList !=T.toList)=y:=by
  rw[<-hT,<-hU,<-hy];by_cases e:P=b
  · subst e;simp
  · have h1:(adh P).toList≠(adh b).toList:=fun h=>e (by
     have h2:=congrArg List.length h;simpa[adh,ByteArray.toList_eq]using h)
    rw[decide_eq_true e,bne_iff_ne];exact h1
 have gy2:(!(U.toList==T.toList))=y:=gy;have HT:=hE0 hT;have HU:=hE0 hU;have g0:(512 !=512)=false:=rfl;have g3:(8:Int)<=(c:Int):=by omega
 have g4:(16:Int)<=(c:Int):=by omega
 have g5:(24:Int)<=(c:Int):=by omega
 have g6:(28:Int)<=(c:Int):=by omega
 clear hr hw1 hb1 n1 hwd hbd nd hBd hT hU hP hy hw3 hb3 n3 hw5 n5 hb5 hwe hbe hbde hG hN hS;go_enter Tryz.func180,Tryz.ntmps180
 go_wp2_with (first | (rw[HW1.out]) | fail)
 refine aaB wd.heap.size (.two [0,1,3,4,6,7] 2 (.two [] 5 (.two [] 8 (.one [9,10] 11 (.fin [])) 11 (.one [] 8 (.fin [9,10]))) 11 (.one [] 5 (.one [] 8 (.fin [9,10])))) 11 (.one [] 2 (.one [] 5 (.one [] 8 (.fin [9,10]))))) [12] (by kernel_rfl) (by kernel_rfl) (by kernel_rfl) (fun _ _ _ _ _ h=>h) ?_;rw[HWD.out];refine aaT (l:= ?sg0) ?hsg0 ?_
 case hsg0=>simp only[pick,lE1,lE2,lE3];rfl
 repeat (go_big_quiet_step (fail))
 refine wpQuiet_nil ?_;refine⟨?wayABC,?wayD⟩
 case wayABC=>
  refine aaf (vs:= #[.slice (some ⟨g,off+8,none⟩) 8 (c-8)]) Tryz.call224 rfl rfl rfl (R:=fun r w'=>r= .int .u64 (G:Int)/\wd=w') ((HNA.out wd HBwd.out).mono ?_) wd.heap.size (Nat.le_refl _) ?_
  · rintro e w' ⟨rfl,rfl⟩;exact⟨_,rfl,Below.refl _ _,rfl,rfl⟩
  rintro r w' _ ⟨rfl,rfl⟩;simp only[Act.put,lE4,lE5,lE6];refine aaT (l:= []) rfl (wpQuiet_nil ?_);refine⟨?wayAB,?wayC⟩
  case wayAB=>
   refine aaf (vs:= #[.slice (some ⟨g,off+16,none⟩) 8 (c-16)]) Tryz.call224 rfl rfl rfl (R:=fun r w'=>r= .int .u64 (N:Int)/\wd=w') ((HNB.out wd HBwd.out).mono ?_) wd.heap.size (Nat.le_refl _) ?_
   · rintro e w' ⟨rfl,rfl⟩;exact⟨_,rfl,Below.refl _ _,rfl,rfl⟩
   rintro r w' _ ⟨rfl,rfl⟩;simp only[Act.put,lE4,lE5,lE6];refine aaT (l:= []) rfl (wpQuiet_nil ?_);refine⟨?wayA,?wayB⟩
   case wayA=>
    refine aaf (vs:= #[.slice (some ⟨g,off+24,none⟩) 4 (c-24)]) Tryz.call224 rfl rfl rfl (R:=fun r w'=>r= .int .u64 (S:Int)/\wd=w') ((HNC.out wd HBwd.out).mono ?_) wd.heap.size (Nat.le_refl _) ?_
    · rintro e w' ⟨rfl,rfl⟩;exact⟨_,rfl,Below.refl _ _,rfl,rfl⟩
    rintro r w' _ ⟨rfl,rfl⟩;simp only[Act.put,lE4,lE5,lE6];refine aal (l:= ?sgA) ?hsgA ?_
    case hsgA=>simp only[pick,lE1,lE2,lE3];rfl
    repeat (go_big_quiet_step (fail))
    refine wpQuiet_nil ?_;refine aag (some 4) (w1:=w3) (v:= .pointer (some ⟨wd.heap.size,0,none⟩)) rfl rfl rfl (by rw[<-HW3.out];exact ae2 _ _ rfl wd) HBA.out ⟨wd.heap.size,Nat.le_refl _,?_⟩;simp only[Act.put,lE4,lE5,lE6];refine aaF (l:= ?laA) (t:= ?tlA) ?hlaA ?htlA ?_
    case hlaA=>simp only[pick];rfl
    case htlA=>simp only[pick,lE1,lE2,lE3];rfl
    refine wpQuiet_nil ?_;obtain⟨z0,z1,z2⟩:=aac HN3.out;obtain⟨f0,f1,f2⟩:=aay HN3.out;have hlz:=aaa HN3.out;obtain⟨r0,r1,r2⟩:=aac HNE.out;have hle:=aaa HNE.out;go_wp2_with (first | (rw[HW5.out]) | fail)
    clear z0 z1 z2 f0 f1 f2 hlz;refine aad we.heap.size [([0,3,4],1)] [2,5] [] (by kernel_rfl) (by kernel_rfl) (by kernel_rfl) (fun _ _ _ _ _ h=>h) ?_;rw[HWE.out];have v0:=tfE r0 hle;have v1:=tfE r1 hle;have v2:=tfE r2 hle;have v3:∀z:LaterB we.heap.size we,(convert 37 9 (.slice (some ⟨g,off,none⟩) 512 c)).run Tryz.prog z.val= .ok (.string T) z.val:=fun z=>by rw[<-HT.out];exact aaJ (HRE.out.below z.ext)
    refine tail_cons (l:= ?sRA) ?hsRA ?_
    case hsRA=>simp only[pick,lE1,lE2,lE3];rfl
    repeat (go_big_quiet_step (fail))
    refine wpQuiet_nil ?_;clear v0 v1 v2 v3;refine aas (vs:= #[.agg #[.int .u64 (G:Int), .int .u64 (N:Int), .int .u32 (S:Int)]]) Tryz.call64 rfl rfl rfl (R:=fun r w'=>∃A m c,r= .slice A m c/\Rd w' w'.heap.size A m P/\Below we.heap.size we w') ((HPUT.out we).mono ?_) ?_
    · rintro e w' ⟨A,m,c,rfl,_,hr,hb⟩;exact⟨_,rfl,hb,A,m,c,rfl,hr,hb⟩
    rintro r w6 _ ⟨A6,m6,c6,rfl,hr6,hb6⟩;refine⟨w6.heap.size,hb6.size,?_⟩;simp only[Act.put,lE4,lE5,lE6];have u6:∀z:LaterB w6.heap.size w6,(convert 37 9 (.slice A6 m6 c6)).run Tryz.prog z.val= .ok (.string U) z.val:=fun z=>by rw[<-HU.out];exact aaJ (hr6.below z.ext)
    refine aam (l:= ?lEA) (t:= []) ?hlEA rfl ?_
    case hlEA=>simp only[pick,lE1,lE2,lE3];rfl
    repeat (go_big_quiet_step (fail))
    refine wpQuiet_nil ?_;have e6:=(hb6.block _ (aaa HNE.out)).trans HNE.out;have e7:=(hb6.block _ (aaa HNR.out)).trans HNR.out;have HB6:=hE0 (HBE.out.trans (hb6.mono HBE.out.size));clear u6 hr6 hb6 r0 r1 r2 hle;obtain⟨r0,r1,r2⟩:=aac e6;have hle:=aaa e6;obtain⟨q0,q1,q2⟩:=aac e7;obtain⟨f0,f1,f2⟩:=aay e7;have hlq:=aaa e7;have HM:=hE0 (aa5 e7 (.int .u64 (if y=true then 0 else (G:Int))) (.int .u64 (if y=true then 0 else (N:Int))) (.int .u32 (if y=true then 0 else (S:Int))));have HF:=hE0 (((HB6.out.setCell (p:=⟨w.heap.size,0,none⟩) (Nat.le_refl _) (.int .u64 (if y=true then 0 else (G:Int)))).setCell (p:=⟨w.heap.size,1,none⟩) (Nat.le_refl _) (.int .u64 (if y=true then 0 else (N:Int)))).setCell (p:=⟨w.heap.size,2,none⟩) (Nat.le_refl _) (.int .u32 (if y=true then 0 else (S:Int))));clear e6 e7
    cases y with
    | true=>
     simp only[if_true]at HM HF;go_wp2
     (try simp only[Exit.inBlock,Exit.then])
     refine adJ (g:=w.heap.size) (x:= .bool false) Tryz.results180 ?_ ?_ ?_ HM.out rfl rfl rfl ?_
     · rfl
     · rfl
     · rfl
     · exact⟨rfl,HF.out⟩
    | false=>
     simp only[Bool.false_eq_true,if_false]at HM HF;go_wp2
     (try simp only[Exit.inBlock,Exit.then])
     refine adJ (g:=w.heap.size) (x:= .bool true) Tryz.results180 ?_ ?_ ?_ HM.out rfl rfl rfl ?_
     · rfl
     · rfl
     · rfl
     · exact⟨rfl,HF.out⟩
   case wayB=>
    refine aag (some 4) (w1:=w3) (v:= .pointer (some ⟨wd.heap.size,0,none⟩)) rfl rfl rfl (by rw[<-HW3.out];exact ae2 _ _ rfl wd) HBA.out ⟨wd.heap.size,Nat.le_refl _,?_⟩;simp only[Act.put,lE4,lE5,lE6];refine aal (l:= []) rfl (wpQuiet_nil ?_);refine aaf (vs:= #[.slice (some ⟨g,off+24,none⟩) 4 (c-24)]) Tryz.call224 rfl rfl rfl (R:=fun r w'=>r= .int .u64 (S:Int)/\w3=w') ((HNC.out w3 HBw3.out).mono ?_) wd.heap.size (Nat.le_refl _) ?_
    · rintro e w' ⟨rfl,rfl⟩;exact⟨_,rfl,Below.refl _ _,rfl,rfl⟩
    rintro r w' _ ⟨rfl,rfl⟩;simp only[Act.put,lE4,lE5,lE6];refine aaF (l:= ?laB) (t:= ?tlB) ?hlaB ?htlB ?_
    case hlaB=>simp only[pick,lE1,lE2,lE3];rfl
    case htlB=>simp only[pick,lE1,lE2,lE3];rfl
    repeat (go_big_quiet_step (fail))
    refine wpQuiet_nil ?_;obtain⟨z0,z1,z2⟩:=aac HN3.out;obtain⟨f0,f1,f2⟩:=aay HN3.out;have hlz:=aaa HN3.out;obtain⟨r0,r1,r2⟩:=aac HNE.out;have hle:=aaa HNE.out;go_wp2_with (first | (rw[HW5.out]) | fail)
    clear z0 z1 z2 f0 f1 f2 hlz;refine aad we.heap.size [([0,3,4],1)] [2,5] [] (by kernel_rfl) (by kernel_rfl) (by kernel_rfl) (fun _ _ _ _ _ h=>h) ?_;rw[HWE.out];have v0:=tfE r0 hle;have v1:=tfE r1 hle;have v2:=tfE r2 hle;have v3:∀z:LaterB we.heap.size we,(convert 37 9 (.slice (some ⟨g,off,none⟩) 512 c)).run Tryz.prog z.val= .ok (.string T) z.val:=fun z=>by rw[<-HT.out];exact aaJ (HRE.out.below z.ext)
    refine tail_cons (l:= ?sRB) ?hsRB ?_
    case hsRB=>simp only[pick,lE1,lE2,lE3];rfl
    repeat (go_big_quiet_step (fail))
    refine wpQuiet_nil ?_;clear v0 v1 v2 v3;refine aas (vs:= #[.agg #[.int .u64 (G:Int), .int .u64 (N:Int), .int .u32 (S:Int)]]) Tryz.call64 rfl rfl rfl (R:=fun r w'=>∃A m c,r= .slice A m c/\Rd w' w'.heap.size A m P/\Below we.heap.size we w') ((HPUT.out we).mono ?_) ?_
    · rintro e w' ⟨A,m,c,rfl,_,hr,hb⟩;exact⟨_,rfl,hb,A,m,c,rfl,hr,hb⟩
    rintro r w6 _ ⟨A6,m6,c6,rfl,hr6,hb6⟩;refine⟨w6.heap.size,hb6.size,?_⟩;simp only[Act.put,lE4,lE5,lE6];have u6:∀z:LaterB w6.heap.size w6,(convert 37 9 (.slice A6 m6 c6)).run Tryz.prog z.val= .ok (.string U) z.val:=fun z=>by rw[<-HU.out];exact aaJ (hr6.below z.ext)
    refine aam (l:= ?lEB) (t:= []) ?hlEB rfl ?_
    case hlEB=>simp only[pick,lE1,lE2,lE3];rfl
    repeat (go_big_quiet_step (fail))
    refine wpQuiet_nil ?_;have e6:=(hb6.block _ (aaa HNE.out)).trans HNE.out;have e7:=(hb6.block _ (aaa HNR.out)).trans HNR.out;have HB6:=hE0 (HBE.out.trans (hb6.mono HBE.out.size));clear u6 hr6 hb6 r0 r1 r2 hle;obtain⟨r0,r1,r2⟩:=aac e6;have hle:=aaa e6;obtain⟨q0,q1,q2⟩:=aac e7;obtain⟨f0,f1,f2⟩:=aay e7;have hlq:=aaa e7;have HM:=hE0 (aa5 e7 (.int .u64 (if y=true then 0 else (G:Int))) (.int .u64 (if y=true then 0 else (N:Int))) (.int .u32 (if y=true then 0 else (S:Int))));have HF:=hE0 (((HB6.out.setCell (p:=⟨w.heap.size,0,none⟩) (Nat.le_refl _) (.int .u64 (if y=true then 0 else (G:Int)))).setCell (p:=⟨w.heap.size,1,none⟩) (Nat.le_refl _) (.int .u64 (if y=true then 0 else (N:Int)))).setCell (p:=⟨w.heap.size,2,none⟩) (Nat.le_refl _) (.int .u32 (if y=true then 0 else (S:Int))));clear e6 e7
    cases y with
    | true=>
     simp only[if_true]at HM HF;go_wp2
     (try simp only[Exit.inBlock,Exit.then])
     refine adJ (g:=w.heap.size) (x:= .bool false) Tryz.results180 ?_ ?_ ?_ HM.out rfl rfl rfl ?_
     · rfl
     · rfl
     · rfl
     · exact⟨rfl,HF.out⟩
    | false=>
     simp only[Bool.false_eq_true,if_false]at HM HF;go_wp2
     (try simp only[Exit.inBlock,Exit.then])
     refine adJ (g:=w.heap.size) (x:= .bool true) Tryz.results180 ?_ ?_ ?_ HM.out rfl rfl rfl ?_
     · rfl
     · rfl
     · rfl
     · exact⟨rfl,HF.out⟩
  case wayC=>
   refine aag (some 4) (w1:=w3) (v:= .pointer (some ⟨wd.heap.size,0,none⟩)) rfl rfl rfl (by rw[<-HW3.out];exact ae2 _ _ rfl wd) HBA.out ⟨wd.heap.size,Nat.le_refl _,?_⟩;simp only[Act.put,lE4,lE5,lE6];refine aal (l:= []) rfl (wpQuiet_nil ?_);refine aaf (vs:= #[.slice (some ⟨g,off+16,none⟩) 8 (c-16)]) Tryz.call224 rfl rfl rfl (R:=fun r w'=>r= .int .u64 (N:Int)/\w3=w') ((HNB.out w3 HBw3.out).mono ?_) wd.heap.size (Nat.le_refl _) ?_
   · rintro e w' ⟨rfl,rfl⟩;exact⟨_,rfl,Below.refl _ _,rfl,rfl⟩
   rintro r w' _ ⟨rfl,rfl⟩;simp only[Act.put,lE4,lE5,lE6];refine aal (l:= []) rfl (wpQuiet_nil ?_);refine aaf (vs:= #[.slice (some ⟨g,off+24,none⟩) 4 (c-24)]) Tryz.call224 rfl rfl rfl (R:=fun r w'=>r= .int .u64 (S:Int)/\w3=w') ((HNC.out w3 HBw3.out).mono ?_) wd.heap.size (Nat.le_refl _) ?_
   · rintro e w' ⟨rfl,rfl⟩;exact⟨_,rfl,Below.refl _ _,rfl,rfl⟩
   rintro r w' _ ⟨rfl,rfl⟩;simp only[Act.put,lE4,lE5,lE6];refine aaF (l:= ?laC) (t:= ?tlC) ?hlaC ?htlC ?_
   case hlaC=>simp only[pick,lE1,lE2,lE3];rfl
   case htlC=>simp only[pick,lE1,lE2,lE3];rfl
   repeat (go_big_quiet_step (fail))
   refine wpQuiet_nil ?_;obtain⟨z0,z1,z2⟩:=aac HN3.out;obtain⟨f0,f1,f2⟩:=aay HN3.out;have hlz:=aaa HN3.out;obtain⟨r0,r1,r2⟩:=aac HNE.out;have hle:=aaa HNE.out;go_wp2_with (first | (rw[HW5.out]) | fail)
   clear z0 z1 z2 f0 f1 f2 hlz;refine aad we.heap.size [([0,3,4],1)] [2,5] [] (by kernel_rfl) (by kernel_rfl) (by kernel_rfl) (fun _ _ _ _ _ h=>h) ?_;rw[HWE.out];have v0:=tfE r0 hle;have v1:=tfE r1 hle;have v2:=tfE r2 hle;have v3:∀z:LaterB we.heap.size we,(convert 37 9 (.slice (some ⟨g,off,none⟩) 512 c)).run Tryz.prog z.val= .ok (.string T) z.val:=fun z=>by rw[<-HT.out];exact aaJ (HRE.out.below z.ext)
   refine tail_cons (l:= ?sRC) ?hsRC ?_
   case hsRC=>simp only[pick,lE1,lE2,lE3];rfl
   repeat (go_big_quiet_step (fail))
   refine wpQuiet_nil ?_;clear v0 v1 v2 v3;refine aas (vs:= #[.agg #[.int .u64 (G:Int), .int .u64 (N:Int), .int .u32 (S:Int)]]) Tryz.call64 rfl rfl rfl (R:=fun r w'=>∃A m c,r= .slice A m c/\Rd w' w'.heap.size A m P/\Below we.heap.size we w') ((HPUT.out we).mono ?_) ?_
   · rintro e w' ⟨A,m,c,rfl,_,hr,hb⟩;exact⟨_,rfl,hb,A,m,c,rfl,hr,hb⟩
   rintro r w6 _ ⟨A6,m6,c6,rfl,hr6,hb6⟩;refine⟨w6.heap.size,hb6.size,?_⟩;simp only[Act.put,lE4,lE5,lE6];have u6:∀z:LaterB w6.heap.size w6,(convert 37 9 (.slice A6 m6 c6)).run Tryz.prog z.val= .ok (.string U) z.val:=fun z=>by rw[<-HU.out];exact aaJ (hr6.below z.ext)
   refine aam (l:= ?lEC) (t:= []) ?hlEC rfl ?_
   case hlEC=>simp only[pick,lE1,lE2,lE3];rfl
   repeat (go_big_quiet_step (fail))
   refine wpQuiet_nil ?_;have e6:=(hb6.block _ (aaa HNE.out)).trans HNE.out;have e7:=(hb6.block _ (aaa HNR.out)).trans HNR.out;have HB6:=hE0 (HBE.out.trans (hb6.mono HBE.out.size));clear u6 hr6 hb6 r0 r1 r2 hle;obtain⟨r0,r1,r2⟩:=aac e6;have hle:=aaa e6;obtain⟨q0,q1,q2⟩:=aac e7;obtain⟨f0,f1,f2⟩:=aay e7;have hlq:=aaa e7;have HM:=hE0 (aa5 e7 (.int .u64 (if y=true then 0 else (G:Int))) (.int .u64 (if y=true then 0 else (N:Int))) (.int .u32 (if y=true then 0 else (S:Int))));have HF:=hE0 (((HB6.out.setCell (p:=⟨w.heap.size,0,none⟩) (Nat.le_refl _) (.int .u64 (if y=true then 0 else (G:Int)))).setCell (p:=⟨w.heap.size,1,none⟩) (Nat.le_refl _) (.int .u64 (if y=true then 0 else (N:Int)))).setCell (p:=⟨w.heap.size,2,none⟩) (Nat.le_refl _) (.int .u32 (if y=true then 0 else (S:Int))));clear e6 e7
   cases y with
   | true=>
    simp only[if_true]at HM HF;go_wp2
    (try simp only[Exit.inBlock,Exit.then])
    refine adJ (g:=w.heap.size) (x:= .bool false) Tryz.results180 ?_ ?_ ?_ HM.out rfl rfl rfl ?_
    · rfl
    · rfl
    · rfl
    · exact⟨rfl,HF.out⟩
   | false=>
    simp only[Bool.false_eq_true,if_false]at HM HF;go_wp2
    (try simp only[Exit.inBlock,Exit.then])
    refine adJ (g:=w.heap.size) (x:= .bool true) Tryz.results180 ?_ ?_ ?_ HM.out rfl rfl rfl ?_
    · rfl
    · rfl
    · rfl
    · exact⟨rfl,HF.out⟩
 case wayD=>
  refine aag (some 4) (w1:=w3) (v:= .pointer (some ⟨wd.heap.size,0,none⟩)) rfl rfl rfl (by rw[<-HW3.out];exact ae2 _ _ rfl wd) HBA.out ⟨wd.heap.size,Nat.le_refl _,?_⟩;simp only[Act.put,lE4,lE5,lE6];refine aal (l:= []) rfl (wpQuiet_nil ?_);refine aaf (vs:= #[.slice (some ⟨g,off+8,none⟩) 8 (c-8)]) Tryz.call224 rfl rfl rfl (R:=fun r w'=>r= .int .u64 (G:Int)/\w3=w') ((HNA.out w3 HBw3.out).mono ?_) wd.heap.size (Nat.le_refl _) ?_
  · rintro e w' ⟨rfl,rfl⟩;exact⟨_,rfl,Below.refl _ _,rfl,rfl⟩
  rintro r w' _ ⟨rfl,rfl⟩;simp only[Act.put,lE4,lE5,lE6];refine aal (l:= []) rfl (wpQuiet_nil ?_);refine aaf (vs:= #[.slice (some ⟨g,off+16,none⟩) 8 (c-16)]) Tryz.call224 rfl rfl rfl (R:=fun r w'=>r= .int .u64 (N:Int)/\w3=w') ((HNB.out w3 HBw3.out).mono ?_) wd.heap.size (Nat.le_refl _) ?_
  · rintro e w' ⟨rfl,rfl⟩;exact⟨_,rfl,Below.refl _ _,rfl,rfl⟩
  rintro r w' _ ⟨rfl,rfl⟩;simp only[Act.put,lE4,lE5,lE6];refine aal (l:= []) rfl (wpQuiet_nil ?_);refine aaf (vs:= #[.slice (some ⟨g,off+24,none⟩) 4 (c-24)]) Tryz.call224 rfl rfl rfl (R:=fun r w'=>r= .int .u64 (S:Int)/\w3=w') ((HNC.out w3 HBw3.out).mono ?_) wd.heap.size (Nat.le_refl _) ?_
  · rintro e w' ⟨rfl,rfl⟩;exact⟨_,rfl,Below.refl _ _,rfl,rfl⟩
  rintro r w' _ ⟨rfl,rfl⟩;simp only[Act.put,lE4,lE5,lE6];refine aaF (l:= ?laD) (t:= ?tlD) ?hlaD ?htlD ?_
  case hlaD=>simp only[pick,lE1,lE2,lE3];rfl
  case htlD=>simp only[pick,lE1,lE2,lE3];rfl
  repeat (go_big_quiet_step (fail))
  refine wpQuiet_nil ?_;obtain⟨z0,z1,z2⟩:=aac HN3.out;obtain⟨f0,f1,f2⟩:=aay HN3.out;have hlz:=aaa HN3.out;obtain⟨r0,r1,r2⟩:=aac HNE.out;have hle:=aaa HNE.out;go_wp2_with (first | (rw[HW5.out]) | fail)
  clear z0 z1 z2 f0 f1 f2 hlz;refine aad we.heap.size [([0,3,4],1)] [2,5] [] (by kernel_rfl) (by kernel_rfl) (by kernel_rfl) (fun _ _ _ _ _ h=>h) ?_;rw[HWE.out];have v0:=tfE r0 hle;have v1:=tfE r1 hle;have v2:=tfE r2 hle;have v3:∀z:LaterB we.heap.size we,(convert 37 9 (.slice (some ⟨g,off,none⟩) 512 c)).run Tryz.prog z.val= .ok (.string T) z.val:=fun z=>by rw[<-HT.out];exact aaJ (HRE.out.below z.ext)
  refine tail_cons (l:= ?sRD) ?hsRD ?_
  case hsRD=>simp only[pick,lE1,lE2,lE3];rfl
  repeat (go_big_quiet_step (fail))
  refine wpQuiet_nil ?_;clear v0 v1 v2 v3;refine aas (vs:= #[.agg #[.int .u64 (G:Int), .int .u64 (N:Int), .int .u32 (S:Int)]]) Tryz.call64 rfl rfl rfl (R:=fun r w'=>∃A m c,r= .slice A m c/\Rd w' w'.heap.size A m P/\Below we.heap.size we w') ((HPUT.out we).mono ?_) ?_
  · rintro e w' ⟨A,m,c,rfl,_,hr,hb⟩;exact⟨_,rfl,hb,A,m,c,rfl,hr,hb⟩
  rintro r w6 _ ⟨A6,m6,c6,rfl,hr6,hb6⟩;refine⟨w6.heap.size,hb6.size,?_⟩;simp only[Act.put,lE4,lE5,lE6];have u6:∀z:LaterB w6.heap.size w6,(convert 37 9 (.slice A6 m6 c6)).run Tryz.prog z.val= .ok (.string U) z.val:=fun z=>by rw[<-HU.out];exact aaJ (hr6.below z.ext)
  refine aam (l:= ?lED) (t:= []) ?hlED rfl ?_
  case hlED=>simp only[pick,lE1,lE2,lE3];rfl
  repeat (go_big_quiet_step (fail))
  refine wpQuiet_nil ?_;have e6:=(hb6.block _ (aaa HNE.out)).trans HNE.out;have e7:=(hb6.block _ (aaa HNR.out)).trans HNR.out;have HB6:=hE0 (HBE.out.trans (hb6.mono HBE.out.size));clear u6 hr6 hb6 r0 r1 r2 hle;obtain⟨r0,r1,r2⟩:=aac e6;have hle:=aaa e6;obtain⟨q0,q1,q2⟩:=aac e7;obtain⟨f0,f1,f2⟩:=aay e7;have hlq:=aaa e7;have HM:=hE0 (aa5 e7 (.int .u64 (if y=true then 0 else (G:Int))) (.int .u64 (if y=true then 0 else (N:Int))) (.int .u32 (if y=true then 0 else (S:Int))));have HF:=hE0 (((HB6.out.setCell (p:=⟨w.heap.size,0,none⟩) (Nat.le_refl _) (.int .u64 (if y=true then 0 else (G:Int)))).setCell (p:=⟨w.heap.size,1,none⟩) (Nat.le_refl _) (.int .u64 (if y=true then 0 else (N:Int)))).setCell (p:=⟨w.heap.size,2,none⟩) (Nat.le_refl _) (.int .u32 (if y=true then 0 else (S:Int))));clear e6 e7
  cases y with
  | true=>
   simp only[if_true]at HM HF;go_wp2
   (try simp only[Exit.inBlock,Exit.then])
   refine adJ (g:=w.heap.size) (x:= .bool false) Tryz.results180 ?_ ?_ ?_ HM.out rfl rfl rfl ?_
   · rfl
   · rfl
   · rfl
   · exact⟨rfl,HF.out⟩
  | false=>
   simp only[Bool.false_eq_true,if_false]at HM HF;go_wp2
   (try simp only[Exit.inBlock,Exit.then])
   refine adJ (g:=w.heap.size) (x:= .bool true) Tryz.results180 ?_ ?_ ?_ HM.out rfl rfl rfl ?_
   · rfl
   · rfl
   · rfl
   · exact⟨rfl,HF.out⟩
theorem anR{g n s:Nat}(hg:g<18446744073709551616) (hn:n<18446744073709551616) (hs:s<4294967296):slG (abA g n s)=g/\slN (abA g n s)=n/\slS (abA g n s)=s:=by
 have hm:slMark.length=8:=rfl;have l8:∀v,(aat 8 v).length=8:=fun v=>aab 8 v;have l4:∀v,(aat 4 v).length=4:=fun v=>aab 4 v;have e:abA g n s=slMark++(aat 8 g++(aat 8 n++(aat 4 s++(adU (aa8 g n s)++List.replicate 480 0)))):=by
  unfold abA;obtain⟨X,hX⟩:=nmE (adU (aa8 g n s));rw[hX];unfold aa8;simp only[List.append_assoc]
 have d8:(abA g n s).drop 8=aat 8 g++(aat 8 n++(aat 4 s++(adU (aa8 g n s)++List.replicate 480 0))):=by rw[e,<-hm,List.drop_left]
 have d16:(abA g n s).drop 16=aat 8 n++(aat 4 s++(adU (aa8 g n s)++List.replicate 480 0)):=by
  rw[show(16:Nat)=8+8 from rfl,<-List.drop_drop,d8];have:=List.drop_left (l₁:=aat 8 g) (l₂:=aat 8 n++(aat 4 s++(adU (aa8 g n s)++List.replicate 480 0)));rw[l8]at this;exact this
 have d24:(abA g n s).drop 24=aat 4 s++(adU (aa8 g n s)++List.replicate 480 0):=by
  rw[show(24:Nat)=16+8 from rfl,<-List.drop_drop,d16];have:=List.drop_left (l₁:=aat 8 n) (l₂:=aat 4 s++(adU (aa8 g n s)++List.replicate 480 0));rw[l8]at this;exact this
 have tk:∀(k:Nat) (x y:List UInt8),x.length=k->(x++y).take k=x:=fun k x y h=>by rw[<-h,List.take_left]
 refine⟨?_,?_,?_⟩
 · unfold slG;rw[d8,tk 8 _ _ (l8 g),acs,Nat.mod_eq_of_lt hg]
 · unfold slN;rw[d16,tk 8 _ _ (l8 n),acs,Nat.mod_eq_of_lt hn]
 · unfold slS;rw[d24,tk 4 _ _ (l4 s),acs,Nat.mod_eq_of_lt hs]
theorem ajj (w:World) (g n s:Nat) (y:Bool) (hy:ahu g n=y):
 Calls Tryz.prog 177 #[.agg #[.int .u64 (g:Int), .int .u64 (n:Int), .int .u32 (s:Int)]] w fun e w'=>e= .returned (.bool y)/\Below w.heap.size w w':=by
 obtain⟨w1,hw1⟩:=nmE (w.alloc (.cells #[.int .u64 (g:Int), .int .u64 (n:Int), .int .u32 (s:Int)] 109));have hb1:=abE hw1;have n1:=anE hw1;obtain⟨c0,c1,c2⟩:=aac n1;have hl1:=aaa n1;have HW1:=hE0 hw1;have HB1:=hE0 hb1;clear hw1 hb1 n1;unfold ahu at hy;by_cases h1:1<=g
 · have g1:decide ((1:Int)<=(g:Int))=true:=decide_eq_true (by omega);rw[decide_eq_true h1,Bool.true_and]at hy;by_cases h2:g<=4611686018427387904
   · have g2:decide ((g:Int)<=4611686018427387904)=true:=decide_eq_true (by omega);rw[decide_eq_true h2,Bool.true_and]at hy;have g3:decide ((n:Int)<=65536)=y:=by rw[<-hy];exact decide_eq_decide.mpr (by omega)
     clear hy;go_enter Tryz.func177,Tryz.ntmps177
     go_wp2_with (first | (rw[HW1.out]) | fail)
     go_ret
     exact⟨rfl,HB1.out⟩
   · have g2:decide ((g:Int)<=4611686018427387904)=false:=decide_eq_false (by omega);rw[decide_eq_false h2,Bool.false_and]at hy;subst hy;go_enter Tryz.func177,Tryz.ntmps177
     go_wp2_with (first | (rw[HW1.out]) | fail)
     go_ret
     exact⟨rfl,HB1.out⟩
 · have g1:decide ((1:Int)<=(g:Int))=false:=decide_eq_false (by omega);rw[decide_eq_false h1,Bool.false_and]at hy;subst hy;go_enter Tryz.func177,Tryz.ntmps177
   go_wp2_with (first | (rw[HW1.out]) | fail)
   go_ret
   exact⟨rfl,HB1.out⟩
theorem apG (w:World) (g n s:Nat) (hy:ahu g n=false):
 Calls Tryz.prog 118 #[.agg #[.int .u64 (g:Int), .int .u64 (n:Int), .int .u32 (s:Int)]] w fun e w'=>e= .returned (.slice none 0 0)/\Below w.heap.size w w':=by
 obtain⟨w1,hw1⟩:=nmE (w.alloc (.cells #[.int .u64 (g:Int), .int .u64 (n:Int), .int .u32 (s:Int)] 109));have hb1:=abE hw1;have n1:=anE hw1;obtain⟨c0,c1,c2⟩:=aac n1;have hl1:=aaa n1;have HM:=hE0 (ajj w1 g n s _ hy);have HW1:=hE0 hw1;have HB1:=hE0 hb1;clear hw1 hb1 n1 hy;go_enter Tryz.func118,Tryz.ntmps118
 go_wp2_with (first | (rw[HW1.out]) | fail)
 refine HM.out.mono ?_;rintro e w2 ⟨rfl,hb2⟩;have HF:=hE0 (HB1.out.trans (hb2.mono HB1.out.size));clear hb2;go_wp2
 go_ret
 exact⟨rfl,HF.out⟩
theorem anS (w:World):(Instr.buildSlice 37 8 #[(0, .int .u8 83),(1, .int .u8 76),(2, .int .u8 79),(3, .int .u8 84),(4, .int .u8 0),(5, .int .u8 0),(6, .int .u8 0),(7, .int .u8 0)]).run Tryz.prog w= .ok (.slice (some ⟨w.heap.size,0,none⟩) 8 8) (w.alloc (.cells (rowB slMark) 5)):=by
 have e:rowB slMark= #[.int .u8 83, .int .u8 76, .int .u8 79, .int .u8 84, .int .u8 0, .int .u8 0, .int .u8 0, .int .u8 0]:=by rfl
 rw[e];exact anQ w
theorem anT (w:World) (A B C D:Option Addr) (a b c d e f g h:Nat):(Instr.buildSlice 57 4 #[(0, .slice A a b),(1, .slice B c d),(2, .slice C e f),(3, .slice D g h)]).run Tryz.prog w= .ok (.slice (some ⟨w.heap.size,0,none⟩) 4 4) (w.alloc (.cells #[.slice A a b, .slice B c d, .slice C e f, .slice D g h] 37)):=by
 simp[go_sem]
theorem apH (w:World) (A B:Option Addr) (a b c d:Nat):(Instr.buildSlice 57 2 #[(0, .slice A a b),(1, .slice B c d)]).run Tryz.prog w= .ok (.slice (some ⟨w.heap.size,0,none⟩) 2 2) (w.alloc (.cells #[.slice A a b, .slice B c d] 37)):=by
 simp[go_sem]
theorem aq0{w:World}{g:Nat}{C:Array Value}{l:List (List UInt8)}(hg:w.heap[g]?=some (.cells C 37 (0,0)))
 (h:∀(j:Nat) (u:List UInt8),l[j]?=some u->∃(A:Option Addr) (k:Nat),C[j]?=some (Value.slice A u.length k)/\Rd w w.heap.size A u.length u/\u.length<=maxLen/\u.length<=k/\(A=none->k=0)):
 DtRd w w.heap.size (some ⟨g,0,none⟩) l:=fun _=>by
 refine⟨g,0,rfl,aaa hg,fun j u hu=> ?_⟩;obtain⟨A,k,hC,hr,h1,h2,h3⟩:=h j u hu;exact⟨A,k,by rw[Nat.zero_add,cell_of_row w g j _ _ (0,0) hg];exact hC,hr,h1,h2,h3⟩
theorem amd (g n s:Nat) (w8:World) (r a b c d:Nat) (hn8:w8.heap[r]?=some (.cells #[.slice (some ⟨a,0,none⟩) 8 8, .slice (some ⟨b,0,none⟩) 8 8, .slice (some ⟨c,0,none⟩) 8 8, .slice (some ⟨d,0,none⟩) 4 4] 37 (0,0)))
 (h1:Rd w8 w8.heap.size (some ⟨a,0,none⟩) slMark.length slMark) (h2:Rd w8 w8.heap.size (some ⟨b,0,none⟩) (aat 8 g).length (aat 8 g)) (h3:Rd w8 w8.heap.size (some ⟨c,0,none⟩) (aat 8 n).length (aat 8 n)) (h4:Rd w8 w8.heap.size (some ⟨d,0,none⟩) (aat 4 s).length (aat 4 s)):
 Calls Tryz.prog 113 #[.slice (some ⟨r,0,none⟩) 4 4] w8 fun e w'=>∃v,e= .returned v/\w'.ownsRow w8.heap.size 5 1 v 28 ((aa8 g n s).map bv)/\Below w8.heap.size w8 w':=by
 have hd:DtRd w8 w8.heap.size (some ⟨r,0,none⟩) [slMark,aat 8 g,aat 8 n,aat 4 s]:=aq0 hn8 (fun j u hu=>by
  match j,hu with
  | 0,hu=>injection hu with hu;subst hu;exact⟨_,8,rfl,h1,by decide,by decide,fun e=>by cases e⟩
  | 1,hu=>injection hu with hu;subst hu;exact⟨some ⟨b,0,none⟩,8,by rw[aab];rfl,h2,by rw[aab];decide,by rw[aab];decide,fun e=>by cases e⟩
  | 2,hu=>injection hu with hu;subst hu;exact⟨some ⟨c,0,none⟩,8,by rw[aab];rfl,h3,by rw[aab];decide,by rw[aab];decide,fun e=>by cases e⟩
  | 3,hu=>injection hu with hu;subst hu;exact⟨some ⟨d,0,none⟩,4,by rw[aab];rfl,h4,by rw[aab];decide,by rw[aab];decide,fun e=>by cases e⟩
  | j+4,hu=>cases hu)
 have hc:=ab7 w8 (some ⟨r,0,none⟩) 4 [slMark,aat 8 g,aat 8 n,aat 4 s] hd (by simp) (by simp[slMark,aab]);have e:([slMark,aat 8 g,aat 8 n,aat 4 s]:List (List UInt8)).flatten=aa8 g n s:=by unfold aa8;simp
 rw[e,abN]at hc;exact hc
theorem anU{B:Nat}{w0 w:World}{g:Nat}{t:TypeId}{z cs:List UInt8}(h:Fill w g t (cs++z)) (hb:Below B w0 w) (hB:B<=g) (ds:List UInt8) (hl:ds.length=cs.length):
 Fill (w.setRow g (((rowB (cs++z)).toList.take 0++(ds.map bv++(rowB (cs++z)).toList.drop (0+(ds.map bv).length))).toArray)) g t (ds++z)/\Below B w0 (w.setRow g (((rowB (cs++z)).toList.take 0++(ds.map bv++(rowB (cs++z)).toList.drop (0+(ds.map bv).length))).toArray)):=by
 refine⟨?_,below_setRow hb hB _⟩;unfold Fill at h ⊢;rw[setRow_heap w g _ _ t _ h];have e:List.drop ds.length (cs++z)=z:=by rw[hl,List.drop_left]
 simp only[rowB,List.take_zero,List.nil_append,Nat.zero_add,List.length_map,<-List.map_drop];rw[e,List.map_append]
def slR (B g n s:Nat) (i:Nat) (D:Nat->Prop) (v:Value) (w:World):Prop:=match i with
 | 0=>¬D 1->∃r,v= .slice (some ⟨r,0,none⟩) 8 8/\B<=r/\w.heap[r]?=some (.cells (rowB slMark) 5 (0,0))
 | 1=>∃r,v= .slice (some ⟨r,0,none⟩) 8 8/\Rd w w.heap.size (some ⟨r,0,none⟩) slMark.length slMark
 | 4=>∃r,v= .slice (some ⟨r,0,none⟩) 8 8/\Rd w w.heap.size (some ⟨r,0,none⟩) (aat 8 g).length (aat 8 g)
 | 7=>∃r,v= .slice (some ⟨r,0,none⟩) 8 8/\Rd w w.heap.size (some ⟨r,0,none⟩) (aat 8 n).length (aat 8 n)
 | 10=>∃r,v= .slice (some ⟨r,0,none⟩) 4 4/\Rd w w.heap.size (some ⟨r,0,none⟩) (aat 4 s).length (aat 4 s)
 | 11=>D 1/\∃r a b c d,v= .slice (some ⟨r,0,none⟩) 4 4/\w.heap[r]?=some (.cells #[.slice (some ⟨a,0,none⟩) 8 8, .slice (some ⟨b,0,none⟩) 8 8, .slice (some ⟨c,0,none⟩) 8 8, .slice (some ⟨d,0,none⟩) 4 4] 37 (0,0))/\
  Rd w w.heap.size (some ⟨a,0,none⟩) slMark.length slMark/\Rd w w.heap.size (some ⟨b,0,none⟩) (aat 8 g).length (aat 8 g)/\Rd w w.heap.size (some ⟨c,0,none⟩) (aat 8 n).length (aat 8 n)/\Rd w w.heap.size (some ⟨d,0,none⟩) (aat 4 s).length (aat 4 s)
 | 12=>D 11/\w.ownsRow B 5 1 v 28 ((aa8 g n s).map bv)
 | _=>True
def slI:List Nat:= [0,1,4,7,10,11,12]
def atJ (i:Nat):List Nat:=match i with
 | 1=> [0]
 | 7=> [4]
 | 10=> [7]
 | 11=> [1,4,7,10]
 | 12=> [11]
 | _=> []
theorem apI{B g n s:Nat}{D D':Nat->Prop}{v:Value}{w w':World}(hD:∀k,D k->D' k) (hb:Below w.heap.size w w'){i:Nat}(hi:i∈slI) (h:slR B g n s i D v w):slR B g n s i D' v w':=by
 have k:∀{A:Option Addr} {m:Nat} {bs:List UInt8},Rd w w.heap.size A m bs->Rd w' w'.heap.size A m bs:=fun h=>(h.below hb).more hb.size;unfold slI at hi;simp only[List.mem_cons,List.not_mem_nil,or_false]at hi;rcases hi with rfl | rfl | rfl | rfl | rfl | rfl | rfl
 · exact fun h1=>(h fun x=>h1 (hD 1 x)).imp fun r h=>⟨h.1,h.2.1,(hb.block _ (aaA h.2.2)).trans h.2.2⟩
 · exact h.imp fun r h=>⟨h.1,k h.2⟩
 · exact h.imp fun r h=>⟨h.1,k h.2⟩
 · exact h.imp fun r h=>⟨h.1,k h.2⟩
 · exact h.imp fun r h=>⟨h.1,k h.2⟩
 · obtain⟨h0,r,a,b,c,d,h1,h2,h3,h4,h5,h6⟩:=h;exact⟨hD 1 h0,r,a,b,c,d,h1,(hb.block _ (aaA h2)).trans h2,k h3,k h4,k h5,k h6⟩
 · exact⟨hD 11 h.1,aax h.2 hb⟩
theorem aln (w:World) (g n s:Nat) (hs:s<4294967296) (hy:ahu g n=true):
 Calls Tryz.prog 118 #[.agg #[.int .u64 (g:Int), .int .u64 (n:Int), .int .u32 (s:Int)]] w fun e w'=>∃b,e= .returned (.slice (some ⟨b,0,none⟩) 512 512)/\w.heap.size<=b/\Fill w' b 5 (abA g n s)/\Below w.heap.size w w':=by
 obtain⟨w1,hw1⟩:=nmE (w.alloc (.cells #[.int .u64 (g:Int), .int .u64 (n:Int), .int .u32 (s:Int)] 109));have hb1:=abE hw1;have n1:=anE hw1;have HM:=hE0 (ajj w1 g n s _ hy);unfold ahu at hy;simp only[Bool.and_eq_true,decide_eq_true_eq]at hy;have hg64:g<18446744073709551616:=by omega
 have hn64:n<18446744073709551616:=by omega
 obtain⟨d0,d1,d2⟩:=aac n1;have hl1:=aaa n1;have HB1:=hE0 hb1;have HW1:=hE0 hw1;have HN1:=hE0 n1;have HPUTg:=hE0 (fun W=>age g W hg64);have HPUTn:=hE0 (fun W=>age n W hn64);have HPUT4:=hE0 (fun W=>ahW s W hs);have HEND:=hE0 (fun w8 r a b c d=>amd g n s w8 r a b c d);clear hw1 hb1 n1 hy;go_enter Tryz.func118,Tryz.ntmps118
 go_wp2_with (first | (rw[HW1.out]) | fail)
 refine HM.out.mono ?_;rintro e w2 ⟨rfl,hb2⟩;obtain⟨wd,hwd⟩:=nmE w2.drew;have hbd:Below w1.heap.size w1 wd:=by rw[<-hwd];exact hb2.drew
 have nd:=(hbd.block _ (aaa HN1.out)).trans HN1.out;obtain⟨c0,c1,c2⟩:=aac nd;have hld:=aaa nd;have HBD:=hE0 hbd;have HWD:=hE0 hwd;clear hb2 hwd hbd nd d0 d1 d2 HM;go_wp2_with fail
 go_cut [3] from 8 (fun b wx=>wx.ownsRow wd.heap.size 5 1 b 28 ((aa8 g n s).map bv)/\Below wd.heap.size wd wx)
 case first=>
  refine aaB wd.heap.size (.two [2,3,5,6,8,9] 0 (.two [] 1 (.one [] 4 (.one [] 7 (.one [] 10 (.one [] 11 (.one [] 12 (.fin [13])))))) 4 (.two [] 1 (.one [] 7 (.one [] 10 (.one [] 11 (.one [] 12 (.fin [13]))))) 7 (.two [] 1 (.one [] 10 (.one [] 11 (.one [] 12 (.fin [13])))) 10 (.one [] 1 (.one [] 11 (.one [] 12 (.fin [13]))))))) 4 (.two [] 0 (.two [] 1 (.one [] 7 (.one [] 10 (.one [] 11 (.one [] 12 (.fin [13]))))) 7 (.two [] 1 (.one [] 10 (.one [] 11 (.one [] 12 (.fin [13])))) 10 (.one [] 1 (.one [] 11 (.one [] 12 (.fin [13])))))) 7 (.two [] 0 (.two [] 1 (.one [] 10 (.one [] 11 (.one [] 12 (.fin [13])))) 10 (.one [] 1 (.one [] 11 (.one [] 12 (.fin [13]))))) 10 (.one [] 0 (.one [] 1 (.one [] 11 (.one [] 12 (.fin [13])))))))) [] (by kernel_rfl) (by kernel_rfl) (by kernel_rfl) (fun _ _ _ _ _ h=>h) ?_;rw[HWD.out];have q0:=tfE c0 hld;have q1:=tfE c1 hld;have q2:=tfE c2 hld;refine aaT (l:= ?segA) ?hsegA ?_
  case hsegA=>simp only[pick,lE1,lE2,lE3];rfl
  repeat (go_big_quiet_step (fail))
  refine wpQuiet_nil ?_;clear q0 q1 q2;refine apq (PT.any_inv (I:=slI) (d:=fun i=>8+i) (dp:=atJ) (Inv:=fun D f w=>∀j,D j->slR wd.heap.size g n s j D (f j) w) (w0:=wd) (last:= [13]) (fun i _ j _ e=>Nat.add_left_cancel (show 8+i=8+j from e)) (fun i hi=>app fun dn f W hn hI hdp hR hb=> ?_) (fun f W hI hb=> ?_) _ [] (fun _=>undef) wd (by kernel_rfl) (fun _ h=>by cases h) (fun _ h=>by cases h) (Below.refl _ _))
  · have hk:∀w',Below W.heap.size W w'->∀j∈dn,slR wd.heap.size g n s j (fun j=>j=i\/j∈dn) (f j) w':=fun w' b j hj=>apI (fun k h=> .inr h) b (hI j hj) (hR j hj);generalize hX:abu (fun i=>8+i) f dn _=X;have ev:∀j∈dn,j<13->X.eval (.tmp (8+j))=f j:=fun j hj h13=>by
     rw[<-hX];exact al1 (d:=fun i=>8+i) (I:=slI) (fun i _ j _ e=>Nat.add_left_cancel (show 8+i=8+j from e)) hI hj _ (by show 8+j<_;simp;omega)
    have old:=fun(t:Nat) (ht:∀i∈slI,8+i≠t)=>ank (d:=fun i=>8+i) (f:=f) (l:=dn) (t:=t) fun i hi=>ht i (hI i hi);unfold slI at hi;simp only[List.mem_cons,List.not_mem_nil,or_false]at hi;rcases hi with rfl | rfl | rfl | rfl | rfl | rfl | rfl
    · have hb1:Below W.heap.size W (W.alloc (.cells (rowB slMark) 5)):=(Below.refl _ _).alloc (Nat.le_refl _) _;exact aag (some 8) (w1:=W.alloc (.cells (rowB slMark) 5)) (v:= .slice (some ⟨W.heap.size,0,none⟩) 8 8) rfl rfl rfl (aah rfl rfl (anS W)) (hb1.mono hb.size) ⟨wd.heap.size,Nat.le_refl _,_,rfl,fun _=>⟨W.heap.size,rfl,hb.size,heap_alloc_new W _⟩,hk _ hb1⟩
    · have h0:=hdp 0 (by decide);obtain⟨r,e,hr,hg⟩:=hR 0 h0 hn;obtain⟨v',hrun,fm,sz,kp,bl⟩:=acZ (P:=Tryz.prog) W 37 5 r (rowB slMark) 8 8 Tryz.underlying37 Tryz.underlying5 hg;have k:∀{A:Option Addr} {m:Nat} {bs:List UInt8},Rd W W.heap.size A m bs->Rd v' v'.heap.size A m bs:=fun h=>by
       rw[sz];refine h.keep fun p _=> ?_;by_cases ep:p.block=r
       · obtain⟨pb,po,ps⟩:=p;dsimp only at ep;subst ep;simp[World.cell?,hg,fm]
       · exact World.cell?_of_block (kp _ ep)
      refine aag (some 9) rfl rfl rfl (adI rfl ((ev 0 h0 (by omega)).trans e) hrun) (bl wd.heap.size hr) ⟨wd.heap.size,Nat.le_refl _,_,rfl,⟨r,rfl,aaH fm⟩,fun j hj=> ?_⟩;have hj2:=hI j hj;unfold slI at hj2;simp only[List.mem_cons,List.not_mem_nil,or_false]at hj2;rcases hj2 with rfl | rfl | rfl | rfl | rfl | rfl | rfl
      · exact fun h=>absurd (.inl rfl) h
      · exact absurd hj hn
      · exact(hR 4 hj).imp fun r h=>⟨h.1,k h.2⟩
      · exact(hR 7 hj).imp fun r h=>⟨h.1,k h.2⟩
      · exact(hR 10 hj).imp fun r h=>⟨h.1,k h.2⟩
      · exact absurd (hR 11 hj).1 hn
      · exact absurd (hR 11 (hR 12 hj).1).1 hn
    · refine aaf (vs:= #[.int .u64 (g:Int)]) Tryz.call114 rfl rfl (congrArg (fun x=> [x]) (by rw[<-hX];exact old 11 (by decide) _)) (R:=fun r w'=>(∃x,r= .slice (some ⟨x,0,none⟩) 8 8/\Rd w' w'.heap.size (some ⟨x,0,none⟩) (aat 8 g).length (aat 8 g))/\Below W.heap.size W w') ((HPUTg.out W).mono ?_) wd.heap.size (Nat.le_refl _) ?_
      · rintro e w' ⟨rfl,hf,hb'⟩;exact⟨_,rfl,hb'.mono hb.size,⟨_,rfl,aaH hf⟩,hb'⟩
      · rintro r w' _ ⟨hx,hb'⟩;exact⟨_,rfl,hx,hk _ hb'⟩
    · refine aaf (vs:= #[.int .u64 (n:Int)]) Tryz.call114 rfl rfl (congrArg (fun x=> [x]) (by rw[<-hX];exact old 14 (by decide) _)) (R:=fun r w'=>(∃x,r= .slice (some ⟨x,0,none⟩) 8 8/\Rd w' w'.heap.size (some ⟨x,0,none⟩) (aat 8 n).length (aat 8 n))/\Below W.heap.size W w') ((HPUTn.out W).mono ?_) wd.heap.size (Nat.le_refl _) ?_
      · rintro e w' ⟨rfl,hf,hb'⟩;exact⟨_,rfl,hb'.mono hb.size,⟨_,rfl,aaH hf⟩,hb'⟩
      · rintro r w' _ ⟨hx,hb'⟩;exact⟨_,rfl,hx,hk _ hb'⟩
    · refine aaf (vs:= #[.int .u32 (s:Int)]) Tryz.call173 rfl rfl (congrArg (fun x=> [x]) (by rw[<-hX];exact old 17 (by decide) _)) (R:=fun r w'=>(∃x,r= .slice (some ⟨x,0,none⟩) 4 4/\Rd w' w'.heap.size (some ⟨x,0,none⟩) (aat 4 s).length (aat 4 s))/\Below W.heap.size W w') ((HPUT4.out W).mono ?_) wd.heap.size (Nat.le_refl _) ?_
      · rintro e w' ⟨rfl,hf,hb'⟩;exact⟨_,rfl,hb'.mono hb.size,⟨_,rfl,aaH hf⟩,hb'⟩
      · rintro r w' _ ⟨hx,hb'⟩;exact⟨_,rfl,hx,hk _ hb'⟩
    · have h1:=hdp 1 (by decide);have h4:=hdp 4 (by decide);have h7:=hdp 7 (by decide);have h10:=hdp 10 (by decide);obtain⟨a,ea,ra⟩:=hR 1 h1;obtain⟨b,eb,rb⟩:=hR 4 h4;obtain⟨c,ec,rc⟩:=hR 7 h7;obtain⟨d,ed,rd⟩:=hR 10 h10;obtain⟨w8,hw8⟩:=nmE (W.alloc (.cells #[.slice (some ⟨a,0,none⟩) 8 8, .slice (some ⟨b,0,none⟩) 8 8, .slice (some ⟨c,0,none⟩) 8 8, .slice (some ⟨d,0,none⟩) 4 4] 37));have hb8:=abE hw8;have n8:=anE hw8;have k:∀{A:Option Addr} {m:Nat} {bs:List UInt8},Rd W W.heap.size A m bs->Rd w8 w8.heap.size A m bs:=fun h=>(h.below hb8).more hb8.size;have x1:X.eval (.tmp 9)=_:=(ev 1 h1 (by omega)).trans ea;have x4:X.eval (.tmp 12)=_:=(ev 4 h4 (by omega)).trans eb;have x7:X.eval (.tmp 15)=_:=(ev 7 h7 (by omega)).trans ec;have x10:X.eval (.tmp 18)=_:=(ev 10 h10 (by omega)).trans ed;refine aag (some 19) (w1:=w8) (v:= .slice (some ⟨W.heap.size,0,none⟩) 4 4) rfl rfl rfl (by rw[<-hw8];exact aah rfl (by simp only[List.map_cons,List.map_nil];rw[x1,x4,x7,x10]) (anT W _ _ _ _ _ _ _ _ _ _ _ _)) (hb8.mono hb.size) ⟨wd.heap.size,Nat.le_refl _,_,rfl,⟨.inr h1,W.heap.size,a,b,c,d,rfl,n8,k ra,k rb,k rc,k rd⟩,hk _ hb8⟩
    · have h11:=hdp 11 (by decide);obtain⟨_,r,a,b,c,d,er,hg,r1,r2,r3,r4⟩:=hR 11 h11;refine aaf (vs:= #[.slice (some ⟨r,0,none⟩) 4 4]) Tryz.call113 rfl rfl (congrArg (fun x=> [x]) ((ev 11 h11 (by omega)).trans er)) (R:=fun q w'=>w'.ownsRow W.heap.size 5 1 q 28 ((aa8 g n s).map bv)/\Below W.heap.size W w') ((HEND.out W r a b c d hg r1 r2 r3 r4).mono ?_) wd.heap.size (Nat.le_refl _) ?_
      · rintro e w' ⟨v,rfl,ho,hb'⟩;exact⟨_,rfl,hb'.mono hb.size,ho,hb'⟩
      · rintro q w' _ ⟨ho,hb'⟩;exact⟨_,rfl,⟨.inr h11,aaY ho hb.size⟩,hk _ hb'⟩
  · obtain⟨_,ho⟩:=hI 12 (by decide);have HO:=hE0 ho;have HB:=hE0 hb;clear hI ho hb;unfold slI;simp only[abu,Act.put,List.setIfInBounds_toArray,List.set_cons_zero,List.set_cons_succ,Nat.reduceAdd];refine aaF (l:= ?finA) (t:= []) ?hfinA ?htfinA ?_
    case hfinA=>simp only[pick,lE1,lE2,lE3];rfl
    case htfinA=>rfl
    repeat (go_big_quiet_step (fail))
    refine wpQuiet_nil ?_;go_wp2_with fail
    go_meet
    case rel=>exact⟨HO.out,HB.out⟩
 case rest=>
  obtain⟨ho,hb⟩:=hcut;obtain⟨A0,k0,rfl,hA0⟩:=aaU ho;obtain⟨z,hz⟩:=nmE (List.replicate 32 (0:UInt8)++List.replicate 480 0);have hmk:(Instr.makeSlice 37 (.int .i64 512) (.int .i64 512)).run Tryz.prog wc= .ok (.slice (some ⟨wc.heap.size,0,none⟩) 512 512) (wc.alloc (.cells (rowB z) 5)):=by
   have:=run_make_row' (P:=Tryz.prog) 37 5 (.int .u8 0) 1 Tryz.underlying37 aca rfl .i64 .i64 512 (by omega) (by omega) wc;rw[abI,show(512:Nat)=32+480 from rfl,<-List.replicate_append_replicate,hz]at this;exact this
  obtain⟨w3,hw3⟩:=nmE (wc.alloc (.cells (rowB z) 5));have hf3:Fill w3 wc.heap.size 5 z:=by rw[<-hw3];exact Fill.made wc 5 _
  have hb3:=abE hw3;have HR0:=hE0 (((aak ho).below hb3).more hb3.size);have HK0:=hE0 hA0;obtain⟨u,hu⟩:=nmE (abn 0 (aa8 g n s));have hul:u<4294967296:=by rw[<-hu];exact acI _ _
  have hsum:=agh A0 28 k0 w3.heap.size (aa8 g n s) w3 HR0.out (by omega);rw[hu]at hsum;have HS:=hE0 hsum;have HU:=hE0 hu;have HF3:=hE0 hf3;have HBC:=hE0 hb;have HB3:=hE0 hb3;have HW3:=hE0 hw3;have HZ:=hE0 hz;have h28:28<=k0:=by
   rcases ho.2 with⟨h',_⟩ | ⟨_,_,_,hv,_,_,h',_,_⟩
   · omega
   · injection hv with _ _ e3;subst e3;exact h'
  clear ho hb hf3 hb3 hw3 hA0 hsum hu hz HPUTg HPUTn HPUT4 HEND;go_wp2_with (first | (rw[HW3.out]) | fail)
  refine HS.out.mono ?_;rintro e w4 ⟨rfl,rfl⟩;go_wp2_with fail
  refine(ahW u _ hul).mono ?_;rintro e w5 ⟨rfl,hf5,hb5⟩;have hf5':w5.heap[w3.heap.size]?=some (.cells (rowB (aat 4 u)) 5 (0,0)):=hf5;obtain⟨w6,hw6⟩:=nmE (w5.alloc (.cells #[.slice A0 28 k0, .slice (some ⟨w3.heap.size,0,none⟩) 4 4] 37));have hb6:=abE hw6;have n6:=anE hw6;have hb56:=hb5.trans (hb6.mono hb5.size);have hd6:DtRd w6 w6.heap.size (some ⟨w5.heap.size,0,none⟩) [aa8 g n s,aat 4 u]:=aq0 n6 (fun j x hx=>by
   match j,hx with
   | 0,hx=>injection hx with hx;subst hx;exact⟨A0,k0,by rw[abN];rfl,by rw[abN];exact(HR0.out.below hb56).more hb56.size,by rw[abN];decide,by rw[abN];exact h28,HK0.out⟩
   | 1,hx=>injection hx with hx;subst hx;exact⟨some ⟨w3.heap.size,0,none⟩,4,by rw[aab];rfl,((aaH hf5').below hb6).more hb6.size,by rw[aab];decide,by rw[aab];decide,fun e=>by cases e⟩
   | j+2,hx=>cases hx)
  have hc6:=ab7 w6 (some ⟨w5.heap.size,0,none⟩) 2 [aa8 g n s,aat 4 u] hd6 (by simp) (by simp[abN,aab]);obtain⟨H,hH⟩:=nmE (aa8 g n s++adU (aa8 g n s));have hHl:H.length=32:=by rw[<-hH,List.length_append,abN,abY]
  have e6:([aa8 g n s,aat 4 u]:List (List UInt8)).flatten=H:=by rw[<-hH];unfold adU;rw[HU.out];simp
  rw[e6,hHl]at hc6;have HC6:=hE0 hc6;have HB6:=hE0 hb56;have HW6:=hE0 hw6;have HHL:=hE0 hHl;have HH:=hE0 hH;clear hf5 hf5' hb5 hb6 n6 hd6 hc6 e6 hb56 hw6 hHl hH HS HR0 HK0 HU;have hbs2:=apH w5 A0 (some ⟨w3.heap.size,0,none⟩) 28 k0 4 4;go_wp2_with (first | (rw[HW6.out]) | fail)
  clear hbs2;refine HC6.out.mono ?_;rintro e w7 ⟨v7,rfl,ho7,hb7⟩;obtain⟨A7,k7,rfl,_⟩:=aaU ho7;have hB7:=HB6.out.trans (hb7.mono HB6.out.size);have hf7:Fill w7 wc.heap.size 5 (List.replicate 32 (0:UInt8)++List.replicate 480 0):=by
   rw[HZ.out];exact HF3.out.below hB7 HF3.out.lt
  have hbb:=HBC.out.trans ((HB3.out.trans (hB7.mono HB3.out.size)).mono HBC.out.size);have hr7:=aak ho7;obtain⟨b7,o7,e7,_⟩:=hr7.2 (by omega);subst e7;have hov:=anU hf7 hbb HBC.out.size H (by rw[HHL.out];rfl);have hsrc:∀j v,(H.map bv)[j]?=some v->w7.cell? ((⟨b7,o7,none⟩:Addr).add j)=some v:=fun j v hj=>acJ hr7 j v hj;have HOV:=hE0 hov;have HSRC:=hE0 hsrc;have HN:Hid ((H.map bv).length=Nat.min 32 512):=(show _=_ by rw[List.length_map,HHL.out];rfl);have HF7:=hE0 hf7;have HFIT:Hid (0+(H.map bv).length<=(rowB (List.replicate 32 (0:UInt8)++List.replicate 480 0)).size):=(show _<=_ by rw[adW,List.length_map,HHL.out];simp);clear hov hsrc hf7 hbb hr7 ho7 hb7 hB7;go_wp2_with ((refine wpList_copy_own rfl (.tmp 22) (.tmp 28) 37 37 rfl 5 Tryz.underlying37 (by kernel_rfl) wc.heap.size 0 512 512 ⟨b7,o7,none⟩ 32 k7 rfl rfl _ 5 HF7.out (H.map bv) HN.out HSRC.out HFIT.out (adX _) ?_);generalize w7.setRow _ _=w9 at HOV ⊢)
  go_ret
  have hw1d:=Nat.le_trans HB1.out.size HBD.out.size;refine⟨wc.heap.size,rfl,Nat.le_trans hw1d HBC.out.size,?_,HB1.out.trans ((HBD.out.trans (HOV.out.2.mono HBD.out.size)).mono HB1.out.size)⟩;have e:abA g n s=H++List.replicate 480 0:=by rw[<-HH.out];rfl
  rw[e];exact HOV.out.1
theorem anV (w:World) (g n s:Nat) (hs:s<4294967296):
 Calls Tryz.prog 118 #[.agg #[.int .u64 (g:Int), .int .u64 (n:Int), .int .u32 (s:Int)]] w fun e w'=>∃A m c,e= .returned (.slice A m c)/\(A=none->c=0)/\Rd w' w'.heap.size A m (aji g n s)/\Below w.heap.size w w':=by
 cases h:ahu g n with
 | false=>
  refine(apG w g n s h).mono ?_;rintro e w' ⟨rfl,hb⟩;refine⟨none,0,0,rfl,fun _=>rfl,?_,hb⟩;unfold aji;rw[if_neg (by rw[h];simp)];exact Rd.nil_
 | true=>
  refine(aln w g n s hs h).mono ?_;rintro e w' ⟨b,rfl,_,hf,hb⟩;refine⟨_,512,512,rfl,(fun e=>by cases e),?_,hb⟩;unfold aji;rw[if_pos h];have:=hf.reads;rw[aea]at this;exact this
theorem apJ (a b:List UInt8):((adh a).toList==(adh b).toList)=decide (a=b):=by
 unfold adh;simp;by_cases h:a=b<;>simp[h]
theorem ag5 (w:World) (A1 A2:Option Addr) (n1 c1 n2 c2 B:Nat) (x y:List UInt8) (h1:Rd w B A1 n1 x) (h2:Rd w B A2 n2 y) (t:Bool) (ht:decide (x=y)=t):
 Calls Tryz.prog 217 #[.slice A1 n1 c1, .slice A2 n2 c2] w fun e w'=>e= .returned (.bool t)/\w=w':=by
 have q1:=aaJ (c:=c1) h1;have q2:=aaJ (c:=c2) h2;have gy:=apJ x y;obtain⟨S,hS⟩:=nmE (adh x);obtain⟨T,hT⟩:=nmE (adh y);rw[hS]at q1;rw[hT]at q2;rw[hS,hT,ht]at gy;clear h1 h2 hS hT ht;go_enter Tryz.func217,Tryz.ntmps217
 go_wp2
 go_ret
 exact⟨rfl,rfl⟩
theorem akk{fn:Func}{R:Ending->World->Prop}{a:Act}{w:World}{p u:Tmp}{g:Nat}{x y0 y1 y2:Value}(hres:fn.results= #[.cell p 109, .tmp u]) (hp:a.tmps.getD p undef= .pointer (some ⟨g,0,none⟩)) (hx:a.tmps.getD u undef=x) (hd:a.defers= [])
 (hg:w.heap[g]?=some (.cells #[y0,y1,y2] 109 (0,0))) (hR:R (.returned (.tuple #[.agg #[y0,y1,y2],x])) w):bodyPost Tryz.prog fn R .ret a w:=by
 obtain⟨c0,c1,c2⟩:=aac hg;refine bodyPost_ret (v:= .tuple #[.agg #[y0,y1,y2],x]) ?_ hd hR;rw[results_cell_tmp hres,hp,hx];simp[go_sem,c0,c1,c2]
theorem apK{fn:Func}{R:Ending->World->Prop}{a:Act}{w:World}{p:Tmp}{g:Nat}{n s:Int}{k:Int}(hres:fn.results= #[.cell p 109]) (hp:a.tmps.getD p undef= .pointer (some ⟨g,0,none⟩)) (hd:a.defers= [])
 (hg:w.heap[g]?=some (.cells #[.int .u64 n, .int .u64 s, .int .u32 k] 109 (0,0))) (hR:R (.returned (.agg #[.int .u64 n, .int .u64 s, .int .u32 k])) w):bodyPost Tryz.prog fn R .ret a w:=by
 refine bodyPost_ret (v:= .agg #[.int .u64 n, .int .u64 s, .int .u32 k]) ?_ hd hR;exact results_cell_row hres _ _ g _ _ _ _ hp hg rfl rfl rfl
theorem aih (w:World) (A:Option Addr) (c:Nat) (b:List UInt8) (hr:Rd w w.heap.size A 512 b) (hc:512<=c) (G N S:Nat) (hG:slG b=G) (hN:slN b=N) (hS:slS b=S):
 Calls Tryz.prog 216 #[.slice A 512 c] w fun e w'=>e= .returned (.agg #[.int .u64 (G:Int), .int .u64 (N:Int), .int .u32 (S:Int)])/\Below w.heap.size w w':=by
 obtain⟨w1,hw1⟩:=nmE (w.alloc (.cells #[.int .u64 0, .int .u64 0, .int .u32 0] 109));have hb1:=abE hw1;have n1:=anE hw1;have hr1:=hr.below hb1;have HG:=hE0 (adY A 512 c w.heap.size b 8 w1 hr1 hc (by omega) (by omega));have HN:=hE0 (adY A 512 c w.heap.size b 16 w1 hr1 hc (by omega) (by omega));have HS:=hE0 (akX A 512 c w.heap.size b 24 w1 hr1 hc (by omega) (by omega));unfold slG at hG;unfold slN at hN;unfold slS at hS;rw[hG]at HG;rw[hN]at HN;rw[hS]at HS;obtain⟨z0,z1,z2⟩:=aac n1;obtain⟨f0,f1,f2⟩:=aay n1;have hl1:=aaa n1;have HW1:=hE0 hw1;have HM:=hE0 (aa5 n1 (.int .u64 (G:Int)) (.int .u64 (N:Int)) (.int .u32 (S:Int)));have HF:=hE0 (((hb1.setCell (p:=⟨w.heap.size,0,none⟩) (Nat.le_refl _) (.int .u64 (G:Int))).setCell (p:=⟨w.heap.size,1,none⟩) (Nat.le_refl _) (.int .u64 (N:Int))).setCell (p:=⟨w.heap.size,2,none⟩) (Nat.le_refl _) (.int .u32 (S:Int)));clear hw1 hb1 n1 hr hr1 hG hN hS;go_enter Tryz.func216,Tryz.ntmps216
 go_wp2_with (first | (rw[HW1.out]) | fail)
 refine HG.out.mono ?_;rintro e w2 ⟨rfl,rfl⟩;go_wp2_with fail
 refine HN.out.mono ?_;rintro e w2 ⟨rfl,rfl⟩;go_wp2_with fail
 refine HS.out.mono ?_;rintro e w2 ⟨rfl,rfl⟩;go_wp2_with fail
 (try simp only[Exit.inBlock,Exit.then])
 refine apK (g:=w.heap.size) Tryz.results216 ?_ ?_ HM.out ?_
 · rfl
 · rfl
 · exact⟨rfl,HF.out⟩
theorem anW (w:World) (A:Option Addr) (n c:Nat) (hn:n≠512):
 Calls Tryz.prog 165 #[.slice A n c] w fun e w'=>e= .returned (.tuple #[.agg #[.int .u64 0, .int .u64 0, .int .u32 0], .bool false])/\Below w.heap.size w w':=by
 obtain⟨w1,hw1⟩:=nmE (w.alloc (.cells #[.int .u64 0, .int .u64 0, .int .u32 0] 109));have hb1:=abE hw1;have n1:=anE hw1;obtain⟨z0,z1,z2⟩:=aac n1;obtain⟨f0,f1,f2⟩:=aay n1;have hl1:=aaa n1;have g1:(n !=512)=true:=by rw[bne_iff_ne];exact hn
 have g2:((n:Int) !=512)=true:=by rw[bne_iff_ne];omega
 have HW1:=hE0 hw1;have HM:=hE0 (aa5 n1 (.int .u64 0) (.int .u64 0) (.int .u32 0));have HF:=hE0 (((hb1.setCell (p:=⟨w.heap.size,0,none⟩) (Nat.le_refl _) (.int .u64 0)).setCell (p:=⟨w.heap.size,1,none⟩) (Nat.le_refl _) (.int .u64 0)).setCell (p:=⟨w.heap.size,2,none⟩) (Nat.le_refl _) (.int .u32 0));clear hw1 hb1 n1;go_enter Tryz.func165,Tryz.ntmps165
 go_wp2_with (first | (rw[HW1.out]) | fail)
 (try simp only[Exit.inBlock,Exit.then])
 refine akk (g:=w.heap.size) (x:= .bool false) Tryz.results165 ?_ ?_ ?_ HM.out ?_
 · rfl
 · rfl
 · rfl
 · exact⟨rfl,HF.out⟩
theorem anX (w:World) (A:Option Addr) (c:Nat) (b:List UInt8) (hr:Rd w w.heap.size A 512 b) (hc:512<=c) (G N S:Nat) (hG:slG b=G) (hN:slN b=N) (hS:slS b=S) (y:Bool) (hy:decide (aji G N S≠b)=y):
 Calls Tryz.prog 165 #[.slice A 512 c] w fun e w'=>e= .returned (.tuple #[.agg #[.int .u64 (if y=true then 0 else (G:Int)), .int .u64 (if y=true then 0 else (N:Int)), .int .u32 (if y=true then 0 else (S:Int))], .bool (!y)])/\Below w.heap.size w w':=by
 have hSl:S<4294967296:=by
  have h:=afm ((b.drop 24).take 4);have e:((b.drop 24).take 4).length=4:=by rw[List.length_take,List.length_drop,hr.1];rfl
  rw[e]at h;rw[<-hS];exact h
 obtain⟨w1,hw1⟩:=nmE (w.alloc (.cells #[.int .u64 0, .int .u64 0, .int .u32 0] 109));have hb1:=abE hw1;have n1:=anE hw1;have HNUM:=hE0 (aih w1 A c b ((hr.below hb1).more hb1.size) hc G N S hG hN hS);have HPUT:=hE0 (fun V=>anV V G N S hSl);obtain⟨P,hP⟩:=nmE (aji G N S);rw[hP]at hy HPUT;have ht:decide (b=P)= !y:=by
  rw[<-hy];by_cases e:P=b
  · subst e;simp
  · rw[decide_eq_false (fun h=>e h.symm),decide_eq_true e];rfl
 have HT:=hE0 ht;have HR:=hE0 hr;have HB1:=hE0 hb1;have HN1:=hE0 n1;have HW1:=hE0 hw1;clear hw1 hb1 n1 hr hP hy hG hN hS ht;go_enter Tryz.func165,Tryz.ntmps165
 go_wp2_with (first | (rw[HW1.out]) | fail)
 refine HNUM.out.mono ?_;rintro e w2 ⟨rfl,hb2⟩;obtain⟨w3,hw3⟩:=nmE (w2.alloc (.cells #[.int .u64 0, .int .u64 0, .int .u32 0] 109));have hb3:=abE hw3;have n3:=anE hw3;obtain⟨w5,hw5⟩:=nmE ((((w3.setCell ⟨w2.heap.size,0,none⟩ (.int .u64 (G:Int))).setCell ⟨w2.heap.size,1,none⟩ (.int .u64 (N:Int))).setCell ⟨w2.heap.size,2,none⟩ (.int .u32 (S:Int))));have n5:w5.heap[w2.heap.size]?=some (.cells #[.int .u64 (G:Int), .int .u64 (N:Int), .int .u32 (S:Int)] 109 (0,0)):=by rw[<-hw5];exact aa5 n3 _ _ _
 have hb5:Below w2.heap.size w2 w5:=by rw[<-hw5];exact((hb3.setCell (p:=⟨w2.heap.size,0,none⟩) (Nat.le_refl _) _).setCell (p:=⟨w2.heap.size,1,none⟩) (Nat.le_refl _) _).setCell (p:=⟨w2.heap.size,2,none⟩) (Nat.le_refl _) _
 obtain⟨z0,z1,z2⟩:=aac n3;obtain⟨f0,f1,f2⟩:=aay n3;have hlz:=aaa n3;have hb25:=hb2.trans (hb5.mono hb2.size);have HNR:=hE0 ((hb25.block _ (aaa HN1.out)).trans HN1.out);have HB5:=hE0 (HB1.out.trans (hb25.mono HB1.out.size));have HN5:=hE0 n5;have HW3:=hE0 hw3;have HW5:=hE0 hw5;obtain⟨c0,c1,c2⟩:=aac n5;have hl5:=aaa n5;clear hb2 hw3 hb3 n3 hw5 n5 hb5 hb25 HNUM;go_wp2_with (first | (rw[HW3.out]) | (rw[HW5.out]) | fail)
 clear z0 z1 z2 f0 f1 f2 hlz c0 c1 c2 hl5;refine(HPUT.out w5).mono ?_;rintro e w6 ⟨A6,m6,c6,rfl,_,hr6,hb6⟩;have HB6:=hE0 (HB5.out.trans (hb6.mono HB5.out.size));have HEQ:=hE0 (ag5 w6 A A6 512 c m6 c6 w6.heap.size b P ((HR.out.below HB6.out).more HB6.out.size) hr6 _ HT.out);have e6:=(hb6.block _ (aaa HN5.out)).trans HN5.out;have e7:=(hb6.block _ (aaa HNR.out)).trans HNR.out;clear hr6 hb6;go_wp2_with fail
 refine HEQ.out.mono ?_;rintro e w7 ⟨rfl,rfl⟩;obtain⟨r0,r1,r2⟩:=aac e6;have hle:=aaa e6;obtain⟨q0,q1,q2⟩:=aac e7;obtain⟨f0,f1,f2⟩:=aay e7;have hlq:=aaa e7;have HM:=hE0 (aa5 e7 (.int .u64 (if y=true then 0 else (G:Int))) (.int .u64 (if y=true then 0 else (N:Int))) (.int .u32 (if y=true then 0 else (S:Int))));have HF:=hE0 (((HB6.out.setCell (p:=⟨w.heap.size,0,none⟩) (Nat.le_refl _) (.int .u64 (if y=true then 0 else (G:Int)))).setCell (p:=⟨w.heap.size,1,none⟩) (Nat.le_refl _) (.int .u64 (if y=true then 0 else (N:Int)))).setCell (p:=⟨w.heap.size,2,none⟩) (Nat.le_refl _) (.int .u32 (if y=true then 0 else (S:Int))));clear e6 e7 HEQ
 cases y with
 | true=>
  simp only[if_true]at HM HF;go_wp2
  (try simp only[Exit.inBlock,Exit.then])
  refine akk (g:=w.heap.size) (x:= .bool false) Tryz.results165 ?_ ?_ ?_ HM.out ?_
  · rfl
  · rfl
  · rfl
  · exact⟨rfl,HF.out⟩
 | false=>
  simp only[Bool.false_eq_true,if_false]at HM HF;go_wp2
  (try simp only[Exit.inBlock,Exit.then])
  refine akk (g:=w.heap.size) (x:= .bool true) Tryz.results165 ?_ ?_ ?_ HM.out ?_
  · rfl
  · rfl
  · rfl
  · exact⟨rfl,HF.out⟩
def abP (b:List UInt8):Bool:=decide (b.length=512)&&decide (aji (slG b) (slN b) (slS b)=b)
def aeO (b:List UInt8) (v:Nat):Nat:=if abP b=true then v else 0
theorem afv (b:List UInt8) (v:Nat) (y:Bool) (h:abP b= !y):(if y=true then (0:Int) else (v:Int))=((aeO b v:Nat):Int):=by
 unfold aeO;rw[h]
 cases y<;>rfl
theorem acD (b:List UInt8) (v:Nat) (h:abP b=false):(0:Int)=((aeO b v:Nat):Int):=by
 unfold aeO;rw[h];rfl
theorem ajk{b:List UInt8}(h:b.length=512):decide (aji (slG b) (slN b) (slS b)≠b)= !abP b:=by
 unfold abP;rw[decide_eq_true h,Bool.true_and];by_cases e:aji (slG b) (slN b) (slS b)=b
 · rw[decide_eq_true e,decide_eq_false (fun k=>k e)];rfl
 · rw[decide_eq_false e,decide_eq_true e];rfl
theorem anY (w:World) (A:Option Addr) (n c:Nat) (b:List UInt8) (hr:Rd w w.heap.size A n b) (hnc:n<=c):
 Calls Tryz.prog 165 #[.slice A n c] w fun e w'=>e= .returned (.tuple #[.agg #[.int .u64 (aeO b (slG b):Int), .int .u64 (aeO b (slN b):Int), .int .u32 (aeO b (slS b):Int)], .bool (abP b)])/\Below w.heap.size w w':=by
 by_cases hn:n=512
 · subst hn;refine(anX w A c b hr hnc _ _ _ rfl rfl rfl _ (ajk hr.1)).mono ?_;rintro e w' ⟨rfl,hb⟩;refine⟨?_,hb⟩;rw[afv b _ _ (Bool.not_not _).symm,afv b _ _ (Bool.not_not _).symm,afv b _ _ (Bool.not_not _).symm,Bool.not_not]
 · refine(anW w A n c hn).mono ?_;rintro e w' ⟨rfl,hb⟩;have h:abP b=false:=by unfold abP;rw[decide_eq_false (by rw[hr.1];exact hn)];rfl
   refine⟨?_,hb⟩;rw[<-acD b _ h,<-acD b _ h,<-acD b _ h,h]
theorem aeG (w:World) (A:Option Addr) (n c:Nat) (b:List UInt8) (hr:Rd w w.heap.size A n b) (hnc:n<=c) (hc:c<=9223372036854775807) (hl:n<=900000):
 Calls Tryz.prog 180 #[.slice A n c] w fun e w'=>e= .returned (.tuple #[.agg #[.int .u64 (aeO b (slG b):Int), .int .u64 (aeO b (slN b):Int), .int .u32 (aeO b (slS b):Int)], .bool (abP b)])/\Below w.heap.size w w':=by
 by_cases hn:n=512
 · subst hn;refine(akj w A c b hr hnc hc _ _ _ rfl rfl rfl _ (ajk hr.1)).mono ?_;rintro e w' ⟨rfl,hb⟩;refine⟨?_,hb⟩;rw[afv b _ _ (Bool.not_not _).symm,afv b _ _ (Bool.not_not _).symm,afv b _ _ (Bool.not_not _).symm,Bool.not_not]
 · refine(aki w A n c hn hl).mono ?_;rintro e w' ⟨rfl,hb⟩;have h:abP b=false:=by unfold abP;rw[decide_eq_false (by rw[hr.1];exact hn)];rfl
   refine⟨?_,hb⟩;rw[<-acD b _ h,<-acD b _ h,<-acD b _ h,h]
theorem anZ{g n s:Nat}(hy:ahu g n=true) (hs:s<4294967296):abP (abA g n s)=true/\aeO (abA g n s) (slG (abA g n s))=g/\aeO (abA g n s) (slN (abA g n s))=n/\aeO (abA g n s) (slS (abA g n s))=s:=by
 have h:=hy;unfold ahu at h;simp only[Bool.and_eq_true,decide_eq_true_eq]at h;obtain⟨e1,e2,e3⟩:=anR (g:=g) (n:=n) (s:=s) (by omega) (by omega) hs;have hr:abP (abA g n s)=true:=by
  unfold abP;rw[e1,e2,e3,decide_eq_true (aea g n s),Bool.true_and];unfold aji;rw[if_pos hy,decide_eq_true rfl]
 unfold aeO;rw[if_pos hr,if_pos hr,if_pos hr];exact⟨hr,e1,e2,e3⟩
theorem akl:abP (List.replicate 512 0)=false:=by
 have e:slG (List.replicate 512 0)=0:=by unfold slG;rw[List.drop_replicate,List.take_replicate];rfl
 have hk:∀n,¬ahu 0 n=true:=fun n h=>by unfold ahu at h;cases h
 unfold abP aji;rw[e,if_neg (hk _)];rw[decide_eq_false (fun h: []=List.replicate 512 (0:UInt8)=>by have:=congrArg List.length h;rw[List.length_replicate]at this;cases this),Bool.and_false]
theorem ae3{b:List UInt8}(h:abP b=true):aji (slG b) (slN b) (slS b)=b/\aeO b (slG b)=slG b/\aeO b (slN b)=slN b/\aeO b (slS b)=slS b:=by
 unfold aeO;rw[if_pos h,if_pos h,if_pos h];unfold abP at h;rw[Bool.and_eq_true]at h;exact⟨of_decide_eq_true h.2,rfl,rfl,rfl⟩
theorem asw (b:List UInt8):slS b<4294967296:=by
 have h:=afm ((b.drop 24).take 4);have e:((b.drop 24).take 4).length<=4:=by rw[List.length_take];omega
 have:(256:Nat)^((b.drop 24).take 4).length<=256^4:=Nat.pow_le_pow_right (by omega) e;unfold slS;omega
theorem abO{w:World}{g:Nat}{t:TypeId}{y0 y1 y2:Value}(h:w.heap[g]?=some (.cells #[y0,y1,y2] t (0,0))):(w.cell? ⟨g,0,none⟩=some y0/\w.cell? ⟨g,1,none⟩=some y1/\w.cell? ⟨g,2,none⟩=some y2)/\(w.frozen? ⟨g,0,none⟩=false/\w.frozen? ⟨g,1,none⟩=false/\w.frozen? ⟨g,2,none⟩=false)/\g<w.heap.size:=
 ⟨⟨by rw[cell_of_row w g 0 _ _ (0,0) h];rfl,by rw[cell_of_row w g 1 _ _ (0,0) h];rfl,by rw[cell_of_row w g 2 _ _ (0,0) h];rfl⟩,⟨frozen_of_row w g 0 _ _ h,frozen_of_row w g 1 _ _ h,frozen_of_row w g 2 _ _ h⟩,aaa h⟩
theorem ac0 (w:World) (t:TypeId) (y0 y1 y2:Value):∃w',Hid (w.alloc (.cells #[y0,y1,y2] t)=w')/\Hid (w'.heap[w.heap.size]?=some (.cells #[y0,y1,y2] t (0,0)))/\Hid (Below w.heap.size w w'):=
 ⟨_,hE0 rfl,hE0 (heap_alloc_new w _),hE0 ((Below.refl _ _).alloc (Nat.le_refl _) _)⟩
theorem afj{w:World}{g:Nat}{t:TypeId}{y0 y1 y2:Value}(h:Hid (w.heap[g]?=some (.cells #[y0,y1,y2] t (0,0)))) (x0 x1 x2:Value):∃w',Hid ((((w.setCell ⟨g,0,none⟩ x0).setCell ⟨g,1,none⟩ x1).setCell ⟨g,2,none⟩ x2)=w')/\Hid (w'.heap[g]?=some (.cells #[x0,x1,x2] t (0,0)))/\Hid (∀B v,B<=g->Below B v w->Below B v w')/\(w.cell? ⟨g,0,none⟩=some y0/\w.cell? ⟨g,1,none⟩=some y1/\w.cell? ⟨g,2,none⟩=some y2)/\(w.frozen? ⟨g,0,none⟩=false/\w.frozen? ⟨g,1,none⟩=false/\w.frozen? ⟨g,2,none⟩=false)/\g<w.heap.size:=by
 have h0:=h.out;have h1:(_:Option Obj)=some (.cells #[x0,y1,y2] t (0,0)):=heap_setCell_same _ g 0 _ _ x0 h0;have h2:(_:Option Obj)=some (.cells #[x0,x1,y2] t (0,0)):=heap_setCell_same _ g 1 _ _ x1 h1;have h3:(_:Option Obj)=some (.cells #[x0,x1,x2] t (0,0)):=heap_setCell_same _ g 2 _ _ x2 h2;exact⟨_,hE0 rfl,hE0 h3,hE0 (fun B v hB hv=>(Below.setCell (Below.setCell (Below.setCell hv (p:=⟨g,0,none⟩) hB _) (p:=⟨g,1,none⟩) hB _) (p:=⟨g,2,none⟩) hB _)),abO h0⟩
theorem acH{w:World}{g:Nat}{t:TypeId}{y0 y1 y2 y3 y4 y5 y6:Value}(h:w.heap[g]?=some (.cells #[y0,y1,y2,y3,y4,y5,y6] t (0,0))):(w.cell? ⟨g,0,none⟩=some y0/\w.cell? ⟨g,1,none⟩=some y1/\w.cell? ⟨g,2,none⟩=some y2/\w.cell? ⟨g,3,none⟩=some y3/\w.cell? ⟨g,4,none⟩=some y4/\w.cell? ⟨g,5,none⟩=some y5/\w.cell? ⟨g,6,none⟩=some y6)/\(w.frozen? ⟨g,0,none⟩=false/\w.frozen? ⟨g,1,none⟩=false/\w.frozen? ⟨g,2,none⟩=false/\w.frozen? ⟨g,3,none⟩=false/\w.frozen? ⟨g,4,none⟩=false/\w.frozen? ⟨g,5,none⟩=false/\w.frozen? ⟨g,6,none⟩=false)/\g<w.heap.size:=
 ⟨⟨by rw[cell_of_row w g 0 _ _ (0,0) h];rfl,by rw[cell_of_row w g 1 _ _ (0,0) h];rfl,by rw[cell_of_row w g 2 _ _ (0,0) h];rfl,by rw[cell_of_row w g 3 _ _ (0,0) h];rfl,by rw[cell_of_row w g 4 _ _ (0,0) h];rfl,by rw[cell_of_row w g 5 _ _ (0,0) h];rfl,by rw[cell_of_row w g 6 _ _ (0,0) h];rfl⟩,⟨frozen_of_row w g 0 _ _ h,frozen_of_row w g 1 _ _ h,frozen_of_row w g 2 _ _ h,frozen_of_row w g 3 _ _ h,frozen_of_row w g 4 _ _ h,frozen_of_row w g 5 _ _ h,frozen_of_row w g 6 _ _ h⟩,aaa h⟩
theorem adS (w:World) (t:TypeId) (y0 y1 y2 y3 y4 y5 y6:Value):∃w',Hid (w.alloc (.cells #[y0,y1,y2,y3,y4,y5,y6] t)=w')/\Hid (w'.heap[w.heap.size]?=some (.cells #[y0,y1,y2,y3,y4,y5,y6] t (0,0)))/\Hid (Below w.heap.size w w'):=
 ⟨_,hE0 rfl,hE0 (heap_alloc_new w _),hE0 ((Below.refl _ _).alloc (Nat.le_refl _) _)⟩
theorem ajX{w:World}{g:Nat}{t:TypeId}{y0 y1 y2 y3 y4 y5 y6:Value}(h:Hid (w.heap[g]?=some (.cells #[y0,y1,y2,y3,y4,y5,y6] t (0,0)))) (x0 x1 x2 x3 x4 x5 x6:Value):∃w',Hid ((((((((w.setCell ⟨g,0,none⟩ x0).setCell ⟨g,1,none⟩ x1).setCell ⟨g,2,none⟩ x2).setCell ⟨g,3,none⟩ x3).setCell ⟨g,4,none⟩ x4).setCell ⟨g,5,none⟩ x5).setCell ⟨g,6,none⟩ x6)=w')/\Hid (w'.heap[g]?=some (.cells #[x0,x1,x2,x3,x4,x5,x6] t (0,0)))/\Hid (∀B v,B<=g->Below B v w->Below B v w')/\(w.cell? ⟨g,0,none⟩=some y0/\w.cell? ⟨g,1,none⟩=some y1/\w.cell? ⟨g,2,none⟩=some y2/\w.cell? ⟨g,3,none⟩=some y3/\w.cell? ⟨g,4,none⟩=some y4/\w.cell? ⟨g,5,none⟩=some y5/\w.cell? ⟨g,6,none⟩=some y6)/\(w.frozen? ⟨g,0,none⟩=false/\w.frozen? ⟨g,1,none⟩=false/\w.frozen? ⟨g,2,none⟩=false/\w.frozen? ⟨g,3,none⟩=false/\w.frozen? ⟨g,4,none⟩=false/\w.frozen? ⟨g,5,none⟩=false/\w.frozen? ⟨g,6,none⟩=false)/\g<w.heap.size:=by
 have h0:=h.out;have h1:(_:Option Obj)=some (.cells #[x0,y1,y2,y3,y4,y5,y6] t (0,0)):=heap_setCell_same _ g 0 _ _ x0 h0;have h2:(_:Option Obj)=some (.cells #[x0,x1,y2,y3,y4,y5,y6] t (0,0)):=heap_setCell_same _ g 1 _ _ x1 h1;have h3:(_:Option Obj)=some (.cells #[x0,x1,x2,y3,y4,y5,y6] t (0,0)):=heap_setCell_same _ g 2 _ _ x2 h2;have h4:(_:Option Obj)=some (.cells #[x0,x1,x2,x3,y4,y5,y6] t (0,0)):=heap_setCell_same _ g 3 _ _ x3 h3;have h5:(_:Option Obj)=some (.cells #[x0,x1,x2,x3,x4,y5,y6] t (0,0)):=heap_setCell_same _ g 4 _ _ x4 h4;have h6:(_:Option Obj)=some (.cells #[x0,x1,x2,x3,x4,x5,y6] t (0,0)):=heap_setCell_same _ g 5 _ _ x5 h5;have h7:(_:Option Obj)=some (.cells #[x0,x1,x2,x3,x4,x5,x6] t (0,0)):=heap_setCell_same _ g 6 _ _ x6 h6;exact⟨_,hE0 rfl,hE0 h7,hE0 (fun B v hB hv=>(Below.setCell (Below.setCell (Below.setCell (Below.setCell (Below.setCell (Below.setCell (Below.setCell hv (p:=⟨g,0,none⟩) hB _) (p:=⟨g,1,none⟩) hB _) (p:=⟨g,2,none⟩) hB _) (p:=⟨g,3,none⟩) hB _) (p:=⟨g,4,none⟩) hB _) (p:=⟨g,5,none⟩) hB _) (p:=⟨g,6,none⟩) hB _)),acH h0⟩
theorem abT{w:World}{g:Nat}{t:TypeId}{y0 y1 y2 y3 y4 y5 y6 y7:Value}(h:w.heap[g]?=some (.cells #[y0,y1,y2,y3,y4,y5,y6,y7] t (0,0))):(w.cell? ⟨g,0,none⟩=some y0/\w.cell? ⟨g,1,none⟩=some y1/\w.cell? ⟨g,2,none⟩=some y2/\w.cell? ⟨g,3,none⟩=some y3/\w.cell? ⟨g,4,none⟩=some y4/\w.cell? ⟨g,5,none⟩=some y5/\w.cell? ⟨g,6,none⟩=some y6/\w.cell? ⟨g,7,none⟩=some y7)/\(w.frozen? ⟨g,0,none⟩=false/\w.frozen? ⟨g,1,none⟩=false/\w.frozen? ⟨g,2,none⟩=false/\w.frozen? ⟨g,3,none⟩=false/\w.frozen? ⟨g,4,none⟩=false/\w.frozen? ⟨g,5,none⟩=false/\w.frozen? ⟨g,6,none⟩=false/\w.frozen? ⟨g,7,none⟩=false)/\g<w.heap.size:=
 ⟨⟨by rw[cell_of_row w g 0 _ _ (0,0) h];rfl,by rw[cell_of_row w g 1 _ _ (0,0) h];rfl,by rw[cell_of_row w g 2 _ _ (0,0) h];rfl,by rw[cell_of_row w g 3 _ _ (0,0) h];rfl,by rw[cell_of_row w g 4 _ _ (0,0) h];rfl,by rw[cell_of_row w g 5 _ _ (0,0) h];rfl,by rw[cell_of_row w g 6 _ _ (0,0) h];rfl,by rw[cell_of_row w g 7 _ _ (0,0) h];rfl⟩,⟨frozen_of_row w g 0 _ _ h,frozen_of_row w g 1 _ _ h,frozen_of_row w g 2 _ _ h,frozen_of_row w g 3 _ _ h,frozen_of_row w g 4 _ _ h,frozen_of_row w g 5 _ _ h,frozen_of_row w g 6 _ _ h,frozen_of_row w g 7 _ _ h⟩,aaa h⟩
theorem agx (w:World) (t:TypeId) (y0 y1 y2 y3 y4 y5 y6 y7:Value):∃w',Hid (w.alloc (.cells #[y0,y1,y2,y3,y4,y5,y6,y7] t)=w')/\Hid (w'.heap[w.heap.size]?=some (.cells #[y0,y1,y2,y3,y4,y5,y6,y7] t (0,0)))/\Hid (Below w.heap.size w w'):=
 ⟨_,hE0 rfl,hE0 (heap_alloc_new w _),hE0 ((Below.refl _ _).alloc (Nat.le_refl _) _)⟩
theorem atF{w:World}{g:Nat}{t:TypeId}{y0 y1 y2 y3 y4 y5 y6 y7:Value}(h:Hid (w.heap[g]?=some (.cells #[y0,y1,y2,y3,y4,y5,y6,y7] t (0,0)))) (x0 x1 x2 x3 x4 x5 x6 x7:Value):∃w',Hid (((((((((w.setCell ⟨g,0,none⟩ x0).setCell ⟨g,1,none⟩ x1).setCell ⟨g,2,none⟩ x2).setCell ⟨g,3,none⟩ x3).setCell ⟨g,4,none⟩ x4).setCell ⟨g,5,none⟩ x5).setCell ⟨g,6,none⟩ x6).setCell ⟨g,7,none⟩ x7)=w')/\Hid (w'.heap[g]?=some (.cells #[x0,x1,x2,x3,x4,x5,x6,x7] t (0,0)))/\Hid (∀B v,B<=g->Below B v w->Below B v w')/\(w.cell? ⟨g,0,none⟩=some y0/\w.cell? ⟨g,1,none⟩=some y1/\w.cell? ⟨g,2,none⟩=some y2/\w.cell? ⟨g,3,none⟩=some y3/\w.cell? ⟨g,4,none⟩=some y4/\w.cell? ⟨g,5,none⟩=some y5/\w.cell? ⟨g,6,none⟩=some y6/\w.cell? ⟨g,7,none⟩=some y7)/\(w.frozen? ⟨g,0,none⟩=false/\w.frozen? ⟨g,1,none⟩=false/\w.frozen? ⟨g,2,none⟩=false/\w.frozen? ⟨g,3,none⟩=false/\w.frozen? ⟨g,4,none⟩=false/\w.frozen? ⟨g,5,none⟩=false/\w.frozen? ⟨g,6,none⟩=false/\w.frozen? ⟨g,7,none⟩=false)/\g<w.heap.size:=by
 have h0:=h.out;have h1:(_:Option Obj)=some (.cells #[x0,y1,y2,y3,y4,y5,y6,y7] t (0,0)):=heap_setCell_same _ g 0 _ _ x0 h0;have h2:(_:Option Obj)=some (.cells #[x0,x1,y2,y3,y4,y5,y6,y7] t (0,0)):=heap_setCell_same _ g 1 _ _ x1 h1;have h3:(_:Option Obj)=some (.cells #[x0,x1,x2,y3,y4,y5,y6,y7] t (0,0)):=heap_setCell_same _ g 2 _ _ x2 h2;have h4:(_:Option Obj)=some (.cells #[x0,x1,x2,x3,y4,y5,y6,y7] t (0,0)):=heap_setCell_same _ g 3 _ _ x3 h3;have h5:(_:Option Obj)=some (.cells #[x0,x1,x2,x3,x4,y5,y6,y7] t (0,0)):=heap_setCell_same _ g 4 _ _ x4 h4;have h6:(_:Option Obj)=some (.cells #[x0,x1,x2,x3,x4,x5,y6,y7] t (0,0)):=heap_setCell_same _ g 5 _ _ x5 h5;have h7:(_:Option Obj)=some (.cells #[x0,x1,x2,x3,x4,x5,x6,y7] t (0,0)):=heap_setCell_same _ g 6 _ _ x6 h6;have h8:(_:Option Obj)=some (.cells #[x0,x1,x2,x3,x4,x5,x6,x7] t (0,0)):=heap_setCell_same _ g 7 _ _ x7 h7;exact⟨_,hE0 rfl,hE0 h8,hE0 (fun B v hB hv=>(Below.setCell (Below.setCell (Below.setCell (Below.setCell (Below.setCell (Below.setCell (Below.setCell (Below.setCell hv (p:=⟨g,0,none⟩) hB _) (p:=⟨g,1,none⟩) hB _) (p:=⟨g,2,none⟩) hB _) (p:=⟨g,3,none⟩) hB _) (p:=⟨g,4,none⟩) hB _) (p:=⟨g,5,none⟩) hB _) (p:=⟨g,6,none⟩) hB _) (p:=⟨g,7,none⟩) hB _)),abT h0⟩
structure Wr where
 s:Nat
 b:Nat
 c:Nat
 d:List UInt8
def Wr.two (x:Wr):Nat × List UInt8:=(x.s,x.d)
def ag6:List Wr->List Value
 | []=> []
 | x::r=> .int .i64 (x.s:Int):: .slice (some ⟨x.b,0,none⟩) 512 x.c::ag6 r
theorem adK (a b:List Wr):ag6 (a++b)=ag6 a++ag6 b:=by
 induction a with
 | nil=>rfl
 | cons x r ih=>simp[ag6,ih]
theorem aii:∀(ws:List Wr) (i:Nat) (x:Wr),ws[i]?=some x->(ag6 ws)[i*2]?=some (.int .i64 (x.s:Int))/\(ag6 ws)[i*2+1]?=some (.slice (some ⟨x.b,0,none⟩) 512 x.c)
 | [],_,_,h=>by simp at h
 | y::r,0,x,h=>by
  simp at h;subst h;exact⟨rfl,rfl⟩
 | y::r,i+1,x,h=>by
  have:=aii r i x (by simpa using h);have e:(i+1)*2=i*2+1+1:=by omega
  rw[e];exact⟨by simpa[ag6]using this.1,by simpa[ag6]using this.2⟩
def Fil (w:World) (b:Nat) (d:List UInt8):Prop:=∃cur:Array Value,w.heap[b]?=some (.cells cur 5 (0,0))/\d.length<=cur.size/\cur.toList.take d.length=d.map bv
section
variable {w w':World} {b:Nat} {d:List UInt8}
theorem Fil.lt (h:Fil w b d):b<w.heap.size:=by
 obtain⟨_,h,_⟩:=h;exact aan h
theorem Fil.keep (h:Fil w b d) (hk:w'.heap[b]?=w.heap[b]?):Fil w' b d:=by
 obtain⟨cur,h1,h2⟩:=h;exact⟨cur,hk.trans h1,h2⟩
theorem Fil.reads (h:Fil w b d):Rd w w.heap.size (some ⟨b,0,none⟩) d.length d:=by
 have hlt:=h.lt;obtain⟨cur,h1,h2,h3⟩:=h;refine⟨rfl,fun _=>⟨b,0,rfl,hlt,fun j u hu=> ?_⟩⟩;have hj:j<d.length:=by
  rcases Nat.lt_or_ge j d.length with h | h
  · exact h
  · rw[List.getElem?_eq_none h]at hu;cases hu
 rw[Nat.zero_add,cell_of_row w b j _ _ (0,0) h1];have:(cur.toList.take d.length)[j]?=(d.map bv)[j]?:=by rw[h3]
 rw[List.getElem?_take_of_lt hj,List.getElem?_map,hu]at this;simpa[bv]using this
theorem Fil.of_own{base n c g:Nat}(h:w.ownsRow base 5 1 (.slice (some ⟨g,0,none⟩) n c) n (d.map bv)):Fil w g d:=by
 rcases h.2 with⟨h',_⟩ | ⟨g',cap,cur,h',_,hh,hnc,_,hcs,hcur⟩
 · cases h'
 · injection h' with e1 e2 e3;injection e1 with e1;injection e1 with e1;subst e1;have e:n=d.length:=by have:=h.1;simpa using this.symm
   subst e;exact⟨cur,hh,by omega,by simpa using hcur⟩
end
structure Dk (S:Nat->Prop) (w:World) (g h c:Nat) (W:Option Addr) (cw:Nat) (bs:List UInt8) (ws:List Wr) (left:Int) (off:Bool):Prop where
 obj:w.heap[g]?=some (.cells #[.slice (some ⟨h,0,none⟩) bs.length c, .slice W ws.length cw, .int .i64 left, .bool off] 88 (0,0))
 own:w.ownsRow 0 5 1 (.slice (some ⟨h,0,none⟩) bs.length c) bs.length (bs.map bv)
 wai:w.ownsRow 0 137 2 (.slice W ws.length cw) ws.length (ag6 ws)
 row:∀x∈ws,x.s*512+512<=bs.length/\x.b≠h/\x.d.length=512/\Fil w x.b x.d
 sg:S g
 sh:S h
 sw:∀a,W=some a->S a.block
 sx:∀x∈ws,S x.b
def abj (S:Nat->Prop) (w w':World) (k:Nat):Prop:=S k\/(w.heap.size<=k/\k<w'.heap.size)
theorem aaV{w w':World}{base n size:Nat}{e:TypeId}{v:Value}{xs:List Value}(h:w.ownsRow base e size v n xs) (hk:∀k,v.ownBlock=some k->w'.heap[k]?=w.heap[k]?):w'.ownsRow base e size v n xs:=by
 refine⟨h.1,?_⟩;rcases h.2 with h2 | ⟨g,cap,cur,hv,hg,hh,r⟩
 · exact .inl h2
 · refine .inr ⟨g,cap,cur,hv,hg,?_,r⟩;rw[hk g (by rw[hv];rfl)];exact hh
theorem acK{w:World}{base n size c:Nat}{e:TypeId}{a:Addr}{xs:List Value}(h:w.ownsRow base e size (.slice (some a) n c) n xs):∃b,a=⟨b,0,none⟩/\∃cur,w.heap[b]?=some (.cells cur e (0,0)):=by
 rcases h.2 with⟨h',_⟩ | ⟨g',cap,cur,h',_,hh,_⟩
 · cases h'
 · injection h' with e1;injection e1 with e1;exact⟨g',e1,cur,hh⟩
theorem abF{w:World}{a b:Nat}{s t:TypeId}{x y:Array Value}(h:w.heap[a]?=some (.cells x s (0,0))) (k:w.heap[b]?=some (.cells y t (0,0))) (hne:s≠t):a≠b:=by
 intro e;subst e;rw[h]at k;injection k with k;injection k with _ k;exact hne k
section
variable {S S':Nat->Prop} {w w':World} {g h c:Nat} {W:Option Addr} {cw:Nat} {bs:List UInt8} {ws:List Wr} {left:Int} {off:Bool}
theorem Dk.c0 (k:Dk S w g h c W cw bs ws left off):w.cell? ⟨g,0,none⟩=some (.slice (some ⟨h,0,none⟩) bs.length c):=by rw[cell_of_row w g 0 _ _ (0,0) k.obj];rfl
theorem Dk.c1 (k:Dk S w g h c W cw bs ws left off):w.cell? ⟨g,1,none⟩=some (.slice W ws.length cw):=by rw[cell_of_row w g 1 _ _ (0,0) k.obj];rfl
theorem Dk.c2 (k:Dk S w g h c W cw bs ws left off):w.cell? ⟨g,2,none⟩=some (.int .i64 left):=by rw[cell_of_row w g 2 _ _ (0,0) k.obj];rfl
theorem Dk.c3 (k:Dk S w g h c W cw bs ws left off):w.cell? ⟨g,3,none⟩=some (.bool off):=by rw[cell_of_row w g 3 _ _ (0,0) k.obj];rfl
theorem Dk.thaw (k:Dk S w g h c W cw bs ws left off) (i:Nat):w.frozen? ⟨g,i,none⟩=false:=frozen_of_row w g i _ _ k.obj
theorem Dk.lt (k:Dk S w g h c W cw bs ws left off):g<w.heap.size:=aan k.obj
theorem Dk.hlt (k:Dk S w g h c W cw bs ws left off):h<w.heap.size:=(k.own.lt h rfl).2
theorem Dk.wlt (k:Dk S w g h c W cw bs ws left off){a:Addr}(e:W=some a):a.block<w.heap.size:=by subst e;exact(k.wai.lt a.block rfl).2
theorem Dk.xlt (k:Dk S w g h c W cw bs ws left off){x:Wr}(hx:x∈ws):x.b<w.heap.size:=(k.row x hx).2.2.2.lt
theorem Dk.reads (k:Dk S w g h c W cw bs ws left off):Rd w w.heap.size (some ⟨h,0,none⟩) bs.length bs:=(Fil.of_own k.own).reads
theorem Dk.cap (k:Dk S w g h c W cw bs ws left off):bs.length<=c/\c<=maxLen:=by
 rcases k.own.2 with⟨h',_⟩ | ⟨_,_,_,h',_,_,h1,h2,_⟩
 · cases h'
 · injection h' with _ _ e;subst e;exact⟨h1,h2⟩
theorem Dk.wcap (k:Dk S w g h c W cw bs ws left off):ws.length<=cw/\cw<=maxLen:=by
 rcases k.wai.2 with⟨h',h0⟩ | ⟨_,_,_,h',_,_,h1,h2,_⟩
 · injection h' with _ _ e;subst e;rw[h0];exact⟨Nat.le_refl _,Nat.zero_le _⟩
 · injection h' with _ _ e;subst e;exact⟨h1,h2⟩
theorem Dk.gh (k:Dk S w g h c W cw bs ws left off):g≠h:=by
 obtain⟨b,e,cur,hc⟩:=acK k.own;injection e with e;subst e;exact abF k.obj hc (by decide)
theorem Dk.wg (k:Dk S w g h c W cw bs ws left off){a:Addr}(e:W=some a):a.block≠g/\a.block≠h/\∀x∈ws,x.b≠a.block:=by
 subst e;obtain⟨b,e,cur,hc⟩:=acK k.wai;obtain⟨b2,e2,cur2,hc2⟩:=acK k.own;injection e2 with e2;subst e e2;refine⟨abF hc k.obj (by decide),abF hc hc2 (by decide),fun x hx=> ?_⟩;obtain⟨cur3,h3,_⟩:=(k.row x hx).2.2.2;exact abF h3 hc (by decide)
theorem Dk.xg (k:Dk S w g h c W cw bs ws left off){x:Wr}(hx:x∈ws):x.b≠g:=by
 obtain⟨cur3,h3,_⟩:=(k.row x hx).2.2.2;exact abF h3 k.obj (by decide)
def arE (g h:Nat) (W:Option Addr) (ws:List Wr) (k:Nat):Prop:=k=g\/k=h\/(∃a,W=some a/\k=a.block)\/∃x∈ws,k=x.b
theorem Dk.foot (k:Dk S w g h c W cw bs ws left off){j:Nat}(hj:arE g h W ws j):S j/\j<w.heap.size:=by
 rcases hj with rfl | rfl | ⟨a,e,rfl⟩ | ⟨x,hx,rfl⟩
 · exact⟨k.sg,k.lt⟩
 · exact⟨k.sh,k.hlt⟩
 · exact⟨k.sw a e,k.wlt e⟩
 · exact⟨k.sx x hx,k.xlt hx⟩
theorem Dk.keep (k:Dk S w g h c W cw bs ws left off) (hk:∀j,arE g h W ws j->w'.heap[j]?=w.heap[j]?):Dk S w' g h c W cw bs ws left off:=by
 refine⟨(hk g (.inl rfl)).trans k.obj,aaV k.own fun j hj=> ?_,aaV k.wai fun j hj=> ?_,fun x hx=> ?_,k.sg,k.sh,k.sw,k.sx⟩
 · injection hj with hj;subst hj;exact hk _ (.inr (.inl rfl))
 · rcases W with _ | a
   · cases hj
   · injection hj with hj;subst hj;exact hk _ (.inr (.inr (.inl ⟨a,rfl,rfl⟩)))
 · obtain⟨h1,h2,h3,h4⟩:=k.row x hx;exact⟨h1,h2,h3,h4.keep (hk _ (.inr (.inr (.inr ⟨x,hx,rfl⟩))))⟩
theorem Dk.below (k:Dk S w g h c W cw bs ws left off) (hb:Below w.heap.size w w'):Dk S w' g h c W cw bs ws left off:=k.keep fun j hj=>hb.block j (k.foot hj).2
theorem Dk.tch{R:Nat->Prop}(k:Dk S w g h c W cw bs ws left off) (ht:Tch R w w') (hd:∀j,S j->¬R j):Dk S w' g h c W cw bs ws left off:=k.keep fun j hj=>ht.block j (k.foot hj).2 (hd j (k.foot hj).1)
theorem Dk.more (k:Dk S w g h c W cw bs ws left off) (hS:∀j,arE g h W ws j->S' j):Dk S' w g h c W cw bs ws left off:=
 ⟨k.obj,k.own,k.wai,k.row,hS _ (.inl rfl),hS _ (.inr (.inl rfl)),fun a e=>hS _ (.inr (.inr (.inl ⟨a,e,rfl⟩))),fun x hx=>hS _ (.inr (.inr (.inr ⟨x,hx,rfl⟩)))⟩
theorem Dk.drew (k:Dk S w g h c W cw bs ws left off):Dk S w.drew g h c W cw bs ws left off:=⟨k.obj,k.own,k.wai,k.row,k.sg,k.sh,k.sw,k.sx⟩
theorem Dk.obj_{left':Int}{off':Bool}(k:Dk S w g h c W cw bs ws left off) (ho:w'.heap[g]?=some (.cells #[.slice (some ⟨h,0,none⟩) bs.length c, .slice W ws.length cw, .int .i64 left', .bool off'] 88 (0,0)))
 (hk:∀j,j≠g->w'.heap[j]?=w.heap[j]?):Dk S w' g h c W cw bs ws left' off':=by
 refine⟨ho,aaV k.own fun j hj=> ?_,aaV k.wai fun j hj=> ?_,fun x hx=> ?_,k.sg,k.sh,k.sw,k.sx⟩
 · injection hj with hj;subst hj;exact hk _ k.gh.symm
 · rcases W with _ | a
   · cases hj
   · injection hj with hj;subst hj;exact hk _ (k.wg rfl).1
 · obtain⟨h1,h2,h3,h4⟩:=k.row x hx;exact⟨h1,h2,h3,h4.keep (hk _ (k.xg hx))⟩
theorem Dk.set2 (k:Dk S w g h c W cw bs ws left off) (n:Int):Dk S (w.setCell ⟨g,2,none⟩ (.int .i64 n)) g h c W cw bs ws n off:=
 k.obj_ (by rw[heap_setCell_same w g 2 _ _ _ k.obj];rfl) fun j hj=>Below.heap_setCell _ _ _ _ hj
theorem Dk.set3 (k:Dk S w g h c W cw bs ws left off) (b:Bool):Dk S (w.setCell ⟨g,3,none⟩ (.bool b)) g h c W cw bs ws left b:=
 k.obj_ (by rw[heap_setCell_same w g 3 _ _ _ k.obj];rfl) fun j hj=>Below.heap_setCell _ _ _ _ hj
theorem Dk.none_ (k:Dk S w g h c W cw bs ws left off):Dk S (w.setCell ⟨g,1,none⟩ (.slice none 0 0)) g h c none 0 bs [] left off:=by
 have hk:∀j,j≠g->(w.setCell ⟨g,1,none⟩ (.slice none 0 0)).heap[j]?=w.heap[j]?:=fun j hj=>Below.heap_setCell _ _ _ _ hj;refine⟨by rw[heap_setCell_same w g 1 _ _ _ k.obj];rfl,aaV k.own fun j hj=> ?_,World.ownsRow_nil _ _ _ _,(fun x hx=>by cases hx),k.sg,k.sh,(fun a e=>by cases e),(fun x hx=>by cases hx)⟩;injection hj with hj;subst hj;exact hk _ k.gh.symm
theorem Dk.over (k:Dk S w g h c W cw bs ws left off){cur:Array Value}(hrow:w.heap[h]?=some (.cells cur 5 (0,0))) (hsz:cur.size=c) (htake:cur.toList.take bs.length=bs.map bv) (off':Nat) (cs:List UInt8) (hfit:off'+cs.length<=bs.length):
 Dk S (w.setRow h (cur.toList.take off'++(cs.map bv++cur.toList.drop (off'+(cs.map bv).length))).toArray) g h c W cw (lay bs off' cs) ws left off:=by
 have hle:=k.cap.1;have hlen:=acj bs off' cs hfit;have hk:∀j,j≠h->(w.setRow h (cur.toList.take off'++(cs.map bv++cur.toList.drop (off'+(cs.map bv).length))).toArray).heap[j]?=w.heap[j]?:=fun j hj=>setRow_other w h j _ hj;refine⟨?_,⟨?_, .inr ⟨h,c,_,by rw[hlen],Nat.zero_le _,setRow_heap w h _ _ _ _ hrow,by omega,k.cap.2,?_,?_⟩⟩,aaV k.wai fun j hj=> ?_,fun x hx=> ?_,k.sg,k.sh,k.sw,k.sx⟩
 · rw[hk g k.gh,hlen];exact k.obj
 · simp
 · simp;omega
 · rw[Nat.mul_one,hlen,List.toList_toArray];have e1:cur.toList=bs.map bv++cur.toList.drop bs.length:=by rw[<-htake,List.take_append_drop]
   have e2:bs.length=(bs.map bv).length:=by simp
   rw[e1,e2];rw[aiX (bs.map bv) _ off' (cs.map bv) (by simpa using hfit)];simp[lay]
 · rcases W with _ | a
   · cases hj
   · injection hj with hj;subst hj;exact hk _ (k.wg rfl).2.1
 · obtain⟨h1,h2,h3,h4⟩:=k.row x hx;exact⟨by omega,h2,h3,h4.keep (hk _ h2)⟩
theorem Dk.curs (k:Dk S w g h c W cw bs ws left off):∃cur:Array Value,w.heap[h]?=some (.cells cur 5 (0,0))/\cur.size=c/\cur.toList.take bs.length=bs.map bv:=by
 rcases k.own.2 with⟨h',_⟩ | ⟨g',cap,cur,h',_,hh,_,_,hs,ht⟩
 · cases h'
 · injection h' with e1 e2 e3;injection e1 with e1;injection e1 with e1;subst e1 e3;exact⟨cur,hh,by simpa using hs,by simpa using ht⟩
theorem Dk.at_ (k:Dk S w g h c W cw bs ws left off){i:Nat}{x:Wr}(hx:ws[i]?=some x):∃gw,W=some ⟨gw,0,none⟩/\w.cell? ⟨gw,i*2,none⟩=some (.int .i64 (x.s:Int))/\w.cell? ⟨gw,i*2+1,none⟩=some (.slice (some ⟨x.b,0,none⟩) 512 x.c):=by
 have hi:i<ws.length:=by
  rcases Nat.lt_or_ge i ws.length with h | h
  · exact h
  · rw[List.getElem?_eq_none h]at hx;cases hx
 obtain⟨f1,f2⟩:=aii ws i x hx;have hw:=k.wai;rcases W with _ | a
 · rcases hw.2 with⟨_,h0⟩ | ⟨_,_,_,h',_⟩
   · omega
   · injection h' with e;cases e
 · obtain⟨gw,rfl,_⟩:=acK hw;exact⟨gw,rfl,by rw[hw.cellAt _ (by omega)];exact f1,by rw[hw.cellAt _ (by omega)];exact f2⟩
end
theorem akm{k:IntKind}{a b:Int}(h:a=b):Ending.returned (.int k a)= .returned (.int k b):=by rw[h]
theorem as9{a b:Bool}(h:a=b):Ending.returned (.bool a)= .returned (.bool b):=by rw[h]
theorem asx{A:Option Addr}{a b c:Nat}(h:a=b):Ending.returned (.slice A a c)= .returned (.slice A b c):=by rw[h]
section
variable {S:Nat->Prop} {w:World} {g h c:Nat} {W:Option Addr} {cw:Nat} {bs:List UInt8} {ws:List Wr} {left:Int} {off:Bool}
theorem aeb (k:Dk S w g h c W cw bs ws left off) (hl:bs.length<=100000):
 Calls Tryz.prog 120 #[.pointer (some ⟨g,0,none⟩)] w fun e w'=>e= .returned (.int .i64 ((bs.length/512:Nat):Int))/\w=w':=by
 have c0:=k.c0;go_enter Tryz.func120,Tryz.ntmps120
 go_wp2
 go_ret
 exact⟨akm (by omega),rfl⟩
theorem ame (k:Dk S w g h c W cw bs ws left off) (hl:bs.length<=100000):
 Calls Tryz.prog 22 #[.pointer (some ⟨g,0,none⟩)] w fun e w'=>aeT bs w e w':=by
 have c0:=k.c0;have HC:=hE0 (aby (some ⟨h,0,none⟩) c w.heap.size bs w k.reads (Nat.le_refl _) (fun e=>by cases e) (by omega));go_enter Tryz.func22,Tryz.ntmps22
 go_wp2_with fail
 refine HC.out.mono ?_;rintro e w1 ⟨A',c',rfl,ho,hb⟩;have HO:=hE0 ho;clear ho;go_wp2
 go_ret
 exact⟨A',c',rfl,HO.out,hb⟩
theorem ae4 (k:Dk S w g h c W cw bs ws left off) (hl:bs.length<=100000) (i:Nat) (hi:i*512+512<=bs.length):
 Calls Tryz.prog 214 #[.pointer (some ⟨g,0,none⟩), .int .i64 (i:Int)] w fun e w'=>e= .returned (.bool true)/\w=w':=by
 have HS:=hE0 (aeb k hl);obtain⟨n,hn⟩:=nmE (bs.length/512);rw[hn]at HS;have hin:i<n:=by omega
 clear hn;go_enter Tryz.func214,Tryz.ntmps214
 go_wp2_with fail
 refine HS.out.mono ?_;rintro e w1 ⟨rfl,rfl⟩;go_wp2
 go_ret
 exact⟨rfl,rfl⟩
theorem afO (k:Dk S w g h c W cw bs ws left off) (_hl:bs.length<=100000) (i:Nat) (hi:i*512+512<=bs.length):
 Calls Tryz.prog 131 #[.pointer (some ⟨g,0,none⟩), .int .i64 (i:Int)] w fun e w'=>e= .returned (.slice (some ⟨h,i*512,none⟩) 512 (c-i*512))/\w=w':=by
 have c0:=k.c0;obtain⟨hc1,hc2⟩:=k.cap;unfold maxLen at hc2;have hne:¬c=i*512:=by omega
 go_enter Tryz.func131,Tryz.ntmps131
 go_wp2
 go_ret
 exact⟨asx (by omega),rfl⟩
theorem amf (k:Dk S w g h c W cw bs ws left off) (hl:bs.length<=100000) (s b cb:Nat) (d:List UInt8) (hd:d.length=512) (hs:s*512+512<=bs.length) (hf:Fil w b d):
 Calls Tryz.prog 74 #[.pointer (some ⟨g,0,none⟩), .agg #[.int .i64 (s:Int), .slice (some ⟨b,0,none⟩) 512 cb]] w fun e w'=>e= .returned (.tuple #[])/\Dk S w' g h c W cw (lay bs (s*512) d) ws left off/\Tch (fun j=>j=h) w w':=by
 obtain⟨hc1,hc2⟩:=k.cap;unfold maxLen at hc2;obtain⟨w0,hw0⟩:=nmE ((w.alloc (.cells #[.int .i64 (s:Int), .slice (some ⟨b,0,none⟩) 512 cb] 137)).drew);have hb0:Below w.heap.size w w0:=by rw[<-hw0];exact((Below.refl _ _).alloc (Nat.le_refl _) _).drew
 have d0:w0.heap[w.heap.size]?=some (.cells #[.int .i64 (s:Int), .slice (some ⟨b,0,none⟩) 512 cb] 137 (0,0)):=by rw[<-hw0];exact heap_alloc_new w _
 have k0:=k.below hb0;have f0:=hf.keep (hb0.block b hf.lt);have HST:=hE0 (afO k0 hl s hs);obtain⟨cur,hrow,hsz,htake⟩:=k0.curs;have HF:=hE0 (k0.over hrow hsz htake (s*512) d (by omega));have HSRC:=hE0 (acJ f0.reads);have HN:Hid ((d.map bv).length=Nat.min 512 512):=(show _=_ by rw[List.length_map,hd];rfl);have HFIT:Hid (s*512+(d.map bv).length<=cur.size):=(show _<=_ by rw[List.length_map];omega);have HROW:=hE0 hrow;have HT:Hid (Tch (fun j=>j=h) w (w0.setRow h (cur.toList.take (s*512)++(d.map bv++cur.toList.drop (s*512+(d.map bv).length))).toArray)):=
  (Tch.of_below (S:=fun j=>j=h) hb0).trans (S':=fun j=>j=h) ⟨rfl,rfl,rfl,by simp[World.setRow],fun j _ hj=>setRow_other w0 h j _ hj⟩ (fun _ _ h=>h)
 have e0:=cell_of_row w0 w.heap.size 0 _ _ (0,0) d0;have e1:=cell_of_row w0 w.heap.size 1 _ _ (0,0) d0;simp only[List.getElem?_toArray,List.getElem?_cons_zero,List.getElem?_cons_succ]at e0 e1;have hlt0:w.heap.size<w0.heap.size:=aan d0;have HW0:=hE0 hw0;have Hb:=hE0 hd;clear hw0 hb0 d0 k0 f0 hrow hsz htake hf k hd;go_enter Tryz.func74,Tryz.ntmps74
 go_wp2_with fail
 refine aad w0.heap.size [([0,1,2,4,5],3)] [] [6] (by kernel_rfl) (by kernel_rfl) (by kernel_rfl) (fun _ _ _ _ _ h=>h) ?_;rw[HW0.out];have q0:∀x:LaterB w0.heap.size w0,x.val.cell? ⟨w.heap.size,0,none⟩=some (.int .i64 (s:Int)):=fun x=>(x.ext.cell (p:=⟨w.heap.size,0,none⟩) hlt0).trans e0;have q1:∀x:LaterB w0.heap.size w0,x.val.cell? ⟨w.heap.size,1,none⟩=some (.slice (some ⟨b,0,none⟩) 512 cb):=fun x=>(x.ext.cell (p:=⟨w.heap.size,1,none⟩) hlt0).trans e1;refine tail_cons (l:= ?seg1) ?hseg1 ?_
 case hseg1=>simp only[pick,lE1,lE2,lE3];rfl
 repeat (go_big_quiet_step (fail))
 refine wpQuiet_nil ?_;clear q0 q1;refine aaf (vs:= #[.pointer (some ⟨g,0,none⟩), .int .i64 (s:Int)]) Tryz.call131 rfl rfl rfl (R:=fun r w'=>r= .slice (some ⟨h,s*512,none⟩) 512 (c-s*512)/\w'=w0) (HST.out.mono ?_) w0.heap.size (Nat.le_refl _) ?_
 · rintro e w' ⟨rfl,rfl⟩;exact⟨_,rfl,Below.refl _ _,rfl,rfl⟩
 rintro r w1 _ ⟨rfl,rfl⟩;refine aam (l:= ?la1) (t:= ?tl1) ?hla1 ?htl1 ?_
 case hla1=>rfl
 case htl1=>simp only[pick,lE1,lE2,lE3];rfl
 refine wpQuiet_nil ?_;simp only[Act.put,lE4,lE5,lE6];refine wpList_copy_own rfl (.tmp 7) (.tmp 9) 37 37 rfl 5 Tryz.underlying37 (by kernel_rfl) h (s*512) 512 (c-s*512) ⟨b,0,none⟩ 512 cb ?cc1 ?cc2 cur 5 HROW.out (d.map bv) HN.out HSRC.out HFIT.out (adX d) ?_
 case cc1=>rfl
 case cc2=>rfl
 generalize w1.setRow h _=w2 at HF HT ⊢;go_wp2
 go_end0
 exact⟨rfl,HF.out,HT.out⟩
end
theorem agy (w:World) (n:Nat) (h1:2<=n) (h2:n<=128):
 Calls Tryz.prog 38 #[.int .i64 (n:Int)] w fun e w'=>e= .returned (.bool true)/\w=w':=by
 go_enter Tryz.func38,Tryz.ntmps38
 go_wp2
 go_ret
 exact⟨as9 (decide_eq_true (by omega)),rfl⟩
theorem apL (w:World) (n:Nat) (h1:2<=n) (h2:n<=128):
 Calls Tryz.prog 6 #[.int .i64 (n:Int)] w fun e w'=>e= .returned (.pointer (some ⟨w.heap.size+1,0,none⟩))/\Dk (abj (fun _=>False) w w') w' (w.heap.size+1) w.heap.size (n*512) none 0 (List.replicate (n*512) 0) [] (-1) false/\Below w.heap.size w w':=by
 have HM:=hE0 (agy w n h1 h2);have hmk:=fun W=>run_make_row' (P:=Tryz.prog) 37 5 (.int .u8 0) 1 Tryz.underlying37 aca rfl .i64 .i64 (n*512) (by omega) (by omega) W;have hc:((n*512:Nat):Int)=(n:Int)*512:=by omega
 rw[hc]at hmk;clear hc;go_enter Tryz.func6,Tryz.ntmps6
 go_wp2_with fail
 refine HM.out.mono ?_;rintro e w1 ⟨rfl,rfl⟩;go_wp2
 clear hmk;rw[abI];go_ret
 refine⟨rfl,⟨?_,?_,World.ownsRow_nil _ _ _ _,(fun x hx=>by cases hx), .inr ?_, .inr ?_,(fun a e=>by cases e),(fun x hx=>by cases hx)⟩,?_⟩
 · rw[List.length_replicate];simpa using heap_alloc_new (w.alloc (.cells (rowB (List.replicate (n*512) 0)) 5)) (.cells #[.slice (some ⟨w.heap.size,0,none⟩) (n*512) (n*512), .slice none 0 0, .int .i64 (-1), .bool false] 88)
 · have hr:=World.ownsRow_lit (base:=0) (e:=5) (size:=1) w (rowB (List.replicate (n*512) 0)) (n*512) (Nat.zero_le _) (by unfold maxLen;omega) (by rw[adW];simp);rw[List.length_replicate];have e:(rowB (List.replicate (n*512) 0)).toList=(List.replicate (n*512) (0:UInt8)).map bv:=by simp[rowB]
   rw[e]at hr;exact aax hr ((Below.refl _ _).alloc (Nat.le_refl _) _)
 · simp
 · simp;omega
 · exact((Below.refl _ _).alloc (Nat.le_refl _) _).alloc (by simp) _
theorem an0:(Tryz.prog.info? 137).map (fun i=>(i.zero,i.size,i.bytes))=some (some (.agg #[.int .i64 0, .slice none 0 0]),2,32):=by kernel_rfl
theorem an1 (w:World) (s:Int) (A:Option Addr) (n c:Nat):(Instr.buildSlice 86 1 #[(0, .agg #[.int .i64 s, .slice A n c])]).run Tryz.prog w= .ok (.slice (some ⟨w.heap.size,0,none⟩) 1 1) (w.alloc (.cells #[.int .i64 s, .slice A n c] 137)):=by
 obtain⟨i0,hi,hz0,hz1,hz2⟩:=info_parts an0;refine run_buildSlice w 86 137 1 _ _ i0 _ Tryz.underlying86 hi hz0 (by omega) (by omega) ?_;rw[hz1];have e:Array.range (1*2)= #[0,1]:=by decide
 rw[e];simp[Instr.fill,Value.cells]
section
variable {S:Nat->Prop} {w w3 w4:World} {g h c:Nat} {W:Option Addr} {cw:Nat} {bs:List UInt8} {ws:List Wr} {left:Int} {off:Bool}
theorem Dk.pushed (k:Dk S w g h c W cw bs ws left off) (hb:Below w.heap.size w w3) (x:Wr) (hx1:x.s*512+512<=bs.length) (hx2:w.heap.size<=x.b) (hx3:x.d.length=512) (hx4:Fil w3 x.b x.d) (v:Value)
 (hown:w4.ownsRow 0 137 2 v (ws.length+1) (ag6 (ws++ [x]))) (hgr:w3.grownBy w4 (Value.slice W ws.length cw).ownBlock) (hat:v.ownBlock=(Value.slice W ws.length cw).ownBlock\/v.ownBlock=some w3.heap.size):
 w4.cell? ⟨g,1,none⟩=some (.slice W ws.length cw)/\w4.frozen? ⟨g,1,none⟩=false/\∃W' cw',v= .slice W' (ws.length+1) cw'/\Dk (abj S w (w4.setCell ⟨g,1,none⟩ v)) (w4.setCell ⟨g,1,none⟩ v) g h c W' cw' bs (ws++ [x]) left off/\Tch S w (w4.setCell ⟨g,1,none⟩ v):=by
 have k3:=k.below hb;have hne:∀j,j<w3.heap.size->(∀a,W=some a->j≠a.block)->w4.heap[j]?=w3.heap[j]?:=fun j hj hn=>hgr.block j hj (fun e=>by
  rcases W with _ | a
  · simp[Value.ownBlock]at e
  · simp[Value.ownBlock]at e;exact hn a rfl e)
 have hg4:w4.heap[g]?=w3.heap[g]?:=hne g k3.lt (fun a e=>(k3.wg e).1.symm);have hs4:(w4.setCell ⟨g,1,none⟩ v).heap.size=w4.heap.size:=by simp[World.setCell]
 have hoth:∀j,j≠g->(w4.setCell ⟨g,1,none⟩ v).heap[j]?=w4.heap[j]?:=fun j hj=>Below.heap_setCell _ _ _ _ hj;obtain⟨gw,cw',cur,hv,_,hrow,_⟩:∃g' cap cur,v= .slice (some ⟨g',0,none⟩) (ws.length+1) cap/\0<=g'/\w4.heap[g']?=some (.cells cur 137 (0,0))/\ws.length+1<=cap:=by
  rcases hown.2 with⟨_,h0⟩ | ⟨g',cap,cur,h1,h2,h3,h4,_⟩
  · omega
  · exact⟨g',cap,cur,h1,h2,h3,h4⟩
 have hgwlt:=aan hrow;have hgwg:gw≠g:=abF hrow (hg4.trans k3.obj) (by decide);subst hv;refine⟨(World.cell?_of_block (a:=⟨g,1,none⟩) hg4).trans k3.c1,(World.frozen?_of_block (a:=⟨g,1,none⟩) hg4).trans (k3.thaw 1),some ⟨gw,0,none⟩,cw',rfl,⟨?_,?_,?_,?_, .inl k.sg, .inl k.sh,?_,?_⟩,?_⟩
 · rw[heap_setCell_same w4 g 1 _ _ _ (hg4.trans k3.obj),List.length_append];rfl
 · refine aaV k3.own fun j hj=> ?_;injection hj with hj;subst hj;rw[hoth _ k3.gh.symm];exact hne _ k3.hlt (fun a e=>(k3.wg e).2.1.symm)
 · rw[List.length_append];refine aaV hown fun j hj=> ?_;injection hj with hj;subst hj;exact hoth _ hgwg
 · intro y hy;rcases List.mem_append.1 hy with hy | hy
   · obtain⟨h1,h2,h3,h4⟩:=k3.row y hy;refine⟨h1,h2,h3,h4.keep ?_⟩;rw[hoth _ (k3.xg hy)];exact hne _ (k3.xlt hy) (fun a e=>(k3.wg e).2.2 y hy)
   · obtain rfl:y=x:=by simpa using hy
     have hlt:=hx4.lt;have hyg:y.b≠g:=fun e=>by have:=k.lt;omega
     refine⟨hx1,fun e=>by have:=k.hlt;omega,hx3,hx4.keep ?_⟩;rw[hoth _ hyg];refine hne _ hlt (fun a e=> ?_);have:=k.wlt e;omega
 · intro a e;injection e with e;subst e;show abj S w _ gw;rcases hat with h1 | h1
   · left;rcases W with _ | a
     · simp[Value.ownBlock]at h1
     · simp[Value.ownBlock]at h1;rw[h1];exact k.sw a rfl
   · right;simp[Value.ownBlock]at h1;rw[hs4,h1];exact⟨hb.size,by omega⟩
 · intro y hy;rcases List.mem_append.1 hy with hy | hy
   · exact .inl (k.sx y hy)
   · obtain rfl:y=x:=by simpa using hy
     right;rw[hs4];have:=hx4.lt;have:=hgr.size;exact⟨hx2,by omega⟩
 · refine((Tch.of_below (S:=S) hb).trans (Tch.grown (S:=S) hgr fun j hj=> ?_) (fun _ _ h=>h)).trans (Tch.set (S:=S) w4 ⟨g,1,none⟩ _ k.sg) (fun _ _ h=>h);rcases W with _ | a
   · simp[Value.ownBlock]at hj
   · simp[Value.ownBlock]at hj;rw[<-hj];exact k.sw a rfl
theorem amg (k:Dk S w g h c W cw bs ws left false) (hl:bs.length<=100000) (hws:ws.length<=1000000) (hleft:left<0) (i:Nat) (hi:i*512+512<=bs.length) (A:Option Addr) (cA:Nat) (d:List UInt8) (hd:d.length=512) (hr:Rd w w.heap.size A 512 d):
 Calls Tryz.prog 221 #[.pointer (some ⟨g,0,none⟩), .int .i64 (i:Int), .slice A 512 cA] w fun e w'=>e= .returned .nilIface/\(∃W' cw' b cb,Dk (abj S w w') w' g h c W' cw' bs (ws++ [⟨i,b,cb,d⟩]) left false)/\Tch S w w':=by
 have hA:A=none->cA=0:=fun e=>by
  obtain⟨_,_,e1,_⟩:=hr.2 (by omega);rw[e]at e1;cases e1
 have HH:=hE0 (ae4 k hl i hi);have c2:=k.c2;have c3:=k.c3;have hle0:(left==0)=false:=by rw[beq_eq_false_iff_ne];omega
 obtain⟨w0,hw0⟩:=nmE w.drew;have k0:Dk S w0 g h c W cw bs ws left false:=by rw[<-hw0];exact k.drew
 have hsz0:w0.heap.size=w.heap.size:=by rw[<-hw0];rfl
 have r0:Rd w0 w0.heap.size A d.length d:=by rw[hd,hsz0,<-hw0];exact hr.drew
 have hb0:=adE hw0;have HC:=aby A cA w0.heap.size d w0 r0 (Nat.le_refl _) hA (by omega);rw[hd]at HC;have HC:=hE0 HC;have K0:=hE0 k0;have HW0:=hE0 hw0;have HB0:=hE0 hb0;have HD:=hE0 hd;have HSZ:=hE0 hsz0;clear hw0 k0 r0 hb0 hd k hr hA hsz0;go_enter Tryz.func221,Tryz.ntmps221
 go_wp2_with fail
 refine HH.out.mono ?_;rintro e w1 ⟨rfl,rfl⟩;go_wp2_with fail
 refine aad w0.heap.size [([0,1,2,3,4,5,6],7),([8],9)] [] [10,11,12,13] (by kernel_rfl) (by kernel_rfl) (by kernel_rfl) (fun _ _ _ _ _ h=>h) ?_;rw[HW0.out];clear c2 c3 hle0;have q0:∀x:LaterB w0.heap.size w0,x.val.cell? ⟨g,1,none⟩=some (.slice W ws.length cw):=fun x=>(x.ext.cell (p:=⟨g,1,none⟩) K0.out.lt).trans K0.out.c1;refine tail_cons (l:= ?seg1) ?hseg1 ?_
 case hseg1=>simp only[pick,lE1,lE2,lE3];rfl
 repeat (go_big_quiet_step (fail))
 refine wpQuiet_nil ?_;clear q0;refine aaf (vs:= #[.slice A 512 cA]) Tryz.call70 rfl rfl rfl (R:=fun r w'=>∃b cb,r= .slice (some ⟨b,0,none⟩) 512 cb/\w0.heap.size<=b/\Fil w' b d) (HC.out.mono ?_) w0.heap.size (Nat.le_refl _) ?_
 · rintro e w' ⟨A',c',rfl,ho,hb⟩;rw[HD.out]at ho;obtain⟨b,cb,e1,_,_⟩:=aeS ho (by omega);injection e1 with e1 _ e3;subst e1 e3;exact⟨_,by rw[HD.out],hb,b,c',rfl,(ho.lt b rfl).1,Fil.of_own ho⟩
 rintro r w1 hb1 ⟨b,cb,rfl,hbb,hfil⟩;refine tail_cons (l:= ?seg2) ?hseg2 ?_
 case hseg2=>simp only[pick,lE1,lE2,lE3];rfl
 simp only[Act.put,lE4,lE5,lE6];repeat (go_big_quiet_step (fail))
 refine wpQuiet_nil ?_;obtain⟨w3,hw3⟩:=nmE (w1.alloc (.cells #[.int .i64 (i:Int), .slice (some ⟨b,0,none⟩) 512 cb] 137));have hro:=an1 w1 (i:Int) (some ⟨b,0,none⟩) 512 cb;rw[hw3]at hro;have hb13:=abE hw3;have hn3:=anE hw3;have hb3:Below w0.heap.size w0 w3:=hb1.trans (hb13.mono hb1.size);refine ak4 (w1:=w3) (v:= .slice (some ⟨w1.heap.size,0,none⟩) 1 1) rfl rfl ?rv1 (hb13.mono hb1.size) ?_
 case rv1=>exact aah rfl rfl hro
 refine⟨w0.heap.size,Nat.le_refl _,?_⟩;refine aam (l:= ?la3) (t:= ?tl3) ?hla3 ?htl3 ?_
 case hla3=>rfl
 case htl3=>simp only[pick,lE1,lE2,lE3];rfl
 refine wpQuiet_nil ?_;simp only[Act.put,List.setIfInBounds_toArray];obtain⟨i0,hi0,hz0,hz1,hz2⟩:=info_parts an0;have hwcap:=K0.out.wcap;have hnew:∀j u,[Value.int .i64 (i:Int), .slice (some ⟨b,0,none⟩) 512 cb][j]?=some u->w3.cell? ((⟨w1.heap.size,0,none⟩:Addr).add j)=some u:=by
  intro j u hu;have e:(⟨w1.heap.size,0,none⟩:Addr).add j=⟨w1.heap.size,j,none⟩:=by unfold Addr.add;split<;>simp_all
  rw[e,cell_of_row w3 _ j _ _ (0,0) hn3];simpa using hu
 have hone:∀u∈ [Value.int .i64 (i:Int), .slice (some ⟨b,0,none⟩) 512 cb],u.oneCell'=true:=by
  intro u hu;simp at hu;rcases hu with rfl | rfl<;>rfl
 have k3:=K0.out.below hb3;refine wpList_append_own_at w3 rfl (.tmp 46) (.tmp 51) 86 rfl 0 137 i0 _ 2 32 Tryz.underlying86 hi0 hz0 hz1 hz2 rfl (by decide) (.slice W ws.length cw) ws.length (ag6 ws) rfl k3.wai ⟨w1.heap.size,0,none⟩ 1 1 _ rfl rfl hnew hone (by unfold maxLen;omega) (by omega) (Nat.zero_le _) ?_;intro v4 w4 own4 gr4 _ at4;have own4':w4.ownsRow 0 137 2 v4 (ws.length+1) (ag6 (ws++ [⟨i,b,cb,d⟩])):=by rw[adK];exact own4
 obtain⟨p1,p2,W',cw',rfl,p3,p4⟩:=K0.out.pushed hb3 ⟨i,b,cb,d⟩ hi hbb HD.out (hfil.keep (hb13.block b hfil.lt)) v4 own4' gr4 at4;have P3:=hE0 p3;have P4:=hE0 p4;clear p3 p4 own4 own4' gr4 at4 k3 hone hnew hi0 hz0 hz1 hz2 hn3 hro hw3;go_wp2
 go_ret
 refine⟨rfl,⟨W',cw',b,cb,P3.out.more fun j hj=> ?_⟩,(Tch.of_below (S:=S) HB0.out).trans P4.out (fun _ _ h=>h)⟩;rcases(P3.out.foot hj).1 with h1 | h1
 · exact .inl h1
 · exact .inr ⟨HSZ.out▸h1.1,h1.2⟩
end
def adL (bs:List UInt8) (x:Nat × List UInt8):List UInt8:=lay bs (x.1*512) x.2
def aeB (bs:List UInt8) (l:List (Nat × List UInt8)):List UInt8:=l.foldl adL bs
def am4 (n:Nat) (l:List (Nat × List UInt8)):Prop:=∀x∈l,x.1*512+512<=n/\x.2.length=512
theorem ag7 (bs:List UInt8) (x:Nat × List UInt8) (h:x.1*512+512<=bs.length) (h2:x.2.length=512):(adL bs x).length=bs.length:=acj _ _ _ (by omega)
theorem ab8:∀(l:List (Nat × List UInt8)) (bs:List UInt8),am4 bs.length l->(aeB bs l).length=bs.length
 | [],_,_=>rfl
 | x::r,bs,h=>by
  have hx:=h x (by simp);have e:=ag7 bs x hx.1 hx.2;have:=ab8 r (adL bs x) (fun y hy=>by rw[e];exact h y (by simp[hy]));rw[e]at this;exact this
theorem ahv (bs:List UInt8) (l:List (Nat × List UInt8)) (x:Nat × List UInt8):aeB bs (l++ [x])=adL (aeB bs l) x:=by simp[aeB]
section
variable {S:Nat->Prop} {w:World} {g h c:Nat} {W:Option Addr} {cw:Nat} {bs:List UInt8} {ws:List Wr} {left:Int} {off:Bool}
theorem Dk.fits (k:Dk S w g h c W cw bs ws left off):am4 bs.length (ws.map Wr.two):=by
 intro x hx;obtain⟨y,hy,rfl⟩:=List.mem_map.1 hx;exact⟨(k.row y hy).1,(k.row y hy).2.2.1⟩
theorem an2 (k:Dk S w g h c W cw bs ws left false) (hl:bs.length<=100000):
 Calls Tryz.prog 176 #[.pointer (some ⟨g,0,none⟩)] w fun e w'=>e= .returned .nilIface/\Dk S w' g h c none 0 (aeB bs (ws.map Wr.two)) [] left false/\Tch S w w':=by
 have c1:=k.c1;have c3:=k.c3;have hwc:=k.wcap;unfold maxLen at hwc;go_enter Tryz.func176,Tryz.ntmps176
 go_wp2
 clear c1 c3;go_loopw [15] (fun i wr=>∃j:Nat,j<=ws.length/\i= .int .i64 j/\Dk S wr g h c W cw (aeB bs ((ws.take j).map Wr.two)) ws left false/\Tch S w wr) (fun i _=>ws.length-(intOf i).toNat)
 case atStart=>exact⟨0,Nat.zero_le _,rfl,k,Tch.refl _ _⟩
 case round=>
  obtain⟨j,hj,rfl,kr,ht⟩:=hrel;by_cases hlt:j<ws.length
  · obtain⟨x,hx⟩:∃x,ws[j]?=some x:=⟨ws[j],List.getElem?_eq_getElem hlt⟩;obtain⟨gw,rfl,d0,d1⟩:=kr.at_ hx;have hxm:x∈ws:=List.mem_of_getElem? hx;obtain⟨x1,x2,x3,x4⟩:=kr.row x hxm;obtain⟨w1,hw1⟩:=nmE (wr.alloc (.cells #[.int .i64 (x.s:Int), .slice (some ⟨x.b,0,none⟩) 512 x.c] 137));have hb1:=abE hw1;have k1:=kr.below hb1;have hlen:=ab8 ((ws.take j).map Wr.two) bs (fun y hy=>k.fits y (by rw[List.map_take]at hy;exact List.mem_of_mem_take hy));have HS:=hE0 (amf k1 (by omega) x.s x.b x.c x.d x3 x1 (x4.keep (hb1.block _ x4.lt)));have E:Hid (lay (aeB bs ((ws.take j).map Wr.two)) (x.s*512) x.d=aeB bs ((ws.take (j+1)).map Wr.two)):=(show _=_ by
     rw[List.take_add_one,hx,List.map_append,Option.toList_some,List.map_cons,List.map_nil,ahv];rfl)
    have HT:=hE0 (ht.trans (Tch.of_below (S:=S) hb1) (fun _ _ h=>h));have HSH:=hE0 k.sh;have HW1:=hE0 hw1;clear hx x1 x2 x3 x4 k1 hb1 hw1 ht kr hlen k;go_wp2_with fail
    rw[HW1.out];refine HS.out.mono ?_;rintro e w2 ⟨rfl,k2,t2⟩;rw[E.out]at k2;have K2:=hE0 k2;have T2:=hE0 (HT.out.trans t2 (fun i _ hi=>by rw[hi];exact HSH.out));clear k2 t2 E HS HT d0 d1;go_wp2
    go_roundw
    case rel=>exact⟨j+1,by omega,by go_num,K2.out,T2.out⟩
    case measure=>simp[intOf];omega
  · obtain rfl:j=ws.length:=by omega
    rw[List.take_length]at kr;have c1:=kr.c1;have f1:=kr.thaw 1;have K2:=hE0 kr.none_;have T2:=hE0 (ht.trans (Tch.set (S:=S) wr ⟨g,1,none⟩ (.slice none 0 0) kr.sg) (fun _ _ h=>h));clear kr ht k;go_wp2
    go_ret
    exact⟨rfl,K2.out,T2.out⟩
end
section
variable {S:Nat->Prop} {w w':World} {g h c:Nat} {W:Option Addr} {cw:Nat} {bs:List UInt8} {ws:List Wr} {left:Int} {off:Bool} {K:Option Addr} {ck:Nat} {kb:List Bool}
end
def aa7 (bs:List UInt8) (l:List (Nat × List UInt8)) (i:Nat):List UInt8:=match l.reverse.find? (fun x=>x.1==i)with
 | some x=>x.2
 | none=>(bs.drop (i*512)).take 512
theorem apM (bs:List UInt8) (l:List (Nat × List UInt8)) (i j:Nat) (x:Nat × List UInt8) (hx:l[j]?=some x) (he:x.1=i) (hn:∀y∈l.drop (j+1),y.1≠i):aa7 bs l i=x.2:=by
 have hj:j<l.length:=by
  rcases Nat.lt_or_ge j l.length with h | h
  · exact h
  · rw[List.getElem?_eq_none h]at hx;cases hx
 have e:l.reverse=(l.drop (j+1)).reverse++x::(l.take j).reverse:=by
  rw[List.getElem?_eq_getElem hj]at hx;injection hx with hx;subst hx;conv=>lhs;rw[<-List.take_append_drop (j+1) l]
  rw[List.reverse_append,List.take_succ_eq_append_getElem hj,List.reverse_append];rfl
 have hf:(l.drop (j+1)).reverse.find? (fun x=>x.1==i)=none:=by
  rw[List.find?_eq_none];intro y hy;have:=hn y (by simpa using hy);simpa using this
 unfold aa7;rw[e,List.find?_append,hf,Option.none_or,List.find?_cons_of_pos (by simpa using he)]
theorem afw (bs:List UInt8) (l:List (Nat × List UInt8)) (i:Nat) (hn:∀y∈l,y.1≠i):aa7 bs l i=(bs.drop (i*512)).take 512:=by
 have hf:l.reverse.find? (fun x=>x.1==i)=none:=by
  rw[List.find?_eq_none];intro y hy;have:=hn y (by simpa using hy);simpa using this
 unfold aa7;rw[hf]
def apN (bs:List UInt8) (w:World) (e:Ending) (w':World):Prop:=∃b o c',e= .returned (.slice (some ⟨b,o,none⟩) 512 c')/\Rd w w.heap.size (some ⟨b,o,none⟩) 512 bs/\w=w'
section
variable {S:Nat->Prop} {w:World} {g h c:Nat} {W:Option Addr} {cw:Nat} {bs:List UInt8} {ws:List Wr} {left:Int} {off:Bool}
theorem apO (k:Dk S w g h c W cw bs ws left off) (hl:bs.length<=100000) (i:Nat) (hi:i*512+512<=bs.length):
 Calls Tryz.prog 215 #[.pointer (some ⟨g,0,none⟩), .int .i64 (i:Int)] w fun e w'=>apN (aa7 bs (ws.map Wr.two) i) w e w':=by
 have c1:=k.c1;have hwc:=k.wcap;unfold maxLen at hwc;have HST:=hE0 (afO k hl i hi);go_enter Tryz.func215,Tryz.ntmps215
 go_wp2
 go_loop [5] (fun t=>∃j:Nat,j<=ws.length/\t= .int .i64 ((j:Int)-1)/\∀y∈(ws.map Wr.two).drop j,y.1≠i) (fun t=>(intOf t+1).toNat)
 case atStart=>exact⟨ws.length,Nat.le_refl _,rfl,by rw[List.drop_of_length_le (by simp)];intro y hy;cases hy⟩
 case round=>
  obtain⟨j,hj,rfl,hn⟩:=hrel;rcases j with _ | j
  · have hn2:=afw bs (ws.map Wr.two) i (by simpa using hn);have hrd:=k.reads.sub (i*512) 512 hi;rw[<-hn2,Nat.zero_add]at hrd;have HRD:=hE0 hrd;clear hn hn2 hrd k;go_wp2_with fail
    refine HST.out.mono ?_;rintro e w1 ⟨rfl,rfl⟩;go_wp2
    go_ret
    exact⟨h,i*512,_,rfl,HRD.out,rfl⟩
  · obtain⟨x,hx⟩:∃x,ws[j]?=some x:=⟨ws[j],List.getElem?_eq_getElem (by omega)⟩;obtain⟨gw,rfl,d0,d1⟩:=k.at_ hx;have hxm:x∈ws:=List.mem_of_getElem? hx;obtain⟨x1,x2,x3,x4⟩:=k.row x hxm;have ej:((j+1:Nat):Int)-1=(j:Int):=by omega
    rw[ej];have hjl:j<ws.length:=by omega
    by_cases hs:x.s=i
    · have hn2:=apM bs (ws.map Wr.two) i j (Wr.two x) (by rw[List.getElem?_map,hx];rfl) hs hn;have hrd:=x4.reads;rw[x3]at hrd;have e:x.d=aa7 bs (ws.map Wr.two) i:=hn2.symm;rw[e]at hrd;have HRD:=hE0 hrd;have hq:((x.s:Int)==(i:Int))=true:=by rw[beq_iff_eq];omega
      clear hn hn2 hrd e k x1 x2 x3 x4 hx ej hs;go_wp2
      go_ret
      exact⟨x.b,0,_,rfl,HRD.out,rfl⟩
    · have hq:((x.s:Int)==(i:Int))=false:=by rw[beq_eq_false_iff_ne];omega
      have hn2:∀y∈(ws.map Wr.two).drop j,y.1≠i:=by
       intro y hy;rw[List.drop_eq_getElem_cons (by simpa using hjl)]at hy;rcases List.mem_cons.1 hy with rfl | hy
       · rw[List.getElem?_eq_getElem hjl]at hx;injection hx with hx;rw[List.getElem_map,hx];exact hs
       · exact hn y hy
      have HN:=hE0 hn2;clear hn hn2 k x1 x2 x3 x4 hx ej hs;go_wp2
      go_round
      case rel=>exact⟨j,by omega,rfl,HN.out⟩
      case measure=>simp[intOf]
theorem alo (k:Dk S w g h c W cw bs ws left false) (hl:bs.length<=100000) (i:Nat) (hi:i*512+512<=bs.length):
 Calls Tryz.prog 164 #[.pointer (some ⟨g,0,none⟩), .int .i64 (i:Int)] w fun e w'=>aqW (aa7 bs (ws.map Wr.two) i) w e w':=by
 have HH:=hE0 (ae4 k hl i hi);have HL:=hE0 (apO k hl i hi);have c3:=k.c3;clear k;obtain⟨ys,hys⟩:=nmE (aa7 bs (ws.map Wr.two) i);rw[hys]at HL ⊢;clear hys;go_enter Tryz.func164,Tryz.ntmps164
 go_wp2_with fail
 refine HH.out.mono ?_;rintro e w1 ⟨rfl,rfl⟩;go_wp2_with fail
 refine HL.out.mono ?_;rintro e w1 ⟨b,o,c',rfl,hr,rfl⟩;have hlen:ys.length=512:=hr.1;have HC:=aby (some ⟨b,o,none⟩) c' w.heap.size ys w (by rw[hlen];exact hr) (Nat.le_refl _) (fun e=>by cases e) (by omega);rw[hlen]at HC;have HC:=hE0 HC;clear hlen hr;go_wp2_with fail
 refine HC.out.mono ?_;rintro e w2 ⟨A',c2,rfl,ho,hb⟩;have HO:=hE0 ho;clear ho;go_wp2
 go_ret2
 exact⟨A',c2,rfl,HO.out,hb⟩
end
section
variable {S:Nat->Prop} {w:World} {g h c:Nat} {W:Option Addr} {cw:Nat} {bs:List UInt8} {ws:List Wr} {left:Int} {off:Bool}
theorem amh (k:Dk S w g h c W cw bs ws left false) (hl:bs.length<=100000) (hws:ws.length<=1000000) (hleft:0<left) (hleft2:left<=9223372036854775807) (i:Nat) (hi:i*512+512<=bs.length) (A:Option Addr) (cA:Nat) (d:List UInt8) (hd:d.length=512) (hr:Rd w w.heap.size A 512 d) (hAg:∀a,A=some a->a.block≠g):
 Calls Tryz.prog 221 #[.pointer (some ⟨g,0,none⟩), .int .i64 (i:Int), .slice A 512 cA] w fun e w'=>e= .returned .nilIface/\(∃W' cw' b cb,Dk (abj S w w') w' g h c W' cw' bs (ws++ [⟨i,b,cb,d⟩]) (left-1) false)/\Tch S w w':=by
 have hA:A=none->cA=0:=fun e=>by
  obtain⟨_,_,e1,_⟩:=hr.2 (by omega);rw[e]at e1;cases e1
 have HH:=hE0 (ae4 k hl i hi);have c2:=k.c2;have c3:=k.c3;have hle0:(left==0)=false:=by rw[beq_eq_false_iff_ne];omega
 have f2:=k.thaw 2;obtain⟨w0,hw0⟩:=nmE ((w.setCell ⟨g,2,none⟩ (.int .i64 (left-1))).drew);have k0:Dk S w0 g h c W cw bs ws (left-1) false:=by rw[<-hw0];exact(k.set2 (left-1)).drew
 have hsz0:w0.heap.size=w.heap.size:=by rw[<-hw0];simp[World.setCell]
 have hb0:Tch (fun j=>j=g) w w0:=by rw[<-hw0];exact(Tch.set (S:=fun j=>j=g) w ⟨g,2,none⟩ _ rfl).drew
 have r0:Rd w0 w0.heap.size A d.length d:=by rw[hd];exact hr.tch hb0 hAg
 have HC:=aby A cA w0.heap.size d w0 r0 (Nat.le_refl _) hA (by omega);rw[hd]at HC;have HC:=hE0 HC;have K0:=hE0 k0;have HW0:=hE0 hw0;have HB0:Hid (Tch S w w0):=⟨hb0.os,hb0.tape,hb0.output,hb0.size,fun j hj hn=>hb0.block j hj (fun e=>hn (by rw[e];exact k.sg))⟩;have HD:=hE0 hd;have HSZ:=hE0 hsz0;clear hw0 k0 r0 hb0 hd k hr hA hsz0 hAg;go_enter Tryz.func221,Tryz.ntmps221
 go_wp2_with fail
 refine HH.out.mono ?_;rintro e w1 ⟨rfl,rfl⟩;go_wp2_with fail
 refine aad w0.heap.size [([0,1,2,3,4,5,6],7),([8],9)] [] [10,11,12,13] (by kernel_rfl) (by kernel_rfl) (by kernel_rfl) (fun _ _ _ _ _ h=>h) ?_;rw[HW0.out];clear c2 c3 hle0 f2;have q0:∀x:LaterB w0.heap.size w0,x.val.cell? ⟨g,1,none⟩=some (.slice W ws.length cw):=fun x=>(x.ext.cell (p:=⟨g,1,none⟩) K0.out.lt).trans K0.out.c1;refine tail_cons (l:= ?seg1) ?hseg1 ?_
 case hseg1=>simp only[pick,lE1,lE2,lE3];rfl
 repeat (go_big_quiet_step (fail))
 refine wpQuiet_nil ?_;clear q0;refine aaf (vs:= #[.slice A 512 cA]) Tryz.call70 rfl rfl rfl (R:=fun r w'=>∃b cb,r= .slice (some ⟨b,0,none⟩) 512 cb/\w0.heap.size<=b/\Fil w' b d) (HC.out.mono ?_) w0.heap.size (Nat.le_refl _) ?_
 · rintro e w' ⟨A',c',rfl,ho,hb⟩;rw[HD.out]at ho;obtain⟨b,cb,e1,_,_⟩:=aeS ho (by omega);injection e1 with e1 _ e3;subst e1 e3;exact⟨_,by rw[HD.out],hb,b,c',rfl,(ho.lt b rfl).1,Fil.of_own ho⟩
 rintro r w1 hb1 ⟨b,cb,rfl,hbb,hfil⟩;refine tail_cons (l:= ?seg2) ?hseg2 ?_
 case hseg2=>simp only[pick,lE1,lE2,lE3];rfl
 simp only[Act.put,lE4,lE5,lE6];repeat (go_big_quiet_step (fail))
 refine wpQuiet_nil ?_;obtain⟨w3,hw3⟩:=nmE (w1.alloc (.cells #[.int .i64 (i:Int), .slice (some ⟨b,0,none⟩) 512 cb] 137));have hro:=an1 w1 (i:Int) (some ⟨b,0,none⟩) 512 cb;rw[hw3]at hro;have hb13:=abE hw3;have hn3:=anE hw3;have hb3:Below w0.heap.size w0 w3:=hb1.trans (hb13.mono hb1.size);refine ak4 (w1:=w3) (v:= .slice (some ⟨w1.heap.size,0,none⟩) 1 1) rfl rfl ?rv1 (hb13.mono hb1.size) ?_
 case rv1=>exact aah rfl rfl hro
 refine⟨w0.heap.size,Nat.le_refl _,?_⟩;refine aam (l:= ?la3) (t:= ?tl3) ?hla3 ?htl3 ?_
 case hla3=>rfl
 case htl3=>simp only[pick,lE1,lE2,lE3];rfl
 refine wpQuiet_nil ?_;simp only[Act.put,List.setIfInBounds_toArray];obtain⟨i0,hi0,hz0,hz1,hz2⟩:=info_parts an0;have hwcap:=K0.out.wcap;have hnew:∀j u,[Value.int .i64 (i:Int), .slice (some ⟨b,0,none⟩) 512 cb][j]?=some u->w3.cell? ((⟨w1.heap.size,0,none⟩:Addr).add j)=some u:=by
  intro j u hu;have e:(⟨w1.heap.size,0,none⟩:Addr).add j=⟨w1.heap.size,j,none⟩:=by unfold Addr.add;split<;>simp_all
  rw[e,cell_of_row w3 _ j _ _ (0,0) hn3];simpa using hu
 have hone:∀u∈ [Value.int .i64 (i:Int), .slice (some ⟨b,0,none⟩) 512 cb],u.oneCell'=true:=by
  intro u hu;simp at hu;rcases hu with rfl | rfl<;>rfl
 have k3:=K0.out.below hb3;refine wpList_append_own_at w3 rfl (.tmp 46) (.tmp 51) 86 rfl 0 137 i0 _ 2 32 Tryz.underlying86 hi0 hz0 hz1 hz2 rfl (by decide) (.slice W ws.length cw) ws.length (ag6 ws) rfl k3.wai ⟨w1.heap.size,0,none⟩ 1 1 _ rfl rfl hnew hone (by unfold maxLen;omega) (by omega) (Nat.zero_le _) ?_;intro v4 w4 own4 gr4 _ at4;have own4':w4.ownsRow 0 137 2 v4 (ws.length+1) (ag6 (ws++ [⟨i,b,cb,d⟩])):=by rw[adK];exact own4
 obtain⟨p1,p2,W',cw',rfl,p3,p4⟩:=K0.out.pushed hb3 ⟨i,b,cb,d⟩ hi hbb HD.out (hfil.keep (hb13.block b hfil.lt)) v4 own4' gr4 at4;have P3:=hE0 p3;have P4:=hE0 p4;clear p3 p4 own4 own4' gr4 at4 k3 hone hnew hi0 hz0 hz1 hz2 hn3 hro hw3;go_wp2
 go_ret
 refine⟨rfl,⟨W',cw',b,cb,P3.out.more fun j hj=> ?_⟩,HB0.out.trans P4.out (fun _ _ h=>h)⟩;rcases(P3.out.foot hj).1 with h1 | h1
 · exact .inl h1
 · exact .inr ⟨by have:=HSZ.out;omega,h1.2⟩
theorem ami (k:Dk S w g h c W cw bs ws left true) (hl:bs.length<=100000) (hleft:left≠0) (i:Nat) (hi:i*512+512<=bs.length) (A:Option Addr) (cA:Nat):
 Calls Tryz.prog 221 #[.pointer (some ⟨g,0,none⟩), .int .i64 (i:Int), .slice A 512 cA] w fun e w'=>e= .returned (.iface 90 (.int .i64 6))/\w=w':=by
 have HH:=hE0 (ae4 k hl i hi);have c2:=k.c2;have c3:=k.c3;have hle0:(left==0)=false:=by rw[beq_eq_false_iff_ne];exact hleft
 go_enter Tryz.func221,Tryz.ntmps221
 go_wp2_with fail
 with_reducible refine HH.out.mono ?_
 rintro e w1 ⟨rfl,rfl⟩;go_wp2
 go_ret
 exact⟨rfl,rfl⟩
theorem amj (k:Dk S w g h c W cw bs ws 0 off) (hl:bs.length<=100000) (i:Nat) (hi:i*512+512<=bs.length) (A:Option Addr) (cA:Nat):
 Calls Tryz.prog 221 #[.pointer (some ⟨g,0,none⟩), .int .i64 (i:Int), .slice A 512 cA] w fun e w'=>e= .returned (.iface 90 (.int .i64 6))/\Dk S w' g h c W cw bs ws 0 true/\Tch S w w':=by
 have HH:=hE0 (ae4 k hl i hi);have c2:=k.c2;have c3:=k.c3;have f3:=k.thaw 3;have K1:=hE0 (k.set3 true);have T1:=hE0 (Tch.set (S:=S) w ⟨g,3,none⟩ (.bool true) k.sg);clear k;go_enter Tryz.func221,Tryz.ntmps221
 go_wp2_with fail
 with_reducible refine HH.out.mono ?_
 rintro e w1 ⟨rfl,rfl⟩;go_wp2
 go_ret
 exact⟨rfl,K1.out,T1.out⟩
theorem amk (k:Dk S w g h c W cw bs ws left true):
 Calls Tryz.prog 176 #[.pointer (some ⟨g,0,none⟩)] w fun e w'=>e= .returned (.iface 90 (.int .i64 6))/\w=w':=by
 have c3:=k.c3;go_enter Tryz.func176,Tryz.ntmps176
 go_wp2
 go_ret
 exact⟨rfl,rfl⟩
end
def need (n:Nat):Nat:=(n+511)/512
def afk (b:List UInt8) (i:Nat):List UInt8:=(b.drop (i*512)).take 512++List.replicate (512-(b.length-i*512)) 0
theorem ac1 (b:List UInt8) (i:Nat):(afk b i).length=512:=by
 simp[afk];omega
theorem Fill.over{B:Nat}{w0 w:World}{g:Nat}{t:TypeId}{bs:List UInt8}(h:Fill w g t bs) (hb:Below B w0 w) (hB:B<=g) (off:Nat) (cs:List UInt8):
 Fill (w.setRow g (((rowB bs).toList.take off++(cs.map bv++(rowB bs).toList.drop (off+(cs.map bv).length))).toArray)) g t (lay bs off cs)/\Below B w0 (w.setRow g (((rowB bs).toList.take off++(cs.map bv++(rowB bs).toList.drop (off+(cs.map bv).length))).toArray)):=by
 refine⟨?_,below_setRow hb hB _⟩;unfold Fill at h ⊢;rw[setRow_heap w g _ _ t _ h];simp[rowB,lay]
section
variable {S:Nat->Prop} {w:World} {g h c:Nat} {W:Option Addr} {cw:Nat} {bs:List UInt8} {ws:List Wr} {left:Int} {off:Bool}
theorem aec (w:World) (n:Nat) (hn:n<=9223372036854775807) (m:Nat) (hm:need n=m):
 Calls Tryz.prog 219 #[.int .i64 (n:Int)] w fun e w'=>e= .returned (.int .i64 (m:Int))/\w=w':=by
 unfold need at hm;by_cases h:n%512=0
 · have s1:decide ((0:Int)<(n:Int)%512)=false:=decide_eq_false (by omega);have HM:Hid ((n:Int)/512=(m:Int)):=(show _=_ by omega);clear hm;go_enter Tryz.func219,Tryz.ntmps219
   go_wp2
   go_ret
   exact⟨akm HM.out,rfl⟩
 · have s1:decide ((0:Int)<(n:Int)%512)=true:=decide_eq_true (by omega);have HM:Hid ((n:Int)/512+1=(m:Int)):=(show _=_ by omega);clear hm;go_enter Tryz.func219,Tryz.ntmps219
   go_wp2
   go_ret
   exact⟨akm HM.out,rfl⟩
theorem ajl (k:Dk S w g h c W cw bs ws left off) (N:Nat) (hN:bs.length=512*N) (hN2:N<=128) (p n:Nat) (hfit:p+need n<=N):
 Calls Tryz.prog 218 #[.pointer (some ⟨g,0,none⟩), .int .i64 (p:Int), .int .i64 (n:Int)] w fun e w'=>e= .returned (.bool true)/\w=w':=by
 have HS:=aeb k (by omega);rw[show bs.length/512=N by omega]at HS;have HS:=hE0 HS;obtain⟨m,hm⟩:=nmE (need n);have HE:=hE0 (aec w n (by unfold need at hfit;omega) m hm);rw[hm]at hfit;have h1:(p:Int)<=(N:Int):=by omega
 have h2:(m:Int)<=(N:Int)-(p:Int):=by omega
 clear hm k hN;go_enter Tryz.func218,Tryz.ntmps218
 go_wp2_with fail
 with_reducible refine HS.out.mono ?_
 rintro e w1 ⟨rfl,rfl⟩;go_wp2_with fail
 with_reducible refine HE.out.mono ?_
 rintro e w1 ⟨rfl,rfl⟩;go_wp2_with fail
 with_reducible refine HS.out.mono ?_
 rintro e w1 ⟨rfl,rfl⟩;go_wp2
 go_ret
 exact⟨rfl,rfl⟩
end
theorem akn (w:World) (A:Addr) (cA:Nat) (b:List UInt8) (hr:Rd w w.heap.size (some A) b.length b) (_hb:b.length<=1000000) (hpos:0<b.length):
 Calls Tryz.prog 222 #[.slice (some A) b.length cA] w fun e w'=>e= .returned (.slice (some ⟨w.heap.size,0,none⟩) 512 512)/\Fill w' w.heap.size 5 (afk b 0)/\Below w.heap.size w w':=by
 obtain⟨z,hz⟩:=nmE (List.replicate 512 (0:UInt8));have hzl:z.length=512:=by rw[<-hz];simp
 have hmk:∀W:World,(Instr.makeSlice 37 (.int .i64 512) (.int .i64 512)).run Tryz.prog W= .ok (.slice (some ⟨W.heap.size,0,none⟩) 512 512) (W.alloc (.cells (rowB z) 5)):=fun W=>by
  have:=run_make_row' (P:=Tryz.prog) 37 5 (.int .u8 0) 1 Tryz.underlying37 aca rfl .i64 .i64 512 (by omega) (by omega) W;rw[abI,hz]at this;exact this
 obtain⟨w0,hw0⟩:=nmE (w.alloc (.cells (rowB z) 5));have hf:Fill w0 w.heap.size 5 z:=by rw[<-hw0];exact Fill.made w 5 _
 have hbl:=abE hw0;have rs:=hr.below hbl;have hn:((b.take 512).map bv).length=Nat.min b.length 512:=by rw[List.length_map,List.length_take];exact Nat.min_comm _ _
 have hsrc:∀j v,((b.take 512).map bv)[j]?=some v->w0.cell? (A.add j)=some v:=fun j v hj=>acJ rs j v (by
  rw[List.map_take]at hj;rcases Nat.lt_or_ge j 512 with h | h
  · rwa [List.getElem?_take_of_lt h]at hj
  · rw[List.getElem?_eq_none (by simp;omega)]at hj;cases hj)
 have hov:=hf.over hbl (Nat.le_refl _) 0 (b.take 512);have e1:lay z 0 (b.take 512)=afk b 0:=by
  rw[<-hz];simp only[lay,afk,List.take_zero,List.nil_append,Nat.zero_mul,List.drop_zero,Nat.zero_add,List.drop_replicate,List.length_take,Nat.sub_zero];congr 2;omega
 rw[e1]at hov;have HOV:=hE0 hov;have HSRC:=hE0 hsrc;have HN:=hE0 hn;have HF:=hE0 hf;have HFIT:Hid (0+((b.take 512).map bv).length<=(rowB z).size):=(show _<=_ by rw[adW,hzl,List.length_map,List.length_take];omega);have HW0:=hE0 hw0;clear hov hsrc hn hf hbl rs hr e1 hz hzl hw0;go_enter Tryz.func222,Tryz.ntmps222
 go_wp2_with (rw[HW0.out];(refine wpList_copy_own rfl (.tmp 5) (.tmp 6) 37 37 rfl 5 Tryz.underlying37 (by kernel_rfl) w.heap.size 0 512 512 A b.length cA rfl rfl _ 5 HF.out ((b.take 512).map bv) HN.out HSRC.out HFIT.out (adX _) ?_);generalize w0.setRow _ _=w2 at HOV ⊢)
 go_ret
 exact⟨rfl,HOV.out.1,HOV.out.2⟩
end Go.Proofs.YthnfclimjmmckaaGreatDoor
