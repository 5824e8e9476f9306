/- Texts of mine, joined. -/
import Derived.Test.YtncadccbepjekaaGreatDoorU44
set_option maxRecDepth 100000
set_option maxHeartbeats 1000000
namespace Go.Proofs.YtncadccbepjekaaGreatDoor
open Go.RowKit
structure Cl where
 which:Int
 op:Int
 h:Nat
 n:Nat
 m:Nat
 at_:Nat
 A:Option Addr
 c:Nat
 b:List UInt8
def Cl.ok (x:Cl):Prop:=(-9223372036854775808<=x.which/\x.which<=9223372036854775807)/\(-9223372036854775808<=x.op/\x.op<=9223372036854775807)/\x.h<18446744073709551616/\x.n<18446744073709551616/\x.m<18446744073709551616/\x.at_<18446744073709551616/\x.b.length<=maxLen
def ClRd (w:World) (B:Nat) (A:Option Addr) (l:List Cl):Prop:=0<l.length->∃b o,A=some ⟨b,o,none⟩/\b<B/\∀j x,l[j]?=some x->
 (w.cell? ⟨b,o+j*7,none⟩=some (.int .i64 x.which)/\w.cell? ⟨b,o+j*7+1,none⟩=some (.int .i64 x.op)/\w.cell? ⟨b,o+j*7+2,none⟩=some (.int .u64 (x.h:Int))/\w.cell? ⟨b,o+j*7+3,none⟩=some (.int .u64 (x.n:Int))/\
 w.cell? ⟨b,o+j*7+4,none⟩=some (.int .u64 (x.m:Int))/\w.cell? ⟨b,o+j*7+5,none⟩=some (.int .u64 (x.at_:Int))/\w.cell? ⟨b,o+j*7+6,none⟩=some (.slice x.A x.b.length x.c))/\Rd w B x.A x.b.length x.b/\x.ok
theorem ClRd.below{w w':World}{B:Nat}{A:Option Addr}{l:List Cl}(h:ClRd w B A l) (hb:Below B w w'):ClRd w' B A l:=fun hn=>by
 obtain⟨b,o,e,hB,hc⟩:=h hn;refine⟨b,o,e,hB,fun j x hx=> ?_⟩;obtain⟨⟨h0,h1,h2,h3,h4,h5,h6⟩,h7,h8⟩:=hc j x hx;exact⟨⟨(hb.cell (p:=⟨b,_,none⟩) hB).trans h0,(hb.cell (p:=⟨b,_,none⟩) hB).trans h1,(hb.cell (p:=⟨b,_,none⟩) hB).trans h2,(hb.cell (p:=⟨b,_,none⟩) hB).trans h3,(hb.cell (p:=⟨b,_,none⟩) hB).trans h4,(hb.cell (p:=⟨b,_,none⟩) hB).trans h5,(hb.cell (p:=⟨b,_,none⟩) hB).trans h6⟩,h7.below hb,h8⟩
def uV (n:Nat):Value:= .int .u64 (n:Int)
def as3 (x:Cl) (told:List Nat):Nat:=(x.which%(told.length:Int)).toNat
def af0 (x:Cl) (told:List Nat):Nat:=if 0<=x.which/\0<told.length then (told.getD (as3 x told) 0+x.h)%18446744073709551616 else x.h
def af1 (x:Cl):Nat:=(x.op%9).toNat
theorem afl (x:Cl):af1 x<9:=by
 unfold af1;have h1:=Int.emod_nonneg x.op (b:=9) (by omega);have h2:=Int.emod_lt_of_pos x.op (b:=9) (by omega);omega
theorem ahy (x:Cl) (told:List Nat) (hx:x.h<18446744073709551616):af0 x told<18446744073709551616:=by
 unfold af0;split
 · omega
 · exact hx
theorem as4{w:World}{y0 y1 y2 y3 y4 y5:Value}{g:Nat}{t:TypeId}(h:w.heap[g]?=some (.cells #[y0,y1,y2,y3,y4,y5] t (0,0))) (x0 x1 x2 x3 x4 x5:Value):
 ((((((w.setCell ⟨g,0,none⟩ x0).setCell ⟨g,1,none⟩ x1).setCell ⟨g,2,none⟩ x2).setCell ⟨g,3,none⟩ x3).setCell ⟨g,4,none⟩ x4).setCell ⟨g,5,none⟩ x5).heap[g]?=some (.cells #[x0,x1,x2,x3,x4,x5] t (0,0)):=by
 have h1:=heap_setCell_same _ g 0 _ _ x0 h;have h1:(_:Option Obj)=some (.cells #[x0,y1,y2,y3,y4,y5] t (0,0)):=h1;have h2:=heap_setCell_same _ g 1 _ _ x1 h1;have h2:(_:Option Obj)=some (.cells #[x0,x1,y2,y3,y4,y5] t (0,0)):=h2;have h3:=heap_setCell_same _ g 2 _ _ x2 h2;have h3:(_:Option Obj)=some (.cells #[x0,x1,x2,y3,y4,y5] t (0,0)):=h3;have h4:=heap_setCell_same _ g 3 _ _ x3 h3;have h4:(_:Option Obj)=some (.cells #[x0,x1,x2,x3,y4,y5] t (0,0)):=h4;have h5:=heap_setCell_same _ g 4 _ _ x4 h4;have h5:(_:Option Obj)=some (.cells #[x0,x1,x2,x3,x4,y5] t (0,0)):=h5;have h6:=heap_setCell_same _ g 5 _ _ x5 h5;have h6:(_:Option Obj)=some (.cells #[x0,x1,x2,x3,x4,x5] t (0,0)):=h6;exact h6
theorem ajv{w:World}{y0 y1 y2 y3 y4 y5:Value}{g:Nat}{t:TypeId}(h:w.heap[g]?=some (.cells #[y0,y1,y2,y3,y4,y5] t (0,0))):w.frozen? ⟨g,0,none⟩=false/\w.frozen? ⟨g,1,none⟩=false/\w.frozen? ⟨g,2,none⟩=false/\w.frozen? ⟨g,3,none⟩=false/\w.frozen? ⟨g,4,none⟩=false/\w.frozen? ⟨g,5,none⟩=false:=
 ⟨frozen_of_row w g 0 _ _ h,frozen_of_row w g 1 _ _ h,frozen_of_row w g 2 _ _ h,frozen_of_row w g 3 _ _ h,frozen_of_row w g 4 _ _ h,frozen_of_row w g 5 _ _ h⟩
theorem ajw{w:World}{x0 x1 x2 x3 x4 x5 x6:Value}{g:Nat}{t:TypeId}(h:w.heap[g]?=some (.cells #[x0,x1,x2,x3,x4,x5,x6] t (0,0))):
 w.cell? ⟨g,0,none⟩=some x0/\w.cell? ⟨g,1,none⟩=some x1/\w.cell? ⟨g,2,none⟩=some x2/\w.cell? ⟨g,3,none⟩=some x3/\w.cell? ⟨g,4,none⟩=some x4/\w.cell? ⟨g,5,none⟩=some x5/\w.cell? ⟨g,6,none⟩=some x6:=by
 refine⟨?_,?_,?_,?_,?_,?_,?_⟩
 · rw[cell_of_row w g 0 _ _ (0,0) h];rfl
 · rw[cell_of_row w g 1 _ _ (0,0) h];rfl
 · rw[cell_of_row w g 2 _ _ (0,0) h];rfl
 · rw[cell_of_row w g 3 _ _ (0,0) h];rfl
 · rw[cell_of_row w g 4 _ _ (0,0) h];rfl
 · rw[cell_of_row w g 5 _ _ (0,0) h];rfl
 · rw[cell_of_row w g 6 _ _ (0,0) h];rfl
theorem anm{fn:Func}{R:Ending->World->Prop}{a:Act}{w:World}{p:Tmp}{g:Nat}{x0 x1 x2 x3 x4 x5:Value}(hres:fn.results= #[.cell p 43]) (hp:a.tmps.getD p undef= .pointer (some ⟨g,0,none⟩)) (hd:a.defers= [])
 (hg:w.heap[g]?=some (.cells #[x0,x1,x2,x3,x4,x5] 43 (0,0))) (hR:R (.returned (.agg #[x0,x1,x2,x3,x4,x5])) w):bodyPost Tryz.prog fn R .ret a w:=by
 refine bodyPost_ret (v:= .agg #[x0,x1,x2,x3,x4,x5]) ?_ hd hR;exact results_cell_row hres _ _ g _ _ _ _ hp hg rfl rfl rfl
def Tl (w:World) (B:Nat) (A:Option Addr) (told:List Nat):Prop:=0<told.length->∃b,A=some ⟨b,0,none⟩/\B<=b/\b<w.heap.size/\∀(j v:Nat),told[j]?=some v->w.cell? ⟨b,j,none⟩=some (.int .u64 (v:Int))
theorem afm{P:Prop}(h:P:=by
 obtain⟨⟨k0,k1,k2,k3,k4,k5⟩,e0,e1,e2,e3,e4,e5⟩:=(show _/\_ from⟨abp KW.out,ajv KW.out⟩);have hk9:=aac KW.out;have MF:=hE0 (as4 KW.out (.int .i64 (o9:Int)) (.int .u64 (xh:Int)) (.int .u64 (xn:Int)) (.int .u64 (xm:Int)) (.int .u64 (xa:Int)) (.slice xA bl xc));have BF:=hE0 ((((((BW.out.setCell (p:=⟨w1.heap.size,0,none⟩) HL1.out (.int .i64 (o9:Int))).setCell (p:=⟨w1.heap.size,1,none⟩) HL1.out (.int .u64 (xh:Int))).setCell (p:=⟨w1.heap.size,2,none⟩) HL1.out (.int .u64 (xn:Int))).setCell (p:=⟨w1.heap.size,3,none⟩) HL1.out (.int .u64 (xm:Int))).setCell (p:=⟨w1.heap.size,4,none⟩) HL1.out (.int .u64 (xa:Int))).setCell (p:=⟨w1.heap.size,5,none⟩) HL1.out (.slice xA bl xc));go_wp2_with (first | (rw[HW4.out]) | fail)
 (try simp only[Exit.inBlock,Exit.then])
 refine anm (g:=w1.heap.size) Tryz.results19 ?_ ?_ MF.out ?_
 · rfl
 · rfl
 · exact⟨rfl,BF.out⟩
 ):P:=h
theorem ahz (w:World) (x:Cl) (hx:x.ok) (A1:Option Addr) (c1:Nat) (told:List Nat) (B:Nat) (ht:Tl w B A1 told) (hl:told.length<=1000) (h64:∀v∈told,v<18446744073709551616):
 Calls Tryz.prog 19 #[.agg #[.int .i64 x.which, .int .i64 x.op, .int .u64 (x.h:Int), .int .u64 (x.n:Int), .int .u64 (x.m:Int), .int .u64 (x.at_:Int), .slice x.A x.b.length x.c], .slice A1 told.length c1] w
  fun e w'=>e= .returned (abB (af1 x:Int) (af0 x told) x.n x.m x.at_ x.A x.b.length x.c)/\Below w.heap.size w w':=by
 obtain⟨hw,ho,hh,hn,hm,ha,_⟩:=hx;have hPK:=fun W=>apc x.op 9 W (by omega) (by omega) (af1 x) rfl;have hol:=afl x;obtain⟨o9,ho9⟩:=nmE (af1 x);rw[ho9]at hPK hol ⊢;obtain⟨p,hp⟩:=nmE (af0 x told);rw[hp];have HPV:=hE0 hp;unfold af0 as3 at hp;obtain⟨wh,xo,xh,xn,xm,xa,xA,xc,xb⟩:=x;dsimp only at hw ho hh hn hm ha hp hPK ⊢;obtain⟨bl,hbl⟩:=nmE xb.length;obtain⟨tl,htl⟩:=nmE told.length;rw[hbl];rw[htl]at hp hl ⊢;have HPK:=hE0 hPK;have HT:=hE0 ht;have HTL:=hE0 htl;have H64:=hE0 h64;obtain⟨w1,hw1⟩:=nmE (w.alloc (.cells #[.int .i64 wh, .int .i64 xo, .int .u64 (xh:Int), .int .u64 (xn:Int), .int .u64 (xm:Int), .int .u64 (xa:Int), .slice xA bl xc] 46));have b1:=abE hw1;have n1:=anE hw1;obtain⟨w2,hw2⟩:=nmE (w1.alloc (.cells #[.int .i64 0, .int .u64 0, .int .u64 0, .int .u64 0, .int .u64 0, .slice none 0 0] 43));have b2:=abE hw2;have n2:=anE hw2;have m2:=(b2.block _ (aae n1)).trans n1;obtain⟨w3,hw3⟩:=nmE (w2.alloc (.cells #[.int .i64 xo, .int .u64 (xh:Int), .int .u64 (xn:Int), .int .u64 (xm:Int), .int .u64 (xa:Int), .slice xA bl xc] 43));have b3:=abE hw3;have n3:=anE hw3;have m3:=(b3.block _ (aae m2)).trans m2;have k3:=(b3.block _ (aae n2)).trans n2;obtain⟨w4,hw4⟩:=nmE (w3.setCell ⟨w2.heap.size,0,none⟩ (.int .i64 (o9:Int)));have hne1:w2.heap.size≠w.heap.size:=fun e=>by have:=aae m2;omega
 have hne2:w2.heap.size≠w1.heap.size:=fun e=>by have:=aae n2;omega
 have n4:w4.heap[w2.heap.size]?=some (.cells #[.int .i64 (o9:Int), .int .u64 (xh:Int), .int .u64 (xn:Int), .int .u64 (xm:Int), .int .u64 (xa:Int), .slice xA bl xc] 43 (0,0)):=by rw[<-hw4];exact heap_setCell_same w3 w2.heap.size 0 _ _ _ n3
 have m4:w4.heap[w.heap.size]?=some (.cells #[.int .i64 wh, .int .i64 xo, .int .u64 (xh:Int), .int .u64 (xn:Int), .int .u64 (xm:Int), .int .u64 (xa:Int), .slice xA bl xc] 46 (0,0)):=by rw[<-hw4];exact(Below.heap_setCell w3 ⟨w2.heap.size,0,none⟩ _ w.heap.size (Ne.symm hne1)).trans m3
 have k4:w4.heap[w1.heap.size]?=some (.cells #[.int .i64 0, .int .u64 0, .int .u64 0, .int .u64 0, .int .u64 0, .slice none 0 0] 43 (0,0)):=by rw[<-hw4];exact(Below.heap_setCell w3 ⟨w2.heap.size,0,none⟩ _ w1.heap.size (Ne.symm hne2)).trans k3
 have b03:Below w.heap.size w w3:=b1.trans ((b2.mono b1.size).trans (b3.mono (Nat.le_trans b1.size b2.size)));have b04:Below w.heap.size w w4:=by rw[<-hw4];exact b03.setCell (Nat.le_trans b1.size b2.size) _
 have HW1:=hE0 hw1;have HW2:=hE0 hw2;have HW3:=hE0 hw3;have HW4:=hE0 hw4;have HB4:=hE0 b04;have HN4:=hE0 n4;have HM4:=hE0 m4;have HK4:=hE0 k4;have HNE1:=hE0 hne1;have HNE2:=hE0 hne2;obtain⟨z0,z1,z2,z3,z4,z5,z6⟩:=ajw m2;have hz2:=aac m2;obtain⟨y0,y1,y2,y3,y4,y5⟩:=abp n3;obtain⟨f0,f1,f2,f3,f4,f5⟩:=ajv n3;have hy3:=aac n3;have HL1:=hE0 b1.size;have HL2:=hE0 (Nat.le_trans b1.size b2.size);clear hPK ht htl h64 hbl hw1 hw2 hw3 hw4 b1 b2 b3 n1 n2 n3 n4 m2 m3 m4 k3 k4 b03 b04 hne1 hne2;unfold abB;go_enter Tryz.func19,Tryz.ntmps19
 go_wp2_with (first | (rw[HW1.out]) | (rw[HW2.out]) | (rw[HW3.out]) | fail)
 refine(HPK.out _).mono ?_;rintro e w5 ⟨rfl,rfl⟩;clear z0 z1 z2 z3 z4 z5 z6;obtain⟨z0,z1,z2,z3,z4,z5,z6⟩:=ajw HM4.out;have hz4:=aac HM4.out;by_cases hw0:0<=wh/\0<tl
 · rw[if_pos hw0]at hp;obtain⟨hwh,htl0⟩:=hw0;have hm1:=Int.emod_nonneg wh (b:=(tl:Int)) (by omega);have hm2:=Int.emod_lt_of_pos wh (b:=(tl:Int)) (by omega);obtain⟨i,hi⟩:=nmE ((wh%(tl:Int)).toNat);rw[hi]at hp;have em:Int.tmod wh (tl:Int)=(i:Int):=by rw[Int.tmod_eq_emod_of_nonneg hwh];omega
   have hil:i<tl:=by omega
   obtain⟨b,rfl,hbB,hbl,hcell⟩:=HT.out (by rw[HTL.out];exact htl0);obtain⟨v,hv⟩:∃v,told[i]?=some v:=⟨told[i]'(by rw[HTL.out];exact hil),List.getElem?_eq_getElem _⟩;have hgd:told.getD i 0=v:=by rw[List.getD_eq_getElem?_getD,hv];rfl
   rw[hgd]at hp;have hv64:=H64.out v (List.mem_of_getElem? hv);have ev:IntKind.u64.wrap ((v:Int)+(xh:Int))=(p:Int):=by rw[IntKind.wrap_u64];omega
   have cb:=hcell i v hv;have g1:decide ((0:Int)<=wh)=true:=decide_eq_true hwh;have g2:decide (0<tl)=true:=decide_eq_true htl0;obtain⟨wd,hwd⟩:=nmE w4.drew;have bd:Below w.heap.size w wd:=by rw[<-hwd];exact HB4.out.drew
   have nd:wd.heap[w2.heap.size]?=some (.cells #[.int .i64 (o9:Int), .int .u64 (xh:Int), .int .u64 (xn:Int), .int .u64 (xm:Int), .int .u64 (xa:Int), .slice xA bl xc] 43 (0,0)):=by rw[<-hwd];exact HN4.out
   have kd:wd.heap[w1.heap.size]?=some (.cells #[.int .i64 0, .int .u64 0, .int .u64 0, .int .u64 0, .int .u64 0, .slice none 0 0] 43 (0,0)):=by rw[<-hwd];exact HK4.out
   have md:wd.heap[w.heap.size]?=some (.cells #[.int .i64 wh, .int .i64 xo, .int .u64 (xh:Int), .int .u64 (xn:Int), .int .u64 (xm:Int), .int .u64 (xa:Int), .slice xA bl xc] 46 (0,0)):=by rw[<-hwd];exact HM4.out
   have hltm:=aac md;have hltn:=aac nd;have hltb:b<wd.heap.size:=Nat.lt_of_lt_of_le hbl bd.size;have cbd:wd.cell? ⟨b,i,none⟩=some (.int .u64 (v:Int)):=(bd.cell (p:=⟨b,i,none⟩) hbl).trans cb;obtain⟨u0,u1,u2,u3,u4,u5,u6⟩:=ajw md;obtain⟨w5,hw5⟩:=nmE (wd.setCell ⟨w2.heap.size,1,none⟩ (.int .u64 (p:Int)));have n5:w5.heap[w2.heap.size]?=some (.cells #[.int .i64 (o9:Int), .int .u64 (p:Int), .int .u64 (xn:Int), .int .u64 (xm:Int), .int .u64 (xa:Int), .slice xA bl xc] 43 (0,0)):=by rw[<-hw5];exact heap_setCell_same wd w2.heap.size 1 _ _ _ nd
   have KW:Hid (w5.heap[w1.heap.size]?=some (.cells #[.int .i64 0, .int .u64 0, .int .u64 0, .int .u64 0, .int .u64 0, .slice none 0 0] 43 (0,0))):=(show _ by rw[<-hw5];exact(Below.heap_setCell wd ⟨w2.heap.size,1,none⟩ _ w1.heap.size (Ne.symm HNE2.out)).trans kd);have BW:Hid (Below w.heap.size w w5):=(show Below _ _ _ by rw[<-hw5];exact bd.setCell HL2.out _);obtain⟨y0',y1',y2',y3',y4',y5'⟩:=abp nd;obtain⟨g0',g1',g2',g3',g4',g5'⟩:=ajv nd;obtain⟨v0,v1,v2,v3,v4,v5⟩:=abp n5;have hltn5:=aac n5;have HW5:=hE0 hw5;have HWD:=hE0 hwd;clear hp hm1 hm2 hi hcell hv hgd cb bd nd kd md hw5 n5 hwd HT H64 HPK;go_wp2_with (first | (rw[HW4.out]) | fail)
   refine aar wd.heap.size [] [0,1,2,3,4,5,6,7,8,9,10,11,12] [13] (by kernel_rfl) (by kernel_rfl) (by kernel_rfl) (fun _ _ _ _ _ h=>h) ?_;rw[HWD.out];have q0:=tfE u0 hltm;have q1:=tfE u2 hltm;have q2:=tfE cbd hltb;refine aaO (l:= ?la2) (t:= ?tl2) ?hla2 ?htl2 ?_
   case hla2=>simp only[pick,lE1,lE2,lE3];rfl
   case htl2=>simp only[pick,lE1,lE2,lE3];rfl
   repeat (go_big_quiet_step (fail))
   refine wpQuiet_nil ?_;clear q0 q1 q2;obtain⟨⟨k0,k1,k2,k3,k4,k5⟩,e0,e1,e2,e3,e4,e5⟩:=(show _/\_ from⟨abp KW.out,ajv KW.out⟩);have hk9:=aac KW.out;have MF:=hE0 (as4 KW.out (.int .i64 (o9:Int)) (.int .u64 (p:Int)) (.int .u64 (xn:Int)) (.int .u64 (xm:Int)) (.int .u64 (xa:Int)) (.slice xA bl xc));have BF:=hE0 ((((((BW.out.setCell (p:=⟨w1.heap.size,0,none⟩) HL1.out (.int .i64 (o9:Int))).setCell (p:=⟨w1.heap.size,1,none⟩) HL1.out (.int .u64 (p:Int))).setCell (p:=⟨w1.heap.size,2,none⟩) HL1.out (.int .u64 (xn:Int))).setCell (p:=⟨w1.heap.size,3,none⟩) HL1.out (.int .u64 (xm:Int))).setCell (p:=⟨w1.heap.size,4,none⟩) HL1.out (.int .u64 (xa:Int))).setCell (p:=⟨w1.heap.size,5,none⟩) HL1.out (.slice xA bl xc));go_wp2_with (first | (rw[HW5.out]) | fail)
   (try simp only[Exit.inBlock,Exit.then])
   refine anm (g:=w1.heap.size) Tryz.results19 ?_ ?_ MF.out ?_
   · rfl
   · rfl
   · exact⟨rfl,BF.out⟩
 · rw[if_neg hw0]at hp;subst hp;have KW:=HK4;have BW:=HB4;obtain⟨y0',y1',y2',y3',y4',y5'⟩:=abp HN4.out;have hltn5:=aac HN4.out;clear HT H64 HPK;by_cases hwh:0<=wh
   · have htl0:¬0<tl:=fun h=>hw0 ⟨hwh,h⟩;have g1:decide ((0:Int)<=wh)=true:=decide_eq_true hwh;have g2:decide (0<tl)=false:=decide_eq_false htl0;exact afm
   · have g1:decide ((0:Int)<=wh)=false:=decide_eq_false hwh;exact afm
end Go.Proofs.YtncadccbepjekaaGreatDoor
