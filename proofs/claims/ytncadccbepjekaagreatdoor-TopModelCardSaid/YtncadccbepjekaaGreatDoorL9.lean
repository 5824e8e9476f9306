/- Texts of mine, joined. -/
import Derived.Great.BuildSlice
import Derived.Deep.Grids
import Derived.Deep.Fields
import Derived.Test.YtncadccbepjekaaGreatDoorL8
set_option maxRecDepth 100000
set_option maxHeartbeats 4000000
namespace Go.Proofs.YtncadccbepjekaaGreatDoor
open Go.RowKit
def PMade (base cap:Nat) (H:Hp) (w:World) (e:Ending) (w':World):Prop:=
 ∃q g A c bs,e= .returned (.tuple #[.pointer (some ⟨q,0,none⟩), .nilIface])/\PH w' q g base cap A c bs H/\Below w.heap.size w w'/\w.heap.size<=q/\w.heap.size<=g/\∀a,A=some a->w.heap.size<=a.block
section
variable {w w':World} {q g base cap c:Nat} {A:Option Addr} {bs out:List UInt8} {H H':Hp}
theorem asw (w:World) (base:Nat) (hb:base<18446744073709551616) (cap:Int) (hc: -9223372036854775808<=cap/\cap<=9223372036854775807) (h:base%16≠0\/4611686018427387904<base\/cap<1024\/16384<cap):
 Calls Tryz.prog 13 #[.int .u64 (base:Int), .int .i64 cap] w fun e w'=>e= .returned (.tuple #[.pointer none,aju 1])/\w=w':=by
 have HN:=hE0 (asU w base cap hb hc h);clear h;go_enter Tryz.func13,Tryz.ntmps13
 go_wp2_with fail
 refine HN.out.mono ?_;rintro e w2 ⟨rfl,rfl⟩;go_wp2
 go_ret2
 exact⟨rfl,rfl⟩
theorem aum (w:World) (z:List UInt8) (hz:List.replicate 184 (0:UInt8)=z) (base cap:Nat) (h1:base%16=0) (h2:base<=4611686018427387904) (h3:1024<=cap) (h4:cap<=16384):
 Calls Tryz.prog 13 #[.int .u64 (base:Int), .int .i64 (cap:Int)] w fun e w'=>∃q g A c,e= .returned (.tuple #[.pointer (some ⟨q,0,none⟩), .nilIface])/\PH w' q g base cap A c z (aez cap)/\Below w.heap.size w w'/\w.heap.size<=q/\w.heap.size<=g/\∀a,A=some a->w.heap.size<=a.block:=by
 have HZ:=hE0 (asa hz cap (by omega));have HN:=hE0 (ak4 w base cap h1 h2 h3 h4);have hG:∀W g c A,Ar W 195 g base cap A c []->Calls Tryz.prog 65 #[.pointer (some ⟨g,0,none⟩), .int .i64 184] W fun e w'=>e= .returned .nilIface/\Became 195 g base cap A z W w':=fun W g c A ha=>by
  have:=aiB ha 184 (by simp) h4 (by simp;omega);rw[List.nil_append,hz]at this;exact this
 have HG:=hE0 hG;clear hG hz;go_enter Tryz.func13,Tryz.ntmps13
 go_wp2_with fail
 refine HN.out.mono ?_;rintro e w2 ⟨rfl,ha,hb⟩;have HG2:=hE0 (HG.out w2 _ _ _ ha);have HB2:=hE0 hb;have HL2:=hE0 ha.lt;clear ha hb HG HN;go_wp2_with fail
 refine HG2.out.mono ?_;rintro e w3 ⟨rfl,A3,c3,a3,t3,m3⟩;have hft:∀k,foot w.heap.size none k->w.heap.size<=k:=fun k hk=>by
  rcases hk with rfl | ⟨a,e,_⟩
  · exact Nat.le_refl _
  · exact absurd e (by nofun)
 have hb3:Below w.heap.size w w3:=HB2.out.trans (t3.below hft HB2.out.size);have hA3:∀a,A3=some a->w.heap.size<=a.block:=fun a e=>by
  rcases m3 with h | h
  · rw[h]at e;cases e
  · exact Nat.le_trans HB2.out.size (h a e)
 obtain⟨w4,hw4⟩:=nmE (w3.alloc (.cells #[.pointer (some ⟨w.heap.size,0,none⟩)] 132));have hb4:=abE hw4;have n4:=anE hw4;have HF:Hid (∃q g A c,Ending.returned (.tuple #[.pointer (some ⟨w3.heap.size,0,none⟩), .nilIface])= .returned (.tuple #[.pointer (some ⟨q,0,none⟩), .nilIface])/\PH w4 q g base cap A c z (aez cap)/\Below w.heap.size w w4/\w.heap.size<=q/\w.heap.size<=g/\∀a,A=some a->w.heap.size<=a.block):=
  ⟨_,_,A3,c3,rfl,⟨n4,a3.below hb4,HZ.out,rfl,h4,h2⟩,hb3.trans (hb4.mono hb3.size),hb3.size,Nat.le_refl _,hA3⟩
 have HW4:=hE0 hw4;clear a3 t3 m3 hft hb3 hA3 hw4 hb4 n4 HG2 HB2 HL2;go_wp2_with (first | (rw[HW4.out]) | fail)
 go_ret2
 exact HF.out
theorem ag9 (w:World) (base cap:Nat) (h1:base%16=0) (h2:base<=4611686018427387904) (h3:1024<=cap) (h4:cap<=16384):
 Calls Tryz.prog 13 #[.int .u64 (base:Int), .int .i64 (cap:Int)] w fun e w'=>PMade base cap (aez cap) w e w':=by
 refine(aum w _ rfl base cap h1 h2 h3 h4).mono ?_;rintro e w' ⟨q,g,A,c,h⟩;exact⟨q,g,A,c,_,h⟩
theorem asx (h:Ar w 195 g base cap A c bs) (hb:base<=4611686018427387904) (hc:cap<=16384) (hl:bs.length<=cap) (hk:ace bs=true):
 Calls Tryz.prog 156 #[.pointer (some ⟨g,0,none⟩)] w fun e w'=>∃H bs',PMade base cap H w e w'/\RtD bs' H/\bs'=bs/\∃q g A c,e= .returned (.tuple #[.pointer (some ⟨q,0,none⟩), .nilIface])/\PH w' q g base cap A c bs H:=by
 have hC:=as3 w g base cap c A bs _ h hb (by omega) hk;dsimp only[aav]at hC;obtain⟨H,hR,hcp⟩:=au5 hk hl;have HC:=hE0 hC;have HCL:=hE0 (fun W (hb:Below w.heap.size w W)=>ajH (h.below hb) (by omega));have HR:=hE0 hR;have HCP:=hE0 hcp;clear hC hR hcp h;go_enter Tryz.func156,Tryz.ntmps156
 go_wp2_with fail
 refine HC.out.mono ?_;rintro e w2 ⟨rfl,hb2⟩;have HC2:=hE0 (HCL.out w2 hb2);have HB2:=hE0 hb2;clear hb2 HC HCL;go_wp2_with fail
 refine HC2.out.mono ?_;rintro e w3 ⟨g3,A3,c3,rfl,a3,hb3,k1,k2⟩;obtain⟨w4,hw4⟩:=nmE (w3.alloc (.cells #[.pointer (some ⟨g3,0,none⟩)] 132));have hb4:=abE hw4;have n4:=anE hw4;have hb03:=HB2.out.trans (hb3.mono HB2.out.size);have hph:PH w4 w3.heap.size g3 base cap A3 c3 bs H:=⟨n4,a3.below hb4,HR.out,HCP.out,hc,hb⟩;have HF:Hid (PMade base cap H w (.returned (.tuple #[.pointer (some ⟨w3.heap.size,0,none⟩), .nilIface])) w4):=
  ⟨_,_,A3,c3,bs,rfl,hph,hb03.trans (hb4.mono hb03.size),hb03.size,Nat.le_trans HB2.out.size k1,fun a e=>Nat.le_trans HB2.out.size (k2 a e)⟩
 have HPH:=hE0 hph;have HW4:=hE0 hw4;clear a3 hb3 k1 k2 hw4 hb4 n4 hb03 hph HC2 HB2;go_wp2_with (first | (rw[HW4.out]) | fail)
 go_ret2
 exact⟨H,bs,HF.out,HR.out,rfl,_,_,_,_,rfl,HPH.out⟩
theorem aod (h:PH w q g base cap A c bs H):
 Calls Tryz.prog 35 #[.pointer (some ⟨q,0,none⟩)] w fun e w'=>asV base cap bs w e w':=by
 have HC:=hE0 (ajH h.ar (by have:=h.len;omega));have k0:=h.c0;have hlq:=h.lt;clear h;go_enter Tryz.func35,Tryz.ntmps35
 go_wp2_with fail
 refine HC.out.mono ?_;rintro e w2 ⟨g2,A2,c2,rfl,h2⟩;have HF:=hE0 h2;clear h2 HC k0;go_wp2
 go_ret
 exact⟨g2,A2,c2,rfl,HF.out⟩
end
def ahB (r:Rp) (A:Option Addr) (c:Nat):Array Value:= #[.int .i64 r.code, .int .u64 (r.hd:Int), .int .u64 (r.n:Int), .slice A r.b.length c, .int .i64 (r.st.used:Int), .int .i64 (r.st.free:Int), .int .i64 (r.st.bytes:Int), .int .i64 (r.st.len:Int), .int .i64 (r.st.cap:Int)]
def rpV (r:Rp) (A:Option Addr) (c:Nat):Value:= .agg (ahB r A c)
def rp0:Array Value:= #[.int .i64 0, .int .u64 0, .int .u64 0, .slice none 0 0, .int .i64 0, .int .i64 0, .int .i64 0, .int .i64 0, .int .i64 0]
def adj (r:Rp) (w:World) (e:Ending) (w':World):Prop:=∃A' c',e= .returned (rpV r A' c')/\w'.ownsRow w.heap.size 5 1 (.slice A' r.b.length c') r.b.length (r.b.map bv)
def abo (op:Int) (p n m a:Nat) (B:Option Addr) (bl k:Nat):Value:= .agg #[.int .i64 op, .int .u64 (p:Int), .int .u64 (n:Int), .int .u64 (m:Int), .int .u64 (a:Int), .slice B bl k]
section
variable {w w' w4 w5:World} {q g base cap c:Nat} {A:Option Addr} {bs out:List UInt8} {H H':Hp}
theorem abH{x0 x1 x2 x3 x4 x5 x6 x7 x8:Value}{g:Nat}{t:TypeId}(h:w.heap[g]?=some (.cells #[x0,x1,x2,x3,x4,x5,x6,x7,x8] t (0,0))):
 (w.cell? ⟨g,0,none⟩=some x0/\w.cell? ⟨g,1,none⟩=some x1/\w.cell? ⟨g,2,none⟩=some x2/\w.cell? ⟨g,3,none⟩=some x3/\w.cell? ⟨g,4,none⟩=some x4/\w.cell? ⟨g,5,none⟩=some x5/\w.cell? ⟨g,6,none⟩=some x6/\w.cell? ⟨g,7,none⟩=some x7/\w.cell? ⟨g,8,none⟩=some x8)/\
 (w.frozen? ⟨g,0,none⟩=false/\w.frozen? ⟨g,1,none⟩=false/\w.frozen? ⟨g,2,none⟩=false/\w.frozen? ⟨g,3,none⟩=false/\w.frozen? ⟨g,4,none⟩=false/\w.frozen? ⟨g,5,none⟩=false/\w.frozen? ⟨g,6,none⟩=false/\w.frozen? ⟨g,7,none⟩=false/\w.frozen? ⟨g,8,none⟩=false):=by
 refine⟨⟨?_,?_,?_,?_,?_,?_,?_,?_,?_⟩,frozen_of_row w g 0 _ _ h,frozen_of_row w g 1 _ _ h,frozen_of_row w g 2 _ _ h,frozen_of_row w g 3 _ _ h,frozen_of_row w g 4 _ _ h,frozen_of_row w g 5 _ _ h,frozen_of_row w g 6 _ _ h,frozen_of_row w g 7 _ _ h,frozen_of_row w g 8 _ _ h⟩
 · rw[cell_of_row w g 0 _ _ (0,0) h];rfl
 · rw[cell_of_row w g 1 _ _ (0,0) h];rfl
 · rw[cell_of_row w g 2 _ _ (0,0) h];rfl
 · rw[cell_of_row w g 3 _ _ (0,0) h];rfl
 · rw[cell_of_row w g 4 _ _ (0,0) h];rfl
 · rw[cell_of_row w g 5 _ _ (0,0) h];rfl
 · rw[cell_of_row w g 6 _ _ (0,0) h];rfl
 · rw[cell_of_row w g 7 _ _ (0,0) h];rfl
 · rw[cell_of_row w g 8 _ _ (0,0) h];rfl
theorem abp{x0 x1 x2 x3 x4 x5:Value}{g:Nat}{t:TypeId}(h:w.heap[g]?=some (.cells #[x0,x1,x2,x3,x4,x5] t (0,0))):
 w.cell? ⟨g,0,none⟩=some x0/\w.cell? ⟨g,1,none⟩=some x1/\w.cell? ⟨g,2,none⟩=some x2/\w.cell? ⟨g,3,none⟩=some x3/\w.cell? ⟨g,4,none⟩=some x4/\w.cell? ⟨g,5,none⟩=some x5:=by
 refine⟨?_,?_,?_,?_,?_,?_⟩
 · rw[cell_of_row w g 0 _ _ (0,0) h];rfl
 · rw[cell_of_row w g 1 _ _ (0,0) h];rfl
 · rw[cell_of_row w g 2 _ _ (0,0) h];rfl
 · rw[cell_of_row w g 3 _ _ (0,0) h];rfl
 · rw[cell_of_row w g 4 _ _ (0,0) h];rfl
 · rw[cell_of_row w g 5 _ _ (0,0) h];rfl
def arc (w:World) (g:Nat) (x0 x1 x2 x3 x4 x5 x6 x7 x8:Value):World:=((((((((w.setCell ⟨g,0,none⟩ x0).setCell ⟨g,1,none⟩ x1).setCell ⟨g,2,none⟩ x2).setCell ⟨g,3,none⟩ x3).setCell ⟨g,4,none⟩ x4).setCell ⟨g,5,none⟩ x5).setCell ⟨g,6,none⟩ x6).setCell ⟨g,7,none⟩ x7).setCell ⟨g,8,none⟩ x8
theorem aij{y0 y1 y2 y3 y4 y5 y6 y7 y8:Value}{g:Nat}{t:TypeId}(h:w.heap[g]?=some (.cells #[y0,y1,y2,y3,y4,y5,y6,y7,y8] t (0,0))) (x0 x1 x2 x3 x4 x5 x6 x7 x8:Value):
 (arc w g x0 x1 x2 x3 x4 x5 x6 x7 x8).heap[g]?=some (.cells #[x0,x1,x2,x3,x4,x5,x6,x7,x8] t (0,0)):=by
 unfold arc;have h1:=heap_setCell_same _ g 0 _ _ x0 h;have h1:(_:Option Obj)=some (.cells #[x0,y1,y2,y3,y4,y5,y6,y7,y8] t (0,0)):=h1;have h2:=heap_setCell_same _ g 1 _ _ x1 h1;have h2:(_:Option Obj)=some (.cells #[x0,x1,y2,y3,y4,y5,y6,y7,y8] t (0,0)):=h2;have h3:=heap_setCell_same _ g 2 _ _ x2 h2;have h3:(_:Option Obj)=some (.cells #[x0,x1,x2,y3,y4,y5,y6,y7,y8] t (0,0)):=h3;have h4:=heap_setCell_same _ g 3 _ _ x3 h3;have h4:(_:Option Obj)=some (.cells #[x0,x1,x2,x3,y4,y5,y6,y7,y8] t (0,0)):=h4;have h5:=heap_setCell_same _ g 4 _ _ x4 h4;have h5:(_:Option Obj)=some (.cells #[x0,x1,x2,x3,x4,y5,y6,y7,y8] t (0,0)):=h5;have h6:=heap_setCell_same _ g 5 _ _ x5 h5;have h6:(_:Option Obj)=some (.cells #[x0,x1,x2,x3,x4,x5,y6,y7,y8] t (0,0)):=h6;have h7:=heap_setCell_same _ g 6 _ _ x6 h6;have h7:(_:Option Obj)=some (.cells #[x0,x1,x2,x3,x4,x5,x6,y7,y8] t (0,0)):=h7;have h8:=heap_setCell_same _ g 7 _ _ x7 h7;have h8:(_:Option Obj)=some (.cells #[x0,x1,x2,x3,x4,x5,x6,x7,y8] t (0,0)):=h8;have h9:=heap_setCell_same _ g 8 _ _ x8 h8;have h9:(_:Option Obj)=some (.cells #[x0,x1,x2,x3,x4,x5,x6,x7,x8] t (0,0)):=h9;exact h9
theorem aes (w:World) (g:Nat) (x0 x1 x2 x3 x4 x5 x6 x7 x8:Value):Tch (fun k=>k=g) w (arc w g x0 x1 x2 x3 x4 x5 x6 x7 x8):=by
 unfold arc;have t:∀(W:World) (i:Nat) (x:Value),Tch (fun k=>k=g) w W->Tch (fun k=>k=g) w (W.setCell ⟨g,i,none⟩ x):=fun W i x h=>h.trans (Tch.set (S:=fun k=>k=g) W ⟨g,i,none⟩ x rfl) (fun _ _ h=>h);exact t _ _ _ (t _ _ _ (t _ _ _ (t _ _ _ (t _ _ _ (t _ _ _ (t _ _ _ (t _ _ _ (t _ _ _ (Tch.refl _ _)))))))))
theorem aqz{fn:Func}{R:Ending->World->Prop}{a:Act}{w:World}{p:Tmp}{g:Nat}{x0 x1 x2 x3 x4 x5 x6 x7 x8:Value}(hres:fn.results= #[.cell p 50]) (hp:a.tmps.getD p undef= .pointer (some ⟨g,0,none⟩)) (hd:a.defers= [])
 (hg:w.heap[g]?=some (.cells #[x0,x1,x2,x3,x4,x5,x6,x7,x8] 50 (0,0))) (hR:R (.returned (.agg #[x0,x1,x2,x3,x4,x5,x6,x7,x8])) w):bodyPost Tryz.prog fn R .ret a w:=by
 refine bodyPost_ret (v:= .agg #[x0,x1,x2,x3,x4,x5,x6,x7,x8]) ?_ hd hR;exact results_cell_row hres _ _ g _ _ _ _ hp hg rfl rfl rfl
theorem aqA (h:Ar w 195 g base cap A c bs){k:Nat}{cs:Array Value}(hk:w.heap[k]?=some (.cells cs 50 (0,0))):¬foot g A k:=by
 rintro(rfl | ⟨a,ea,rfl⟩)
 · have h1:=h.obj;rw[hk]at h1;injection h1 with h1;injection h1 with _ h2 _;exact absurd h2 (by decide)
 · obtain⟨h',e,cur,hg,_⟩:=h.row ea;subst e;rw[hk]at hg;injection hg with hg;injection hg with _ h2 _;exact absurd h2 (by decide)
theorem PTurn.near{S:Nat->Prop}(h:PTurn g base cap A H' w w4) (ht:Tch S w4 w5) (hS:∀k,S k->w.heap.size<=k/\∃cs,w4.heap[k]?=some (.cells cs 50 (0,0))):PTurn g base cap A H' w w5:=by
 obtain⟨out,⟨A4,c4,a4,t4,m4⟩,rd⟩:=h;refine⟨out,⟨A4,c4,a4.tch ht (fun k hk hs=> ?_),t4.trans ht (fun i hi hs=> ?_),m4⟩,rd⟩
 · obtain⟨_,cs,hcs⟩:=hS k hs;exact aqA a4 hcs hk
 · have:=(hS i hs).1;omega
theorem aha{w w':World}{base n size:Nat}{t:TypeId}{v:Value}{xs:List Value}(h:w.ownsRow base t size v n xs) (hk:∀k,v.ownBlock=some k->w'.heap[k]?=w.heap[k]?):w'.ownsRow base t size v n xs:=by
 refine⟨h.1,?_⟩;rcases h.2 with h2 | ⟨g,cap,cur,hv,hg,hh,r⟩
 · exact .inl h2
 · exact .inr ⟨g,cap,cur,hv,hg,(hk g (by rw[hv];rfl)).trans hh,r⟩
theorem PTurn.after{w1:World}(h:PTurn g base cap A H' w1 w4) (hb:Below w.heap.size w w1):PTurn g base cap A H' w w4:=by
 obtain⟨out,hbe,hr⟩:=h;exact⟨out,hbe.after hb,hr⟩
theorem PTurn.tch (h:PTurn g base cap A H' w w4):Tch (foot g A) w w4:=by
 obtain⟨_,⟨_,_,_,t,_⟩,_⟩:=h;exact t
theorem PTurn.ends{b4 b5:Nat}(h:PTurn g base cap A H' w w4) (m4:w4.heap[b4]?=some (.cells rp0 50 (0,0))) (m5:w4.heap[b5]?=some (.cells rp0 50 (0,0))) (l4:w.heap.size<=b4) (l5:w.heap.size<=b5) (ht:Tch (fun k=>k=b4\/k=b5) w4 w5):PTurn g base cap A H' w w5:=
 h.near ht (by
  rintro k (rfl | rfl)
  · exact⟨l4,_,m4⟩
  · exact⟨l5,_,m5⟩)
theorem av6{y0 y1 y2 y3 y4 y5 y6 y7 y8:Value}{g:Nat}{t:TypeId}(h:w.heap[g]?=some (.cells #[y0,y1,y2,y3,y4,y5,y6,y7,y8] t (0,0))) (x4 x5 x6 x7 x8:Value):
 (((((w.setCell ⟨g,4,none⟩ x4).setCell ⟨g,5,none⟩ x5).setCell ⟨g,6,none⟩ x6).setCell ⟨g,7,none⟩ x7).setCell ⟨g,8,none⟩ x8).heap[g]?=some (.cells #[y0,y1,y2,y3,x4,x5,x6,x7,x8] t (0,0)):=by
 have h1:=heap_setCell_same w g 4 _ _ x4 h;have h2:=heap_setCell_same _ g 5 _ _ x5 h1;have h3:=heap_setCell_same _ g 6 _ _ x6 h2;have h4:=heap_setCell_same _ g 7 _ _ x7 h3;have h5:=heap_setCell_same _ g 8 _ _ x8 h4;rw[h5];rfl
theorem avn (w:World) (g:Nat) (x4 x5 x6 x7 x8:Value):Tch (fun k=>k=g) w (((((w.setCell ⟨g,4,none⟩ x4).setCell ⟨g,5,none⟩ x5).setCell ⟨g,6,none⟩ x6).setCell ⟨g,7,none⟩ x7).setCell ⟨g,8,none⟩ x8):=by
 have t:∀(W:World) (i:Nat) (x:Value),Tch (fun k=>k=g) w W->Tch (fun k=>k=g) w (W.setCell ⟨g,i,none⟩ x):=fun W i x h=>h.trans (Tch.set (S:=fun k=>k=g) W ⟨g,i,none⟩ x rfl) (fun _ _ h=>h);exact t _ _ _ (t _ _ _ (t _ _ _ (t _ _ _ (t _ _ _ (Tch.refl _ _)))))
structure Do3 (w w3:World) (b3 b4 b5:Nat) (cs:Array Value):Prop where
 bel:Below w.heap.size w w3
 n3:w3.heap[b3]?=some (.cells cs 43 (0,0))
 n4:w3.heap[b4]?=some (.cells rp0 50 (0,0))
 n5:w3.heap[b5]?=some (.cells rp0 50 (0,0))
 l3:w.heap.size<=b3
 l4:w.heap.size<=b4
 l5:w.heap.size<=b5
 ne:b4≠b5
theorem Do3.made (w:World) (cs:Array Value):Do3 w (((w.alloc (.cells cs 43)).alloc (.cells rp0 50)).alloc (.cells rp0 50)) w.heap.size (w.alloc (.cells cs 43)).heap.size ((w.alloc (.cells cs 43)).alloc (.cells rp0 50)).heap.size cs:=by
 obtain⟨w1,hw1⟩:=nmE (w.alloc (.cells cs 43));have b1:=abE hw1;have n1:=anE hw1;rw[hw1];obtain⟨w2,hw2⟩:=nmE (w1.alloc (.cells rp0 50));have b2:=abE hw2;have n2:=anE hw2;rw[hw2];have n12:=(b2.block _ (aae n1)).trans n1;obtain⟨w3,hw3⟩:=nmE (w2.alloc (.cells rp0 50));have b3:=abE hw3;have n3:=anE hw3;rw[hw3];have l12:=aae n2;exact⟨b1.trans ((b2.mono b1.size).trans (b3.mono (Nat.le_trans b1.size b2.size))),(b3.block _ (aae n12)).trans n12,(b3.block _ l12).trans n2,n3,Nat.le_refl _,b1.size,Nat.le_trans b1.size b2.size,by omega⟩
theorem asy (p n m a:Nat) (b:List UInt8):H.doC 0 p n m a b=(Rp.err 1,H):=by
 unfold Hp.doC;rw[if_neg (by decide),if_neg (by decide),if_neg (by decide),if_neg (by decide),if_neg (by decide),if_neg (by decide)]
theorem aoe (p n m a:Nat) (b:List UInt8):H.doC 1 p n m a b=aow (H.get n 165):=by unfold Hp.doC;rw[if_pos rfl]
theorem asz (p n m a:Nat) (b:List UInt8):H.doC 2 p n m a b=aow (H.calloc n m):=by unfold Hp.doC;rw[if_neg (by decide),if_pos rfl]
theorem aqB (p n m a:Nat) (b:List UInt8):H.doC 3 p n m a b=(Rp.err (H.freeP p).1,(H.freeP p).2):=by
 unfold Hp.doC Hp.freeP;rw[if_neg (by decide),if_neg (by decide),if_pos rfl]
 cases H.handleB p<;>rfl
theorem asA (p n m a:Nat) (b:List UInt8):H.doC 4 p n m a b=aow (H.realloc p n):=by unfold Hp.doC;rw[if_neg (by decide),if_neg (by decide),if_neg (by decide),if_pos rfl]
theorem asB (p n m a:Nat) (b:List UInt8):H.doC 5 p n m a b=(⟨(H.usableP p).2,0,(H.usableP p).1,[],St5.none⟩,H):=by
 unfold Hp.doC Hp.heldC Hp.usableP;rw[if_neg (by decide),if_neg (by decide),if_neg (by decide),if_neg (by decide),if_pos (.inl rfl)]
 cases H.handleB p with
 | none=>rfl
 | some i=>dsimp only;rw[if_pos rfl]
theorem aof (p n m a:Nat) (b:List UInt8):H.doC 6 p n m a b=(⟨(H.readP p a n).2,0,0,(H.readP p a n).1,St5.none⟩,H):=by
 unfold Hp.doC Hp.heldC Hp.readP;rw[if_neg (by decide),if_neg (by decide),if_neg (by decide),if_neg (by decide),if_pos (.inr (.inl rfl))]
 cases H.handleB p with
 | none=>rfl
 | some i=>
  dsimp only;rw[if_neg (by decide),if_neg (show ¬(6:Int)=7 by decide)];by_cases h:(H.ds.getD i acc).2.length<a+n
  · rw[if_pos h,if_pos h];rfl
  · rw[if_neg h,if_neg h,if_pos rfl]
theorem aqC (p n m a:Nat) (b:List UInt8):H.doC 7 p n m a b=(Rp.err (H.writeP p a b).1,(H.writeP p a b).2):=by
 unfold Hp.doC Hp.heldC Hp.writeP;rw[if_neg (by decide),if_neg (by decide),if_neg (by decide),if_neg (by decide),if_pos (.inr (.inr rfl))]
 cases H.handleB p with
 | none=>rfl
 | some i=>
  dsimp only;rw[if_neg (by decide),if_pos (show(7:Int)=7 from rfl)];by_cases h:(H.ds.getD i acc).2.length<a+b.length
  · rw[if_pos h,if_pos h]
  · rw[if_neg h,if_neg h,if_neg (by decide)]
theorem asC (p n m a:Nat) (b:List UInt8):H.doC 8 p n m a b=(⟨0,0,0,[],H.stats⟩,H):=by
 unfold Hp.doC;rw[if_neg (by decide),if_neg (by decide),if_neg (by decide),if_neg (by decide),if_neg (by decide),if_pos rfl]
end
theorem adk{P:Prop}(h:P:=by
 clear y0 y1 y2 y3 y4 y5 y6 y7 y8 f0 f1 f2 f3 f4 f5 f6 f7 f8 hy;obtain⟨⟨y0,y1,y2,y3,y4,y5,y6,y7,y8⟩,f0,f1,f2,f3,f4,f5,f6,f7,f8⟩:=abH n6;have hy6:=aac n6;have HW7:=hE0 hw7;obtain⟨⟨u0,u1,u2,u3,u4,u5,u6,u7,u8⟩,_⟩:=abH n7;have hy7:=aac n7;obtain⟨⟨v0,v1,v2,v3,v4,v5,v6,v7,v8⟩,e0,e1,e2,e3,e4,e5,e6,e7,e8⟩:=abH m7;have hm7:=aac m7;clear hb6 n6 m6 hw7 n7 m7 t7 tf HNM HT5 HN5 HM5;go_wp2_with (first | (rw[HW7.out]) | fail)
 (try simp only[Exit.inBlock,Exit.then])
 refine aqz (g:=w1.heap.size) Tryz.results20 ?_ ?_ MF.out ?_
 · rfl
 · rfl
 · exact⟨⟨none,0,rfl,World.ownsRow_nil _ _ _ _⟩,HT4.out.ends HM4.out HM45.out HD.out.l4 HD.out.l5 TF.out⟩
 ):P:=h
theorem av7{w:World}{q g base cap c:Nat}{A:Option Addr}{bs:List UInt8}{H:Hp}(h:PH w q g base cap A c bs H) (hE:ET w) (h0:¬foot g A 0) (p n m a bl k:Nat) (B:Option Addr) (b:List UInt8):
 Calls Tryz.prog 20 #[.pointer (some ⟨q,0,none⟩),abo 0 p n m a B bl k] w fun e w'=>adj (H.doC 0 p n m a b).1 w e w'/\PTurn g base cap A (H.doC 0 p n m a b).2 w w':=by
 rw[asy];unfold abo;have hd:=Do3.made w #[.int .i64 0, .int .u64 (p:Int), .int .u64 (n:Int), .int .u64 (m:Int), .int .u64 (a:Int), .slice B bl k];obtain⟨w1,hw1⟩:=nmE (w.alloc (.cells #[.int .i64 0, .int .u64 (p:Int), .int .u64 (n:Int), .int .u64 (m:Int), .int .u64 (a:Int), .slice B bl k] 43));rw[hw1]at hd;obtain⟨w2,hw2⟩:=nmE (w1.alloc (.cells rp0 50));rw[hw2]at hd;obtain⟨w3,hw3⟩:=nmE (w2.alloc (.cells rp0 50));rw[hw3]at hd;unfold rp0 at hw2 hw3;obtain⟨z0,z1,z2,z3,z4,z5⟩:=abp hd.n3;have hz:=aac hd.n3;have h3:=h.below hd.bel;have hk:∀k,w.heap.size<=k->¬foot g A k:=fun k hk hf=>by have:=h.ar.foot_lt hf;omega
 have HD:=hE0 hd;have HH:=hE0 h;have HK:=hE0 hk;have HW1:=hE0 hw1;have HW2:=hE0 hw2;have HW3:=hE0 hw3;have HE:=hE0 hE;have H00:=hE0 h0;clear h hd h3 hE hk hw1 hw2 hw3 h0;go_enter Tryz.func20,Tryz.ntmps20
 have T4:PTurn g base cap A H w w3:=HH.out.stay HD.out.bel;have E4:ET w3:=HE.out.keep (T4.tch.block 0 HE.out.lt H00.out);have t34:Tch (foot g A) w3 w3:=Tch.refl _ _;have m4:=(t34.block _ (aae HD.out.n4) (HK.out _ HD.out.l4)).trans HD.out.n4;have m5:=(t34.block _ (aae HD.out.n5) (HK.out _ HD.out.l5)).trans HD.out.n5;obtain⟨⟨y0,y1,y2,y3,y4,y5,y6,y7,y8⟩,f0,f1,f2,f3,f4,f5,f6,f7,f8⟩:=abH m5;have hy:=aac m5;have n5:w3.heap[w2.heap.size]?=some (.cells #[.int .i64 0, .int .u64 0, .int .u64 0, .slice none 0 0, .int .i64 0, .int .i64 0, .int .i64 0, .int .i64 0, .int .i64 0] 50 (0,0)):=m5;have t5:Tch (fun k=>k=w2.heap.size) w3 w3:=Tch.refl _ _;have E5:ET w3:=E4.keep (t5.block 0 E4.lt (fun e=>by
  have e:0=w2.heap.size:=e;have h1:=HD.out.l5;have h2:=HE.out.lt;omega))
 have m5':w3.heap[w1.heap.size]?=some (.cells rp0 50 (0,0)):=(t5.block _ (aae m4) HD.out.ne).trans m4;have HNM:=hE0 (ag7 E5 1);have HT5:=hE0 t5;have HN5:=hE0 n5;have HM5:=hE0 m5';have HM4:=hE0 m4;have HM45:=hE0 m5;have HT4:=hE0 T4;clear E4 E5 m4 m5 m5' n5 t5 T4;go_wp2_with (first | (rw[HW1.out]) | (rw[HW2.out]) | (rw[HW3.out]) | fail)
 refine HNM.out.mono ?_;rintro e w6 ⟨rfl,hb6⟩;have n6:=(hb6.block _ (aae HN5.out)).trans HN5.out;have m6:=(hb6.block _ (aae HM5.out)).trans HM5.out;obtain⟨w7,hw7⟩:=nmE (w6.setCell ⟨w2.heap.size,0,none⟩ (.int .i64 1));have n7:w7.heap[w2.heap.size]?=some (.cells #[.int .i64 1, .int .u64 0, .int .u64 0, .slice none 0 0, .int .i64 0, .int .i64 0, .int .i64 0, .int .i64 0, .int .i64 0] 50 (0,0)):=by rw[<-hw7];exact heap_setCell_same w6 w2.heap.size 0 _ _ _ n6
 have m7:w7.heap[w1.heap.size]?=some (.cells rp0 50 (0,0)):=by rw[<-hw7];exact(Below.heap_setCell w6 ⟨w2.heap.size,0,none⟩ _ w1.heap.size HD.out.ne).trans m6
 have t7:Tch (fun k=>k=w2.heap.size) w6 w7:=by rw[<-hw7];exact Tch.set (S:=fun k=>k=w2.heap.size) w6 ⟨w2.heap.size,0,none⟩ _ rfl
 have tf:Tch (fun k=>k=w1.heap.size\/k=w2.heap.size) w3 (arc w7 w1.heap.size (.int .i64 1) (.int .u64 0) (.int .u64 0) (.slice none 0 0) (.int .i64 0) (.int .i64 0) (.int .i64 0) (.int .i64 0) (.int .i64 0)):=
  (((((Tch.refl (fun k=>k=w1.heap.size\/k=w2.heap.size) w3).trans HT5.out (fun _ _ e=> .inr e)).trans (Tch.of_below (S:=fun _=>False) hb6) (fun _ _ h=>h.elim)).trans t7 (fun _ _ e=> .inr e)).trans (aes w7 w1.heap.size (.int .i64 1) (.int .u64 0) (.int .u64 0) (.slice none 0 0) (.int .i64 0) (.int .i64 0) (.int .i64 0) (.int .i64 0) (.int .i64 0)) (fun _ _ e=> .inl e))
 have TF:=hE0 tf;have MF:=hE0 (aij m7 (.int .i64 1) (.int .u64 0) (.int .u64 0) (.slice none 0 0) (.int .i64 0) (.int .i64 0) (.int .i64 0) (.int .i64 0) (.int .i64 0));exact adk
theorem aik{P:Prop}(h:P:=by
 have HT5:=hE0 t5;have HN5:=hE0 n5;have HM5:=hE0 m5';have HM4:=hE0 m4;have HM45:=hE0 m5;have HT4:=hE0 T4;clear E4 E5 m4 m5 m5' n5 t5 T4;go_wp2_with (first | (rw[HW5.out]) | fail)
 refine HNM.out.mono ?_;rintro e w6 ⟨rfl,hb6⟩;have n6:=(hb6.block _ (aae HN5.out)).trans HN5.out;have m6:=(hb6.block _ (aae HM5.out)).trans HM5.out;obtain⟨w7,hw7⟩:=nmE (w6.setCell ⟨w2.heap.size,0,none⟩ (.int .i64 rk));have n7:w7.heap[w2.heap.size]?=some (.cells #[.int .i64 rk, .int .u64 (rh:Int), .int .u64 0, .slice none 0 0, .int .i64 0, .int .i64 0, .int .i64 0, .int .i64 0, .int .i64 0] 50 (0,0)):=by rw[<-hw7];exact heap_setCell_same w6 w2.heap.size 0 _ _ _ n6
 have m7:w7.heap[w1.heap.size]?=some (.cells rp0 50 (0,0)):=by rw[<-hw7];exact(Below.heap_setCell w6 ⟨w2.heap.size,0,none⟩ _ w1.heap.size HD.out.ne).trans m6
 have t7:Tch (fun k=>k=w2.heap.size) w6 w7:=by rw[<-hw7];exact Tch.set (S:=fun k=>k=w2.heap.size) w6 ⟨w2.heap.size,0,none⟩ _ rfl
 have tf:Tch (fun k=>k=w1.heap.size\/k=w2.heap.size) w4 (arc w7 w1.heap.size (.int .i64 rk) (.int .u64 (rh:Int)) (.int .u64 0) (.slice none 0 0) (.int .i64 0) (.int .i64 0) (.int .i64 0) (.int .i64 0) (.int .i64 0)):=
  (((((Tch.refl (fun k=>k=w1.heap.size\/k=w2.heap.size) w4).trans HT5.out (fun _ _ e=> .inr e)).trans (Tch.of_below (S:=fun _=>False) hb6) (fun _ _ h=>h.elim)).trans t7 (fun _ _ e=> .inr e)).trans (aes w7 w1.heap.size (.int .i64 rk) (.int .u64 (rh:Int)) (.int .u64 0) (.slice none 0 0) (.int .i64 0) (.int .i64 0) (.int .i64 0) (.int .i64 0) (.int .i64 0)) (fun _ _ e=> .inl e))
 have TF:=hE0 tf;have MF:=hE0 (aij m7 (.int .i64 rk) (.int .u64 (rh:Int)) (.int .u64 0) (.slice none 0 0) (.int .i64 0) (.int .i64 0) (.int .i64 0) (.int .i64 0) (.int .i64 0));exact adk
 ):P:=h
theorem asD{w:World}{q g base cap c:Nat}{A:Option Addr}{bs:List UInt8}{H:Hp}(h:PH w q g base cap A c bs H) (hE:ET w) (h0:¬foot g A 0) (p n m a bl k:Nat) (B:Option Addr) (b:List UInt8) (hM:∀w3,Below w.heap.size w w3->Calls Tryz.prog 61 #[.pointer (some ⟨q,0,none⟩), .int .u64 (n:Int)] w3 fun e w'=>ag5 g base cap A (H.get n 165) w3 e w') (hN:∀W,ET W->Calls Tryz.prog 71 #[aju (H.get n 165).1.2] W fun e w'=>e= .returned (.int .i64 (H.get n 165).1.2)/\Below W.heap.size W w'):
 Calls Tryz.prog 20 #[.pointer (some ⟨q,0,none⟩),abo 1 p n m a B bl k] w fun e w'=>adj (H.doC 1 p n m a b).1 w e w'/\PTurn g base cap A (H.doC 1 p n m a b).2 w w':=by
 rw[aoe];unfold abo;have hd:=Do3.made w #[.int .i64 1, .int .u64 (p:Int), .int .u64 (n:Int), .int .u64 (m:Int), .int .u64 (a:Int), .slice B bl k];obtain⟨w1,hw1⟩:=nmE (w.alloc (.cells #[.int .i64 1, .int .u64 (p:Int), .int .u64 (n:Int), .int .u64 (m:Int), .int .u64 (a:Int), .slice B bl k] 43));rw[hw1]at hd;obtain⟨w2,hw2⟩:=nmE (w1.alloc (.cells rp0 50));rw[hw2]at hd;obtain⟨w3,hw3⟩:=nmE (w2.alloc (.cells rp0 50));rw[hw3]at hd;unfold rp0 at hw2 hw3;obtain⟨z0,z1,z2,z3,z4,z5⟩:=abp hd.n3;have hz:=aac hd.n3;have hk:∀k,w.heap.size<=k->¬foot g A k:=fun k hk hf=>by have:=h.ar.foot_lt hf;omega
 have hO:=hM w3 hd.bel;obtain⟨r,hr⟩:=nmE (H.get n 165);rw[hr]at hO hN ⊢;obtain⟨⟨rh,rk⟩,H'⟩:=r;dsimp only[ag5]at hO;dsimp only[aow];dsimp only at hN;have HO:=hE0 hO;have HNM:=hE0 hN;have HD:=hE0 hd;have HH:=hE0 h;have HK:=hE0 hk;have HW1:=hE0 hw1;have HW2:=hE0 hw2;have HW3:=hE0 hw3;have HE:=hE0 hE;have H00:=hE0 h0;clear h hd hM hN hE hk hw1 hw2 hw3 h0 hO hr;go_enter Tryz.func20,Tryz.ntmps20
 go_wp2_with (first | (rw[HW1.out]) | (rw[HW2.out]) | (rw[HW3.out]) | fail)
 refine HO.out.mono ?_;rintro e w4 ⟨rfl,ht⟩;have T4:PTurn g base cap A H' w w4:=ht.after HD.out.bel;have E4:ET w4:=HE.out.keep (T4.tch.block 0 HE.out.lt H00.out);have t34:Tch (foot g A) w3 w4:=ht.tch;have m4:=(t34.block _ (aae HD.out.n4) (HK.out _ HD.out.l4)).trans HD.out.n4;have m5:=(t34.block _ (aae HD.out.n5) (HK.out _ HD.out.l5)).trans HD.out.n5;obtain⟨⟨y0,y1,y2,y3,y4,y5,y6,y7,y8⟩,f0,f1,f2,f3,f4,f5,f6,f7,f8⟩:=abH m5;have hy:=aac m5;clear z0 z1 z2 z3 z4 z5 hz HO t34;obtain⟨w5,hw5⟩:=nmE (w4.setCell ⟨w2.heap.size,1,none⟩ (.int .u64 (rh:Int)));have n5:w5.heap[w2.heap.size]?=some (.cells #[.int .i64 0, .int .u64 (rh:Int), .int .u64 0, .slice none 0 0, .int .i64 0, .int .i64 0, .int .i64 0, .int .i64 0, .int .i64 0] 50 (0,0)):=by rw[<-hw5];exact heap_setCell_same w4 w2.heap.size 1 _ _ _ m5
 have t5:Tch (fun k=>k=w2.heap.size) w4 w5:=by rw[<-hw5];exact Tch.set (S:=fun k=>k=w2.heap.size) w4 ⟨w2.heap.size,1,none⟩ _ rfl
 have HW5:=hE0 hw5;clear hw5;have E5:ET w5:=E4.keep (t5.block 0 E4.lt (fun e=>by
  have e:0=w2.heap.size:=e;have h1:=HD.out.l5;have h2:=HE.out.lt;omega))
 have m5':w5.heap[w1.heap.size]?=some (.cells rp0 50 (0,0)):=(t5.block _ (aae m4) HD.out.ne).trans m4;have HNM:=hE0 (HNM.out _ E5);exact aik
theorem av8{w:World}{q g base cap c:Nat}{A:Option Addr}{bs:List UInt8}{H:Hp}(h:PH w q g base cap A c bs H) (hE:ET w) (h0:¬foot g A 0) (p n m a bl k:Nat) (B:Option Addr) (b:List UInt8) (hn:n<18446744073709551616):
 Calls Tryz.prog 20 #[.pointer (some ⟨q,0,none⟩),abo 1 p n m a B bl k] w fun e w'=>adj (H.doC 1 p n m a b).1 w e w'/\PTurn g base cap A (H.doC 1 p n m a b).2 w w':=
 asD h hE h0 p n m a bl k B b (fun _ hb=>al4 (h.below hb) n hn) fun _ hE=>acV hE _
theorem ail{P:Prop}(h:P:=by
 rw[hr]at hO ⊢;obtain⟨⟨rh,rk⟩,H'⟩:=r;dsimp only[ag5]at hO;dsimp only[aow];have HO:=hE0 hO;have HD:=hE0 hd;have HH:=hE0 h;have HK:=hE0 hk;have HW1:=hE0 hw1;have HW2:=hE0 hw2;have HW3:=hE0 hw3;have HE:=hE0 hE;have H00:=hE0 h0;clear h hd h3 hE hk hw1 hw2 hw3 h0 hO hr;go_enter Tryz.func20,Tryz.ntmps20
 go_wp2_with (first | (rw[HW1.out]) | (rw[HW2.out]) | (rw[HW3.out]) | fail)
 refine HO.out.mono ?_;rintro e w4 ⟨rfl,ht⟩;have T4:PTurn g base cap A H' w w4:=ht.after HD.out.bel;have E4:ET w4:=HE.out.keep (T4.tch.block 0 HE.out.lt H00.out);have t34:Tch (foot g A) w3 w4:=ht.tch;have m4:=(t34.block _ (aae HD.out.n4) (HK.out _ HD.out.l4)).trans HD.out.n4;have m5:=(t34.block _ (aae HD.out.n5) (HK.out _ HD.out.l5)).trans HD.out.n5;obtain⟨⟨y0,y1,y2,y3,y4,y5,y6,y7,y8⟩,f0,f1,f2,f3,f4,f5,f6,f7,f8⟩:=abH m5;have hy:=aac m5;clear z0 z1 z2 z3 z4 z5 hz HO t34;obtain⟨w5,hw5⟩:=nmE (w4.setCell ⟨w2.heap.size,1,none⟩ (.int .u64 (rh:Int)));have n5:w5.heap[w2.heap.size]?=some (.cells #[.int .i64 0, .int .u64 (rh:Int), .int .u64 0, .slice none 0 0, .int .i64 0, .int .i64 0, .int .i64 0, .int .i64 0, .int .i64 0] 50 (0,0)):=by rw[<-hw5];exact heap_setCell_same w4 w2.heap.size 1 _ _ _ m5
 have t5:Tch (fun k=>k=w2.heap.size) w4 w5:=by rw[<-hw5];exact Tch.set (S:=fun k=>k=w2.heap.size) w4 ⟨w2.heap.size,1,none⟩ _ rfl
 have HW5:=hE0 hw5;clear hw5;have E5:ET w5:=E4.keep (t5.block 0 E4.lt (fun e=>by
  have e:0=w2.heap.size:=e;have h1:=HD.out.l5;have h2:=HE.out.lt;omega))
 have m5':w5.heap[w1.heap.size]?=some (.cells rp0 50 (0,0)):=(t5.block _ (aae m4) HD.out.ne).trans m4;have HNM:=hE0 (acV E5 rk);exact aik
 ):P:=h
theorem av9{w:World}{q g base cap c:Nat}{A:Option Addr}{bs:List UInt8}{H:Hp}(h:PH w q g base cap A c bs H) (hE:ET w) (h0:¬foot g A 0) (p n m a bl k:Nat) (B:Option Addr) (b:List UInt8) (hn:n<18446744073709551616) (hm:m<18446744073709551616):
 Calls Tryz.prog 20 #[.pointer (some ⟨q,0,none⟩),abo 2 p n m a B bl k] w fun e w'=>adj (H.doC 2 p n m a b).1 w e w'/\PTurn g base cap A (H.doC 2 p n m a b).2 w w':=by
 rw[asz];unfold abo;have hd:=Do3.made w #[.int .i64 2, .int .u64 (p:Int), .int .u64 (n:Int), .int .u64 (m:Int), .int .u64 (a:Int), .slice B bl k];obtain⟨w1,hw1⟩:=nmE (w.alloc (.cells #[.int .i64 2, .int .u64 (p:Int), .int .u64 (n:Int), .int .u64 (m:Int), .int .u64 (a:Int), .slice B bl k] 43));rw[hw1]at hd;obtain⟨w2,hw2⟩:=nmE (w1.alloc (.cells rp0 50));rw[hw2]at hd;obtain⟨w3,hw3⟩:=nmE (w2.alloc (.cells rp0 50));rw[hw3]at hd;unfold rp0 at hw2 hw3;obtain⟨z0,z1,z2,z3,z4,z5⟩:=abp hd.n3;have hz:=aac hd.n3;have h3:=h.below hd.bel;have hk:∀k,w.heap.size<=k->¬foot g A k:=fun k hk hf=>by have:=h.ar.foot_lt hf;omega
 have hO:=akD h3 n m hn hm;obtain⟨r,hr⟩:=nmE (H.calloc n m);exact ail
theorem aim{P:Prop}(h:P:=by
 go_enter Tryz.func20,Tryz.ntmps20
 go_wp2_with (first | (rw[HW1.out]) | (rw[HW2.out]) | (rw[HW3.out]) | fail)
 refine HO.out.mono ?_;rintro e w4 ⟨rfl,ht⟩;have T4:PTurn g base cap A H' w w4:=ht.after HD.out.bel;have E4:ET w4:=HE.out.keep (T4.tch.block 0 HE.out.lt H00.out);have t34:Tch (foot g A) w3 w4:=ht.tch;have m4:=(t34.block _ (aae HD.out.n4) (HK.out _ HD.out.l4)).trans HD.out.n4;have m5:=(t34.block _ (aae HD.out.n5) (HK.out _ HD.out.l5)).trans HD.out.n5;obtain⟨⟨y0,y1,y2,y3,y4,y5,y6,y7,y8⟩,f0,f1,f2,f3,f4,f5,f6,f7,f8⟩:=abH m5;have hy:=aac m5;clear z0 z1 z2 z3 z4 z5 hz HO t34;have n5:w4.heap[w2.heap.size]?=some (.cells #[.int .i64 0, .int .u64 0, .int .u64 0, .slice none 0 0, .int .i64 0, .int .i64 0, .int .i64 0, .int .i64 0, .int .i64 0] 50 (0,0)):=m5;have t5:Tch (fun k=>k=w2.heap.size) w4 w4:=Tch.refl _ _;have E5:ET w4:=E4.keep (t5.block 0 E4.lt (fun e=>by
  have e:0=w2.heap.size:=e;have h1:=HD.out.l5;have h2:=HE.out.lt;omega))
 have m5':w4.heap[w1.heap.size]?=some (.cells rp0 50 (0,0)):=(t5.block _ (aae m4) HD.out.ne).trans m4;have HNM:=hE0 (acV E5 rk);have HT5:=hE0 t5;have HN5:=hE0 n5;have HM5:=hE0 m5';have HM4:=hE0 m4;have HM45:=hE0 m5;have HT4:=hE0 T4;clear E4 E5 m4 m5 m5' n5 t5 T4;go_wp2_with fail
 refine HNM.out.mono ?_;rintro e w6 ⟨rfl,hb6⟩;have n6:=(hb6.block _ (aae HN5.out)).trans HN5.out;have m6:=(hb6.block _ (aae HM5.out)).trans HM5.out;obtain⟨w7,hw7⟩:=nmE (w6.setCell ⟨w2.heap.size,0,none⟩ (.int .i64 rk));have n7:w7.heap[w2.heap.size]?=some (.cells #[.int .i64 rk, .int .u64 0, .int .u64 0, .slice none 0 0, .int .i64 0, .int .i64 0, .int .i64 0, .int .i64 0, .int .i64 0] 50 (0,0)):=by rw[<-hw7];exact heap_setCell_same w6 w2.heap.size 0 _ _ _ n6
 have m7:w7.heap[w1.heap.size]?=some (.cells rp0 50 (0,0)):=by rw[<-hw7];exact(Below.heap_setCell w6 ⟨w2.heap.size,0,none⟩ _ w1.heap.size HD.out.ne).trans m6
 have t7:Tch (fun k=>k=w2.heap.size) w6 w7:=by rw[<-hw7];exact Tch.set (S:=fun k=>k=w2.heap.size) w6 ⟨w2.heap.size,0,none⟩ _ rfl
 have tf:Tch (fun k=>k=w1.heap.size\/k=w2.heap.size) w4 (arc w7 w1.heap.size (.int .i64 rk) (.int .u64 0) (.int .u64 0) (.slice none 0 0) (.int .i64 0) (.int .i64 0) (.int .i64 0) (.int .i64 0) (.int .i64 0)):=
  (((((Tch.refl (fun k=>k=w1.heap.size\/k=w2.heap.size) w4).trans HT5.out (fun _ _ e=> .inr e)).trans (Tch.of_below (S:=fun _=>False) hb6) (fun _ _ h=>h.elim)).trans t7 (fun _ _ e=> .inr e)).trans (aes w7 w1.heap.size (.int .i64 rk) (.int .u64 0) (.int .u64 0) (.slice none 0 0) (.int .i64 0) (.int .i64 0) (.int .i64 0) (.int .i64 0) (.int .i64 0)) (fun _ _ e=> .inl e))
 have TF:=hE0 tf;have MF:=hE0 (aij m7 (.int .i64 rk) (.int .u64 0) (.int .u64 0) (.slice none 0 0) (.int .i64 0) (.int .i64 0) (.int .i64 0) (.int .i64 0) (.int .i64 0));exact adk
 ):P:=h
theorem awa{w:World}{q g base cap c:Nat}{A:Option Addr}{bs:List UInt8}{H:Hp}(h:PH w q g base cap A c bs H) (hE:ET w) (h0:¬foot g A 0) (p n m a bl k:Nat) (B:Option Addr) (b:List UInt8) (hp:p<18446744073709551616):
 Calls Tryz.prog 20 #[.pointer (some ⟨q,0,none⟩),abo 3 p n m a B bl k] w fun e w'=>adj (H.doC 3 p n m a b).1 w e w'/\PTurn g base cap A (H.doC 3 p n m a b).2 w w':=by
 rw[aqB];unfold abo;have hd:=Do3.made w #[.int .i64 3, .int .u64 (p:Int), .int .u64 (n:Int), .int .u64 (m:Int), .int .u64 (a:Int), .slice B bl k];obtain⟨w1,hw1⟩:=nmE (w.alloc (.cells #[.int .i64 3, .int .u64 (p:Int), .int .u64 (n:Int), .int .u64 (m:Int), .int .u64 (a:Int), .slice B bl k] 43));rw[hw1]at hd;obtain⟨w2,hw2⟩:=nmE (w1.alloc (.cells rp0 50));rw[hw2]at hd;obtain⟨w3,hw3⟩:=nmE (w2.alloc (.cells rp0 50));rw[hw3]at hd;unfold rp0 at hw2 hw3;obtain⟨z0,z1,z2,z3,z4,z5⟩:=abp hd.n3;have hz:=aac hd.n3;have h3:=h.below hd.bel;have hk:∀k,w.heap.size<=k->¬foot g A k:=fun k hk hf=>by have:=h.ar.foot_lt hf;omega
 have hO:=aqs h3 p hp;obtain⟨r,hr⟩:=nmE (H.freeP p);rw[hr]at hO ⊢;obtain⟨rk,H'⟩:=r;dsimp only at hO;dsimp only[Rp.err];have HO:=hE0 hO;have HD:=hE0 hd;have HH:=hE0 h;have HK:=hE0 hk;have HW1:=hE0 hw1;have HW2:=hE0 hw2;have HW3:=hE0 hw3;have HE:=hE0 hE;have H00:=hE0 h0;clear h hd h3 hE hk hw1 hw2 hw3 h0 hO hr;exact aim
theorem awb{w:World}{q g base cap c:Nat}{A:Option Addr}{bs:List UInt8}{H:Hp}(h:PH w q g base cap A c bs H) (hE:ET w) (h0:¬foot g A 0) (p n m a bl k:Nat) (B:Option Addr) (b:List UInt8) (hp:p<18446744073709551616) (hn:n<18446744073709551616):
 Calls Tryz.prog 20 #[.pointer (some ⟨q,0,none⟩),abo 4 p n m a B bl k] w fun e w'=>adj (H.doC 4 p n m a b).1 w e w'/\PTurn g base cap A (H.doC 4 p n m a b).2 w w':=by
 rw[asA];unfold abo;have hd:=Do3.made w #[.int .i64 4, .int .u64 (p:Int), .int .u64 (n:Int), .int .u64 (m:Int), .int .u64 (a:Int), .slice B bl k];obtain⟨w1,hw1⟩:=nmE (w.alloc (.cells #[.int .i64 4, .int .u64 (p:Int), .int .u64 (n:Int), .int .u64 (m:Int), .int .u64 (a:Int), .slice B bl k] 43));rw[hw1]at hd;obtain⟨w2,hw2⟩:=nmE (w1.alloc (.cells rp0 50));rw[hw2]at hd;obtain⟨w3,hw3⟩:=nmE (w2.alloc (.cells rp0 50));rw[hw3]at hd;unfold rp0 at hw2 hw3;obtain⟨z0,z1,z2,z3,z4,z5⟩:=abp hd.n3;have hz:=aac hd.n3;have h3:=h.below hd.bel;have hk:∀k,w.heap.size<=k->¬foot g A k:=fun k hk hf=>by have:=h.ar.foot_lt hf;omega
 have hO:=ajn h3 p n hp hn;obtain⟨r,hr⟩:=nmE (H.realloc p n);exact ail
theorem awc{w:World}{q g base cap c:Nat}{A:Option Addr}{bs:List UInt8}{H:Hp}(h:PH w q g base cap A c bs H) (hE:ET w) (h0:¬foot g A 0) (p n m a bl k:Nat) (B:Option Addr) (b:List UInt8) (hp:p<18446744073709551616):
 Calls Tryz.prog 20 #[.pointer (some ⟨q,0,none⟩),abo 5 p n m a B bl k] w fun e w'=>adj (H.doC 5 p n m a b).1 w e w'/\PTurn g base cap A (H.doC 5 p n m a b).2 w w':=by
 rw[asB];unfold abo;have hd:=Do3.made w #[.int .i64 5, .int .u64 (p:Int), .int .u64 (n:Int), .int .u64 (m:Int), .int .u64 (a:Int), .slice B bl k];obtain⟨w1,hw1⟩:=nmE (w.alloc (.cells #[.int .i64 5, .int .u64 (p:Int), .int .u64 (n:Int), .int .u64 (m:Int), .int .u64 (a:Int), .slice B bl k] 43));rw[hw1]at hd;obtain⟨w2,hw2⟩:=nmE (w1.alloc (.cells rp0 50));rw[hw2]at hd;obtain⟨w3,hw3⟩:=nmE (w2.alloc (.cells rp0 50));rw[hw3]at hd;unfold rp0 at hw2 hw3;obtain⟨z0,z1,z2,z3,z4,z5⟩:=abp hd.n3;have hz:=aac hd.n3;have h3:=h.below hd.bel;have hk:∀k,w.heap.size<=k->¬foot g A k:=fun k hk hf=>by have:=h.ar.foot_lt hf;omega
 have hO:=acx h3 p hp;obtain⟨r,hr⟩:=nmE (H.usableP p);rw[hr]at hO ⊢;obtain⟨rh,rk⟩:=r;dsimp only at hO;dsimp only;have HO:=hE0 hO;have HD:=hE0 hd;have HH:=hE0 h;have HK:=hE0 hk;have HW1:=hE0 hw1;have HW2:=hE0 hw2;have HW3:=hE0 hw3;have HE:=hE0 hE;have H00:=hE0 h0;clear h hd h3 hE hk hw1 hw2 hw3 h0 hO hr;go_enter Tryz.func20,Tryz.ntmps20
 go_wp2_with (first | (rw[HW1.out]) | (rw[HW2.out]) | (rw[HW3.out]) | fail)
 refine HO.out.mono ?_;rintro e w4 ⟨rfl,hb4⟩;have T4:PTurn g base cap A H w w4:=HH.out.stay (HD.out.bel.trans (hb4.mono HD.out.bel.size));have E4:ET w4:=HE.out.keep (T4.tch.block 0 HE.out.lt H00.out);have t34:Tch (foot g A) w3 w4:=Tch.of_below hb4;have m4:=(t34.block _ (aae HD.out.n4) (HK.out _ HD.out.l4)).trans HD.out.n4;have m5:=(t34.block _ (aae HD.out.n5) (HK.out _ HD.out.l5)).trans HD.out.n5;obtain⟨⟨y0,y1,y2,y3,y4,y5,y6,y7,y8⟩,f0,f1,f2,f3,f4,f5,f6,f7,f8⟩:=abH m5;have hy:=aac m5;clear z0 z1 z2 z3 z4 z5 hz HO t34;obtain⟨w5,hw5⟩:=nmE (w4.setCell ⟨w2.heap.size,2,none⟩ (.int .u64 (rh:Int)));have n5:w5.heap[w2.heap.size]?=some (.cells #[.int .i64 0, .int .u64 0, .int .u64 (rh:Int), .slice none 0 0, .int .i64 0, .int .i64 0, .int .i64 0, .int .i64 0, .int .i64 0] 50 (0,0)):=by rw[<-hw5];exact heap_setCell_same w4 w2.heap.size 2 _ _ _ m5
 have t5:Tch (fun k=>k=w2.heap.size) w4 w5:=by rw[<-hw5];exact Tch.set (S:=fun k=>k=w2.heap.size) w4 ⟨w2.heap.size,2,none⟩ _ rfl
 have HW5:=hE0 hw5;clear hw5;have E5:ET w5:=E4.keep (t5.block 0 E4.lt (fun e=>by
  have e:0=w2.heap.size:=e;have h1:=HD.out.l5;have h2:=HE.out.lt;omega))
 have m5':w5.heap[w1.heap.size]?=some (.cells rp0 50 (0,0)):=(t5.block _ (aae m4) HD.out.ne).trans m4;have HNM:=hE0 (acV E5 rk);have HT5:=hE0 t5;have HN5:=hE0 n5;have HM5:=hE0 m5';have HM4:=hE0 m4;have HM45:=hE0 m5;have HT4:=hE0 T4;clear E4 E5 m4 m5 m5' n5 t5 T4;go_wp2_with (first | (rw[HW5.out]) | fail)
 refine HNM.out.mono ?_;rintro e w6 ⟨rfl,hb6⟩;have n6:=(hb6.block _ (aae HN5.out)).trans HN5.out;have m6:=(hb6.block _ (aae HM5.out)).trans HM5.out;obtain⟨w7,hw7⟩:=nmE (w6.setCell ⟨w2.heap.size,0,none⟩ (.int .i64 rk));have n7:w7.heap[w2.heap.size]?=some (.cells #[.int .i64 rk, .int .u64 0, .int .u64 (rh:Int), .slice none 0 0, .int .i64 0, .int .i64 0, .int .i64 0, .int .i64 0, .int .i64 0] 50 (0,0)):=by rw[<-hw7];exact heap_setCell_same w6 w2.heap.size 0 _ _ _ n6
 have m7:w7.heap[w1.heap.size]?=some (.cells rp0 50 (0,0)):=by rw[<-hw7];exact(Below.heap_setCell w6 ⟨w2.heap.size,0,none⟩ _ w1.heap.size HD.out.ne).trans m6
 have t7:Tch (fun k=>k=w2.heap.size) w6 w7:=by rw[<-hw7];exact Tch.set (S:=fun k=>k=w2.heap.size) w6 ⟨w2.heap.size,0,none⟩ _ rfl
 have tf:Tch (fun k=>k=w1.heap.size\/k=w2.heap.size) w4 (arc w7 w1.heap.size (.int .i64 rk) (.int .u64 0) (.int .u64 (rh:Int)) (.slice none 0 0) (.int .i64 0) (.int .i64 0) (.int .i64 0) (.int .i64 0) (.int .i64 0)):=
  (((((Tch.refl (fun k=>k=w1.heap.size\/k=w2.heap.size) w4).trans HT5.out (fun _ _ e=> .inr e)).trans (Tch.of_below (S:=fun _=>False) hb6) (fun _ _ h=>h.elim)).trans t7 (fun _ _ e=> .inr e)).trans (aes w7 w1.heap.size (.int .i64 rk) (.int .u64 0) (.int .u64 (rh:Int)) (.slice none 0 0) (.int .i64 0) (.int .i64 0) (.int .i64 0) (.int .i64 0) (.int .i64 0)) (fun _ _ e=> .inl e))
 have TF:=hE0 tf;have MF:=hE0 (aij m7 (.int .i64 rk) (.int .u64 0) (.int .u64 (rh:Int)) (.slice none 0 0) (.int .i64 0) (.int .i64 0) (.int .i64 0) (.int .i64 0) (.int .i64 0));exact adk
theorem aun{w:World}{q g base cap c:Nat}{A:Option Addr}{bs:List UInt8}{H:Hp}(h:PH w q g base cap A c bs H) (hE:ET w) (h0:¬foot g A 0) (p n m a bl k:Nat) (B:Option Addr) (b:List UInt8) (hp:p<18446744073709551616) (ha:a<18446744073709551616) (hn:n<18446744073709551616):
 Calls Tryz.prog 20 #[.pointer (some ⟨q,0,none⟩),abo 6 p n m a B bl k] w fun e w'=>adj (H.doC 6 p n m a b).1 w e w'/\PTurn g base cap A (H.doC 6 p n m a b).2 w w'/\Below w.heap.size w w':=by
 rw[aof];unfold abo;have hd:=Do3.made w #[.int .i64 6, .int .u64 (p:Int), .int .u64 (n:Int), .int .u64 (m:Int), .int .u64 (a:Int), .slice B bl k];obtain⟨w1,hw1⟩:=nmE (w.alloc (.cells #[.int .i64 6, .int .u64 (p:Int), .int .u64 (n:Int), .int .u64 (m:Int), .int .u64 (a:Int), .slice B bl k] 43));rw[hw1]at hd;obtain⟨w2,hw2⟩:=nmE (w1.alloc (.cells rp0 50));rw[hw2]at hd;obtain⟨w3,hw3⟩:=nmE (w2.alloc (.cells rp0 50));rw[hw3]at hd;unfold rp0 at hw2 hw3;obtain⟨z0,z1,z2,z3,z4,z5⟩:=abp hd.n3;have hz:=aac hd.n3;have h3:=h.below hd.bel;have hk:∀k,w.heap.size<=k->¬foot g A k:=fun k hk hf=>by have:=h.ar.foot_lt hf;omega
 have hO:=aqw h3 p a n hp ha hn;obtain⟨r,hr⟩:=nmE (H.readP p a n);rw[hr]at hO ⊢;obtain⟨rb,rk⟩:=r;unfold PBytes at hO;dsimp only at hO;dsimp only;have hbs:=hd.bel.size;have HO:=hE0 hO;have HD:=hE0 hd;have HH:=hE0 h;have HK:=hE0 hk;have HW1:=hE0 hw1;have HW2:=hE0 hw2;have HW3:=hE0 hw3;have HE:=hE0 hE;have H00:=hE0 h0;clear h hd h3 hE hk hw1 hw2 hw3 h0 hO hr;go_enter Tryz.func20,Tryz.ntmps20
 go_wp2_with (first | (rw[HW1.out]) | (rw[HW2.out]) | (rw[HW3.out]) | fail)
 refine HO.out.mono ?_;rintro e w4 ⟨A',c',rfl,ho,hb4⟩;have BW4:=hE0 (HD.out.bel.trans (hb4.mono HD.out.bel.size));have T4:PTurn g base cap A H w w4:=HH.out.stay (HD.out.bel.trans (hb4.mono HD.out.bel.size));have E4:ET w4:=HE.out.keep (T4.tch.block 0 HE.out.lt H00.out);have t34:Tch (foot g A) w3 w4:=Tch.of_below hb4;have m4:=(t34.block _ (aae HD.out.n4) (HK.out _ HD.out.l4)).trans HD.out.n4;have m5:=(t34.block _ (aae HD.out.n5) (HK.out _ HD.out.l5)).trans HD.out.n5;obtain⟨⟨y0,y1,y2,y3,y4,y5,y6,y7,y8⟩,f0,f1,f2,f3,f4,f5,f6,f7,f8⟩:=abH m5;have hy:=aac m5;clear z0 z1 z2 z3 z4 z5 hz HO t34;obtain⟨w5,hw5⟩:=nmE (w4.setCell ⟨w2.heap.size,3,none⟩ (.slice A' rb.length c'));have n5:w5.heap[w2.heap.size]?=some (.cells #[.int .i64 0, .int .u64 0, .int .u64 0, .slice A' rb.length c', .int .i64 0, .int .i64 0, .int .i64 0, .int .i64 0, .int .i64 0] 50 (0,0)):=by rw[<-hw5];exact heap_setCell_same w4 w2.heap.size 3 _ _ _ m5
 have t5:Tch (fun k=>k=w2.heap.size) w4 w5:=by rw[<-hw5];exact Tch.set (S:=fun k=>k=w2.heap.size) w4 ⟨w2.heap.size,3,none⟩ _ rfl
 have HW5:=hE0 hw5;clear hw5;have E5:ET w5:=E4.keep (t5.block 0 E4.lt (fun e=>by
  have e:0=w2.heap.size:=e;have h1:=HD.out.l5;have h2:=HE.out.lt;omega))
 have m5':w5.heap[w1.heap.size]?=some (.cells rp0 50 (0,0)):=(t5.block _ (aae m4) HD.out.ne).trans m4;have HNM:=hE0 (acV E5 rk);have HT5:=hE0 t5;have HN5:=hE0 n5;have HM5:=hE0 m5';have HM4:=hE0 m4;have HM45:=hE0 m5;have HT4:=hE0 T4;clear E4 E5 m4 m5 m5' n5 t5 T4;go_wp2_with (first | (rw[HW5.out]) | fail)
 refine HNM.out.mono ?_;rintro e w6 ⟨rfl,hb6⟩;have n6:=(hb6.block _ (aae HN5.out)).trans HN5.out;have m6:=(hb6.block _ (aae HM5.out)).trans HM5.out;obtain⟨w7,hw7⟩:=nmE (w6.setCell ⟨w2.heap.size,0,none⟩ (.int .i64 rk));have n7:w7.heap[w2.heap.size]?=some (.cells #[.int .i64 rk, .int .u64 0, .int .u64 0, .slice A' rb.length c', .int .i64 0, .int .i64 0, .int .i64 0, .int .i64 0, .int .i64 0] 50 (0,0)):=by rw[<-hw7];exact heap_setCell_same w6 w2.heap.size 0 _ _ _ n6
 have m7:w7.heap[w1.heap.size]?=some (.cells rp0 50 (0,0)):=by rw[<-hw7];exact(Below.heap_setCell w6 ⟨w2.heap.size,0,none⟩ _ w1.heap.size HD.out.ne).trans m6
 have t7:Tch (fun k=>k=w2.heap.size) w6 w7:=by rw[<-hw7];exact Tch.set (S:=fun k=>k=w2.heap.size) w6 ⟨w2.heap.size,0,none⟩ _ rfl
 have tf:Tch (fun k=>k=w1.heap.size\/k=w2.heap.size) w4 (arc w7 w1.heap.size (.int .i64 rk) (.int .u64 0) (.int .u64 0) (.slice A' rb.length c') (.int .i64 0) (.int .i64 0) (.int .i64 0) (.int .i64 0) (.int .i64 0)):=
  (((((Tch.refl (fun k=>k=w1.heap.size\/k=w2.heap.size) w4).trans HT5.out (fun _ _ e=> .inr e)).trans (Tch.of_below (S:=fun _=>False) hb6) (fun _ _ h=>h.elim)).trans t7 (fun _ _ e=> .inr e)).trans (aes w7 w1.heap.size (.int .i64 rk) (.int .u64 0) (.int .u64 0) (.slice A' rb.length c') (.int .i64 0) (.int .i64 0) (.int .i64 0) (.int .i64 0) (.int .i64 0)) (fun _ _ e=> .inl e))
 have TF:=hE0 tf;have MF:=hE0 (aij m7 (.int .i64 rk) (.int .u64 0) (.int .u64 0) (.slice A' rb.length c') (.int .i64 0) (.int .i64 0) (.int .i64 0) (.int .i64 0) (.int .i64 0));clear y0 y1 y2 y3 y4 y5 y6 y7 y8 f0 f1 f2 f3 f4 f5 f6 f7 f8 hy;obtain⟨⟨y0,y1,y2,y3,y4,y5,y6,y7,y8⟩,f0,f1,f2,f3,f4,f5,f6,f7,f8⟩:=abH n6;have hy6:=aac n6;have HW7:=hE0 hw7;obtain⟨⟨u0,u1,u2,u3,u4,u5,u6,u7,u8⟩,_⟩:=abH n7;have hy7:=aac n7;obtain⟨⟨v0,v1,v2,v3,v4,v5,v6,v7,v8⟩,e0,e1,e2,e3,e4,e5,e6,e7,e8⟩:=abH m7;have hm7:=aac m7;clear hb6 n6 m6 hw7 n7 m7 t7 tf HNM HT5 HN5 HM5;go_wp2_with (first | (rw[HW7.out]) | fail)
 (try simp only[Exit.inBlock,Exit.then])
 refine aqz (g:=w1.heap.size) Tryz.results20 ?_ ?_ MF.out ?_
 · rfl
 · rfl
 · exact⟨⟨A',c',rfl,akG (aha ho (fun j e=>TF.out.block j (ho.lt j e).2 (by
    have h1:=(ho.lt j e).1;have h2:=aae HD.out.n4;have h3:=aae HD.out.n5;rintro(rfl | rfl)<;>omega))) hbs⟩,HT4.out.ends HM4.out HM45.out HD.out.l4 HD.out.l5 TF.out,BW4.out.trans (TF.out.below (fun k hk=>by
    rcases hk with rfl | rfl
    · exact HD.out.l4
    · exact HD.out.l5) BW4.out.size)⟩
theorem awd{w:World}{q g base cap c:Nat}{A:Option Addr}{bs:List UInt8}{H:Hp}(h:PH w q g base cap A c bs H) (hE:ET w) (h0:¬foot g A 0) (p n m a bl k:Nat) (B:Option Addr) (b:List UInt8) (hp:p<18446744073709551616) (ha:a<18446744073709551616) (hbl:b.length=bl) (hr:Rd w w.heap.size B b.length b) (hb6:bl<=1000000):
 Calls Tryz.prog 20 #[.pointer (some ⟨q,0,none⟩),abo 7 p n m a B bl k] w fun e w'=>adj (H.doC 7 p n m a b).1 w e w'/\PTurn g base cap A (H.doC 7 p n m a b).2 w w':=by
 rw[aqC];unfold abo;have hd:=Do3.made w #[.int .i64 7, .int .u64 (p:Int), .int .u64 (n:Int), .int .u64 (m:Int), .int .u64 (a:Int), .slice B bl k];obtain⟨w1,hw1⟩:=nmE (w.alloc (.cells #[.int .i64 7, .int .u64 (p:Int), .int .u64 (n:Int), .int .u64 (m:Int), .int .u64 (a:Int), .slice B bl k] 43));rw[hw1]at hd;obtain⟨w2,hw2⟩:=nmE (w1.alloc (.cells rp0 50));rw[hw2]at hd;obtain⟨w3,hw3⟩:=nmE (w2.alloc (.cells rp0 50));rw[hw3]at hd;unfold rp0 at hw2 hw3;obtain⟨z0,z1,z2,z3,z4,z5⟩:=abp hd.n3;have hz:=aac hd.n3;have h3:=h.below hd.bel;have hk:∀k,w.heap.size<=k->¬foot g A k:=fun k hk hf=>by have:=h.ar.foot_lt hf;omega
 have hO:=aob h3 p a b B k ((hr.below hd.bel).more hd.bel.size) hp ha (by omega);rw[hbl]at hO;obtain⟨r,hr2⟩:=nmE (H.writeP p a b);rw[hr2]at hO ⊢;obtain⟨rk,H'⟩:=r;dsimp only at hO;dsimp only[Rp.err];have HO:=hE0 hO;have HD:=hE0 hd;have HH:=hE0 h;have HK:=hE0 hk;have HW1:=hE0 hw1;have HW2:=hE0 hw2;have HW3:=hE0 hw3;have HE:=hE0 hE;have H00:=hE0 h0;clear h hd h3 hE hk hw1 hw2 hw3 h0 hO hr hr2 hbl;exact aim
theorem awe{w:World}{q g base cap c:Nat}{A:Option Addr}{bs:List UInt8}{H:Hp}(h:PH w q g base cap A c bs H) (hE:ET w) (h0:¬foot g A 0) (p n m a bl k:Nat) (B:Option Addr) (b:List UInt8):
 Calls Tryz.prog 20 #[.pointer (some ⟨q,0,none⟩),abo 8 p n m a B bl k] w fun e w'=>adj (H.doC 8 p n m a b).1 w e w'/\PTurn g base cap A (H.doC 8 p n m a b).2 w w':=by
 rw[asC];unfold abo;have hd:=Do3.made w #[.int .i64 8, .int .u64 (p:Int), .int .u64 (n:Int), .int .u64 (m:Int), .int .u64 (a:Int), .slice B bl k];obtain⟨w1,hw1⟩:=nmE (w.alloc (.cells #[.int .i64 8, .int .u64 (p:Int), .int .u64 (n:Int), .int .u64 (m:Int), .int .u64 (a:Int), .slice B bl k] 43));rw[hw1]at hd;obtain⟨w2,hw2⟩:=nmE (w1.alloc (.cells rp0 50));rw[hw2]at hd;obtain⟨w3,hw3⟩:=nmE (w2.alloc (.cells rp0 50));rw[hw3]at hd;unfold rp0 at hw2 hw3;obtain⟨z0,z1,z2,z3,z4,z5⟩:=abp hd.n3;have hz:=aac hd.n3;have h3:=h.below hd.bel;have hk:∀k,w.heap.size<=k->¬foot g A k:=fun k hk hf=>by have:=h.ar.foot_lt hf;omega
 have hO:=al7 h3;obtain⟨r,hr⟩:=nmE H.stats;rw[hr]at hO ⊢;obtain⟨s0,s1,s2,s3,s4⟩:=r;dsimp only[stV]at hO;dsimp only;have HO:=hE0 hO;have HD:=hE0 hd;have HH:=hE0 h;have HK:=hE0 hk;have HW1:=hE0 hw1;have HW2:=hE0 hw2;have HW3:=hE0 hw3;have HE:=hE0 hE;have H00:=hE0 h0;clear h hd h3 hE hk hw1 hw2 hw3 h0 hO hr;go_enter Tryz.func20,Tryz.ntmps20
 go_wp2_with (first | (rw[HW1.out]) | (rw[HW2.out]) | (rw[HW3.out]) | fail)
 refine HO.out.mono ?_;rintro e w4 ⟨rfl,hb4⟩;have T4:PTurn g base cap A H w w4:=HH.out.stay (HD.out.bel.trans (hb4.mono HD.out.bel.size));have E4:ET w4:=HE.out.keep (T4.tch.block 0 HE.out.lt H00.out);have t34:Tch (foot g A) w3 w4:=Tch.of_below hb4;have m4:=(t34.block _ (aae HD.out.n4) (HK.out _ HD.out.l4)).trans HD.out.n4;have m5:=(t34.block _ (aae HD.out.n5) (HK.out _ HD.out.l5)).trans HD.out.n5;obtain⟨⟨y0,y1,y2,y3,y4,y5,y6,y7,y8⟩,f0,f1,f2,f3,f4,f5,f6,f7,f8⟩:=abH m5;have hy:=aac m5;clear z0 z1 z2 z3 z4 z5 hz HO t34;obtain⟨w5,hw5⟩:=nmE (((((w4.setCell ⟨w2.heap.size,4,none⟩ (.int .i64 (s0:Int))).setCell ⟨w2.heap.size,5,none⟩ (.int .i64 (s1:Int))).setCell ⟨w2.heap.size,6,none⟩ (.int .i64 (s2:Int))).setCell ⟨w2.heap.size,7,none⟩ (.int .i64 (s3:Int))).setCell ⟨w2.heap.size,8,none⟩ (.int .i64 (s4:Int)));have n5:w5.heap[w2.heap.size]?=some (.cells #[.int .i64 0, .int .u64 0, .int .u64 0, .slice none 0 0, .int .i64 (s0:Int), .int .i64 (s1:Int), .int .i64 (s2:Int), .int .i64 (s3:Int), .int .i64 (s4:Int)] 50 (0,0)):=by rw[<-hw5];exact av6 m5 _ _ _ _ _
 have t5:Tch (fun k=>k=w2.heap.size) w4 w5:=by rw[<-hw5];exact avn _ _ _ _ _ _ _
 have HW5:=hE0 hw5;clear hw5;have E5:ET w5:=E4.keep (t5.block 0 E4.lt (fun e=>by
  have e:0=w2.heap.size:=e;have h1:=HD.out.l5;have h2:=HE.out.lt;omega))
 have m5':w5.heap[w1.heap.size]?=some (.cells rp0 50 (0,0)):=(t5.block _ (aae m4) HD.out.ne).trans m4;have HNM:=hE0 (ag6 w5);have HT5:=hE0 t5;have HN5:=hE0 n5;have HM5:=hE0 m5';have HM4:=hE0 m4;have HM45:=hE0 m5;have HT4:=hE0 T4;clear E4 E5 m4 m5 m5' n5 t5 T4;go_wp2_with (first | (rw[HW5.out]) | fail)
 refine HNM.out.mono ?_;rintro e w6 ⟨rfl,hb6⟩;have n6:=(hb6.block _ (aae HN5.out)).trans HN5.out;have m6:=(hb6.block _ (aae HM5.out)).trans HM5.out;obtain⟨w7,hw7⟩:=nmE (w6.setCell ⟨w2.heap.size,0,none⟩ (.int .i64 0));have n7:w7.heap[w2.heap.size]?=some (.cells #[.int .i64 0, .int .u64 0, .int .u64 0, .slice none 0 0, .int .i64 (s0:Int), .int .i64 (s1:Int), .int .i64 (s2:Int), .int .i64 (s3:Int), .int .i64 (s4:Int)] 50 (0,0)):=by rw[<-hw7];exact heap_setCell_same w6 w2.heap.size 0 _ _ _ n6
 have m7:w7.heap[w1.heap.size]?=some (.cells rp0 50 (0,0)):=by rw[<-hw7];exact(Below.heap_setCell w6 ⟨w2.heap.size,0,none⟩ _ w1.heap.size HD.out.ne).trans m6
 have t7:Tch (fun k=>k=w2.heap.size) w6 w7:=by rw[<-hw7];exact Tch.set (S:=fun k=>k=w2.heap.size) w6 ⟨w2.heap.size,0,none⟩ _ rfl
 have tf:Tch (fun k=>k=w1.heap.size\/k=w2.heap.size) w4 (arc w7 w1.heap.size (.int .i64 0) (.int .u64 0) (.int .u64 0) (.slice none 0 0) (.int .i64 (s0:Int)) (.int .i64 (s1:Int)) (.int .i64 (s2:Int)) (.int .i64 (s3:Int)) (.int .i64 (s4:Int))):=
  (((((Tch.refl (fun k=>k=w1.heap.size\/k=w2.heap.size) w4).trans HT5.out (fun _ _ e=> .inr e)).trans (Tch.of_below (S:=fun _=>False) hb6) (fun _ _ h=>h.elim)).trans t7 (fun _ _ e=> .inr e)).trans (aes w7 w1.heap.size (.int .i64 0) (.int .u64 0) (.int .u64 0) (.slice none 0 0) (.int .i64 (s0:Int)) (.int .i64 (s1:Int)) (.int .i64 (s2:Int)) (.int .i64 (s3:Int)) (.int .i64 (s4:Int))) (fun _ _ e=> .inl e))
 have TF:=hE0 tf;have MF:=hE0 (aij m7 (.int .i64 0) (.int .u64 0) (.int .u64 0) (.slice none 0 0) (.int .i64 (s0:Int)) (.int .i64 (s1:Int)) (.int .i64 (s2:Int)) (.int .i64 (s3:Int)) (.int .i64 (s4:Int)));exact adk
structure ImP (B g:Nat) (N:Int) (A1:Option Addr) (c1:Nat) (l:List Rk) (A2:Option Addr) (c2:Nat) (d:List (List UInt8)) (xs:List Value) (w:World):Prop where
 obj:w.heap[g]?=some (.cells #[.int .i64 N, .slice A1 l.length c1, .slice A2 d.length c2] 107 (0,0))
 rl:w.ownsRow B 112 3 (.slice A1 l.length c1) l.length (ae8 l)
 rd:w.ownsRow B 37 1 (.slice A2 d.length c2) d.length xs
 dt:DtO w d xs
 hB:B<=g
 hl:avK l
section
variable {B g n:Nat} {N:Int} {A1 A2:Option Addr} {c1 c2:Nat} {l:List Rk} {d:List (List UInt8)} {xs:List Value} {w w3 w4 w':World}
theorem ImP.stay (h:ImP B g N A1 c1 l A2 c2 d xs w) (hb:Below w.heap.size w w'):ImP B g N A1 c1 l A2 c2 d xs w':=
 ⟨(hb.block _ (aaa h.obj)).trans h.obj,ab7 h.rl hb (acR h.rl),ab7 h.rd hb (acR h.rd),h.dt.stay hb,h.hB,h.hl⟩
theorem ImP.lt (h:ImP B g N A1 c1 l A2 c2 d xs w):g<w.heap.size:=aaa h.obj
theorem ImP.rkrd (h:ImP B g N A1 c1 l A2 c2 d xs w):RkRd w w.heap.size A1 l:=aj8 h.rl h.hl
theorem ImP.off (h:ImP B g N A1 c1 l A2 c2 d xs w){k:Nat}{cs:Array Value}{fz:Nat × Nat}{t:TypeId}(hk:w.heap[k]?=some (.cells cs t fz)) (ht:t≠107):g≠k:=fun e=>by
 subst e;have h2:=h.obj;rw[hk]at h2;injection h2 with h2;injection h2 with _ h2 _;exact ht h2
theorem ImP.pushD (h:ImP B g N A1 c1 l A2 c2 d xs w3){y:List UInt8}{A:Option Addr}{k:Nat}{v:Value}(hy:y.length<=100000) (oy:w3.ownsRow 0 5 1 (.slice A y.length k) y.length (y.map bv)) (own:w4.ownsRow B 37 1 v (d.length+1) (xs++ [.slice A y.length k])) (gr:w3.grownBy w4 (Value.slice A2 d.length c2).ownBlock){B0:Nat}{w0:World}(hb:Below B0 w0 w3) (hB0:B0<=B) (hw0:B0<=w3.heap.size):
 ∃A2' c2',v= .slice A2' (d.length+1) c2'/\w4.heap[g]?=w3.heap[g]?/\ImP B g N A1 c1 l A2' c2' (d++ [y]) (xs++ [.slice A y.length k]) (w4.setCell ⟨g,2,none⟩ v)/\Below B0 w0 (w4.setCell ⟨g,2,none⟩ v):=by
 have hrow:=apc h.rd;have hg4:w4.heap[g]?=w3.heap[g]?:=gr.block g h.lt fun e=>by
  obtain⟨cs,fz,hc⟩:=hrow g e.symm;exact h.off hc (by decide) rfl
 have obj4:=hg4.trans h.obj;obtain⟨A',c,rfl,_⟩:=aeG own;have hrl4:w4.ownsRow B 112 3 (.slice A1 l.length c1) l.length (ae8 l):=acO h.rl gr fun k hk hrk=>by
  obtain⟨cs,fz,hc⟩:=hrow k hrk;exact acB h.rl hk hc (by decide)
 have hlx:xs.length=d.length:=by have:=h.rd.1;omega
 have hdt4:DtO w4 (d++ [y]) (xs++ [.slice A y.length k]):=(h.dt.grown gr fun k hk=>by
  obtain⟨cs,fz,hc⟩:=hrow k hk;exact⟨cs,_,fz,by decide,hc⟩).snoc hlx hy (acO oy gr fun k hk hrk=>by
   obtain⟨cs,fz,hc⟩:=hrow k hrk;exact acB oy hk hc (by decide))
 have gs:=acu w4 g 2 (.slice A' (d.length+1) c);have ge:∀k,(Value.slice A2 d.length c2).ownBlock=some k->B0<=k:=fun k hk=>Nat.le_trans hB0 (aj1 h.rd k hk);refine⟨A',c,rfl,hg4,⟨?_,?_,?_,?_,h.hB,h.hl⟩,?_⟩
 · rw[List.length_append,List.length_singleton];exact heap_setCell_same w4 g 2 _ _ _ obj4
 · exact acO hrl4 gs fun k hk hrk=>by injection hrk with hrk;subst hrk;exact acB hrl4 hk obj4 (by decide)
 · rw[List.length_append,List.length_singleton];exact acO own gs fun k hk hrk=>by injection hrk with hrk;subst hrk;exact acB own hk obj4 (by decide)
 · exact hdt4.grown gs fun k hrk=>by injection hrk with hrk;subst hrk;exact⟨_,_,_,by decide,obj4⟩
 · exact(hb.grown gr hw0 ge).setCell (p:=⟨g,2,none⟩) (Nat.le_trans hB0 h.hB) _
end
section
variable {B g:Nat} {N:Int} {A1 A2:Option Addr} {c1 c2:Nat} {l:List Rk} {d:List (List UInt8)} {xs:List Value} {w:World}
theorem ImP.laid (h:ImP B g N A1 c1 l A2 c2 d xs w){g0:Nat}(hg0:g0<B){x0 x1 x2:Value}(hg:w.heap[g0]?=some (.cells #[x0,x1,x2] 107 (0,0))) (y0 y1 y2:Value):
 RkRd (((w.setCell ⟨g0,0,none⟩ y0).setCell ⟨g0,1,none⟩ y1).setCell ⟨g0,2,none⟩ y2) (((w.setCell ⟨g0,0,none⟩ y0).setCell ⟨g0,1,none⟩ y1).setCell ⟨g0,2,none⟩ y2).heap.size A1 l/\DtRd (((w.setCell ⟨g0,0,none⟩ y0).setCell ⟨g0,1,none⟩ y1).setCell ⟨g0,2,none⟩ y2) (((w.setCell ⟨g0,0,none⟩ y0).setCell ⟨g0,1,none⟩ y1).setCell ⟨g0,2,none⟩ y2).heap.size A2 d:=by
 have s0:=acu w g0 0 y0;have k1:=heap_setCell_same w g0 0 _ _ y0 hg;have s1:=acu (w.setCell ⟨g0,0,none⟩ y0) g0 1 y1;have k2:=heap_setCell_same _ g0 1 _ _ y1 k1;have s2:=acu ((w.setCell ⟨g0,0,none⟩ y0).setCell ⟨g0,1,none⟩ y1) g0 2 y2;have hr:∀{w1 w2:World} {t:TypeId} {size n:Nat} {v:Value} {ys:List Value},w1.ownsRow B t size v n ys->w1.grownBy w2 (some g0)->w2.ownsRow B t size v n ys:=fun ho hgr=>acO ho hgr fun k hk hrk=>by
  injection hrk with hrk;have:=aj1 ho k hk;omega
 have r1:=hr (hr (hr h.rl s0) s1) s2;have r2:=hr (hr (hr h.rd s0) s1) s2;have d1:=h.dt.grown s0 fun k hrk=>by injection hrk with hrk;subst hrk;exact⟨_,_,_,by decide,hg⟩
 have d2:=d1.grown s1 fun k hrk=>by injection hrk with hrk;subst hrk;exact⟨_,_,_,by decide,k1⟩
 have d3:=d2.grown s2 fun k hrk=>by injection hrk with hrk;subst hrk;exact⟨_,_,_,by decide,k2⟩
 exact⟨aj8 r1 h.hl,d3.rd r2⟩
end
def toR (x:Bk):Rk:=⟨(x.off:Int),(x.size:Int),x.used⟩
theorem aqD:∀l:List Bk,acW l=ae8 (l.map toR)
 | []=>rfl
 | x::r=>by
  rw[List.map_cons,acW,ae8,<-aqD r];rfl
def ofD (bs:List UInt8):List Bk->List (List UInt8)
 | []=> []
 | x::r=>if x.used then (bs.drop (x.off+8)).take (x.size-16)::ofD bs r else ofD bs r
theorem asE{bs:List UInt8}{l:List Bk}(h:abI bs=some l) (hl:bs.length<=16384):avK (l.map toR)/\l.length*32<=bs.length/\∀x∈l,184<=x.off/\x.off+x.size<=bs.length/\aaG (x.size:Int)=true:=by
 obtain⟨h184,ht,_⟩:=aaj h;have hm:=(aak _ _ _ ht).2;have hn:∀(l:List Bk) (o e:Nat),aby o l e->o+l.length*32<=e:=by
  intro l;induction l with
  | nil=>intro o e h;have:o=e:=h;simp;omega
  | cons x r ih=>
   intro o e ⟨_,h2,h3⟩;have:=ih _ _ h3;have:=(aab _).1 h2;rw[List.length_cons];omega
 have:=hn _ _ _ ht;refine⟨fun x hx=> ?_,by omega,fun x hx=> ?_⟩
 · obtain⟨y,hy,rfl⟩:=List.mem_map.1 hx;obtain⟨h1,h2,h3,_⟩:=hm y hy;unfold toR;dsimp only;omega
 · obtain⟨h1,h2,h3,_⟩:=hm x hx;exact⟨h1,h2,h3⟩
def avo:List Bk->List Dt->List (List UInt8)
 | x::L,d::ds=>if x.used then d.2::avo L ds else avo L ds
 | _,_=> []
section
variable {F G:Nat->Prop} {w:World} {p:Nat} {H:Hp}
end
def toB (x:Rk):Bk:=⟨x.o.toNat,x.s.toNat,x.u⟩
def age:List UInt8->List Bk->List (List UInt8)->List UInt8
 | bs,[],_=>bs
 | bs,x::r,d=>if x.used then age (lay (aaY bs x) (x.off+8) (d.headD [])) r d.tail else age (aaY bs x) r d
def al8:List Bk->List (List UInt8)->Prop
 | [],d=>d= []
 | x::r,d=>if x.used then (match d with | []=>False | y::d'=>y.length+16=x.size/\al8 r d') else al8 r d
theorem agf{n:Int}:∀{l:List Rk}{o:Nat}{f:Bool},abh n (o:Int) f l=true->aby o (l.map toB) n.toNat/\l=(l.map toB).map toR/\(∀x∈l,0<=x.o/\32<=x.s/\x.o+x.s<=n)
 | [],o,f,h=>by
  unfold abh at h;have:(o:Int)=n:=by simpa using h
  refine⟨?_,rfl,fun x hx=>by cases hx⟩;show o=n.toNat;omega
 | x::r,o,f,h=>by
  unfold abh at h;simp only[Bool.and_eq_true,beq_iff_eq]at h;obtain⟨ho,hs,hle,_,hr⟩:=h;have hle:=of_decide_eq_true hle;have h3:=(aab _).1 hs;have hr2:abh n ((o+x.s.toNat:Nat):Int) (!x.u) r=true:=by
   rw[show((o+x.s.toNat:Nat):Int)=(o:Int)+x.s from by omega];exact hr
  obtain⟨t1,t2,t3⟩:=agf hr2;refine⟨⟨?_,?_,?_⟩,?_,?_⟩
  · show x.o.toNat=o;omega
  · show aaG ((x.s.toNat:Nat):Int)=true;rw[show((x.s.toNat:Nat):Int)=x.s from by omega];exact hs
  · exact t1
  · rw[List.map_cons,List.map_cons,<-t2];congr 1;unfold toR toB;obtain⟨xo,xs,xu⟩:=x;dsimp only at ho h3 ⊢;rw[show((xo.toNat:Nat):Int)=xo from by omega,show((xs.toNat:Nat):Int)=xs from by omega]
  · intro y hy;rcases List.mem_cons.1 hy with rfl | hy
    · omega
    · exact t3 y hy
theorem agh:∀{l:List Rk}{d:List (List UInt8)},(∀x∈l,0<=x.o/\32<=x.s)->datOk l d=true->al8 (l.map toB) d
 | [],d,_,h=>by
  unfold datOk at h;rw[List.isEmpty_iff]at h;exact h
 | x::l,d,hz,h=>by
  have hx:=hz x (by simp);have hz2:∀y∈l,0<=y.o/\32<=y.s:=fun y hy=>hz y (by simp[hy]);unfold datOk at h;rw[List.map_cons];unfold al8;show if x.u then _ else _
  cases hu:x.u with
  | false=>
   rw[hu]at h;simp only[Bool.false_eq_true,if_false]at h ⊢;exact agh hz2 h
  | true=>
   rw[hu]at h;simp only[if_true]at h ⊢
   cases d with
   | nil=>cases h
   | cons y d'=>
    simp only[Bool.and_eq_true,beq_iff_eq]at h;refine⟨?_,agh hz2 h.2⟩;show y.length+16=x.s.toNat;omega
theorem amX{bs:List UInt8}{x:Bk}(h:x.off+x.size<=bs.length) (hs:32<=x.size):(aaY bs x).length=bs.length:=by
 unfold aaY;rw[aah _ _ _ (by rw[aah _ _ _ (by omega)];omega),aah _ _ _ (by omega)]
theorem amY{bs:List UInt8}{x:Bk}(h:x.off+x.size<=bs.length) (hs:32<=x.size){q:Nat}(hq:q<x.off\/x.off+x.size<=q):(aaY bs x)[q]?=bs[q]?:=by
 unfold aaY;rw[adU _ _ _ _ (by rw[aah _ _ _ (by omega)];omega) (by omega),adU _ _ _ _ (by omega) (by omega)]
theorem ahb:∀(l:List Bk) (bs:List UInt8) (o:Nat) (d:List (List UInt8)),184<=o->o%16=8->aby o l bs.length->al8 l d->
 (age bs l d).length=bs.length/\(∀q,q<o->(age bs l d)[q]?=bs[q]?)/\(∀x∈l,aa8 (age bs l d) (x.off:Int)=some x)/\ofD (age bs l d) l=d
 | [],bs,o,d,_,_,_,hd=>⟨rfl,fun _ _=>rfl,fun x hx=>(by cases hx),hd.symm⟩
 | x::r,bs,o,d,ho,ho2,⟨h1,h2,h3⟩,hd=>by
  have q:=(aab _).1 h2;have hle:=(aak r _ _ h3).1;have hxo:x.off=o:=h1;have hs1:=agt [x] bs o (o+x.size) ho ho2 ⟨h1,h2,rfl⟩ (by omega);have hgx:aa8 (aaY bs x) (x.off:Int)=some x:=hs1.2.1 x (by simp);have hl1:=amX (bs:=bs) (x:=x) (by omega) (by omega);unfold al8 at hd;unfold age ofD
  cases hu:x.used with
  | false=>
   rw[hu]at hd;simp only[Bool.false_eq_true,if_false]at hd ⊢;obtain⟨r1,r2,r3,r4⟩:=ahb r (aaY bs x) (o+x.size) d (by omega) (by omega) (by rw[hl1];exact h3) hd;refine⟨by rw[r1,hl1],fun p hp=>by rw[r2 p (by omega),amY (by omega) (by omega) (.inl (by omega))],fun y hy=> ?_,r4⟩;rcases List.mem_cons.1 hy with rfl | hy
   · refine abV (aaY bs y) _ y r1 hgx (aaM _ _ _ fun i _ hi=>r2 i (by omega)) (aaM _ _ _ fun i _ hi=>r2 i (by omega))
   · exact r3 y hy
  | true=>
   rw[hu]at hd;simp only[if_true]at hd ⊢
   cases d with
   | nil=>exact hd.elim
   | cons y d'=>
    obtain⟨hyl,hd'⟩:=hd;simp only[List.headD_cons,List.tail_cons];have hag:=ad8 (bs:=aaY bs x) (x:=x) (x.off+8) y (Nat.le_refl _) (by omega) (by rw[hl1];omega);have hl2:(lay (aaY bs x) (x.off+8) y).length=bs.length:=by rw[hag.1,hl1]
    obtain⟨r1,r2,r3,r4⟩:=ahb r (lay (aaY bs x) (x.off+8) y) (o+x.size) d' (by omega) (by omega) (by rw[hl2];exact h3) hd';have hgx2:aa8 (lay (aaY bs x) (x.off+8) y) (x.off:Int)=some x:=abV (aaY bs x) _ x hag.1 hgx (aaM _ _ _ fun i _ hi=>hag.2 i (.inl (by omega))) (aaM _ _ _ fun i h1 _=>hag.2 i (.inr (by omega)));refine⟨by rw[r1,hl2],fun p hp=>by rw[r2 p (by omega),hag.2 p (.inl (by omega)),amY (by omega) (by omega) (.inl (by omega))],fun z hz=> ?_,?_⟩
    · rcases List.mem_cons.1 hz with rfl | hz
      · exact abV _ _ z r1 hgx2 (aaM _ _ _ fun i _ hi=>r2 i (by omega)) (aaM _ _ _ fun i _ hi=>r2 i (by omega))
      · exact r3 z hz
    · rw[r4];congr 1;apply List.ext_getElem?;intro i;rw[List.getElem?_take,List.getElem?_drop];by_cases hi:i<x.size-16
      · rw[if_pos hi,r2 _ (by omega),agU _ _ _ (by rw[hl1];omega) i (by omega)]
      · rw[if_neg hi,List.getElem?_eq_none (by omega)]
theorem aqE{n:Int}:∀{l:List Rk}{o:Int}{f:Bool},abh n o f l=true->(∀j x y,l[j]?=some x->l[j+1]?=some y->x.u=true\/y.u=true)/\(f=true->∀x,l[0]?=some x->x.u=true)
 | [],o,f,h=>⟨fun j x y hx=>by simp at hx,fun _ x hx=>by simp at hx⟩
 | z::r,o,f,h=>by
  unfold abh at h;simp only[Bool.and_eq_true]at h;obtain⟨_,_,_,hf,hr⟩:=h;obtain⟨i1,i2⟩:=aqE hr;refine⟨fun j x y hx hy=> ?_,fun hft x hx=> ?_⟩
  · cases j with
    | zero=>
     simp at hx;subst hx
     cases hu:z.u with
     | true=>exact .inl rfl
     | false=>exact .inr (i2 (by rw[hu];rfl) y (by simpa using hy))
    | succ j=>exact i1 j x y (by simpa using hx) (by simpa using hy)
  · simp at hx;subst hx;rw[hft]at hf
    cases hu:z.u with
    | true=>rfl
    | false=>rw[hu]at hf;cases hf
theorem aqF{n:Int}{l:List Rk}{o:Int}{f:Bool}(h:abh n o f l=true):aev (l.map toB)=true:=by
 obtain⟨h1,_⟩:=aqE h;unfold aev;rw[List.all_eq_true];intro i hi;have hi:=List.mem_range.1 hi;rw[List.length_map]at hi;unfold adJ adI
 cases i with
 | zero=>rfl
 | succ i=>
  have e1:(l.map toB)[i+1]?=some (toB l[i+1]):=by rw[List.getElem?_map,List.getElem?_eq_getElem hi];rfl
  have e2:(l.map toB)[i]?=some (toB (l[i]'(by omega))):=by rw[List.getElem?_map,List.getElem?_eq_getElem (show i<l.length by omega)];rfl
  have e3:i+1-1=i:=by omega
  rw[e3];rcases h1 i _ _ (List.getElem?_eq_getElem (show i<l.length by omega)) (List.getElem?_eq_getElem hi)with hu | hu
  · simp[e1,e2,toB,hu]
  · simp[e1,e2,toB,hu]
theorem akH{bs bs':List UInt8}:∀{l:List Bk},(∀x∈l,x.used=true->∀i,x.off+8<=i->i<x.off+8+(x.size-16)->bs'[i]?=bs[i]?)->ofD bs' l=ofD bs l
 | [],_=>rfl
 | x::l,h=>by
  have ih:=akH (l:=l) fun y hy=>h y (by simp[hy]);unfold ofD;rw[ih]
  cases hu:x.used with
  | false=>rfl
  | true=>
   simp only[if_true];congr 1;apply List.ext_getElem?;intro i;rw[List.getElem?_take,List.getElem?_take,List.getElem?_drop,List.getElem?_drop];by_cases hi:i<x.size-16
   · rw[if_pos hi,if_pos hi,h x (by simp) hu _ (by omega) (by omega)]
   · rw[if_neg hi,if_neg hi]
theorem akI{bs out:List UInt8}{l:List Bk}(h:abI bs=some l) (hm:bs.length<=16384) (ho:ab5 bs=some out):∀i,184<=i->(∀y∈l,y.used=false->i<y.off+8\/y.off+24<=i)->out[i]?=bs[i]?:=by
 obtain⟨h184,ht,hg⟩:=aaj h;have hmem:=(aak l _ _ ht).2;have el:(List.replicate 184 (0:UInt8)++bs.drop 184).length=bs.length:=by rw[List.length_append,List.length_replicate,List.length_drop];omega
 have hst:Stands (List.replicate 184 (0:UInt8)++bs.drop 184) l:=by
  refine⟨fun x hx=> ?_,aaO l _ _ ht⟩;obtain⟨a,b,c,_⟩:=hmem x hx;have q:=(aab _).1 c;refine abV bs _ x el (hg x hx) ?_ ?_
  · exact aaM _ _ _ fun i h1 _=>aeV bs 184 i (by omega)
  · exact aaM _ _ _ fun i h1 _=>aeV bs 184 i (by omega)
 have hL:=afs (by rw[el];exact h184) (by rw[el];exact hm) hst (fun p hp _=>ads _ _ _ hp);have e0:(fun _=> [])=abb []:=by funext c;rfl
 rw[e0]at hL;obtain⟨_,_,hk⟩:=aeU l [] _ (fun x hx=>hx) (by simpa using adX l _ _ ht) hL;unfold ab5 at ho;rw[h]at ho;injection ho with ho;dsimp only at ho;rw[ho]at hk;intro i h1 h2;rw[hk i h1 h2];exact aeV bs 184 i h1
theorem ain{N:Nat}{l:List Rk}{d:List (List UInt8)}(h:aew (N:Int) l d=true):
 ∃out,abI (age (List.replicate N 0) (l.map toB) d)=some (l.map toB)/\(age (List.replicate N 0) (l.map toB) d).length=N/\ab5 (age (List.replicate N 0) (l.map toB) d)=some out/\ace out=true/\abI out=some (l.map toB)/\out.length=N/\ofD out (l.map toB)=d:=by
 unfold aew at h;simp only[Bool.and_eq_true]at h;obtain⟨hlo,hr,hdo⟩:=h;have hN:=(aaV _).1 hlo;obtain⟨ht,_,hz⟩:=agf (o:=184) hr;rw[Int.toNat_natCast]at ht;have hd:=agh (fun x hx=>⟨(hz x hx).1,(hz x hx).2.1⟩) hdo;have hl0:(List.replicate N (0:UInt8)).length=N:=List.length_replicate;obtain⟨r1,_,r3,r4⟩:=ahb (l.map toB) (List.replicate N 0) 184 d (Nat.le_refl _) (by omega) (by rw[hl0];exact ht) hd;rw[hl0]at r1;obtain⟨mid,hmid⟩:=nmE (age (List.replicate N 0) (l.map toB) d);rw[hmid]at r1 r3 r4 ⊢;have hw:abI mid=some (l.map toB):=ac9 (by rw[r1];exact ht) r3;obtain⟨out,e,_,h2,h3,_,h5⟩:=ajR hw (by omega);refine⟨out,hw,r1,e,by rw[h5];exact aqF hr,h3,h2.trans r1,?_⟩;rw[<-r4];refine akH fun x hx hu i i1 i2=>akI hw (by omega) e i ?_ fun y hy hyu=> ?_
 · have:=((aak _ _ _ ht).2 x hx).1;omega
 · have hxs:=(aab _).1 ((aak _ _ _ ht).2 x hx).2.2.1;have hys:=(aab _).1 ((aak _ _ _ ht).2 y hy).2.2.1;rcases aaO _ _ _ ht x hx y hy with e | e | e
   · rw[e,hyu]at hu;cases hu
   · omega
   · omega
theorem as9{n:Nat}:∀(l:List Bk) (o:Nat) (u:Bool),aby o l n->afW u l=true->abh (n:Int) (o:Int) (!u) (l.map toR)=true
 | [],o,u,h,_=>by
  have h:o=n:=h;subst h;simp[abh]
 | x::r,o,u,⟨h1,h2,h3⟩,hn=>by
  unfold afW at hn;rw[Bool.and_eq_true]at hn;have ih:=as9 r (o+x.size) x.used h3 hn.2;have hle:=(aak r _ _ h3).1;rw[List.map_cons,abh];simp only[Bool.and_eq_true];refine⟨by unfold toR;rw[h1];simp,h2,decide_eq_true ?_,?_,ih⟩
  · show(x.size:Int)<=(n:Int)-(o:Int);omega
  · show(!(!u&& !x.used))=true;have:=hn.1
    cases u<;>cases hx:x.used<;>simp_all
theorem ata{bs:List UInt8}:∀l:List Bk,(∀x∈l,x.off+x.size<=bs.length/\32<=x.size)->datOk (l.map toR) (ofD bs l)=true
 | [],_=>rfl
 | x::r,h=>by
  have ih:=ata r fun y hy=>h y (List.mem_cons_of_mem _ hy);obtain⟨h1,h2⟩:=h x (List.mem_cons_self ..);rw[List.map_cons,datOk.eq_def,ofD];dsimp only
  cases hu:x.used with
  | false=>rw[if_neg (by unfold toR;rw[hu];exact Bool.false_ne_true),if_neg Bool.false_ne_true];exact ih
  | true=>
   rw[if_pos (by unfold toR;exact hu),if_pos rfl];dsimp only;rw[Bool.and_eq_true];refine⟨?_,ih⟩;rw[beq_iff_eq,List.length_take,List.length_drop];show((min (x.size-16) (bs.length-(x.off+8)):Nat):Int)=(x.size:Int)-16;omega
theorem amZ:∀(l:List Bk) (o e:Nat),aby o l e->∃k,e=o+16*k
 | [],o,e,h=>⟨0,by have h:o=e:=h;omega⟩
 | x::r,o,e,⟨_,h2,h3⟩=>by
  obtain⟨k,hk⟩:=amZ r _ _ h3;have hs:=(aab _).1 h2;exact⟨x.size/16+k,by omega⟩
theorem akJ{bs:List UInt8}{l:List Bk}(hw:abI bs=some l) (hl:bs.length<=16384) (hn:aev l=true):aew (bs.length:Int) (l.map toR) (ofD bs l)=true:=by
 obtain⟨h1,ht,_⟩:=aaj hw;obtain⟨k,hk⟩:=amZ _ _ _ ht;unfold aew;rw[abf]at hn;simp only[Bool.and_eq_true];refine⟨(aaV _).2 ⟨by omega,by omega,by omega⟩,as9 l 184 true ht hn,ata l fun x hx=> ?_⟩;obtain⟨_,a,b,_⟩:=(aak _ _ _ ht).2 x hx;have:=(aab _).1 b;exact⟨a,by omega⟩
theorem am0{bs:List UInt8}:∀(L:List Bk) (ds:List Dt),ds.length=L.length->(∀(j:Nat) (x:Bk) (d:Dt),L[j]?=some x->ds[j]?=some d->x.used=true->d.2.length+16=x.size/\∀k,k<d.2.length->bs[x.off+8+k]?=d.2[k]?)->ofD bs L=avo L ds
 | [],[],_,_=>rfl
 | x::L,d::ds,hl,h=>by
  have ih:=am0 L ds (by simpa using hl) fun j x d hx hd=>h (j+1) x d hx hd;rw[ofD,avo,ih]
  cases hu:x.used with
  | false=>rfl
  | true=>
   obtain⟨h1,h2⟩:=h 0 x d rfl rfl hu;have e:(bs.drop (x.off+8)).take (x.size-16)=d.2:=by
    refine List.ext_getElem? fun k=> ?_;rw[List.getElem?_take];split
    · rw[List.getElem?_drop];exact h2 k (by omega)
    · rw[List.getElem?_eq_none (by omega)]
   rw[if_pos rfl,if_pos rfl,e]
theorem am1{bs:List UInt8}{H:Hp}(h:RtD bs H):ofD bs H.blks=avo H.blks H.ds:=
 am0 _ _ h.dl fun j x d hx hd hu=>h.ho j x d ⟨hx,hd⟩ hu
section
variable {H:Hp}
theorem aqG{n:Nat}{x:UInt8}:(H.get n x).2.cap=H.cap:=by
 unfold Hp.get;split
 · rfl
 · split
   · rfl
   · dsimp only;split
     · exact take_cap
     · exact take_cap
theorem aog{n m:Nat}:(H.calloc n m).2.cap=H.cap:=by
 unfold Hp.calloc;split
 · rfl
 · exact aqG
theorem al9{p n:Nat}:(H.realloc p n).2.cap=H.cap:=by
 unfold Hp.realloc;split
 · rfl
 · split
   · rfl
   · split
     · dsimp only;split
       · exact resize_cap
       · exact resize_cap
     · exact resize_cap
theorem aqH{p:Nat}:(H.freeP p).2.cap=H.cap:=by
 unfold Hp.freeP;split
 · rfl
 · exact af2
theorem aoh{p a:Nat}{b:List UInt8}:(H.writeP p a b).2.cap=H.cap:=by
 unfold Hp.writeP;split
 · rfl
 · split<;>rfl
end
structure Hv (B:Nat) (w:World) (q g base cap:Nat) (A:Option Addr) (c:Nat) (bs:List UInt8) (H:Hp):Prop where
 ph:PH w q g base cap A c bs H
 qB:B<=q
 gB:B<=g
 aB:∀a,A=some a->B<=a.block
section
variable {B:Nat} {w w':World} {q g base cap c:Nat} {A:Option Addr} {bs:List UInt8} {H H':Hp}
theorem Hv.fB (h:Hv B w q g base cap A c bs H){k:Nat}(hk:foot g A k):B<=k:=by
 rcases hk with rfl | ⟨a,e,rfl⟩
 · exact h.gB
 · exact h.aB a e
theorem Hv.below (h:Hv B w q g base cap A c bs H) (hb:Below w.heap.size w w'):Hv B w' q g base cap A c bs H:=⟨h.ph.below hb,h.qB,h.gB,h.aB⟩
theorem Hv.turn (h:Hv B w q g base cap A c bs H) (hB:B<=w.heap.size) (ht:PTurn g base cap A H' w w') (hc:H'.cap=cap):∃A' c' bs',Hv B w' q g base cap A' c' bs' H'/\Tch (foot g A) w w'/\(A'=A\/∀a,A'=some a->w.heap.size<=a.block):=by
 obtain⟨A',c',out,h1,h2,h3⟩:=ht.ph h.ph hc;refine⟨A',c',out,⟨h1,h.qB,h.gB,fun a e=> ?_⟩,h2,h3⟩;rcases h3 with h3 | h3
 · exact h.aB a (h3▸e)
 · exact Nat.le_trans hB (h3 a e)
theorem Hv.low (h:Hv B w q g base cap A c bs H) (hB:B<=w.heap.size) (ht:Tch (foot g A) w w'):Below B w w':=ht.below (fun _ hk=>h.fB hk) hB
theorem PMade.hv{e:Ending}(h:PMade base cap H w e w'):∃q g A c bs,e= .returned (.tuple #[.pointer (some ⟨q,0,none⟩), .nilIface])/\Hv w.heap.size w' q g base cap A c bs H/\Below w.heap.size w w':=by
 obtain⟨q,g,A,c,bs,he,hp,hb,h1,h2,h3⟩:=h;exact⟨q,g,A,c,bs,he,⟨hp,h1,h2,h3⟩,hb⟩
end
structure Cl where
 which:Int
 op:Int
 h:Nat
 n:Nat
 m:Nat
 at_:Nat
 A:Option Addr
 c:Nat
 b:List UInt8
def Cl.ok (x:Cl):Prop:=(-9223372036854775808<=x.which/\x.which<=9223372036854775807)/\(-9223372036854775808<=x.op/\x.op<=9223372036854775807)/\x.h<18446744073709551616/\x.n<18446744073709551616/\x.m<18446744073709551616/\x.at_<18446744073709551616/\x.b.length<=maxLen
def ClRd (w:World) (B:Nat) (A:Option Addr) (l:List Cl):Prop:=0<l.length->∃b o,A=some ⟨b,o,none⟩/\b<B/\∀j x,l[j]?=some x->
 (w.cell? ⟨b,o+j*7,none⟩=some (.int .i64 x.which)/\w.cell? ⟨b,o+j*7+1,none⟩=some (.int .i64 x.op)/\w.cell? ⟨b,o+j*7+2,none⟩=some (.int .u64 (x.h:Int))/\w.cell? ⟨b,o+j*7+3,none⟩=some (.int .u64 (x.n:Int))/\
 w.cell? ⟨b,o+j*7+4,none⟩=some (.int .u64 (x.m:Int))/\w.cell? ⟨b,o+j*7+5,none⟩=some (.int .u64 (x.at_:Int))/\w.cell? ⟨b,o+j*7+6,none⟩=some (.slice x.A x.b.length x.c))/\Rd w B x.A x.b.length x.b/\x.ok
theorem ClRd.below{w w':World}{B:Nat}{A:Option Addr}{l:List Cl}(h:ClRd w B A l) (hb:Below B w w'):ClRd w' B A l:=fun hn=>by
 obtain⟨b,o,e,hB,hc⟩:=h hn;refine⟨b,o,e,hB,fun j x hx=> ?_⟩;obtain⟨⟨h0,h1,h2,h3,h4,h5,h6⟩,h7,h8⟩:=hc j x hx;exact⟨⟨(hb.cell (p:=⟨b,_,none⟩) hB).trans h0,(hb.cell (p:=⟨b,_,none⟩) hB).trans h1,(hb.cell (p:=⟨b,_,none⟩) hB).trans h2,(hb.cell (p:=⟨b,_,none⟩) hB).trans h3,(hb.cell (p:=⟨b,_,none⟩) hB).trans h4,(hb.cell (p:=⟨b,_,none⟩) hB).trans h5,(hb.cell (p:=⟨b,_,none⟩) hB).trans h6⟩,h7.below hb,h8⟩
def uV (n:Nat):Value:= .int .u64 (n:Int)
def atb (x:Cl) (told:List Nat):Nat:=(x.which%(told.length:Int)).toNat
def ahc (x:Cl) (told:List Nat):Nat:=if 0<=x.which/\0<told.length then (told.getD (atb x told) 0+x.h)%18446744073709551616 else x.h
def ahd (x:Cl):Nat:=(x.op%9).toNat
theorem ahe (x:Cl):ahd x<9:=by
 unfold ahd;have h1:=Int.emod_nonneg x.op (b:=9) (by omega);have h2:=Int.emod_lt_of_pos x.op (b:=9) (by omega);omega
theorem akK (x:Cl) (told:List Nat) (hx:x.h<18446744073709551616):ahc x told<18446744073709551616:=by
 unfold ahc;split
 · omega
 · exact hx
theorem atc{w:World}{y0 y1 y2 y3 y4 y5:Value}{g:Nat}{t:TypeId}(h:w.heap[g]?=some (.cells #[y0,y1,y2,y3,y4,y5] t (0,0))) (x0 x1 x2 x3 x4 x5:Value):
 ((((((w.setCell ⟨g,0,none⟩ x0).setCell ⟨g,1,none⟩ x1).setCell ⟨g,2,none⟩ x2).setCell ⟨g,3,none⟩ x3).setCell ⟨g,4,none⟩ x4).setCell ⟨g,5,none⟩ x5).heap[g]?=some (.cells #[x0,x1,x2,x3,x4,x5] t (0,0)):=by
 have h1:=heap_setCell_same _ g 0 _ _ x0 h;have h1:(_:Option Obj)=some (.cells #[x0,y1,y2,y3,y4,y5] t (0,0)):=h1;have h2:=heap_setCell_same _ g 1 _ _ x1 h1;have h2:(_:Option Obj)=some (.cells #[x0,x1,y2,y3,y4,y5] t (0,0)):=h2;have h3:=heap_setCell_same _ g 2 _ _ x2 h2;have h3:(_:Option Obj)=some (.cells #[x0,x1,x2,y3,y4,y5] t (0,0)):=h3;have h4:=heap_setCell_same _ g 3 _ _ x3 h3;have h4:(_:Option Obj)=some (.cells #[x0,x1,x2,x3,y4,y5] t (0,0)):=h4;have h5:=heap_setCell_same _ g 4 _ _ x4 h4;have h5:(_:Option Obj)=some (.cells #[x0,x1,x2,x3,x4,y5] t (0,0)):=h5;have h6:=heap_setCell_same _ g 5 _ _ x5 h5;have h6:(_:Option Obj)=some (.cells #[x0,x1,x2,x3,x4,x5] t (0,0)):=h6;exact h6
theorem ajo{w:World}{y0 y1 y2 y3 y4 y5:Value}{g:Nat}{t:TypeId}(h:w.heap[g]?=some (.cells #[y0,y1,y2,y3,y4,y5] t (0,0))):w.frozen? ⟨g,0,none⟩=false/\w.frozen? ⟨g,1,none⟩=false/\w.frozen? ⟨g,2,none⟩=false/\w.frozen? ⟨g,3,none⟩=false/\w.frozen? ⟨g,4,none⟩=false/\w.frozen? ⟨g,5,none⟩=false:=
 ⟨frozen_of_row w g 0 _ _ h,frozen_of_row w g 1 _ _ h,frozen_of_row w g 2 _ _ h,frozen_of_row w g 3 _ _ h,frozen_of_row w g 4 _ _ h,frozen_of_row w g 5 _ _ h⟩
theorem ajp{w:World}{x0 x1 x2 x3 x4 x5 x6:Value}{g:Nat}{t:TypeId}(h:w.heap[g]?=some (.cells #[x0,x1,x2,x3,x4,x5,x6] t (0,0))):
 w.cell? ⟨g,0,none⟩=some x0/\w.cell? ⟨g,1,none⟩=some x1/\w.cell? ⟨g,2,none⟩=some x2/\w.cell? ⟨g,3,none⟩=some x3/\w.cell? ⟨g,4,none⟩=some x4/\w.cell? ⟨g,5,none⟩=some x5/\w.cell? ⟨g,6,none⟩=some x6:=by
 refine⟨?_,?_,?_,?_,?_,?_,?_⟩
 · rw[cell_of_row w g 0 _ _ (0,0) h];rfl
 · rw[cell_of_row w g 1 _ _ (0,0) h];rfl
 · rw[cell_of_row w g 2 _ _ (0,0) h];rfl
 · rw[cell_of_row w g 3 _ _ (0,0) h];rfl
 · rw[cell_of_row w g 4 _ _ (0,0) h];rfl
 · rw[cell_of_row w g 5 _ _ (0,0) h];rfl
 · rw[cell_of_row w g 6 _ _ (0,0) h];rfl
theorem am2{fn:Func}{R:Ending->World->Prop}{a:Act}{w:World}{p:Tmp}{g:Nat}{x0 x1 x2 x3 x4 x5:Value}(hres:fn.results= #[.cell p 43]) (hp:a.tmps.getD p undef= .pointer (some ⟨g,0,none⟩)) (hd:a.defers= [])
 (hg:w.heap[g]?=some (.cells #[x0,x1,x2,x3,x4,x5] 43 (0,0))) (hR:R (.returned (.agg #[x0,x1,x2,x3,x4,x5])) w):bodyPost Tryz.prog fn R .ret a w:=by
 refine bodyPost_ret (v:= .agg #[x0,x1,x2,x3,x4,x5]) ?_ hd hR;exact results_cell_row hres _ _ g _ _ _ _ hp hg rfl rfl rfl
def Tl (w:World) (B:Nat) (A:Option Addr) (told:List Nat):Prop:=0<told.length->∃b,A=some ⟨b,0,none⟩/\B<=b/\b<w.heap.size/\∀(j v:Nat),told[j]?=some v->w.cell? ⟨b,j,none⟩=some (.int .u64 (v:Int))
theorem afg{P:Prop}(h:P:=by
 obtain⟨⟨k0,k1,k2,k3,k4,k5⟩,e0,e1,e2,e3,e4,e5⟩:=(show _/\_ from⟨abp KW.out,ajo KW.out⟩);have hk9:=aac KW.out;have MF:=hE0 (atc KW.out (.int .i64 (o9:Int)) (.int .u64 (xh:Int)) (.int .u64 (xn:Int)) (.int .u64 (xm:Int)) (.int .u64 (xa:Int)) (.slice xA bl xc));have BF:=hE0 ((((((BW.out.setCell (p:=⟨w1.heap.size,0,none⟩) HL1.out (.int .i64 (o9:Int))).setCell (p:=⟨w1.heap.size,1,none⟩) HL1.out (.int .u64 (xh:Int))).setCell (p:=⟨w1.heap.size,2,none⟩) HL1.out (.int .u64 (xn:Int))).setCell (p:=⟨w1.heap.size,3,none⟩) HL1.out (.int .u64 (xm:Int))).setCell (p:=⟨w1.heap.size,4,none⟩) HL1.out (.int .u64 (xa:Int))).setCell (p:=⟨w1.heap.size,5,none⟩) HL1.out (.slice xA bl xc));go_wp2_with (first | (rw[HW4.out]) | fail)
 (try simp only[Exit.inBlock,Exit.then])
 refine am2 (g:=w1.heap.size) Tryz.results19 ?_ ?_ MF.out ?_
 · rfl
 · rfl
 · exact⟨rfl,BF.out⟩
 ):P:=h
theorem akL (w:World) (x:Cl) (hx:x.ok) (A1:Option Addr) (c1:Nat) (told:List Nat) (B:Nat) (ht:Tl w B A1 told) (hl:told.length<=1000) (h64:∀v∈told,v<18446744073709551616):
 Calls Tryz.prog 19 #[.agg #[.int .i64 x.which, .int .i64 x.op, .int .u64 (x.h:Int), .int .u64 (x.n:Int), .int .u64 (x.m:Int), .int .u64 (x.at_:Int), .slice x.A x.b.length x.c], .slice A1 told.length c1] w
  fun e w'=>e= .returned (abo (ahd x:Int) (ahc x told) x.n x.m x.at_ x.A x.b.length x.c)/\Below w.heap.size w w':=by
 obtain⟨hw,ho,hh,hn,hm,ha,_⟩:=hx;have hPK:=fun W=>aoY x.op 9 W (by omega) (by omega) (ahd x) rfl;have hol:=ahe x;obtain⟨o9,ho9⟩:=nmE (ahd x);rw[ho9]at hPK hol ⊢;obtain⟨p,hp⟩:=nmE (ahc x told);rw[hp];have HPV:=hE0 hp;unfold ahc atb at hp;obtain⟨wh,xo,xh,xn,xm,xa,xA,xc,xb⟩:=x;dsimp only at hw ho hh hn hm ha hp hPK ⊢;obtain⟨bl,hbl⟩:=nmE xb.length;obtain⟨tl,htl⟩:=nmE told.length;rw[hbl];rw[htl]at hp hl ⊢;have HPK:=hE0 hPK;have HT:=hE0 ht;have HTL:=hE0 htl;have H64:=hE0 h64;obtain⟨w1,hw1⟩:=nmE (w.alloc (.cells #[.int .i64 wh, .int .i64 xo, .int .u64 (xh:Int), .int .u64 (xn:Int), .int .u64 (xm:Int), .int .u64 (xa:Int), .slice xA bl xc] 46));have b1:=abE hw1;have n1:=anE hw1;obtain⟨w2,hw2⟩:=nmE (w1.alloc (.cells #[.int .i64 0, .int .u64 0, .int .u64 0, .int .u64 0, .int .u64 0, .slice none 0 0] 43));have b2:=abE hw2;have n2:=anE hw2;have m2:=(b2.block _ (aae n1)).trans n1;obtain⟨w3,hw3⟩:=nmE (w2.alloc (.cells #[.int .i64 xo, .int .u64 (xh:Int), .int .u64 (xn:Int), .int .u64 (xm:Int), .int .u64 (xa:Int), .slice xA bl xc] 43));have b3:=abE hw3;have n3:=anE hw3;have m3:=(b3.block _ (aae m2)).trans m2;have k3:=(b3.block _ (aae n2)).trans n2;obtain⟨w4,hw4⟩:=nmE (w3.setCell ⟨w2.heap.size,0,none⟩ (.int .i64 (o9:Int)));have hne1:w2.heap.size≠w.heap.size:=fun e=>by have:=aae m2;omega
 have hne2:w2.heap.size≠w1.heap.size:=fun e=>by have:=aae n2;omega
 have n4:w4.heap[w2.heap.size]?=some (.cells #[.int .i64 (o9:Int), .int .u64 (xh:Int), .int .u64 (xn:Int), .int .u64 (xm:Int), .int .u64 (xa:Int), .slice xA bl xc] 43 (0,0)):=by rw[<-hw4];exact heap_setCell_same w3 w2.heap.size 0 _ _ _ n3
 have m4:w4.heap[w.heap.size]?=some (.cells #[.int .i64 wh, .int .i64 xo, .int .u64 (xh:Int), .int .u64 (xn:Int), .int .u64 (xm:Int), .int .u64 (xa:Int), .slice xA bl xc] 46 (0,0)):=by rw[<-hw4];exact(Below.heap_setCell w3 ⟨w2.heap.size,0,none⟩ _ w.heap.size (Ne.symm hne1)).trans m3
 have k4:w4.heap[w1.heap.size]?=some (.cells #[.int .i64 0, .int .u64 0, .int .u64 0, .int .u64 0, .int .u64 0, .slice none 0 0] 43 (0,0)):=by rw[<-hw4];exact(Below.heap_setCell w3 ⟨w2.heap.size,0,none⟩ _ w1.heap.size (Ne.symm hne2)).trans k3
 have b03:Below w.heap.size w w3:=b1.trans ((b2.mono b1.size).trans (b3.mono (Nat.le_trans b1.size b2.size)));have b04:Below w.heap.size w w4:=by rw[<-hw4];exact b03.setCell (Nat.le_trans b1.size b2.size) _
 have HW1:=hE0 hw1;have HW2:=hE0 hw2;have HW3:=hE0 hw3;have HW4:=hE0 hw4;have HB4:=hE0 b04;have HN4:=hE0 n4;have HM4:=hE0 m4;have HK4:=hE0 k4;have HNE1:=hE0 hne1;have HNE2:=hE0 hne2;obtain⟨z0,z1,z2,z3,z4,z5,z6⟩:=ajp m2;have hz2:=aac m2;obtain⟨y0,y1,y2,y3,y4,y5⟩:=abp n3;obtain⟨f0,f1,f2,f3,f4,f5⟩:=ajo n3;have hy3:=aac n3;have HL1:=hE0 b1.size;have HL2:=hE0 (Nat.le_trans b1.size b2.size);clear hPK ht htl h64 hbl hw1 hw2 hw3 hw4 b1 b2 b3 n1 n2 n3 n4 m2 m3 m4 k3 k4 b03 b04 hne1 hne2;unfold abo;go_enter Tryz.func19,Tryz.ntmps19
 go_wp2_with (first | (rw[HW1.out]) | (rw[HW2.out]) | (rw[HW3.out]) | fail)
 refine(HPK.out _).mono ?_;rintro e w5 ⟨rfl,rfl⟩;clear z0 z1 z2 z3 z4 z5 z6;obtain⟨z0,z1,z2,z3,z4,z5,z6⟩:=ajp HM4.out;have hz4:=aac HM4.out;by_cases hw0:0<=wh/\0<tl
 · rw[if_pos hw0]at hp;obtain⟨hwh,htl0⟩:=hw0;have hm1:=Int.emod_nonneg wh (b:=(tl:Int)) (by omega);have hm2:=Int.emod_lt_of_pos wh (b:=(tl:Int)) (by omega);obtain⟨i,hi⟩:=nmE ((wh%(tl:Int)).toNat);rw[hi]at hp;have em:Int.tmod wh (tl:Int)=(i:Int):=by rw[Int.tmod_eq_emod_of_nonneg hwh];omega
   have hil:i<tl:=by omega
   obtain⟨b,rfl,hbB,hbl,hcell⟩:=HT.out (by rw[HTL.out];exact htl0);obtain⟨v,hv⟩:∃v,told[i]?=some v:=⟨told[i]'(by rw[HTL.out];exact hil),List.getElem?_eq_getElem _⟩;have hgd:told.getD i 0=v:=by rw[List.getD_eq_getElem?_getD,hv];rfl
   rw[hgd]at hp;have hv64:=H64.out v (List.mem_of_getElem? hv);have ev:IntKind.u64.wrap ((v:Int)+(xh:Int))=(p:Int):=by rw[IntKind.wrap_u64];omega
   have cb:=hcell i v hv;have g1:decide ((0:Int)<=wh)=true:=decide_eq_true hwh;have g2:decide (0<tl)=true:=decide_eq_true htl0;obtain⟨wd,hwd⟩:=nmE w4.drew;have bd:Below w.heap.size w wd:=by rw[<-hwd];exact HB4.out.drew
   have nd:wd.heap[w2.heap.size]?=some (.cells #[.int .i64 (o9:Int), .int .u64 (xh:Int), .int .u64 (xn:Int), .int .u64 (xm:Int), .int .u64 (xa:Int), .slice xA bl xc] 43 (0,0)):=by rw[<-hwd];exact HN4.out
   have kd:wd.heap[w1.heap.size]?=some (.cells #[.int .i64 0, .int .u64 0, .int .u64 0, .int .u64 0, .int .u64 0, .slice none 0 0] 43 (0,0)):=by rw[<-hwd];exact HK4.out
   have md:wd.heap[w.heap.size]?=some (.cells #[.int .i64 wh, .int .i64 xo, .int .u64 (xh:Int), .int .u64 (xn:Int), .int .u64 (xm:Int), .int .u64 (xa:Int), .slice xA bl xc] 46 (0,0)):=by rw[<-hwd];exact HM4.out
   have hltm:=aac md;have hltn:=aac nd;have hltb:b<wd.heap.size:=Nat.lt_of_lt_of_le hbl bd.size;have cbd:wd.cell? ⟨b,i,none⟩=some (.int .u64 (v:Int)):=(bd.cell (p:=⟨b,i,none⟩) hbl).trans cb;obtain⟨u0,u1,u2,u3,u4,u5,u6⟩:=ajp md;obtain⟨w5,hw5⟩:=nmE (wd.setCell ⟨w2.heap.size,1,none⟩ (.int .u64 (p:Int)));have n5:w5.heap[w2.heap.size]?=some (.cells #[.int .i64 (o9:Int), .int .u64 (p:Int), .int .u64 (xn:Int), .int .u64 (xm:Int), .int .u64 (xa:Int), .slice xA bl xc] 43 (0,0)):=by rw[<-hw5];exact heap_setCell_same wd w2.heap.size 1 _ _ _ nd
   have KW:Hid (w5.heap[w1.heap.size]?=some (.cells #[.int .i64 0, .int .u64 0, .int .u64 0, .int .u64 0, .int .u64 0, .slice none 0 0] 43 (0,0))):=(show _ by rw[<-hw5];exact(Below.heap_setCell wd ⟨w2.heap.size,1,none⟩ _ w1.heap.size (Ne.symm HNE2.out)).trans kd);have BW:Hid (Below w.heap.size w w5):=(show Below _ _ _ by rw[<-hw5];exact bd.setCell HL2.out _);obtain⟨y0',y1',y2',y3',y4',y5'⟩:=abp nd;obtain⟨g0',g1',g2',g3',g4',g5'⟩:=ajo nd;obtain⟨v0,v1,v2,v3,v4,v5⟩:=abp n5;have hltn5:=aac n5;have HW5:=hE0 hw5;have HWD:=hE0 hwd;clear hp hm1 hm2 hi hcell hv hgd cb bd nd kd md hw5 n5 hwd HT H64 HPK;go_wp2_with (first | (rw[HW4.out]) | fail)
   refine aao wd.heap.size [] [0,1,2,3,4,5,6,7,8,9,10,11,12] [13] (by kernel_rfl) (by kernel_rfl) (by kernel_rfl) (fun _ _ _ _ _ h=>h) ?_;rw[HWD.out];have q0:=tfE u0 hltm;have q1:=tfE u2 hltm;have q2:=tfE cbd hltb;refine aaH (l:= ?la2) (t:= ?tl2) ?hla2 ?htl2 ?_
   case hla2=>simp only[pick,lE1,lE2,lE3];rfl
   case htl2=>simp only[pick,lE1,lE2,lE3];rfl
   repeat (go_big_quiet_step (fail))
   refine wpQuiet_nil ?_;clear q0 q1 q2;obtain⟨⟨k0,k1,k2,k3,k4,k5⟩,e0,e1,e2,e3,e4,e5⟩:=(show _/\_ from⟨abp KW.out,ajo KW.out⟩);have hk9:=aac KW.out;have MF:=hE0 (atc KW.out (.int .i64 (o9:Int)) (.int .u64 (p:Int)) (.int .u64 (xn:Int)) (.int .u64 (xm:Int)) (.int .u64 (xa:Int)) (.slice xA bl xc));have BF:=hE0 ((((((BW.out.setCell (p:=⟨w1.heap.size,0,none⟩) HL1.out (.int .i64 (o9:Int))).setCell (p:=⟨w1.heap.size,1,none⟩) HL1.out (.int .u64 (p:Int))).setCell (p:=⟨w1.heap.size,2,none⟩) HL1.out (.int .u64 (xn:Int))).setCell (p:=⟨w1.heap.size,3,none⟩) HL1.out (.int .u64 (xm:Int))).setCell (p:=⟨w1.heap.size,4,none⟩) HL1.out (.int .u64 (xa:Int))).setCell (p:=⟨w1.heap.size,5,none⟩) HL1.out (.slice xA bl xc));go_wp2_with (first | (rw[HW5.out]) | fail)
   (try simp only[Exit.inBlock,Exit.then])
   refine am2 (g:=w1.heap.size) Tryz.results19 ?_ ?_ MF.out ?_
   · rfl
   · rfl
   · exact⟨rfl,BF.out⟩
 · rw[if_neg hw0]at hp;subst hp;have KW:=HK4;have BW:=HB4;obtain⟨y0',y1',y2',y3',y4',y5'⟩:=abp HN4.out;have hltn5:=aac HN4.out;clear HT H64 HPK;by_cases hwh:0<=wh
   · have htl0:¬0<tl:=fun h=>hw0 ⟨hwh,h⟩;have g1:decide ((0:Int)<=wh)=true:=decide_eq_true hwh;have g2:decide (0<tl)=false:=decide_eq_false htl0;exact afg
   · have g1:decide ((0:Int)<=wh)=false:=decide_eq_false hwh;exact afg
open Go.RowKit Go.ChangeShapes Go.WideShapes Go.Deep
section
variable {H:Type} {enc:TypeId × Value->H} {w:World} {base:Nat} {held:Bool} {fuel:Nat} {A:Option Addr} {len cap:Nat} {x:DataW H × List MemPlace}
theorem asF (h:DataW.trod enc Tryz.prog w base (fun _=>true) held fuel 22 [.slice A len cap]=some x):∃l:List Cl,l.length=len/\ClRd w w.heap.size A l/\len<=maxLen:=by
 have hC:Tryz.prog.cellsOf 46=7:=by kernel_rfl
 have hC1:Tryz.prog.cellsOf 3=1:=by kernel_rfl
 have hC6:Tryz.prog.cellsOf 43=6:=by kernel_rfl
 have hone:oneCellFields Tryz.prog (match Tryz.prog.underlying 43 with
  | some (.struct fs)=>fs
  | _=> #[])=true:=by kernel_rfl
 rw[Tryz.underlying43]at hone;dsimp only at hone;rcases open_slice Tryz.underlying22 h with⟨hcs,_⟩ | ⟨a,l,c,m,n,D,Pl,hcs,_,hl,hm,hmm,_,hi⟩
 · simp at hcs;obtain⟨rfl,rfl,rfl⟩:=hcs;exact⟨[],rfl,fun hn=>absurd hn (by simp),Nat.zero_le _⟩
 · simp at hcs;obtain⟨rfl,rfl,rfl⟩:=hcs;simp only[if_true]at hmm;subst hmm;rw[hC]at hi;obtain⟨ds,hd,hp⟩:=aoZ (p:=fun i (d:Cl)=>d.ok/\Rd w w.heap.size d.A d.b.length d.b/\w.cell? (a.add (i*7))=some (.int .i64 d.which)/\w.cell? (a.add (i*7+1))=some (.int .i64 d.op)/\w.cell? (a.add (i*7+2))=some (.int .u64 (d.h:Int))/\
    w.cell? (a.add (i*7+3))=some (.int .u64 (d.n:Int))/\w.cell? (a.add (i*7+4))=some (.int .u64 (d.m:Int))/\w.cell? (a.add (i*7+5))=some (.int .u64 (d.at_:Int))/\w.cell? (a.add (i*7+6))=some (.slice d.A d.b.length d.c)) len (fun i hil=>by
    obtain⟨cs',hc,ht⟩:=hi i (by omega);obtain⟨_,hcl,hat⟩:=World.cells?_some hc;obtain⟨xs,n',_,_,_,hlen,hf⟩:=DataW.trod_struct Tryz.underlying46 ht;match cs',hcl,xs,hlen with
    | [v,v0,v1,v2,v3,v4,v5],_,[y,z],_=>
     have g:DataW.trod enc Tryz.prog w base (fun _=>true) held n' 3 (List.take (Tryz.prog.cellsOf 3) (List.drop 0 [v,v0,v1,v2,v3,v4,v5]))= [y,z][0]?:=hf 0 _ rfl;have f:DataW.trod enc Tryz.prog w base (fun _=>true) held n' 43 (List.take (Tryz.prog.cellsOf 43) (List.drop 1 [v,v0,v1,v2,v3,v4,v5]))= [y,z][1]?:=hf 1 _ rfl;rw[hC1]at g;rw[hC6]at f;simp only[List.drop_zero,List.drop_succ_cons,List.take_succ_cons,List.take_zero,List.getElem?_cons_zero,List.getElem?_cons_succ]at g f;obtain⟨xs2,n2,_,_,_,hlen2,hf2⟩:=DataW.trod_struct Tryz.underlying43 f;match xs2,hlen2 with
     | [y0,y1,y2,y3,y4,y5],_=>
      have g0:=hf2 0 _ rfl;have g1:=hf2 1 _ rfl;have g2:=hf2 2 _ rfl;have g3:=hf2 3 _ rfl;have g4:=hf2 4 _ rfl;have g5:=hf2 5 _ rfl;rw[(hone_of hone 0 _ rfl).1,(hone_of hone 0 _ rfl).2]at g0;rw[(hone_of hone 1 _ rfl).1,(hone_of hone 1 _ rfl).2]at g1;rw[(hone_of hone 2 _ rfl).1,(hone_of hone 2 _ rfl).2]at g2;rw[(hone_of hone 3 _ rfl).1,(hone_of hone 3 _ rfl).2]at g3;rw[(hone_of hone 4 _ rfl).1,(hone_of hone 4 _ rfl).2]at g4;rw[(hone_of hone 5 _ rfl).1,(hone_of hone 5 _ rfl).2]at g5;simp only[List.drop_zero,List.drop_succ_cons,List.take_succ_cons,List.take_zero,List.getElem?_cons_zero,List.getElem?_cons_succ]at g0 g1 g2 g3 g4 g5;obtain⟨k,hk,_,wk⟩:=DataW.trod_int Tryz.underlying3 g;obtain⟨n0,h0,_,w0⟩:=DataW.trod_int Tryz.underlying3 g0;obtain⟨n1,h1,_,w1⟩:=DataW.trod_int Tryz.underlying25 g1;obtain⟨n2,h2,_,w2⟩:=DataW.trod_int Tryz.underlying25 g2;obtain⟨n3,h3,_,w3⟩:=DataW.trod_int Tryz.underlying25 g3;obtain⟨n4,h4,_,w4⟩:=DataW.trod_int Tryz.underlying25 g4;obtain⟨bA,bn,bc,rfl⟩:∃bA bn bc,v5= .slice bA bn bc:=by
       rcases open_slice Tryz.underlying37 g5 with⟨h,_⟩ | ⟨a,l,c,_,_,_,_,h,_⟩
       · exact⟨_,_,_,by simpa using h⟩
       · exact⟨_,_,_,by simpa using h⟩
      obtain⟨bs,hbs,hbl,hbc,_⟩:=arx g5;obtain rfl:bs.length=bn:=hbs.1;simp at hk h0 h1 h2 h3 h4;subst hk h0 h1 h2 h3 h4;have bk:=bounds_i64 wk;have b0:=bounds_i64 w0;have b1:=bounds_u64 w1;have b2:=bounds_u64 w2;have b3:=bounds_u64 w3;have b4:=bounds_u64 w4;obtain⟨m1,rfl⟩:∃m:Nat,n1=(m:Int):=⟨n1.toNat,by omega⟩;obtain⟨m2,rfl⟩:∃m:Nat,n2=(m:Int):=⟨n2.toNat,by omega⟩;obtain⟨m3,rfl⟩:∃m:Nat,n3=(m:Int):=⟨n3.toNat,by omega⟩;obtain⟨m4,rfl⟩:∃m:Nat,n4=(m:Int):=⟨n4.toNat,by omega⟩;have a0:=hat 0 (by omega);have a1:=hat 1 (by omega);have a2:=hat 2 (by omega);have a3:=hat 3 (by omega);have a4:=hat 4 (by omega);have a5:=hat 5 (by omega);have a6:=hat 6 (by omega);rw[Go.Deep.add_add]at a0 a1 a2 a3 a4 a5 a6;exact⟨⟨k,n0,m1,m2,m3,m4,bA,bc,bs⟩,⟨by dsimp only;omega,by dsimp only;omega,by dsimp only;omega,by dsimp only;omega,by dsimp only;omega,by dsimp only;omega,Nat.le_trans hbl hbc⟩,hbs,a0,a1,a2,a3,a4,a5,a6⟩)
   refine⟨ds,hd,fun hn=> ?_,by omega⟩;obtain⟨d,hd0⟩:∃d,ds[0]?=some d:=⟨ds[0],List.getElem?_eq_getElem hn⟩;obtain⟨_,_,h0,_⟩:=hp 0 d hd0;rw[Nat.zero_mul]at h0;obtain⟨b,o,rfl,hlt,e⟩:=ao0 h0;refine⟨b,o,rfl,hlt,fun j d hj=> ?_⟩;obtain⟨k1,k2,h0,h1,h2,h3,h4,h5,h6⟩:=hp j d hj;rw[e]at h0 h1 h2 h3 h4 h5 h6;exact⟨⟨h0,h1,h2,h3,h4,h5,h6⟩,k2,k1⟩
end
theorem auo (w:World) (g base cap c:Nat) (A:Option Addr) (bs:List UInt8) (l:List Bk) (har:Ar w 195 g base cap A c bs) (hbase:base<=4611686018427387904) (hl:bs.length<=16384) (hck:ace bs=true) (hwk:abI bs=some l):
 Calls Tryz.prog 58 #[.pointer (some ⟨g,0,none⟩)] w fun e w'=>∃A1 A2 c1 c2,e= .returned (.tuple #[.agg #[.int .i64 (bs.length:Int), .slice A1 l.length c1, .slice A2 (ofD bs l).length c2], .nilIface])/\RkRd w' w'.heap.size A1 (l.map toR)/\DtRd w' w'.heap.size A2 (ofD bs l)/\Below w.heap.size w w':=by
 obtain⟨hin,hll32,hmem⟩:=asE hwk hl;obtain⟨F,hF⟩:=nmE (ofD bs l);rw[hF];obtain⟨w1,hw1⟩:=nmE (w.alloc (.cells #[.int .i64 0, .slice none 0 0, .slice none 0 0] 107));have hb1:=abE hw1;have n1:=anE hw1;have HAR1:=hE0 (har.below hb1);have HC:=hE0 (as3 w1 g base cap c A bs true HAR1.out hbase hl hck);dsimp only[aav]at HC;have HWK:=hE0 (fun W (h:Ar W 195 g base cap A c bs)=>alv W g base cap c A bs (some l) h hbase hl hwk);have HW1:=hE0 hw1;have HB1:=hE0 hb1;have HN1:=hE0 n1;have HMEM:=hE0 hmem;have HIN:=hE0 hin;have HFF:=hE0 hF;obtain⟨n,hn⟩:=nmE bs.length;rw[hn]at hl hll32;rw[hn];have HNN:=hE0 hn;obtain⟨m,hm⟩:=nmE l.length;rw[hm]at hll32 ⊢;have HMM:=hE0 hm;have HLL:Hid ((l.map toR).length=m):=(show _=_ by rw[List.length_map];exact hm);clear har hck hw1 hb1 n1 hwk hmem hin hF hn hm;go_enter Tryz.func58,Tryz.ntmps58
 go_wp2_with (first | (rw[HW1.out]) | fail)
 refine HC.out.mono ?_;rintro e w2 ⟨rfl,hb2⟩;have har2:=HAR1.out.below hb2;have hlen:=abO har2;rw[HNN.out]at hlen;have HLEN:=hE0 hlen;have HAR2:=hE0 har2;have HN2:=hE0 ((hb2.block _ (aaa HN1.out)).trans HN1.out);have HB2:=hE0 (HB1.out.trans (hb2.mono HB1.out.size));obtain⟨w3,hw3⟩:=nmE (w2.alloc (.cells #[.int .i64 (n:Int), .slice none 0 0, .slice none 0 0] 107));have hb3:=abE hw3;have n3:=anE hw3;have hwk3:=HWK.out w3 (har2.below hb3);unfold ac0 at hwk3;dsimp only[aav,Option.isSome,Option.getD]at hwk3;have HWK3:=hE0 hwk3;have HW3:=hE0 hw3;have HB3:=hE0 hb3;have HN3:=hE0 n3;clear hb2 har2 hlen hw3 hb3 n3 hwk3 HWK HC HAR1;go_wp2_with fail
 refine HLEN.out.mono ?_;rintro e wq ⟨rfl,rfl⟩;go_wp2_with (first | (rw[HW3.out]) | fail)
 refine HWK3.out.mono ?_;rintro e w4 ⟨A1,c1,rfl,own4,hb4⟩;rw[HMM.out];have n4:=(hb4.block _ (aaa HN3.out)).trans HN3.out;have hl4:=aaa n4;obtain⟨f0,f1,f2⟩:=acQ n4;obtain⟨z0,z1,z2⟩:=aam n4;obtain⟨w5,hw5⟩:=nmE (w4.setCell ⟨w2.heap.size,1,none⟩ (.slice A1 m c1));have hg5:w4.grownBy w5 (some w2.heap.size):=by rw[<-hw5];exact acu w4 w2.heap.size 1 _
 have n5:w5.heap[w2.heap.size]?=some (.cells #[.int .i64 (n:Int), .slice A1 m c1, .slice none 0 0] 107 (0,0)):=by rw[<-hw5];exact heap_setCell_same w4 w2.heap.size 1 _ _ _ n4
 have hb5:Below w2.heap.size w2 w5:=by rw[<-hw5];exact(HB3.out.trans (hb4.mono HB3.out.size)).setCell (p:=⟨w2.heap.size,1,none⟩) (Nat.le_refl _) _
 have own5:w5.ownsRow w2.heap.size 112 3 (.slice A1 (l.map toR).length c1) (l.map toR).length (ae8 (l.map toR)):=by
  rw[HLL.out,<-aqD];rw[HMM.out]at own4;exact adu (acO own4 hg5 fun k hk hrk=>by injection hrk with hrk;subst hrk;exact acB own4 hk n4 (by decide)) HB3.out.size
 have HIM5:Hid (ImP w2.heap.size w2.heap.size (n:Int) A1 c1 (l.map toR) none 0 [] [] w5):=⟨by rw[HLL.out];exact n5,own5,World.ownsRow_nil _ _ _ _,fun i y h=>by simp at h,Nat.le_refl _,HIN.out⟩;have HB5:=hE0 hb5;have hRW:=own5;obtain⟨d0,d1,d2⟩:=aam n5;have hl5:=aaa n5;have HW5:=hE0 hw5;clear own4 hb4 n4 hw5 hg5 n5 hb5 own5 hRW;go_wp2_with (first | (rw[HW5.out]) | fail)
 clear f0 f1 f2 z0 z1 z2 d0 d1 d2 hl4 hl5;obtain⟨j0,ji,jz0,jz1,jz2⟩:=info_parts apd;go_loopw [26] (fun t W=>∃(j:Nat) (A2:Option Addr) (c2:Nat) (d:List (List UInt8)) (xs:List Value),t= .int .i64 (j:Int)/\j<=m/\ImP w2.heap.size w2.heap.size (n:Int) A1 c1 (l.map toR) A2 c2 d xs W/\d++ofD bs (l.drop j)=F/\d.length<=j/\Below w2.heap.size w2 W) (fun t _=>m-(intOf t).toNat)
 case atStart=>exact⟨0,none,0,[],[],rfl,Nat.zero_le _,HIM5.out,HFF.out,Nat.le_refl _,HB5.out⟩
 case round=>
  obtain⟨j,A2,c2,d,xs,rfl,hj,him,hdf,hdl,hb⟩:=hrel;have ho:=him.obj;rw[HLL.out]at ho;obtain⟨d0,d1,d2⟩:=aam ho;have hlm:=aaa ho;by_cases hlt:j<m
  · obtain⟨x,hx⟩:∃x,l[j]?=some x:=⟨l[j]'(by rw[HMM.out];exact hlt),List.getElem?_eq_getElem _⟩;obtain⟨m1,m2,m3⟩:=HMEM.out x (List.mem_of_getElem? hx);have m4:=(aab _).1 m3;rw[HNN.out]at m2;obtain⟨b2,o,rfl,hbb,hcl⟩:=him.rkrd (by rw[HLL.out];omega);obtain⟨r0,r1,r2,_,_⟩:=hcl j (toR x) (by rw[List.getElem?_map,hx];rfl);rw[aeF hx]at hdf;unfold ofD at hdf;obtain⟨xo,xz,xu⟩:=x;dsimp only[toR]at r0 r1 r2 hdf m1 m2 m3 m4;obtain⟨w4',hw4⟩:∃w4,wr.alloc (.cells #[.int .i64 (xo:Int), .int .i64 (xz:Int), .bool xu] 112)=w4:=⟨_,rfl⟩;have hb04:Below wr.heap.size wr w4':=by rw[<-hw4];exact(Below.refl _ _).alloc (Nat.le_refl _) _
    have n4:=anE hw4;have HIM4:=hE0 (him.stay hb04);have HB4:=hE0 (hb.trans (hb04.mono hb.size));have HW4:=hE0 hw4;have HN4:=hE0 n4;obtain⟨e0,e1,e2⟩:=aam n4;have hl4:=aaa n4;have HDF:=hE0 hdf;clear hx hcl hb04 hw4 n4 hdf him hb ho
    cases xu with
    | false=>
     have HF2:Hid (d++ofD bs (l.drop (j+1))=F):=(show _=_ by simpa using HDF.out);go_wp2_with (first | (rw[HW4.out]) | fail)
     go_roundw
     case rel=>exact⟨j+1,A2,c2,d,xs,by go_num,by omega,HIM4.out,HF2.out,by omega,HB4.out⟩
     case measure=>simp only[intOf];omega
    | true=>
     obtain⟨q,hq⟩:∃q,xz=q+16:=⟨xz-16,by omega⟩;have har4:=HAR2.out.below HB4.out;obtain⟨y,hy⟩:=nmE ((bs.drop (xo+8)).take q);have hyl:y.length=q:=by rw[<-hy,List.length_take,List.length_drop,HNN.out];omega
     have hyb:y.length<=100000:=by omega
     have HF2:Hid ((d++ [y])++ofD bs (l.drop (j+1))=F):=(show _=_ by
      have:=HDF.out;rw[if_pos rfl,show xz-16=q from by omega,hy]at this;rw[List.append_assoc];exact this)
     obtain⟨wd,hwd⟩:=nmE w4'.drew;have hbd:Below w4'.heap.size w4' wd:=by rw[<-hwd];exact(Below.refl _ _).drew
     have hard:=har4.below hbd;have HBASE:=hE0 (acj hard);have HHELD:=hE0 (ael wd (xo:Int) (xz:Int) true m3);rw[show(xz:Int)-16=(q:Int) from by omega]at HHELD;obtain⟨ad,had⟩:=nmE (base+xo+8);have HLOAD:=hE0 (fun W (h:Ar W 195 g base cap A c bs)=>aoJ h (by rw[HNN.out];omega) ad q (xo+8) (by omega) (by omega) (by omega) (by rw[HNN.out];omega));rw[hy]at HLOAD;have HARD:=hE0 hard;have hbd4:=HB4.out.trans (hbd.mono HB4.out.size);have HBD:=hE0 hbd4;have HIMD:=hE0 (HIM4.out.stay hbd);have hnd:=(hbd.block _ (aaa HN4.out)).trans HN4.out;obtain⟨g0,g1,g2⟩:=aam hnd;have lgd:=aaa hnd;have HWD:=hE0 hwd;have HYL:=hE0 hyl;obtain⟨bx,hbx⟩:=nmE (base+xo);have i3:(base:Int)+(xo:Int)=(bx:Int):=by omega
     have i1:(bx:Int)+8=(ad:Int):=by omega
     have i2:ad<18446744073709551616:=by omega
     have hqb:q<=20000:=by omega
     have i4:bx<18446744073709551616:=by omega
     clear hbd har4 hard hbd4 hnd hwd hy hyl had hq hbx;go_wp2_with (first | (rw[HW4.out]) | fail)
     refine aao wd.heap.size [([0,1,3,4,5,8],2),([6,7],9),([10],11)] [12,13,14,15,16] [] (by kernel_rfl) (by kernel_rfl) (by kernel_rfl) (fun _ _ _ _ _ h=>h) ?_;rw[HWD.out];have q0:=tfE g0 lgd;have q1:=tfE g1 lgd;have q2:=tfE g2 lgd;refine tail_cons (l:= ?segA) ?hsegA ?_
     case hsegA=>simp only[pick,lE1,lE2,lE3];rfl
     repeat (go_big_quiet_step (fail))
     refine wpQuiet_nil ?_;clear q0 q1 q2;refine aar (vs:= #[.pointer (some ⟨g,0,none⟩)]) Tryz.call56 rfl rfl rfl (R:=fun r w'=>r= .int .u64 (base:Int)/\w'=wd) (HBASE.out.mono ?_) wd.heap.size (Nat.le_refl _) ?_
     · rintro e w' ⟨rfl,rfl⟩;exact⟨_,rfl,Below.refl _ _,rfl,rfl⟩
     rintro r w' _ ⟨rfl,rfl⟩;simp only[Act.put,lE4,lE5,lE6];refine tail_cons (l:= ?segB) ?hsegB ?_
     case hsegB=>simp only[pick,lE1,lE2,lE3];rfl
     repeat (go_big_quiet_step (fail))
     refine wpQuiet_nil ?_;refine afq (vs:= #[.agg #[.int .i64 (xo:Int), .int .i64 (xz:Int), .bool true]]) Tryz.call117 rfl rfl rfl (R:=fun r w''=>r= .int .i64 (q:Int)/\Below w'.heap.size w' w'') (HHELD.out.mono ?_) ?_
     · rintro e w'' ⟨rfl,hb⟩;exact⟨_,rfl,hb,rfl,hb⟩
     rintro r w5 _ ⟨rfl,hb5⟩;refine⟨w5.heap.size,hb5.size,?_⟩;simp only[Act.put,lE4,lE5,lE6];have HIM5:=hE0 (HIMD.out.stay hb5);have HB5:=hE0 (HBD.out.trans (hb5.mono HBD.out.size));have hlo:=HLOAD.out w5 (HARD.out.below hb5);unfold arp at hlo;rw[HYL.out]at hlo;clear hb5;refine tail_cons (l:= ?segC) ?hsegC ?_
     case hsegC=>simp only[pick,lE1,lE2,lE3];rfl
     repeat (go_big_quiet_step (fail))
     refine wpQuiet_nil ?_;refine afq (vs:= #[.pointer (some ⟨g,0,none⟩), .int .u64 (ad:Int), .int .u64 (q:Int)]) Tryz.call96 rfl rfl rfl (R:=fun r w''=>∃A' c',r= .tuple #[.slice A' q c', .nilIface]/\w''.ownsRow w5.heap.size 5 1 (.slice A' q c') q (y.map bv)/\Below w5.heap.size w5 w'') (hlo.mono ?_) ?_
     · rintro e w'' ⟨A',c',rfl,ho,hb⟩;exact⟨_,rfl,hb,A',c',rfl,ho,hb⟩
     rintro r w6 _ ⟨A6,k6,rfl,ho6,hb6⟩;refine⟨w6.heap.size,hb6.size,?_⟩;simp only[Act.put,lE4,lE5,lE6];have him6:=HIM5.out.stay hb6;have hB6:=HB5.out.trans (hb6.mono HB5.out.size);obtain⟨w7,hw7⟩:=nmE (w6.alloc (.cells #[.slice A6 q k6] 37));have hb7:=abE hw7;have n7:=anE hw7;have HIM7:=hE0 (him6.stay hb7);have HB7:=hE0 (hB6.trans (hb7.mono hB6.size));have ho7:=adu (ab7 ho6 hb7 (acR ho6)) (Nat.zero_le _);rw[<-HYL.out]at ho7;have Ho7:=hE0 ho7;have hB7s:w2.heap.size<=w7.heap.size:=HB7.out.size;have HRUN:=hE0 (fun V:World=>aj2 V A6 q k6);have HW7:=hE0 hw7;have HNEW:Hid (∀j u,[Value.slice A6 q k6][j]?=some u->w7.cell? ((⟨w6.heap.size,0,none⟩:Addr).add j)=some u):=fun j u hu=>by
      have e:(⟨w6.heap.size,0,none⟩:Addr).add j=⟨w6.heap.size,j,none⟩:=by unfold Addr.add;split<;>simp_all
      rw[e,cell_of_row w7 _ j _ _ (0,0) n7];simpa using hu
     have HONE:Hid (∀u∈ [Value.slice A6 q k6],u.oneCell'=true):=fun u hu=>by
      simp at hu;subst hu;rfl
     have hdb:d.length<=2000:=by omega
     have ho6':=him6.obj;rw[HLL.out]at ho6';obtain⟨v0,v1,v2⟩:=aam ho6';have hl6:=aaa ho6';clear hlo ho6 hb6 him6 hB6 hw7 hb7 n7 ho7 ho6' d0 d1 d2 hlm e0 e1 e2 hl4 g0 g1 g2 lgd;refine aaH (l:= ?lastA) (t:= []) ?hlastA rfl ?_
     case hlastA=>simp only[pick,lE1,lE2,lE3];rfl
     repeat (go_big_quiet_step (fail))
     refine wpQuiet_nil ?_;go_wp2_with (first
      | (rw[HRUN.out])
      | (rw[HW7.out])
      | (at_builtin;go_must (refine wpList_append_own _ rfl _ _ 57 rfl w2.heap.size 37 j0 _ 1 24 Tryz.underlying57 ji jz0 jz1 jz2 rfl (by decide) _ d.length xs rfl HIM7.out.rd ⟨w6.heap.size,0,none⟩ 1 1 [.slice A6 q k6] rfl rfl HNEW.out HONE.out (by unfold maxLen;omega) (by omega) hB7s ?_);intro x8 w8 own8 gr8 at8
         obtain⟨A2',c2',rfl,hg8,him8,hb8⟩:=HIM7.out.pushD (y:=y) hyb Ho7.out (by rw[HYL.out];exact own8) gr8 HB7.out (Nat.le_refl _) hB7s;have e8:=hg8.trans HIM7.out.obj;rw[HLL.out]at e8;obtain⟨c80,c81,c82⟩:=aam e8;obtain⟨t80,t81,t82⟩:=acQ e8;have hl8:=aaa e8;have HIM8:=hE0 him8;have HB8x:=hE0 hb8;clear own8 gr8 at8 hg8 him8 hb8 e8)
      | fail)
     go_roundw
     case rel=>exact⟨j+1,A2',c2',d++ [y],_,by go_num,by omega,HIM8.out,HF2.out,by rw[List.length_append,List.length_singleton];omega,HB8x.out⟩
     case measure=>simp only[intOf];omega
  · have hd0:l.drop j= []:=List.drop_eq_nil_of_le (by rw[HMM.out];omega);rw[hd0]at hdf;have hdF:d=F:=by rw[<-hdf];unfold ofD;rw[List.append_nil]
    subst hdF;have hN9:=(hb.block _ (aaa HN2.out)).trans HN2.out;have hB9:=HB2.out.trans (hb.mono HB2.out.size);have hl9:=aaa hN9;obtain⟨t0,t1,t2⟩:=acQ hN9;obtain⟨z0,z1,z2⟩:=aam hN9;obtain⟨dl,hdl2⟩:=nmE d.length;rw[hdl2]at ho;clear d0 d1 d2;obtain⟨d0,d1,d2⟩:=aam ho;have HM:=hE0 (ae5 hN9 (.int .i64 (n:Int)) (.slice A1 m c1) (.slice A2 dl c2));have HF:=hE0 (((hB9.setCell (p:=⟨w.heap.size,0,none⟩) (Nat.le_refl _) (.int .i64 (n:Int))).setCell (p:=⟨w.heap.size,1,none⟩) (Nat.le_refl _) (.slice A1 m c1)).setCell (p:=⟨w.heap.size,2,none⟩) (Nat.le_refl _) (.slice A2 dl c2));have HLAID:=hE0 (him.laid (aaa HN2.out) hN9 (.int .i64 (n:Int)) (.slice A1 m c1) (.slice A2 dl c2));have HDL:=hE0 hdl2;clear hN9 hB9 him hb ho hdl2 hdf hd0;go_wp2
    (try simp only[Exit.inBlock,Exit.then])
    refine aj0 (g:=w.heap.size) (x:= .nilIface) Tryz.results58 ?_ ?_ ?_ HM.out ?_
    · rfl
    · rfl
    · rfl
    · exact⟨A1,A2,c1,c2,by rw[HDL.out],HLAID.out.1,HLAID.out.2,HF.out⟩
structure Sm (wB W:World) (g base cap:Nat) (A:Option Addr) (c:Nat) (bs:List UInt8) (gm:Nat) (o:Obj):Prop where
 st:St wB W g base cap A c bs []
 ob:W.heap[gm]?=some o
 nf:¬foot g A gm
section
variable {wB W W':World} {g base cap c gm:Nat} {A:Option Addr} {bs out:List UInt8} {o:Obj}
theorem akM{w:World}{g:Nat}{o:Obj}(h:w.heap[g]?=some o):g<w.heap.size:=(Array.getElem?_eq_some_iff.1 h).1
theorem Sm.below (h:Sm wB W g base cap A c bs gm o) (hb:Below W.heap.size W W'):Sm wB W' g base cap A c bs gm o:=
 ⟨h.st.below hb,(hb.block _ (akM h.ob)).trans h.ob,h.nf⟩
theorem Sm.became (h:Sm wB W g base cap A c bs gm o) (hb:Became 195 g base cap A out W W'):∃A' c',Sm wB W' g base cap A' c' out gm o:=by
 obtain⟨A',c',har,ht,hA⟩:=hb;have hlow:∀a,A'=some a->wB.heap.size<=a.block:=fun a ha=>by
  rcases hA with e | e
  · exact h.st.aB a (e▸ha)
  · exact Nat.le_trans h.st.size (e a ha)
 refine⟨A',c',⟨h.st.bel.trans (ht.below (fun k hk=> ?_) h.st.size),har,h.st.gB,hlow,fun q hq=>by cases hq⟩,?_,?_⟩
 · rcases hk with rfl | ⟨a,e,rfl⟩
   · exact h.st.gB
   · exact h.st.aB a e
 · exact(ht.block _ (akM h.ob) h.nf).trans h.ob
 · intro hf;rcases hf with rfl | ⟨a,e,rfl⟩
   · exact h.nf (.inl rfl)
   · rcases hA with e2 | e2
     · exact h.nf (.inr ⟨a,e2▸e,rfl⟩)
     · have h1:=e2 a e;have:=akM h.ob;omega
end
theorem aqI{bs:List UInt8}{x:Bk}{r:List Bk}{d:List (List UInt8)}{y:List UInt8}(hu:x.used=true):age bs (x::r) (y::d)=age (lay (aaY bs x) (x.off+8) y) r d:=by
 rw[age,if_pos hu];rfl
theorem aqJ{bs:List UInt8}{x:Bk}{r:List Bk}{d:List (List UInt8)}(hu:x.used=false):age bs (x::r) d=age (aaY bs x) r d:=by
 rw[age,if_neg (by rw[hu];simp)]
theorem aqK (wB W:World) (g base cap c:Nat) (A:Option Addr) (bs:List UInt8) (n:Nat) (L:List Bk) (d:List (List UInt8)) (A1 A2:Option Addr) (k1 k2:Nat) (N:Int) (hst:St wB W g base cap A c bs []) (hb62:base<=4611686018427387904) (hn:bs.length=n) (hn16:n<=16384) (ht:aby 184 L n) (hd:al8 L d) (hr:RkRd wB wB.heap.size A1 (L.map toR)) (hdr:DtRd wB wB.heap.size A2 d):
 Calls Tryz.prog 155 #[.pointer (some ⟨g,0,none⟩), .agg #[.int .i64 N, .slice A1 L.length k1, .slice A2 d.length k2]] W fun e w'=>e= .returned (.tuple #[])/\∃A' c',St wB w' g base cap A' c' (age bs L d) []:=by
 obtain⟨m,hm⟩:=nmE L.length;obtain⟨dl,hdl⟩:=nmE d.length;obtain⟨F,hF⟩:=nmE (age bs L d);rw[hm,hdl,hF];have htm:=(aak _ _ _ ht).2;have hm512:m<=512:=by have:=ajc _ _ _ ht;omega
 obtain⟨w1,hw1⟩:=nmE (W.alloc (.cells #[.int .i64 N, .slice A1 m k1, .slice A2 dl k2] 107));have hb1:=abE hw1;have n1:=anE hw1;have HS1:Hid (Sm wB w1 g base cap A c bs W.heap.size (.cells #[.int .i64 N, .slice A1 m k1, .slice A2 dl k2] 107 (0,0))):=⟨hst.below hb1,n1,fun hf=>by have:=hst.ar.foot_lt hf;omega⟩;have HSET:=hE0 (fun W' A' c' bs' (x:Bk) (h:Ar W' 195 g base cap A' c' bs') (hl:bs'.length<=16384) (h1:184<=x.off) (h2:x.off%16=8) (h3:x.off+x.size<=bs'.length) (h4:aaG (x.size:Int)=true) (h5:x.off<=100000) (h6:x.size<=100000)=>avW W' g base cap c' A' bs' (x.off:Int) (x.size:Int) x.used (some (aaY bs' x)) h hb62 hl (by omega) (by omega) (aeL bs' x h1 h2 h3 h4));have HR:=hE0 hr;have HDR:=hE0 hdr;have HM:=hE0 hm;have HDL:=hE0 hdl;have HTM:=hE0 htm;have HT:=hE0 ht;have HD:=hE0 hd;have HF0:=hE0 hF;have HN:=hE0 hn;have HW1:=hE0 hw1;obtain⟨c0,c1,c2⟩:=aam n1;have hl1:=aaa n1;clear hm hdl hF ht hd hr hdr hn htm hw1 n1 hst hb1;go_enter Tryz.func155,Tryz.ntmps155
 go_wp2_with (first | (rw[HW1.out]) | fail)
 clear c0 c1 c2 hl1;go_loopw [4,10] (fun u t wr=>∃(j v:Nat) (A:Option Addr) (c:Nat) (bs:List UInt8) (o:Nat),t= .int .i64 (j:Int)/\u= .int .i64 (v:Int)/\j<=m/\v<=j/\Sm wB wr g base cap A c bs W.heap.size (.cells #[.int .i64 N, .slice A1 m k1, .slice A2 dl k2] 107 (0,0))/\bs.length=n/\age bs (L.drop j) (d.drop v)=F/\al8 (L.drop j) (d.drop v)) (fun _ t _=>m-(intOf t).toNat)
 case atStart=>exact⟨0,0,A,c,bs,184,rfl,rfl,Nat.zero_le _,Nat.zero_le _,HS1.out,HN.out,HF0.out,HD.out⟩
 case round=>
  obtain⟨j,v,A,c,bs,o,rfl,rfl,hj,hvj,hsm,hbl,hlay,hdat⟩:=hrel;by_cases hlt:j<m
  · obtain⟨x,hx⟩:∃x,L[j]?=some x:=⟨L[j]'(by rw[HM.out];exact hlt),List.getElem?_eq_getElem _⟩;obtain⟨m1,m2,m3,m4⟩:=HTM.out x (List.mem_of_getElem? hx);have m5:=(aab _).1 m3;obtain⟨b2,o2,rfl,hbb,hcl⟩:=HR.out (by rw[List.length_map,HM.out];omega);obtain⟨p0,p1,p2,_,_⟩:=hcl j (toR x) (by rw[List.getElem?_map,hx];rfl);have hbe:=hsm.st.bel;have r0:=(hbe.cell (p:=⟨b2,o2+j*3,none⟩) hbb).trans p0;have r1:=(hbe.cell (p:=⟨b2,o2+j*3+1,none⟩) hbb).trans p1;have r2:=(hbe.cell (p:=⟨b2,o2+j*3+2,none⟩) hbb).trans p2;rw[aeF hx]at hlay hdat;obtain⟨w4,hw4⟩:=nmE (wr.alloc (.cells #[.int .i64 (x.off:Int), .int .i64 (x.size:Int), .bool x.used] 112));have hb4:=abE hw4;have n4:=anE hw4;have hsm4:=hsm.below hb4;have hset:=HSET.out w4 A c bs x hsm4.st.ar (by omega) m1 (by omega) (by omega) m3 (by omega) (by omega);dsimp only[apD,aav]at hset;have hsl:=amX (bs:=bs) (x:=x) (by omega) (by omega);have hnfx:¬foot g A wr.heap.size:=fun hf=>by have:=hsm.st.ar.foot_lt hf;omega
    obtain⟨xo,xz,xu⟩:=x;dsimp only[toR]at p0 p1 p2 r0 r1 r2 m1 m2 m3 m4 m5 hset n4 hw4;obtain⟨e0,e1,e2⟩:=aam n4;have hl4:=aaa n4;have HSETX:=hE0 hset;have HSM4:=hE0 hsm4;have HN4:=hE0 n4;have HW4:=hE0 hw4;have HLAY:=hE0 hlay;have HDAT:=hE0 hdat;have HNFX:=hE0 hnfx;have HSL:=hE0 (hsl.trans hbl);clear hx hcl p0 p1 p2 hbe hb4 hw4 n4 hsm4 hset hsm hlay hdat hnfx hsl hbl hbb
    cases xu with
    | false=>
     go_wp2_with (first | (rw[HW4.out]) | fail)
     refine HSETX.out.mono ?_;rintro e w5 ⟨rfl,hbec⟩;obtain⟨A5,c5,s5⟩:=HSM4.out.became hbec;have hx5:w5.heap[wr.heap.size]?=_:=(by obtain⟨_,_,_,ht5,_⟩:=hbec;exact(ht5.block _ (aaa HN4.out) HNFX.out).trans HN4.out);have HSM5:=hE0 s5;have HF2:Hid (age (aaY bs ⟨xo,xz,false⟩) (L.drop (j+1)) (d.drop v)=F):=(show _=_ by rw[<-HLAY.out,aqJ rfl]);have HD2:Hid (al8 (L.drop (j+1)) (d.drop v)):=(show al8 _ _ by have:=HDAT.out;unfold al8 at this;simpa using this);clear e0 e1 e2 hl4 hbec s5 r0 r1 r2;obtain⟨e0,e1,e2⟩:=aam hx5;have hl5:=aaa hx5;clear hx5;go_wp2_with fail
     go_roundw
     case rel=>exact⟨j+1,v,A5,c5,_,o,by go_num,rfl,by omega,by omega,HSM5.out,HSL.out,HF2.out,HD2.out⟩
     case measure=>simp only[intOf];omega
    | true=>
     obtain⟨y,d',hdv⟩:∃y d',d.drop v=y::d':=by
      have:=HDAT.out;unfold al8 at this;simp only[if_true]at this
      cases hdd:d.drop v with
      | nil=>rw[hdd]at this;exact this.elim
      | cons y d'=>exact⟨y,d',rfl⟩
     have hyd:d[v]?=some y:=by
      have:(d.drop v)[0]?=some y:=by rw[hdv];rfl
      rwa [List.getElem?_drop,Nat.add_zero]at this
     have hd':d.drop (v+1)=d':=by rw[<-List.drop_drop,hdv];rfl
     have hvd:v<dl:=by rw[<-HDL.out];exact(List.getElem?_eq_some_iff.1 hyd).1
     have hda:=HDAT.out;rw[hdv]at hda;unfold al8 at hda;simp only[if_true]at hda;obtain⟨hyl,hd2⟩:=hda;have HF2:Hid (age (lay (aaY bs ⟨xo,xz,true⟩) (xo+8) y) (L.drop (j+1)) (d.drop (v+1))=F):=(show _=_ by rw[<-HLAY.out,hdv,hd',aqI rfl]);have HD2:Hid (al8 (L.drop (j+1)) (d.drop (v+1))):=(show al8 _ _ by rw[hd'];exact hd2);obtain⟨b3,o3,rfl,hb3,hc3⟩:=HDR.out (by rw[HDL.out];omega);obtain⟨A',kz,z0,zr,zl,_,_⟩:=hc3 v y hyd;obtain⟨yn,hyn⟩:=nmE y.length;rw[hyn]at z0 zr hyl;have HYN:=hE0 hyn;have HZR:=hE0 zr;have hlay2:(lay (aaY bs ⟨xo,xz,true⟩) (xo+8) y).length=n:=by rw[acg _ _ _ (by rw[HSL.out,hyn];omega)];exact HSL.out
     have HLL2:=hE0 hlay2;obtain⟨ad,had⟩:=nmE (base+xo+8);obtain⟨bx,hbx⟩:=nmE (base+xo);have i3:(base:Int)+(xo:Int)=(bx:Int):=by omega
     have i1:(bx:Int)+8=(ad:Int):=by omega
     have i2:ad<18446744073709551616:=by omega
     have i4:bx<18446744073709551616:=by omega
     have hvi:(v:Int)<(dl:Int):=by omega
     have HSTO:=hE0 (fun W' A5 c5 (h:Ar W' 195 g base cap A5 c5 (aaY bs ⟨xo,xz,true⟩)) (hr:Rd W' wB.heap.size A' y.length y)=>aiC h (by rw[HSL.out];omega) ad (xo+8) A' kz y wB.heap.size hr (by omega) (by omega) (by omega) (by rw[HSL.out,hyn];omega));rw[hyn]at HSTO;clear hdv hyd hd' hd2 hyn hlay2 zr hc3 had hbx zl hyl m1 m2 m3 m4 m5;go_wp2_with (first | (rw[HW4.out]) | fail)
     refine HSETX.out.mono ?_;rintro e w5 ⟨rfl,hbec⟩;obtain⟨A5,c5,s5⟩:=HSM4.out.became hbec;have hx5:w5.heap[wr.heap.size]?=_:=(by obtain⟨_,_,_,ht5,_⟩:=hbec;exact(ht5.block _ (aaa HN4.out) HNFX.out).trans HN4.out);clear e0 e1 e2 hl4 hbec r0 r1 r2;obtain⟨e0,e1,e2⟩:=aam hx5;have hl5:=aaa hx5;obtain⟨wd,hwd⟩:=nmE w5.drew;have hbd:=adE hwd;have hsmd:=s5.below hbd;obtain⟨q0,q1,q2⟩:=aam ((hbd.block _ hl5).trans hx5);have hld:=Nat.lt_of_lt_of_le hl5 hbd.size;obtain⟨u0,u1,u2⟩:=aam hsmd.ob;have hlu:=akM hsmd.ob;have hbB:=hsmd.st.bel;have z4:=(hbB.cell (p:=⟨b3,o3+v,none⟩) hb3).trans z0;have hb3d:=Nat.lt_of_lt_of_le hb3 hbB.size;have HBASE:=hE0 (acj hsmd.st.ar);have HSTOX:=hE0 (HSTO.out wd A5 c5 hsmd.st.ar (HZR.out.below hbB));have HSMD:=hE0 hsmd;have HWD:=hE0 hwd;clear hx5 hwd hbd s5 hsmd hbB z0;go_wp2_with fail
     refine aao wd.heap.size [([0,1,3,4,5,8,9,10,11,12],2)] [6,7] [13] (by kernel_rfl) (by kernel_rfl) (by kernel_rfl) (fun _ _ _ _ _ h=>h) ?_;rw[HWD.out];have v0:=tfE q0 hld;have v1:=tfE u2 hlu;have v2:=tfE z4 hb3d;refine tail_cons (l:= ?segA) ?hsegA ?_
     case hsegA=>simp only[pick,lE1,lE2,lE3];rfl
     repeat (go_big_quiet_step (fail))
     refine wpQuiet_nil ?_;clear v0 v1 v2;refine aar (vs:= #[.pointer (some ⟨g,0,none⟩)]) Tryz.call56 rfl rfl rfl (R:=fun r w'=>r= .int .u64 (base:Int)/\w'=wd) (HBASE.out.mono ?_) wd.heap.size (Nat.le_refl _) ?_
     · rintro e w' ⟨rfl,rfl⟩;exact⟨_,rfl,Below.refl _ _,rfl,rfl⟩
     rintro r w' _ ⟨rfl,rfl⟩;simp only[Act.put,lE4,lE5,lE6];refine aaH (l:= ?lastA) (t:= ?tailA) ?hlastA ?htailA ?_
     case hlastA=>simp only[pick,lE1,lE2,lE3];rfl
     case htailA=>simp only[pick,lE1,lE2,lE3];rfl
     repeat (go_big_quiet_step (fail))
     refine wpQuiet_nil ?_;clear q0 q1 q2 hld u0 u1 u2 hlu z4 hb3d e0 e1 e2 hl5;go_wp2_with fail
     refine HSTOX.out.mono ?_;rintro e w6 ⟨rfl,hbe6⟩;obtain⟨A6,c6,s6⟩:=HSMD.out.became hbe6;have HSM6:=hE0 s6;clear hbe6 s6;go_wp2_with fail
     go_roundw
     case rel=>exact⟨j+1,v+1,A6,c6,_,o,by go_num,by go_num,by omega,by omega,HSM6.out,HLL2.out,HF2.out,HD2.out⟩
     case measure=>simp only[intOf];omega
  · have hd0:L.drop j= []:=List.drop_eq_nil_of_le (by rw[HM.out];omega);rw[hd0]at hlay;have hbF:bs=F:=hlay;subst hbF;have HSM:=hE0 hsm.st;clear hsm hlay hdat hd0 hbl;go_wp2
    go_end0
    exact⟨rfl,A,c,HSM.out⟩
def ama (n:Int) (l:List Rk) (d:List (List UInt8)):Option (List UInt8):=ab5 (age (List.replicate n.toNat 0) (l.map toB) d)
theorem aqL (w:World) (n:Int) (hn: -9223372036854775808<=n/\n<=9223372036854775807) (A1 A2:Option Addr) (k1 k2:Nat) (l:List Rk) (d:List (List UInt8)) (hr:RkRd w w.heap.size A1 l) (hd:DtRd w w.heap.size A2 d) (hl:l.length<=1000000) (hdl:d.length<=1000000) (base:Nat) (hb:base<18446744073709551616) (cap:Int) (hc: -9223372036854775808<=cap/\cap<=9223372036854775807) (hm:aew n l d=true) (hno:base%16≠0\/4611686018427387904<base\/cap<1024\/16384<cap):
 Calls Tryz.prog 94 #[.agg #[.int .i64 n, .slice A1 l.length k1, .slice A2 d.length k2], .int .u64 (base:Int), .int .i64 cap] w fun e w'=>e= .returned (.tuple #[.pointer none, .iface 130 (.int .i64 1)])/\Below w.heap.size w w':=by
 obtain⟨w1,hw1⟩:=nmE (w.alloc (.cells #[.int .i64 n, .slice A1 l.length k1, .slice A2 d.length k2] 107));have hb1:=abE hw1;have n1:=anE hw1;have hmay:=ae3 w1 n hn A1 A2 k1 k2 l d ((hr.below hb1).more hb1.size) ((hd.below hb1).more hb1.size) hl hdl _ hm;unfold imV at hmay;obtain⟨c0,c1,c2⟩:=aam n1;have hl1:=aaa n1;have HMAY:=hE0 hmay;have HB1:=hE0 hb1;have HN1:=hE0 n1;have HW1:=hE0 hw1;have HR:=hE0 hr;have HD:=hE0 hd;have HNO:=hE0 (fun W=>asU W base cap hb hc hno);clear hmay hb1 n1 hw1 hr hd hm hno;go_enter Tryz.func94,Tryz.ntmps94
 go_wp2_with (first | (rw[HW1.out]) | fail)
 refine HMAY.out.mono ?_;rintro e w2 ⟨rfl,hb2⟩;have HB2:=hE0 (HB1.out.trans (hb2.mono HB1.out.size));have n2:=(hb2.block _ (aaa HN1.out)).trans HN1.out;have HN2:=hE0 n2;clear c0 c1 c2 hl1 hb2;obtain⟨c0,c1,c2⟩:=aam n2;have hl2:=aaa n2;clear n2;go_wp2_with fail
 refine(HNO.out w2).mono ?_;rintro e w3 ⟨rfl,rfl⟩;go_wp2
 go_ret2
 exact⟨rfl,HB2.out⟩
theorem aoi (w:World) (n:Int) (hn: -9223372036854775808<=n/\n<=9223372036854775807) (A1 A2:Option Addr) (k1 k2:Nat) (l:List Rk) (d:List (List UInt8)) (hr:RkRd w w.heap.size A1 l) (hd:DtRd w w.heap.size A2 d) (hl:l.length<=1000000) (hdl:d.length<=1000000) (base:Nat) (_hb:base<18446744073709551616) (cap:Int) (hc: -9223372036854775808<=cap/\cap<=9223372036854775807) (hm:aew n l d=true) (h1:base%16=0) (h2:base<=4611686018427387904) (h3:1024<=cap) (h4:cap<=16384) (hlg:cap<n):
 Calls Tryz.prog 94 #[.agg #[.int .i64 n, .slice A1 l.length k1, .slice A2 d.length k2], .int .u64 (base:Int), .int .i64 cap] w fun e w'=>e= .returned (.tuple #[.pointer none, .iface 130 (.int .i64 10)])/\Below w.heap.size w w':=by
 obtain⟨cn,rfl⟩:∃cn:Nat,cap=(cn:Int):=⟨cap.toNat,by omega⟩;have g1:decide ((cn:Int)<n)=true:=decide_eq_true hlg;obtain⟨w1,hw1⟩:=nmE (w.alloc (.cells #[.int .i64 n, .slice A1 l.length k1, .slice A2 d.length k2] 107));have hb1:=abE hw1;have n1:=anE hw1;have hmay:=ae3 w1 n hn A1 A2 k1 k2 l d ((hr.below hb1).more hb1.size) ((hd.below hb1).more hb1.size) hl hdl _ hm;unfold imV at hmay;obtain⟨c0,c1,c2⟩:=aam n1;have hl1:=aaa n1;have HMAY:=hE0 hmay;have HB1:=hE0 hb1;have HN1:=hE0 n1;have HW1:=hE0 hw1;have HR:=hE0 hr;have HD:=hE0 hd;have HNEW:=hE0 (fun W=>ak4 W base cn h1 h2 (by omega) (by omega));clear hmay hb1 n1 hw1 hr hd hm;go_enter Tryz.func94,Tryz.ntmps94
 go_wp2_with (first | (rw[HW1.out]) | fail)
 refine HMAY.out.mono ?_;rintro e w2 ⟨rfl,hb2⟩;have HB2:=hE0 (HB1.out.trans (hb2.mono HB1.out.size));have n2:=(hb2.block _ (aaa HN1.out)).trans HN1.out;have HN2:=hE0 n2;clear c0 c1 c2 hl1 hb2;obtain⟨c0,c1,c2⟩:=aam n2;have hl2:=aaa n2;clear n2;go_wp2_with fail
 refine(HNEW.out w2).mono ?_;rintro e w3 ⟨rfl,har,hb3⟩;have HB3:=hE0 (HB2.out.trans (hb3.mono HB2.out.size));have n3:=(hb3.block _ (aaa HN2.out)).trans HN2.out;clear har hb3 c0 c1 c2 hl2;obtain⟨c0,c1,c2⟩:=aam n3;have hl3:=aaa n3;clear n3;go_wp2
 go_ret2
 exact⟨rfl,HB3.out⟩
theorem aup (w:World) (n:Int) (hn: -9223372036854775808<=n/\n<=9223372036854775807) (A1 A2:Option Addr) (k1 k2:Nat) (l:List Rk) (d:List (List UInt8)) (hr:RkRd w w.heap.size A1 l) (hd:DtRd w w.heap.size A2 d) (hl:l.length<=1000000) (hdl:d.length<=1000000) (base:Nat) (_hb:base<18446744073709551616) (cap:Int) (hc: -9223372036854775808<=cap/\cap<=9223372036854775807) (hm:aew n l d=true) (h1:base%16=0) (h2:base<=4611686018427387904) (h3:1024<=cap) (h4:cap<=16384) (hlg:n<=cap):
 Calls Tryz.prog 94 #[.agg #[.int .i64 n, .slice A1 l.length k1, .slice A2 d.length k2], .int .u64 (base:Int), .int .i64 cap] w fun e w'=>∃out H q g A c,ama n l d=some out/\e= .returned (.tuple #[.pointer (some ⟨q,0,none⟩), .nilIface])/\PH w' q g base cap.toNat A c out H/\w.heap.size<=q/\w.heap.size<=g/\(∀a,A=some a->w.heap.size<=a.block)/\Below w.heap.size w w':=by
 obtain⟨cn,rfl⟩:∃cn:Nat,cap=(cn:Int):=⟨cap.toNat,by omega⟩;have hlo:ab0 n=true:=by unfold aew at hm;rw[Bool.and_eq_true]at hm;exact hm.1
 have hlB:=(aaV n).1 hlo;obtain⟨N,rfl⟩:∃N:Nat,n=(N:Int):=⟨n.toNat,by omega⟩;have g1:decide ((cn:Int)<(N:Int))=false:=decide_eq_false (by omega);have g1':decide (cn<N)=false:=decide_eq_false (by omega);obtain⟨out,hw0,hl0,hre,hck,hwk,hol,_⟩:=ain hm;have hrow:abh (N:Int) 184 false l=true:=by unfold aew at hm;simp only[Bool.and_eq_true]at hm;exact hm.2.1
 have hdat:datOk l d=true:=by unfold aew at hm;simp only[Bool.and_eq_true]at hm;exact hm.2.2
 obtain⟨htile,hmap,hz⟩:=agf (o:=184) hrow;rw[Int.toNat_natCast]at htile;have hdb:=agh (fun x hx=>⟨(hz x hx).1,(hz x hx).2.1⟩) hdat;have HLAYOF:Hid (ama (N:Int) l d=some out):=(show _=_ by unfold ama;rw[Int.toNat_natCast];exact hre);obtain⟨mid,hmid⟩:=nmE (age (List.replicate N 0) (l.map toB) d);rw[hmid]at hl0 hre;obtain⟨L,hL⟩:=nmE (l.map toB);have hLl:L.length=l.length:=by rw[<-hL,List.length_map]
 rw[hL]at htile hdb hmap hmid;have HLY:=hE0 (fun wB W g A c (hst:St wB W g base cn A c (List.replicate N 0) []) (hrr:RkRd wB wB.heap.size A1 l) (hdd:DtRd wB wB.heap.size A2 d)=>aqK wB W g base cn c A (List.replicate N 0) N L d A1 A2 k1 k2 (N:Int) hst h2 (by simp) (by omega) htile hdb (by rw[<-hmap];exact hrr) hdd);rw[hLl,hmid]at HLY;have HRE:=hE0 (fun W g A c (h:Ar W 195 g base cn A c mid)=>ar0 W g base cn c A mid _ h h2 (by omega) hre);dsimp only[apD,aav]at HRE;have HOF:=hE0 (fun W g A c (h:Ar W 195 g base cn A c out)=>asx h h2 (by omega) (by omega) hck);obtain⟨w1,hw1⟩:=nmE (w.alloc (.cells #[.int .i64 (N:Int), .slice A1 l.length k1, .slice A2 d.length k2] 107));have hb1:=abE hw1;have n1:=anE hw1;have hmay:=ae3 w1 (N:Int) hn A1 A2 k1 k2 l d ((hr.below hb1).more hb1.size) ((hd.below hb1).more hb1.size) hl hdl _ hm;unfold imV at hmay;obtain⟨c0,c1,c2⟩:=aam n1;have hl1:=aaa n1;have HMAY:=hE0 hmay;have HB1:=hE0 hb1;have HN1:=hE0 n1;have HW1:=hE0 hw1;have HR:=hE0 hr;have HD:=hE0 hd;have HNEW:=hE0 (fun W=>ak4 W base cn h1 h2 (by omega) (by omega));clear hmay hb1 n1 hw1 hr hd hm hlo hw0 hl0 hre hck hwk hol hrow hdat htile hmap hz hdb hmid hL hLl hl hdl;go_enter Tryz.func94,Tryz.ntmps94
 go_wp2_with (first | (rw[HW1.out]) | fail)
 refine HMAY.out.mono ?_;rintro e w2 ⟨rfl,hb2⟩;have HB2:=hE0 (HB1.out.trans (hb2.mono HB1.out.size));have n2:=(hb2.block _ (aaa HN1.out)).trans HN1.out;have HN2:=hE0 n2;clear c0 c1 c2 hl1 hb2;obtain⟨c0,c1,c2⟩:=aam n2;have hl2:=aaa n2;clear n2;go_wp2_with fail
 refine(HNEW.out w2).mono ?_;rintro e w3 ⟨rfl,har,hb3⟩;have HB3:=hE0 (HB2.out.trans (hb3.mono HB2.out.size));have n3:=(hb3.block _ (aaa HN2.out)).trans HN2.out;obtain⟨g,hg⟩:=nmE w2.heap.size;rw[hg]at har;have hgm:w.heap.size<g:=by rw[<-hg];exact aaa HN2.out
 have HS3:Hid (Sm w2 w3 g base cn none 0 [] w.heap.size (.cells #[.int .i64 (N:Int), .slice A1 l.length k1, .slice A2 d.length k2] 107 (0,0))):=⟨⟨hb3,har,by omega,(fun a e=>by cases e),(fun q hq=>by cases hq)⟩,n3,fun hf=>by
  rcases hf with e | ⟨a,e,_⟩
  · omega
  · cases e⟩
 have HGR:=hE0 (aiB har N (by simp) (by omega) (by simp;omega));rw[List.nil_append]at HGR;have HR2:=hE0 ((HR.out.below HB2.out).more HB2.out.size);have HD2:=hE0 ((HD.out.below HB2.out).more HB2.out.size);have HGEQ:=hE0 hg;clear har hb3 c0 c1 c2 hl2;rw[hg];clear hg;obtain⟨c0,c1,c2⟩:=aam n3;have hl3:=aaa n3;clear n3;go_wp2_with fail
 refine HGR.out.mono ?_;rintro e w4 ⟨rfl,hbe⟩;obtain⟨A4,c4,s4⟩:=HS3.out.became hbe;have HS4:=hE0 s4;clear c0 c1 c2 hl3 hbe s4;obtain⟨c0,c1,c2⟩:=aam HS4.out.ob;have hl4:=akM HS4.out.ob;go_wp2_with fail
 refine(HLY.out w2 w4 g A4 c4 HS4.out.st HR2.out HD2.out).mono ?_;rintro e w5 ⟨rfl,A5,c5,s5⟩;have HS5:=hE0 s5;clear s5 c0 c1 c2 hl4 HLY;go_wp2_with fail
 refine(HRE.out w5 g A5 c5 HS5.out.ar).mono ?_;rintro e w6 ⟨rfl,hbe6⟩;obtain⟨A6,c6,s6⟩:=HS5.out.became hbe6;have HS6:=hE0 s6;clear hbe6 s6 HRE;go_wp2_with fail
 refine(HOF.out w6 g A6 c6 HS6.out.ar).mono ?_;rintro e w7 ⟨H,bs',⟨q1,g1x,A1x,c1x,bs1,he1,hp1,hb7,hq1,hg1x,hA1x⟩,_,hbs,q2,g2,A2x,c2x,he,hph⟩;rw[he]at he1;injection he1 with he1;injection he1 with he1;have he2:(Value.pointer (some ⟨q2,0,none⟩))= .pointer (some ⟨q1,0,none⟩):=by
  have:=congrArg (fun a=>a[0]?) he1;simpa using this
 injection he2 with he2;injection he2 with he2;injection he2 with he2 _ _;subst he2;have hgg:g2=g1x:=by
  have e1:=hph.obj;rw[hp1.obj]at e1;injection e1 with e1;injection e1 with e1 _ _;have:=congrArg (fun a=>a[0]?) e1;simp at this;exact this.symm
 subst hgg;have hAA:A2x=A1x:=by
  have e1:=hph.ar.obj;rw[hp1.ar.obj]at e1;injection e1 with e1;injection e1 with e1 _ _;have:=congrArg (fun a=>a[2]?) e1;simp at this;exact this.1.symm
 subst hAA;subst he;have HPH:=hE0 hph;have HBF:=hE0 (HB2.out.trans ((HS6.out.bel.trans (hb7.mono HS6.out.size)).mono HB2.out.size));have hlow:=Nat.le_trans HB2.out.size HS6.out.size;have HQ:=hE0 (Nat.le_trans hlow hq1);have HG:=hE0 (Nat.le_trans hlow hg1x);have HA:=hE0 (fun a (e:A2x=some a)=>Nat.le_trans hlow (hA1x a e));clear hp1 hb7 hq1 hg1x hA1x he1 hph hlow hbs HOF;go_wp2
 go_ret2
 exact⟨out,H,q2,g2,A2x,c2x,HLAYOF.out,rfl,by rw[Int.toNat_natCast];exact HPH.out,HQ.out,HG.out,HA.out,HBF.out⟩
end Go.Proofs.YtncadccbepjekaaGreatDoor
