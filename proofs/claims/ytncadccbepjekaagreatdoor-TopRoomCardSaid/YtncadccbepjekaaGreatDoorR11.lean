/- Texts of mine, joined. -/
import Derived.Test.YtncadccbepjekaaGreatDoorR10
set_option maxRecDepth 100000
set_option maxHeartbeats 8000000
namespace Go.Proofs.YtncadccbepjekaaGreatDoor
open Go.RowKit
theorem acb{w:World}{g:Nat}{t:TypeId}{y0 y1 y2 y3 y4 y5 y6 y7 y8 y9 y10 y11 y12 y13:Value}(h:w.heap[g]?=some (.cells #[y0,y1,y2,y3,y4,y5,y6,y7,y8,y9,y10,y11,y12,y13] t (0,0))):(w.cell? ⟨g,0,none⟩=some y0/\w.cell? ⟨g,1,none⟩=some y1/\w.cell? ⟨g,2,none⟩=some y2/\w.cell? ⟨g,3,none⟩=some y3/\w.cell? ⟨g,4,none⟩=some y4/\w.cell? ⟨g,5,none⟩=some y5/\w.cell? ⟨g,6,none⟩=some y6/\w.cell? ⟨g,7,none⟩=some y7/\w.cell? ⟨g,8,none⟩=some y8/\w.cell? ⟨g,9,none⟩=some y9/\w.cell? ⟨g,10,none⟩=some y10/\w.cell? ⟨g,11,none⟩=some y11/\w.cell? ⟨g,12,none⟩=some y12/\w.cell? ⟨g,13,none⟩=some y13)/\(w.frozen? ⟨g,0,none⟩=false/\w.frozen? ⟨g,1,none⟩=false/\w.frozen? ⟨g,2,none⟩=false/\w.frozen? ⟨g,3,none⟩=false/\w.frozen? ⟨g,4,none⟩=false/\w.frozen? ⟨g,5,none⟩=false/\w.frozen? ⟨g,6,none⟩=false/\w.frozen? ⟨g,7,none⟩=false/\w.frozen? ⟨g,8,none⟩=false/\w.frozen? ⟨g,9,none⟩=false/\w.frozen? ⟨g,10,none⟩=false/\w.frozen? ⟨g,11,none⟩=false/\w.frozen? ⟨g,12,none⟩=false/\w.frozen? ⟨g,13,none⟩=false)/\g<w.heap.size:=by
 have hc:∀(i:Nat) (v:Value),(#[y0,y1,y2,y3,y4,y5,y6,y7,y8,y9,y10,y11,y12,y13]:Array Value)[i]?=some v->w.cell? ⟨g,i,none⟩=some v:=fun i v e=>by rw[cell_of_row w g i _ _ (0,0) h];exact e
 have hf:∀i:Nat,w.frozen? ⟨g,i,none⟩=false:=fun i=>frozen_of_row w g i _ _ h;exact⟨⟨hc 0 _ rfl,hc 1 _ rfl,hc 2 _ rfl,hc 3 _ rfl,hc 4 _ rfl,hc 5 _ rfl,hc 6 _ rfl,hc 7 _ rfl,hc 8 _ rfl,hc 9 _ rfl,hc 10 _ rfl,hc 11 _ rfl,hc 12 _ rfl,hc 13 _ rfl⟩,⟨hf _,hf _,hf _,hf _,hf _,hf _,hf _,hf _,hf _,hf _,hf _,hf _,hf _,hf _⟩,aab h⟩
theorem amy{w:World}{g:Nat}{t:TypeId}{y0 y1 y2 y3 y4 y5 y6 y7 y8 y9 y10 y11 y12 y13:Value}(h:Hid (w.heap[g]?=some (.cells #[y0,y1,y2,y3,y4,y5,y6,y7,y8,y9,y10,y11,y12,y13] t (0,0)))) (x0 x1 x2 x3 x4 x5 x6:Value):∃w',Hid ((((((((w.setCell ⟨g,0,none⟩ x0).setCell ⟨g,1,none⟩ x1).setCell ⟨g,2,none⟩ x2).setCell ⟨g,3,none⟩ x3).setCell ⟨g,4,none⟩ x4).setCell ⟨g,5,none⟩ x5).setCell ⟨g,6,none⟩ x6)=w')/\Hid (w'.heap[g]?=some (.cells #[x0,x1,x2,x3,x4,x5,x6,y7,y8,y9,y10,y11,y12,y13] t (0,0)))/\Hid (∀B v,B<=g->Below B v w->Below B v w')/\Hid (∀k,k≠g->w'.heap[k]?=w.heap[k]?)/\Hid (w'.heap.size=w.heap.size):=by
 have h0:=h.out;have h1:(_:Option Obj)=some (.cells #[x0,y1,y2,y3,y4,y5,y6,y7,y8,y9,y10,y11,y12,y13] t (0,0)):=heap_setCell_same _ g 0 _ _ x0 h0;have h2:(_:Option Obj)=some (.cells #[x0,x1,y2,y3,y4,y5,y6,y7,y8,y9,y10,y11,y12,y13] t (0,0)):=heap_setCell_same _ g 1 _ _ x1 h1;have h3:(_:Option Obj)=some (.cells #[x0,x1,x2,y3,y4,y5,y6,y7,y8,y9,y10,y11,y12,y13] t (0,0)):=heap_setCell_same _ g 2 _ _ x2 h2;have h4:(_:Option Obj)=some (.cells #[x0,x1,x2,x3,y4,y5,y6,y7,y8,y9,y10,y11,y12,y13] t (0,0)):=heap_setCell_same _ g 3 _ _ x3 h3;have h5:(_:Option Obj)=some (.cells #[x0,x1,x2,x3,x4,y5,y6,y7,y8,y9,y10,y11,y12,y13] t (0,0)):=heap_setCell_same _ g 4 _ _ x4 h4;have h6:(_:Option Obj)=some (.cells #[x0,x1,x2,x3,x4,x5,y6,y7,y8,y9,y10,y11,y12,y13] t (0,0)):=heap_setCell_same _ g 5 _ _ x5 h5;have h7:(_:Option Obj)=some (.cells #[x0,x1,x2,x3,x4,x5,x6,y7,y8,y9,y10,y11,y12,y13] t (0,0)):=heap_setCell_same _ g 6 _ _ x6 h6;exact⟨_,hE0 rfl,hE0 h7,hE0 (fun B v hB hv=>(Below.setCell (Below.setCell (Below.setCell (Below.setCell (Below.setCell (Below.setCell (Below.setCell hv (p:=⟨g,0,none⟩) hB _) (p:=⟨g,1,none⟩) hB _) (p:=⟨g,2,none⟩) hB _) (p:=⟨g,3,none⟩) hB _) (p:=⟨g,4,none⟩) hB _) (p:=⟨g,5,none⟩) hB _) (p:=⟨g,6,none⟩) hB _)),hE0 (fun k hk=>by rw[heap_setCell_other _ _ _ _ hk,heap_setCell_other _ _ _ _ hk,heap_setCell_other _ _ _ _ hk,heap_setCell_other _ _ _ _ hk,heap_setCell_other _ _ _ _ hk,heap_setCell_other _ _ _ _ hk,heap_setCell_other _ _ _ _ hk]),hE0 (by simp[World.setCell])⟩
theorem amz{w:World}{g:Nat}{t:TypeId}{y0 y1 y2 y3 y4 y5 y6 y7 y8 y9 y10 y11 y12 y13:Value}(h:Hid (w.heap[g]?=some (.cells #[y0,y1,y2,y3,y4,y5,y6,y7,y8,y9,y10,y11,y12,y13] t (0,0)))) (x0 x1 x2 x3 x4 x5 x6:Value):∃w',Hid ((((((((w.setCell ⟨g,7,none⟩ x0).setCell ⟨g,8,none⟩ x1).setCell ⟨g,9,none⟩ x2).setCell ⟨g,10,none⟩ x3).setCell ⟨g,11,none⟩ x4).setCell ⟨g,12,none⟩ x5).setCell ⟨g,13,none⟩ x6)=w')/\Hid (w'.heap[g]?=some (.cells #[y0,y1,y2,y3,y4,y5,y6,x0,x1,x2,x3,x4,x5,x6] t (0,0)))/\Hid (∀B v,B<=g->Below B v w->Below B v w')/\Hid (∀k,k≠g->w'.heap[k]?=w.heap[k]?)/\Hid (w'.heap.size=w.heap.size):=by
 have h0:=h.out;have h1:(_:Option Obj)=some (.cells #[y0,y1,y2,y3,y4,y5,y6,x0,y8,y9,y10,y11,y12,y13] t (0,0)):=heap_setCell_same _ g 7 _ _ x0 h0;have h2:(_:Option Obj)=some (.cells #[y0,y1,y2,y3,y4,y5,y6,x0,x1,y9,y10,y11,y12,y13] t (0,0)):=heap_setCell_same _ g 8 _ _ x1 h1;have h3:(_:Option Obj)=some (.cells #[y0,y1,y2,y3,y4,y5,y6,x0,x1,x2,y10,y11,y12,y13] t (0,0)):=heap_setCell_same _ g 9 _ _ x2 h2;have h4:(_:Option Obj)=some (.cells #[y0,y1,y2,y3,y4,y5,y6,x0,x1,x2,x3,y11,y12,y13] t (0,0)):=heap_setCell_same _ g 10 _ _ x3 h3;have h5:(_:Option Obj)=some (.cells #[y0,y1,y2,y3,y4,y5,y6,x0,x1,x2,x3,x4,y12,y13] t (0,0)):=heap_setCell_same _ g 11 _ _ x4 h4;have h6:(_:Option Obj)=some (.cells #[y0,y1,y2,y3,y4,y5,y6,x0,x1,x2,x3,x4,x5,y13] t (0,0)):=heap_setCell_same _ g 12 _ _ x5 h5;have h7:(_:Option Obj)=some (.cells #[y0,y1,y2,y3,y4,y5,y6,x0,x1,x2,x3,x4,x5,x6] t (0,0)):=heap_setCell_same _ g 13 _ _ x6 h6;exact⟨_,hE0 rfl,hE0 h7,hE0 (fun B v hB hv=>(Below.setCell (Below.setCell (Below.setCell (Below.setCell (Below.setCell (Below.setCell (Below.setCell hv (p:=⟨g,7,none⟩) hB _) (p:=⟨g,8,none⟩) hB _) (p:=⟨g,9,none⟩) hB _) (p:=⟨g,10,none⟩) hB _) (p:=⟨g,11,none⟩) hB _) (p:=⟨g,12,none⟩) hB _) (p:=⟨g,13,none⟩) hB _)),hE0 (fun k hk=>by rw[heap_setCell_other _ _ _ _ hk,heap_setCell_other _ _ _ _ hk,heap_setCell_other _ _ _ _ hk,heap_setCell_other _ _ _ _ hk,heap_setCell_other _ _ _ _ hk,heap_setCell_other _ _ _ _ hk,heap_setCell_other _ _ _ _ hk]),hE0 (by simp[World.setCell])⟩
def arV (x y:Sk) (A1:Option Addr) (c1:Nat) (A2:Option Addr) (c2:Nat) (B1:Option Addr) (k1:Nat) (B2:Option Addr) (k2:Nat):Value:= .agg #[.int .u64 (x.G:Int), .int .u64 (x.N:Int), .int .u32 (x.S:Int), .bool x.ok, .int .i64 (x.n:Int), .slice A1 x.l.length c1, .slice A2 x.d.length c2, .int .u64 (y.G:Int), .int .u64 (y.N:Int), .int .u32 (y.S:Int), .bool y.ok, .int .i64 (y.n:Int), .slice B1 y.l.length k1, .slice B2 y.d.length k2]
def avu (x y:Sk) (w:World) (e:Ending) (w':World):Prop:=
 ∃A1 c1 A2 c2 B1 k1 B2 k2,e= .returned (.tuple #[arV x y A1 c1 A2 c2 B1 k1 B2 k2, .nilIface])/\(RkRd w' w'.heap.size A1 x.l/\DtRd w' w'.heap.size A2 x.d)/\(RkRd w' w'.heap.size B1 y.l/\DtRd w' w'.heap.size B2 y.d)/\Below w.heap.size w w'
theorem aur{fn:Func}{R:Ending->World->Prop}{a:Act}{w:World}{p u:Tmp}{g:Nat}{x y0 y1 y2 y3 y4 y5 y6 y7 y8 y9 y10 y11 y12 y13:Value}(hres:fn.results= #[.cell p 149, .tmp u]) (hp:a.tmps.getD p undef= .pointer (some ⟨g,0,none⟩)) (hx:a.tmps.getD u undef=x) (hd:a.defers= [])
 (hg:w.heap[g]?=some (.cells #[y0,y1,y2,y3,y4,y5,y6,y7,y8,y9,y10,y11,y12,y13] 149 (0,0))) (hR:R (.returned (.tuple #[.agg #[y0,y1,y2,y3,y4,y5,y6,y7,y8,y9,y10,y11,y12,y13],x])) w):bodyPost Tryz.prog fn R .ret a w:=by
 obtain⟨⟨pc0,pc1,pc2,pc3,pc4,pc5,pc6,pc7,pc8,pc9,pc10,pc11,pc12,pc13⟩,⟨pf0,pf1,pf2,pf3,pf4,pf5,pf6,pf7,pf8,pf9,pf10,pf11,pf12,pf13⟩,hlp⟩:=acb hg;refine bodyPost_ret (v:= .tuple #[.agg #[y0,y1,y2,y3,y4,y5,y6,y7,y8,y9,y10,y11,y12,y13],x]) ?_ hd hR;rw[results_cell_tmp hres,hp,hx];simp[go_sem,pc0,pc1,pc2,pc3,pc4,pc5,pc6,pc7,pc8,pc9,pc10,pc11,pc12,pc13]
theorem RkRd.off14{w w':World}{B g:Nat}{A:Option Addr}{l:List Rk}{t:TypeId}{fr:Nat × Nat}{a0 a1 a2 a4 b0 b1 b2 b4:Int}{a3 b3:Bool}{S1 S2 S3 S4:Option Addr}{n1 m1 n2 m2 n3 m3 n4 m4:Nat}(h:RkRd w B A l) (hg:w.heap[g]?=some (.cells #[.int .u64 a0, .int .u64 a1, .int .u32 a2, .bool a3, .int .i64 a4, .slice S1 n1 m1, .slice S2 n2 m2, .int .u64 b0, .int .u64 b1, .int .u32 b2, .bool b3, .int .i64 b4, .slice S3 n3 m3, .slice S4 n4 m4] t fr)) (hk:∀k,k≠g->w'.heap[k]?=w.heap[k]?):RkRd w' B A l:=fun hn=>by
 obtain⟨b,o,e,hB,hc⟩:=h hn;have hbg:b≠g:=by
  intro e2;subst e2;obtain⟨x,hx⟩:∃x,l[0]?=some x:=⟨l[0]'hn,List.getElem?_eq_getElem _⟩;obtain⟨h0,h1,_⟩:=hc 0 x hx;rw[cell_of_row _ _ _ _ _ _ hg]at h0 h1;rcases o with _ | _ | _ | _ | _ | _ | _ | _ | _ | _ | _ | _ | _ | _ | o<;>simp at h0 h1
 refine⟨b,o,e,hB,fun j x hx=> ?_⟩;obtain⟨h0,h1,h2,h3⟩:=hc j x hx;have hh:=hk b hbg;refine⟨?_,?_,?_,h3⟩
 · rw[<-h0];simp[World.cell?,hh]
 · rw[<-h1];simp[World.cell?,hh]
 · rw[<-h2];simp[World.cell?,hh]
theorem DtRd.off14{w w':World}{B g:Nat}{A:Option Addr}{l:List (List UInt8)}{t:TypeId}{fr:Nat × Nat}{a0 a1 a2 a4 b0 b1 b2 b4:Int}{a3 b3:Bool}{S1 S2 S3 S4:Option Addr}{n1 m1 n2 m2 n3 m3 n4 m4:Nat}(h:DtRd w B A l) (hA:∀a,A=some a->a.block≠g) (hg:w.heap[g]?=some (.cells #[.int .u64 a0, .int .u64 a1, .int .u32 a2, .bool a3, .int .i64 a4, .slice S1 n1 m1, .slice S2 n2 m2, .int .u64 b0, .int .u64 b1, .int .u32 b2, .bool b3, .int .i64 b4, .slice S3 n3 m3, .slice S4 n4 m4] t fr)) (hk:∀k,k≠g->w'.heap[k]?=w.heap[k]?):DtRd w' B A l:=fun hn=>by
 obtain⟨b,o,e,hB,hc⟩:=h hn;refine⟨b,o,e,hB,fun j x hx=> ?_⟩;obtain⟨A',k,h1,h2,h3⟩:=hc j x hx;refine⟨A',k,by rw[<-h1];simp[World.cell?,hk b (hA _ e)],⟨h2.1,fun hn=> ?_⟩,h3⟩;obtain⟨b2,o2,e2,hB2,hc2⟩:=h2.2 hn;have hbg:b2≠g:=by
  intro e3;subst e3;obtain⟨u,hu⟩:∃u,x[0]?=some u:=⟨x[0]'hn,List.getElem?_eq_getElem _⟩;have h0:=hc2 0 u hu;rw[cell_of_row _ _ _ _ _ _ hg]at h0;rcases o2 with _ | _ | _ | _ | _ | _ | _ | _ | _ | _ | _ | _ | _ | _ | o2<;>simp at h0
 exact⟨b2,o2,e2,hB2,fun j u hu=>by rw[<-hc2 j u hu];simp[World.cell?,hk b2 hbg]⟩
section
variable {N:Nat} {S:Nat->Prop} {w:World} {g:Nat} {s:Dst}
theorem akc (h:DS N S w g s) (half:Nat) (hh:N/2=half) (h1:1<=half) (hN2:N<=128) (ho:s.off=false) (x y:Sk) (hx:adp s.bs s.wt half 0=x) (hy:adp s.bs s.wt half 1=y):
 Calls Tryz.prog 79 #[.pointer (some ⟨g,0,none⟩)] w fun e w'=>avu x y w e w':=by
 obtain⟨w1,ha1⟩:=nmE (w.alloc (.cells #[.int .u64 0, .int .u64 0, .int .u32 0, .bool false, .int .i64 0, .slice none 0 0, .slice none 0 0, .int .u64 0, .int .u64 0, .int .u32 0, .bool false, .int .i64 0, .slice none 0 0, .slice none 0 0] 149));have n1:=anE ha1;have b1:=abE ha1;obtain⟨w2,ha2⟩:=nmE (w1.alloc (.cells #[.int .u64 0, .int .u64 0, .int .u32 0, .bool false, .int .i64 0, .slice none 0 0, .slice none 0 0, .int .u64 0, .int .u64 0, .int .u32 0, .bool false, .int .i64 0, .slice none 0 0, .slice none 0 0] 149));have m2:=anE ha2;have b2:=abE ha2;have HB2:=hE0 (b1.trans (b2.mono b1.size));have n2:=hE0 ((b2.block _ (aab n1)).trans n1);have M2:=hE0 m2;have HA1:=hE0 ha1;have HA2:=hE0 ha2;have hqr:Hid (w.heap.size<w1.heap.size):=(show _<_ from aab n1);have HALF:=hE0 (fun W (hW:Below w.heap.size w W)=>agJ (h.below hW) hN2 half hh);have HF0:=hE0 (fun W (hW:Below w.heap.size w W)=>amx (h.below hW) hN2 ho half hh h1 0 (by omega) x (by unfold adp at hx;rw[Nat.zero_mul]at hx;exact hx));have HF1:=hE0 (fun W (hW:Below w.heap.size w W)=>amx (h.below hW) hN2 ho half hh h1 half (by omega) y (by unfold adp at hy;rw[Nat.one_mul]at hy;exact hy));obtain⟨xG,xN,xS,xo,xn,xl,xd⟩:=x;obtain⟨yG,yN,yS,yo,yn,yl,yd⟩:=y;clear h ha1 n1 b1 ha2 b2 ho m2 hx hy;obtain⟨q,hq⟩:=nmE w1.heap.size;rw[hq]at M2 hqr;have hh64:half<=64:=by omega
 clear hh;go_enter Tryz.func79,Tryz.ntmps79
 go_wp2_with (first | (rw[HA1.out]) | (rw[HA2.out]) | fail)
 (try rw[hq])
 go_loopw [8] (fun t W=>∃j:Nat,t= .int .i64 (j:Int)/\Below w.heap.size w W/\W.heap[w.heap.size]?=some (.cells #[.int .u64 0, .int .u64 0, .int .u32 0, .bool false, .int .i64 0, .slice none 0 0, .slice none 0 0, .int .u64 0, .int .u64 0, .int .u32 0, .bool false, .int .i64 0, .slice none 0 0, .slice none 0 0] 149 (0,0))/\((j=0/\W.heap[q]?=some (.cells #[.int .u64 0, .int .u64 0, .int .u32 0, .bool false, .int .i64 0, .slice none 0 0, .slice none 0 0, .int .u64 0, .int .u64 0, .int .u32 0, .bool false, .int .i64 0, .slice none 0 0, .slice none 0 0] 149 (0,0)))\/(j=1/\∃A1 c1 A2 c2,W.heap[q]?=some (.cells #[.int .u64 (xG:Int), .int .u64 (xN:Int), .int .u32 (xS:Int), .bool xo, .int .i64 (xn:Int), .slice A1 xl.length c1, .slice A2 xd.length c2, .int .u64 0, .int .u64 0, .int .u32 0, .bool false, .int .i64 0, .slice none 0 0, .slice none 0 0] 149 (0,0))/\(RkRd W W.heap.size A1 xl/\DtRd W W.heap.size A2 xd)/\∀a,A2=some a->q<a.block)\/(j=2/\∃A1 c1 A2 c2 B1 k1 B2 k2,W.heap[q]?=some (.cells #[.int .u64 (xG:Int), .int .u64 (xN:Int), .int .u32 (xS:Int), .bool xo, .int .i64 (xn:Int), .slice A1 xl.length c1, .slice A2 xd.length c2, .int .u64 (yG:Int), .int .u64 (yN:Int), .int .u32 (yS:Int), .bool yo, .int .i64 (yn:Int), .slice B1 yl.length k1, .slice B2 yd.length k2] 149 (0,0))/\((RkRd W W.heap.size A1 xl/\DtRd W W.heap.size A2 xd)/\∀a,A2=some a->q<a.block)/\(RkRd W W.heap.size B1 yl/\DtRd W W.heap.size B2 yd)/\∀a,B2=some a->q<a.block))) (fun t _=>2-(intOf t).toNat)
 case atStart=>exact⟨0,rfl,HB2.out,n2.out, .inl ⟨rfl,M2.out⟩⟩
 case round=>
  obtain⟨j,rfl,hbr,nr,hrel⟩:=hrel;have HBR:=hE0 hbr;have NR:=hE0 nr;have hlr:=aab nr;clear hbr nr;rcases hrel with⟨rfl,mr⟩ | ⟨rfl,A1,c1,A2,c2,mr,ir,ar⟩ | ⟨rfl,A1,c1,A2,c2,B1,k1,B2,k2,mr,⟨ir,ar⟩,iy,ay⟩
  · have MR:=hE0 mr;have hlq:=aab MR.out;clear mr;go_wp2_with fail
    refine(HALF.out wr HBR.out).mono ?_;rintro e w3 ⟨rfl,rfl⟩;go_wp2_with fail
    refine(HF0.out wr HBR.out).mono ?_;rintro e w3 ⟨A1,c1,A2,c2,rfl,hr3,hd3,hA3,hb3⟩;unfold skV;dsimp only at hr3 hd3;dsimp only;have n3:=(hb3.block _ (aab NR.out)).trans NR.out;have m3:=(hb3.block _ (aab MR.out)).trans MR.out;obtain⟨w4,ha4,m4,b4⟩:=aoM w3 148 (.int .u64 0) (.int .u64 0) (.int .u32 0) (.bool false) (.int .i64 0) (.slice none 0 0) (.slice none 0 0);obtain⟨w5,hp5,m5,b5,⟨y0,y1,y2,y3,y4,y5,y6⟩,⟨f0,f1,f2,f3,f4,f5,f6⟩,hlz⟩:=atS m4 (.int .u64 (xG:Int)) (.int .u64 (xN:Int)) (.int .u32 (xS:Int)) (.bool xo) (.int .i64 (xn:Int)) (.slice A1 xl.length c1) (.slice A2 xd.length c2);have hb35:=b5.out w3.heap.size w3 (Nat.le_refl _) b4.out;have hbr5:=hb3.trans (hb35.mono hb3.size);have HB5:=hE0 (HBR.out.trans (hbr5.mono HBR.out.size));have n5:=hE0 ((hb35.block _ (aab n3)).trans n3);have q5:=hE0 ((hb35.block _ (aab m3)).trans m3);have HI5:Hid (RkRd w5 w5.heap.size A1 xl/\DtRd w5 w5.heap.size A2 xd):=⟨(hr3.below hb35).more hb35.size,(hd3.below hb35).more hb35.size⟩;have HA5:Hid (∀a,A2=some a->q<a.block):=(show ∀a,_->_ from fun a e=>by have:=hA3 a e;omega);obtain⟨⟨pc0,pc1,pc2,pc3,pc4,pc5,pc6,pc7,pc8,pc9,pc10,pc11,pc12,pc13⟩,⟨pf0,pf1,pf2,pf3,pf4,pf5,pf6,pf7,pf8,pf9,pf10,pf11,pf12,pf13⟩,hlp⟩:=acb q5.out;obtain⟨⟨v0,v1,v2,v3,v4,v5,v6⟩,_,hlv⟩:=ahi m5.out;obtain⟨w6,hp6,n6,b6,k6,s6⟩:=amy q5 (.int .u64 (xG:Int)) (.int .u64 (xN:Int)) (.int .u32 (xS:Int)) (.bool xo) (.int .i64 (xn:Int)) (.slice A1 xl.length c1) (.slice A2 xd.length c2);clear n3 m3 hb3 hb35 hbr5 hr3 hd3 hA3;go_wp2_with (first | (rw[ha4.out]) | (rw[hp5.out]) | (rw[hp6.out]) | fail)
    go_roundw
    case rel=>
     have hqw:=hqr.out;refine⟨1,by go_num,b6.out _ _ (Nat.le_of_lt hqw) HB5.out,(k6.out _ (Nat.ne_of_lt hqw)).trans n5.out, .inr (.inl ⟨rfl,A1,c1,A2,c2,n6.out,⟨by rw[s6.out];exact HI5.out.1.off14 q5.out k6.out,by rw[s6.out];exact HI5.out.2.off14 (fun a e=>Nat.ne_of_gt (HA5.out a e)) q5.out k6.out⟩,HA5.out⟩)⟩
    case measure=>simp only[intOf];omega
  · have MR:=hE0 mr;have HIR:=hE0 ir;have HAR:=hE0 ar;have hlq:=aab MR.out;clear mr ir ar;go_wp2_with fail
    refine(HALF.out wr HBR.out).mono ?_;rintro e w3 ⟨rfl,rfl⟩;go_wp2_with fail
    refine(HF1.out wr HBR.out).mono ?_;rintro e w3 ⟨B1,k1,B2,k2,rfl,hr3,hd3,hA3,hb3⟩;unfold skV;dsimp only at hr3 hd3;dsimp only;have n3:=(hb3.block _ (aab NR.out)).trans NR.out;have m3:=(hb3.block _ (aab MR.out)).trans MR.out;obtain⟨w4,ha4,m4,b4⟩:=aoM w3 148 (.int .u64 0) (.int .u64 0) (.int .u32 0) (.bool false) (.int .i64 0) (.slice none 0 0) (.slice none 0 0);obtain⟨w5,hp5,m5,b5,⟨y0,y1,y2,y3,y4,y5,y6⟩,⟨f0,f1,f2,f3,f4,f5,f6⟩,hlz⟩:=atS m4 (.int .u64 (yG:Int)) (.int .u64 (yN:Int)) (.int .u32 (yS:Int)) (.bool yo) (.int .i64 (yn:Int)) (.slice B1 yl.length k1) (.slice B2 yd.length k2);have hb35:=b5.out w3.heap.size w3 (Nat.le_refl _) b4.out;have hbr5:=hb3.trans (hb35.mono hb3.size);have HB5:=hE0 (HBR.out.trans (hbr5.mono HBR.out.size));have n5:=hE0 ((hb35.block _ (aab n3)).trans n3);have q5:=hE0 ((hb35.block _ (aab m3)).trans m3);have HI5:Hid (RkRd w5 w5.heap.size B1 yl/\DtRd w5 w5.heap.size B2 yd):=⟨(hr3.below hb35).more hb35.size,(hd3.below hb35).more hb35.size⟩;have HA5:Hid (∀a,B2=some a->q<a.block):=(show ∀a,_->_ from fun a e=>by have:=hA3 a e;omega);have HX5:Hid (RkRd w5 w5.heap.size A1 xl/\DtRd w5 w5.heap.size A2 xd):=⟨(HIR.out.1.below hbr5).more hbr5.size,(HIR.out.2.below hbr5).more hbr5.size⟩;obtain⟨⟨pc0,pc1,pc2,pc3,pc4,pc5,pc6,pc7,pc8,pc9,pc10,pc11,pc12,pc13⟩,⟨pf0,pf1,pf2,pf3,pf4,pf5,pf6,pf7,pf8,pf9,pf10,pf11,pf12,pf13⟩,hlp⟩:=acb q5.out;obtain⟨⟨v0,v1,v2,v3,v4,v5,v6⟩,_,hlv⟩:=ahi m5.out;obtain⟨w6,hp6,n6,b6,k6,s6⟩:=amz q5 (.int .u64 (yG:Int)) (.int .u64 (yN:Int)) (.int .u32 (yS:Int)) (.bool yo) (.int .i64 (yn:Int)) (.slice B1 yl.length k1) (.slice B2 yd.length k2);clear n3 m3 hb3 hb35 hbr5 hr3 hd3 hA3;go_wp2_with (first | (rw[ha4.out]) | (rw[hp5.out]) | (rw[hp6.out]) | fail)
    go_roundw
    case rel=>
     have hqw:=hqr.out;refine⟨2,by go_num,b6.out _ _ (Nat.le_of_lt hqw) HB5.out,(k6.out _ (Nat.ne_of_lt hqw)).trans n5.out, .inr (.inr ⟨rfl,A1,c1,A2,c2,B1,k1,B2,k2,n6.out,⟨⟨by rw[s6.out];exact HX5.out.1.off14 q5.out k6.out,by rw[s6.out];exact HX5.out.2.off14 (fun a e=>Nat.ne_of_gt (HAR.out a e)) q5.out k6.out⟩,HAR.out⟩,⟨by rw[s6.out];exact HI5.out.1.off14 q5.out k6.out,by rw[s6.out];exact HI5.out.2.off14 (fun a e=>Nat.ne_of_gt (HA5.out a e)) q5.out k6.out⟩,HA5.out⟩)⟩
    case measure=>simp only[intOf];omega
  · obtain⟨⟨pc0,pc1,pc2,pc3,pc4,pc5,pc6,pc7,pc8,pc9,pc10,pc11,pc12,pc13⟩,⟨pf0,pf1,pf2,pf3,pf4,pf5,pf6,pf7,pf8,pf9,pf10,pf11,pf12,pf13⟩,hlp⟩:=acb NR.out;obtain⟨⟨qc0,qc1,qc2,qc3,qc4,qc5,qc6,qc7,qc8,qc9,qc10,qc11,qc12,qc13⟩,⟨qf0,qf1,qf2,qf3,qf4,qf5,qf6,qf7,qf8,qf9,qf10,qf11,qf12,qf13⟩,hlq⟩:=acb mr;obtain⟨w6,hp6,n6,b6,k6,s6⟩:=amy NR (.int .u64 (xG:Int)) (.int .u64 (xN:Int)) (.int .u32 (xS:Int)) (.bool xo) (.int .i64 (xn:Int)) (.slice A1 xl.length c1) (.slice A2 xd.length c2);obtain⟨w7,hp7,n7,b7,k7,s7⟩:=amz n6 (.int .u64 (yG:Int)) (.int .u64 (yN:Int)) (.int .u32 (yS:Int)) (.bool yo) (.int .i64 (yn:Int)) (.slice B1 yl.length k1) (.slice B2 yd.length k2);have HIR:=hE0 ir;have HIY:=hE0 iy;have HAR:=hE0 ar;have HAY:=hE0 ay;clear mr ir ar iy ay;go_wp2_with (first | (rw[hp6.out,hp7.out]) | fail)
    (try simp only[Exit.inBlock,Exit.then])
    refine aur (g:=w.heap.size) Tryz.results79 rfl rfl rfl n7.out ?_;have hs:w7.heap.size=wr.heap.size:=s7.out.trans s6.out;have hkk:∀k,k≠w.heap.size->w7.heap[k]?=wr.heap[k]?:=fun k hk=>(k7.out k hk).trans (k6.out k hk);refine⟨A1,c1,A2,c2,B1,k1,B2,k2,rfl,?_,?_,b7.out _ _ (Nat.le_refl _) (b6.out _ _ (Nat.le_refl _) HBR.out)⟩
    · rw[hs];exact⟨HIR.out.1.off14 NR.out hkk,HIR.out.2.off14 (fun a e=>by have:=HAR.out a e;have:=hqr.out;omega) NR.out hkk⟩
    · rw[hs];exact⟨HIY.out.1.off14 NR.out hkk,HIY.out.2.off14 (fun a e=>by have:=HAY.out a e;have:=hqr.out;omega) NR.out hkk⟩
end
theorem aqe{w1 W:World}{a b:Array Value}{t:TypeId}(h:((w1.alloc (.cells a t)).alloc (.cells b t)).drew=W):W.heap[w1.heap.size]?=some (.cells a t (0,0))/\W.heap[w1.heap.size+1]?=some (.cells b t (0,0))/\Below w1.heap.size w1 W:=by
 have hs:(w1.alloc (.cells a t)).heap.size=w1.heap.size+1:=by simp
 have h1:Below w1.heap.size w1 (w1.alloc (.cells a t)):=(Below.refl _ _).alloc (Nat.le_refl _) _;have h2:Below (w1.alloc (.cells a t)).heap.size (w1.alloc (.cells a t)) ((w1.alloc (.cells a t)).alloc (.cells b t)):=(Below.refl _ _).alloc (Nat.le_refl _) _;subst h;refine⟨(h2.block _ (by rw[hs];omega)).trans (heap_alloc_new w1 _),?_,(h1.trans (h2.mono h1.size)).drew⟩;have:=heap_alloc_new (w1.alloc (.cells a t)) (.cells b t);rw[hs]at this;exact this
theorem agK (w:World) (x y:Sk) (A1:Option Addr) (c1:Nat) (A2:Option Addr) (c2:Nat) (B1:Option Addr) (k1:Nat) (B2:Option Addr) (k2:Nat):
 Calls Tryz.prog 93 #[arV x y A1 c1 A2 c2 B1 k1 B2 k2] w fun e w'=>e= .returned (.int .i64 (agm x y))/\Below w.heap.size w w':=by
 unfold arV;obtain⟨v,hv⟩:=nmE (agm x y);rw[hv];obtain⟨xG,xN,xS,xo,xn,xl,xd⟩:=x;obtain⟨yG,yN,yS,yo,yn,yl,yd⟩:=y;dsimp only;obtain⟨w1,ha1⟩:=nmE (w.alloc (.cells #[.int .u64 (xG:Int), .int .u64 (xN:Int), .int .u32 (xS:Int), .bool xo, .int .i64 (xn:Int), .slice A1 xl.length c1, .slice A2 xd.length c2, .int .u64 (yG:Int), .int .u64 (yN:Int), .int .u32 (yS:Int), .bool yo, .int .i64 (yn:Int), .slice B1 yl.length k1, .slice B2 yd.length k2] 149));have n1:=anE ha1;have b1:=abE ha1;obtain⟨⟨pc0,pc1,pc2,pc3,pc4,pc5,pc6,pc7,pc8,pc9,pc10,pc11,pc12,pc13⟩,⟨pf0,pf1,pf2,pf3,pf4,pf5,pf6,pf7,pf8,pf9,pf10,pf11,pf12,pf13⟩,hlp⟩:=acb n1;have HA1:=hE0 ha1;have HB1:=hE0 b1;have HV:=hE0 hv;clear ha1 b1 hv;go_enter Tryz.func93,Tryz.ntmps93
 go_wp2_with (first | (rw[HA1.out]) | fail)
 have hF:∀(W:World) (u:Int),agm ⟨xG,xN,xS,xo,xn,xl,xd⟩ ⟨yG,yN,yS,yo,yn,yl,yd⟩=u->Below w1.heap.size w1 W->Ending.returned (.int .i64 u)= .returned (.int .i64 v)/\Below w.heap.size w W:=fun W u hu hb=>⟨by rw[<-hu,HV.out],HB1.out.trans (hb.mono HB1.out.size)⟩;have HF:=hE0 hF;clear hF;go_region
 all_goals
  generalize hW:World.drew _=W;obtain⟨ra,rb,hbw⟩:=aqe hW;obtain⟨⟨a0,a1,a2,a3,a4,a5,a6⟩,_,hla⟩:=ahi ra;obtain⟨⟨b0,b1,b2,b3,b4,b5,b6⟩,_,hlb⟩:=ahi rb;have HBW:=hE0 hbw;clear hW ra rb hbw pc0 pc1 pc2 pc3 pc4 pc5 pc6 pc7 pc8 pc9 pc10 pc11 pc12 pc13 pf0 pf1 pf2 pf3 pf4 pf5 pf6 pf7 pf8 pf9 pf10 pf11 pf12 pf13 hlp;by_cases hge:yG<=xG
  · have gg:decide ((yG:Int)<=(xG:Int))=true:=decide_eq_true (by omega)
    cases xo<;>cases yo;all_goals
     go_wp2_with fail
     go_ret
     first | exact HF.out _ 0 (by simp[agm,hge]) HBW.out | exact HF.out _ 1 (by simp[agm,hge]) HBW.out | exact HF.out _ (-1) (by simp[agm,hge]) HBW.out
  · have gg:decide ((yG:Int)<=(xG:Int))=false:=decide_eq_false (by omega)
    cases xo<;>cases yo;all_goals
     go_wp2_with fail
     go_ret
     first | exact HF.out _ 0 (by simp[agm,hge]) HBW.out | exact HF.out _ 1 (by simp[agm,hge]) HBW.out | exact HF.out _ (-1) (by simp[agm,hge]) HBW.out
theorem anJ (w:World) (x y:Sk) (A1:Option Addr) (c1:Nat) (A2:Option Addr) (c2:Nat) (B1:Option Addr) (k1:Nat) (B2:Option Addr) (k2:Nat):
 Calls Tryz.prog 82 #[arV x y A1 c1 A2 c2 B1 k1 B2 k2] w fun e w'=>e= .returned (.int .i64 ((if agm x y=0 then 1 else 0:Nat):Int))/\Below w.heap.size w w':=by
 have HNEW:=hE0 (fun W=>agK W x y A1 c1 A2 c2 B1 k1 B2 k2);have hcs:=ahn x y;obtain⟨v,hv⟩:=nmE (agm x y);rw[hv]at HNEW hcs;rw[hv];obtain⟨o,ho⟩:∃o:Nat,(if v=0 then 1 else 0)=o:=⟨_,rfl⟩;rw[ho];unfold arV at HNEW ⊢;have HO:=hE0 ho;clear hv ho;obtain⟨xG,xN,xS,xo,xn,xl,xd⟩:=x;obtain⟨yG,yN,yS,yo,yn,yl,yd⟩:=y;dsimp only at HNEW ⊢;obtain⟨w1,ha1⟩:=nmE (w.alloc (.cells #[.int .u64 (xG:Int), .int .u64 (xN:Int), .int .u32 (xS:Int), .bool xo, .int .i64 (xn:Int), .slice A1 xl.length c1, .slice A2 xd.length c2, .int .u64 (yG:Int), .int .u64 (yN:Int), .int .u32 (yS:Int), .bool yo, .int .i64 (yn:Int), .slice B1 yl.length k1, .slice B2 yd.length k2] 149));have n1:=anE ha1;have b1:=abE ha1;obtain⟨⟨pc0,pc1,pc2,pc3,pc4,pc5,pc6,pc7,pc8,pc9,pc10,pc11,pc12,pc13⟩,⟨pf0,pf1,pf2,pf3,pf4,pf5,pf6,pf7,pf8,pf9,pf10,pf11,pf12,pf13⟩,hlp⟩:=acb n1;have HA1:=hE0 ha1;have HB1:=hE0 b1;have HCS:=hE0 hcs;clear ha1 b1 hcs;go_enter Tryz.func82,Tryz.ntmps82
 go_wp2_with (first | (rw[HA1.out]) | fail)
 refine(HNEW.out w1).mono ?_;rintro e w2 ⟨rfl,hb2⟩;have HB2:=hE0 (HB1.out.trans (hb2.mono HB1.out.size));clear hb2 pc0 pc1 pc2 pc3 pc4 pc5 pc6 pc7 pc8 pc9 pc10 pc11 pc12 pc13 pf0 pf1 pf2 pf3 pf4 pf5 pf6 pf7 pf8 pf9 pf10 pf11 pf12 pf13 hlp;rcases HCS.out with e | e | e;all_goals
  have ho:=HO.out;rw[e]at ho;obtain rfl:=ho;rw[e];clear e;go_wp2
  go_ret
  exact⟨rfl,HB2.out⟩
def aus (G:Nat × Nat × List Rk × List (List UInt8)) (base:Nat) (cap:Int) (w:World) (e:Ending) (w':World):Prop:=
 Below w.heap.size w w'/\if G.1=0 then ∃out H q g A c,alw (G.2.1:Int) G.2.2.1 G.2.2.2=some out/\e= .returned (.tuple #[.pointer (some ⟨q,0,none⟩), .nilIface])/\PH w' q g base cap.toNat A c out H/\w.heap.size<=q/\w.heap.size<=g/\∀a,A=some a->w.heap.size<=a.block else e= .returned (.tuple #[.pointer none,aiO G.1])
theorem aqf{n:Int}:∀{l:List Rk}{e:Int}{f:Bool},abc n e f l=true->32*(l.length:Int)+e<=n
 | [],e,f,h=>by
  have h:(e==n)=true:=h;have:=beq_iff_eq.1 h;simp;omega
 | x::r,e,f,h=>by
  rw[abc]at h;simp only[Bool.and_eq_true]at h;have h1:=(aac _).1 h.2.1;have:=aqf h.2.2.2.2;rw[List.length_cons];omega
theorem alx:∀{l:List Rk}{d:List (List UInt8)},datOk l d=true->d.length<=l.length
 | [],d,h=>by
  have h:d.isEmpty=true:=h;rw[List.isEmpty_iff]at h;subst h;exact Nat.le_refl _
 | x::r,d,h=>by
  rw[datOk.eq_def]at h;dsimp only at h;split at h
  · cases d with
    | nil=>cases h
    | cons y d=>
     dsimp only at h;rw[Bool.and_eq_true]at h;have:=alx h.2;simp;omega
  · have:=alx h;simp;omega
theorem aqg{n:Int}{l:List Rk}{d:List (List UInt8)}(h:aea n l d=true):l.length<=1000/\d.length<=1000/\ -9223372036854775808<=n/\n<=9223372036854775807:=by
 unfold aea at h;simp only[Bool.and_eq_true]at h;have h1:=(aaR n).1 h.1;have h2:=aqf h.2.1;have h3:=alx h.2.2;omega
theorem akd (w:World) (n:Int) (A1 A2:Option Addr) (k1 k2:Nat) (l:List Rk) (d:List (List UInt8)) (hr:RkRd w w.heap.size A1 l) (hd:DtRd w w.heap.size A2 d) (base:Nat) (hb:base<18446744073709551616) (cap:Int) (hc: -9223372036854775808<=cap/\cap<=9223372036854775807) (hm:aea n l d=true):
 Calls Tryz.prog 94 #[.agg #[.int .i64 n, .slice A1 l.length k1, .slice A2 d.length k2], .int .u64 (base:Int), .int .i64 cap] w fun e w'=>Below w.heap.size w w'/\∃P er,e= .returned (.tuple #[P,er])/\
  if ¬(base%16=0/\base<=4611686018427387904/\1024<=cap/\cap<=16384) then P= .pointer none/\er=aiO 1 else if cap<n then P= .pointer none/\er=aiO 10 else ∃out H q g A c,alw n l d=some out/\P= .pointer (some ⟨q,0,none⟩)/\er= .nilIface/\PH w' q g base cap.toNat A c out H/\w.heap.size<=q/\w.heap.size<=g/\∀a,A=some a->w.heap.size<=a.block:=by
 obtain⟨l1,l2,hn⟩:=aqg hm;by_cases hno:base%16=0/\base<=4611686018427387904/\1024<=cap/\cap<=16384
 · by_cases hlg:cap<n
   · refine(anF w n hn A1 A2 k1 k2 l d hr hd (by omega) (by omega) base hb cap hc hm hno.1 hno.2.1 hno.2.2.1 hno.2.2.2 hlg).mono ?_;rintro e w' ⟨rfl,h⟩;refine⟨h,_,_,rfl,?_⟩;rw[if_neg (fun k=>k hno),if_pos hlg];exact⟨rfl,rfl⟩
   · refine(atv w n hn A1 A2 k1 k2 l d hr hd (by omega) (by omega) base hb cap hc hm hno.1 hno.2.1 hno.2.2.1 hno.2.2.2 (by omega)).mono ?_;rintro e w' ⟨out,H,q,g,A,c,hl,rfl,hp,f1,f2,f3,h⟩;refine⟨h,_,_,rfl,?_⟩;rw[if_neg (fun k=>k hno),if_neg hlg];exact⟨out,H,q,g,A,c,hl,rfl,rfl,hp,f1,f2,f3⟩
 · refine(aqb w n hn A1 A2 k1 k2 l d hr hd (by omega) (by omega) base hb cap hc hm (by omega)).mono ?_;rintro e w' ⟨rfl,h⟩;refine⟨h,_,_,rfl,?_⟩;rw[if_pos hno];exact⟨rfl,rfl⟩
section
variable {N:Nat} {S:Nat->Prop} {w:World} {g:Nat} {s:Dst}
theorem aqh (h:DS N S w g s) (half:Nat) (hh:N/2=half) (h1:1<=half) (hN2:N<=128) (ho:s.off=false) (x y:Sk) (hx:adp s.bs s.wt half 0=x) (hy:adp s.bs s.wt half 1=y) (base:Nat) (hb:base<18446744073709551616) (cap:Int) (hc: -9223372036854775808<=cap/\cap<=9223372036854775807) (G:Nat × Nat × List Rk × List (List UInt8)) (hG:atV x y base cap=G):
 Calls Tryz.prog 30 #[.pointer (some ⟨g,0,none⟩), .int .u64 (base:Int), .int .i64 cap] w fun e w'=>aus G base cap w e w':=by
 have HL:=hE0 (akc h half hh h1 hN2 ho x y hx hy);have hxm:x.ok=true->aea (x.n:Int) x.l x.d=true:=by rw[<-hx];exact amv _ _ _
 have hym:y.ok=true->aea (y.n:Int) y.l y.d=true:=by rw[<-hy];exact amv _ _ _
 have HNEW:=hE0 (fun W A1 c1 A2 c2 B1 k1 B2 k2=>agK W x y A1 c1 A2 c2 B1 k1 B2 k2);obtain⟨v,hv⟩:=nmE (agm x y);rw[hv]at HNEW;have hok:=atC x y;have hcs:=ahn x y;unfold atV at hG;rw[hv]at hG hok hcs;unfold arV at HNEW;have HG:=hE0 hG;have HOK:=hE0 hok;have HCS:=hE0 hcs;have HXM:=hE0 hxm;have HYM:=hE0 hym;clear h hx hy hxm hym hv hok hcs hG hh h1 ho;go_enter Tryz.func30,Tryz.ntmps30
 go_wp2_with fail
 refine HL.out.mono ?_;rintro e w1 ⟨A1,c1,A2,c2,B1,k1,B2,k2,rfl,hix,hiy,hb1⟩;unfold arV;obtain⟨xG,xN,xS,xo,xn,xl,xd⟩:=x;obtain⟨yG,yN,yS,yo,yn,yl,yd⟩:=y;dsimp only at hix hiy HNEW HG HOK HXM HYM;dsimp only;obtain⟨w2,ha2⟩:=nmE (w1.alloc (.cells #[.int .u64 0, .int .u64 0, .int .u32 0, .bool false, .int .i64 0, .slice none 0 0, .slice none 0 0, .int .u64 0, .int .u64 0, .int .u32 0, .bool false, .int .i64 0, .slice none 0 0, .slice none 0 0] 149));have n2:=anE ha2;have b2:=abE ha2;have N2:=hE0 n2;have HA2:=hE0 ha2;obtain⟨⟨pc0,pc1,pc2,pc3,pc4,pc5,pc6,pc7,pc8,pc9,pc10,pc11,pc12,pc13⟩,⟨pf0,pf1,pf2,pf3,pf4,pf5,pf6,pf7,pf8,pf9,pf10,pf11,pf12,pf13⟩,hlp⟩:=acb n2;obtain⟨w3,hp3,n3,b3,_,_⟩:=amy N2 (.int .u64 (xG:Int)) (.int .u64 (xN:Int)) (.int .u32 (xS:Int)) (.bool xo) (.int .i64 (xn:Int)) (.slice A1 xl.length c1) (.slice A2 xd.length c2);obtain⟨w4,hp4,n4,b4,_,_⟩:=amz n3 (.int .u64 (yG:Int)) (.int .u64 (yN:Int)) (.int .u32 (yS:Int)) (.bool yo) (.int .i64 (yn:Int)) (.slice B1 yl.length k1) (.slice B2 yd.length k2);have b14:=b4.out _ _ (Nat.le_refl _) (b3.out _ _ (Nat.le_refl _) b2);have HB4:=hE0 (hb1.trans (b14.mono hb1.size));have HI4:Hid ((RkRd w4 w4.heap.size A1 xl/\DtRd w4 w4.heap.size A2 xd)/\RkRd w4 w4.heap.size B1 yl/\DtRd w4 w4.heap.size B2 yd):=⟨⟨(hix.1.below b14).more b14.size,(hix.2.below b14).more b14.size⟩,(hiy.1.below b14).more b14.size,(hiy.2.below b14).more b14.size⟩;obtain⟨⟨qc0,qc1,qc2,qc3,qc4,qc5,qc6,qc7,qc8,qc9,qc10,qc11,qc12,qc13⟩,⟨qf0,qf1,qf2,qf3,qf4,qf5,qf6,qf7,qf8,qf9,qf10,qf11,qf12,qf13⟩,hlq⟩:=acb n4.out;clear ha2 b2 hb1 n2 hix hiy b14 HL;go_wp2_with (first | (rw[HA2.out]) | (rw[hp3.out,hp4.out]) | fail)
 clear pc0 pc1 pc2 pc3 pc4 pc5 pc6 pc7 pc8 pc9 pc10 pc11 pc12 pc13 pf0 pf1 pf2 pf3 pf4 pf5 pf6 pf7 pf8 pf9 pf10 pf11 pf12 pf13 hlp;refine(HNEW.out w4 A1 c1 A2 c2 B1 k1 B2 k2).mono ?_;rintro e w5 ⟨rfl,hb5⟩;have HB5:=hE0 (HB4.out.trans (hb5.mono HB4.out.size));have HI5:Hid ((RkRd w5 w5.heap.size A1 xl/\DtRd w5 w5.heap.size A2 xd)/\RkRd w5 w5.heap.size B1 yl/\DtRd w5 w5.heap.size B2 yd):=⟨⟨(HI4.out.1.1.below hb5).more hb5.size,(HI4.out.1.2.below hb5).more hb5.size⟩,(HI4.out.2.1.below hb5).more hb5.size,(HI4.out.2.2.below hb5).more hb5.size⟩;obtain⟨⟨rc0,rc1,rc2,rc3,rc4,rc5,rc6,rc7,rc8,rc9,rc10,rc11,rc12,rc13⟩,⟨rf0,rf1,rf2,rf3,rf4,rf5,rf6,rf7,rf8,rf9,rf10,rf11,rf12,rf13⟩,hlr⟩:=acb ((hb5.block _ (aab n4.out)).trans n4.out);clear hb5 qc0 qc1 qc2 qc3 qc4 qc5 qc6 qc7 qc8 qc9 qc10 qc11 qc12 qc13 qf0 qf1 qf2 qf3 qf4 qf5 qf6 qf7 qf8 qf9 qf10 qf11 qf12 qf13 hlq HNEW;rcases HCS.out with e | e | e
 · subst e;have hG:=HG.out;rw[if_pos (by decide)]at hG;subst hG;go_wp2_with fail
   go_ret2
   refine⟨HB5.out,?_⟩;rw[if_neg (by decide)];rfl
 · subst e;have hm:=HXM.out (HOK.out.1 rfl);have hG:=HG.out;rw[if_neg (by decide)]at hG;go_wp2_with fail
   refine(akd w5 (xn:Int) A1 A2 c1 c2 xl xd HI5.out.1.1 HI5.out.1.2 base hb cap hc hm).mono ?_;rintro e w6 ⟨hb6,h6⟩;have HB6:=hE0 (HB5.out.trans (hb6.mono HB5.out.size));have HH:=hE0 h6;have HGG:=hE0 hG;clear hb6 h6 hG hm rc0 rc1 rc2 rc3 rc4 rc5 rc6 rc7 rc8 rc9 rc10 rc11 rc12 rc13 rf0 rf1 rf2 rf3 rf4 rf5 rf6 rf7 rf8 rf9 rf10 rf11 rf12 rf13 hlr;obtain⟨P,er,rfl,hif⟩:=HH.out;have HIF:=hE0 hif;clear hif HH;go_wp2_with fail
   go_ret2
   refine⟨HB6.out,?_⟩;have hG:=HGG.out;have hif:=HIF.out;by_cases hno:¬(base%16=0/\base<=4611686018427387904/\1024<=cap/\cap<=16384)
   · rw[if_pos hno]at hG hif;obtain⟨rfl,rfl⟩:=hif;subst hG;rw[if_neg (by decide)];rfl
   · rw[if_neg hno]at hG hif;rw[if_pos trivial]at hG;by_cases hlg:cap<(xn:Int)
     · rw[if_pos hlg]at hG hif;obtain⟨rfl,rfl⟩:=hif;subst hG;rw[if_neg (by decide)];rfl
     · rw[if_neg hlg]at hG hif;obtain⟨out,H,q,ga,A,c,hl,rfl,rfl,hp,f1,f2,f3⟩:=hif;subst hG;rw[if_pos rfl];have hsz:=HB5.out.size;exact⟨out,H,q,ga,A,c,hl,rfl,hp,by omega,by omega,fun a e=>by have:=f3 a e;omega⟩
 · subst e;have hm:=HYM.out (HOK.out.2 rfl);have hG:=HG.out;rw[if_neg (by decide)]at hG;go_wp2_with fail
   refine(akd w5 (yn:Int) B1 B2 k1 k2 yl yd HI5.out.2.1 HI5.out.2.2 base hb cap hc hm).mono ?_;rintro e w6 ⟨hb6,h6⟩;have HB6:=hE0 (HB5.out.trans (hb6.mono HB5.out.size));have HH:=hE0 h6;have HGG:=hE0 hG;clear hb6 h6 hG hm rc0 rc1 rc2 rc3 rc4 rc5 rc6 rc7 rc8 rc9 rc10 rc11 rc12 rc13 rf0 rf1 rf2 rf3 rf4 rf5 rf6 rf7 rf8 rf9 rf10 rf11 rf12 rf13 hlr;obtain⟨P,er,rfl,hif⟩:=HH.out;have HIF:=hE0 hif;clear hif HH;go_wp2_with fail
   go_ret2
   refine⟨HB6.out,?_⟩;have hG:=HGG.out;have hif:=HIF.out;by_cases hno:¬(base%16=0/\base<=4611686018427387904/\1024<=cap/\cap<=16384)
   · rw[if_pos hno]at hG hif;obtain⟨rfl,rfl⟩:=hif;subst hG;rw[if_neg (by decide)];rfl
   · rw[if_neg hno]at hG hif;rw[if_neg (by decide)]at hG;by_cases hlg:cap<(yn:Int)
     · rw[if_pos hlg]at hG hif;obtain⟨rfl,rfl⟩:=hif;subst hG;rw[if_neg (by decide)];rfl
     · rw[if_neg hlg]at hG hif;obtain⟨out,H,q,ga,A,c,hl,rfl,rfl,hp,f1,f2,f3⟩:=hif;subst hG;rw[if_pos rfl];have hsz:=HB5.out.size;exact⟨out,H,q,ga,A,c,hl,rfl,hp,by omega,by omega,fun a e=>by have:=f3 a e;omega⟩
end
def acn (p:Nat) (b:List UInt8) (s:Dst):Nat × Dst:=andThen (ahN s p b) dfl
def avh (p:Nat) (b rec:List UInt8) (s:Dst):Nat × Dst:=andThen (andThen (acn p (List.replicate 512 0) s) (acn (p+1) b)) (acn p rec)
theorem anK (p:Nat) (b rec:List UInt8) (hr:rec.length=512) (s:Dst):avh p b rec s=ady p b rec s:=by
 unfold avh ady acn;rw[amu p _ List.length_replicate];by_cases h1:(dwr s p (List.replicate 512 0)).1=0
 · simp only[aaB h1];by_cases h2:(dfl (dwr s p (List.replicate 512 0)).2).1=0
   · simp only[aaB h2];by_cases h3:(ahN (dfl (dwr s p (List.replicate 512 0)).2).2 (p+1) b).1=0
     · simp only[aaB h3];by_cases h4:(dfl (ahN (dfl (dwr s p (List.replicate 512 0)).2).2 (p+1) b).2).1=0
       · simp only[aaB h4];rw[amu p _ hr]
       · simp only[abk h4]
     · simp only[abk h3]
   · simp only[abk h2]
 · simp only[abk h1]
theorem ake (p:Nat) (b:List UInt8) (s:Dst):(acn p b s).2.wt.length<=s.wt.length+need b.length/\(acn p b s).2.left<=s.left:=by
 have h1:=atA s p b;unfold acn;by_cases h:(ahN s p b).1=0
 · rw[aaB h];have h2:=auq (ahN s p b).2;omega
 · rw[abk h];omega
theorem agL (k:Nat):(aiO k= .nilIface/\k=0)\/(aiO k= .iface 130 (.int .i64 (k:Int))/\k≠0):=by
 unfold aiO;by_cases h:k=0
 · exact .inl ⟨if_pos h,h⟩
 · exact .inr ⟨if_neg h,h⟩
section
variable {N:Nat} {S:Nat->Prop} {w:World} {g:Nat} {s:Dst}
theorem StpD.via{w1 w2 w3 w4:World}{r:Dst}(ht:Tch S w1 w2) (hb:Below w2.heap.size w2 w3) (h1:DS N (adP (adP S w1 w2) w3 w4) w4 g r) (h2:Tch (adP S w1 w2) w3 w4):DS N (adP S w1 w4) w4 g r/\Tch S w1 w4:=by
 have hs:=ht.size;have hbs:=hb.size;have h4:=h2.size;refine⟨?_,(ht.trans (Tch.of_below (S:=S) hb) fun _ _ h=>h).trans h2 fun i hi hg=> ?_⟩
 · obtain⟨q,c,W,cw,ws,k,e1,e2,hl⟩:=h1;refine⟨q,c,W,cw,ws,k.more fun j hj=> ?_,e1,e2,fun j hj=> ?_⟩
   · rcases(k.foot hj).1 with(h | h) | h
     · exact .inl h
     · exact .inr ⟨h.1,by omega⟩
     · exact .inr ⟨by omega,h.2⟩
   · rcases hj with h | h
     · exact hl j (.inl (.inl h))
     · exact h.2
 · rcases hg with h | h
   · exact h
   · exact absurd hi (Nat.not_lt.2 h.1)
theorem afg (h:DS N S w g s) (hN2:N<=128) (hw:s.wt.length<=90000) (hl:s.left<=9223372036854775807) (p:Nat) (A:Option Addr) (cA:Nat) (b:List UInt8) (hr:Rd w w.heap.size A b.length b) (hbc:b.length<=cA) (hcm:cA<=9223372036854775807) (hA:0<b.length->∀a,A=some a->¬S a.block) (hp:p+need b.length<=N):
 Calls Tryz.prog 144 #[.pointer (some ⟨g,0,none⟩), .int .i64 (p:Int), .slice A b.length cA] w fun e w'=>StpD N S w g (acn p b s) e w':=by
 have HW:=hE0 (h.outs hN2 (by omega) hl p A cA b hr hbc hcm hA hp);obtain⟨r,hr1⟩:=nmE (ahN s p b);obtain⟨bl,hbl⟩:=nmE b.length;rw[hr1]at HW;have HE:Hid (acn p b s=andThen r dfl):=(show _=_ by unfold acn;rw[hr1]);rw[hbl]at HW;rw[hbl];clear h hr hbc hcm hA hp hr1 hbl;go_enter Tryz.func144,Tryz.ntmps144
 go_wp2_with fail
 refine HW.out.mono ?_;rintro e w1 ⟨rfl,hR,hT⟩;have HR:=hE0 hR;have HT:=hE0 hT;clear hR hT HW;rcases agL r.1 with⟨e,h0⟩ | ⟨e,h0⟩
 · rw[e];have HC:=hE0 (HR.out.flush hN2);have HE2:Hid (acn p b s=dfl r.2):=(show _=_ by rw[HE.out,aaB h0]);clear e h0;go_wp2_with fail
   refine DS.two HT.out HC.out HT.out.size ?_;rintro e w2 rfl hR hT;have HF:=hE0 (And.intro hR hT);clear hR hT HC;go_wp2
   go_ret
   rw[HE2.out];exact⟨rfl,HF.out.1,HF.out.2⟩
 · have HE2:Hid (acn p b s=r):=(show _=_ by rw[HE.out,abk h0]);have HV:=hE0 e;rw[e];clear e h0;go_wp2_with fail
   go_ret
   rw[HE2.out];exact⟨by rw[HV.out];rfl,HR.out,HT.out⟩
theorem arW (h:DS N S w g s) (hN2:N<=128) (hw:s.wt.length<=50000) (hl:s.left<=9223372036854775807) (p half:Nat) (hph:p+half<=N) (A:Option Addr) (cA:Nat) (b:List UInt8) (hr:Rd w w.heap.size A b.length b) (hbc:b.length<=cA) (hcm:cA<=9223372036854775807) (hA:∀a,A=some a->¬S a.block) (h1:1<=half) (hfit:b.length<=512*(half-1)) (G:Nat) (hG:G<4611686018427387904):
 Calls Tryz.prog 81 #[.pointer (some ⟨g,0,none⟩), .int .i64 (p:Int), .slice A b.length cA, .int .u64 ((G+1:Nat):Int)] w fun e w'=>StpD N S w g (ady p b (abG (G+1) b.length (abS 0 b)) s) e w':=by
 obtain⟨rec,hrec⟩:=nmE (abG (G+1) b.length (abS 0 b));have hrl:rec.length=512:=by rw[<-hrec];exact adN _ _ _
 rw[hrec,<-anK p b rec hrl];unfold avh;obtain⟨z,hz⟩:=nmE (List.replicate 512 (0:UInt8));have hzl:z.length=512:=by rw[<-hz];simp
 have hmk:(Instr.makeSlice 37 (.int .i64 512) (.int .i64 512)).run Tryz.prog w= .ok (.slice (some ⟨w.heap.size,0,none⟩) 512 512) (w.alloc (.cells (ab6 z) 5)):=by
  have:=run_make_row' (P:=Tryz.prog) 37 5 (.int .u8 0) 1 Tryz.underlying37 aeZ rfl .i64 .i64 512 (by omega) (by omega) w;rw[acz,hz]at this;exact this
 obtain⟨v1,hv1⟩:=nmE (w.alloc (.cells (ab6 z) 5));have hfz:Fill v1 w.heap.size 5 z:=by rw[<-hv1];exact Fill.made w 5 _
 have hbv:=abE hv1;have hsl:∀j,S j->j<w.heap.size:=by obtain⟨_,_,_,_,_,_,_,_,hs⟩:=h;exact hs
 have hc1:=afg (h.below hbv) hN2 (by omega) hl p (some ⟨w.heap.size,0,none⟩) 512 z hfz.reads (by rw[hzl];omega) (by omega) (fun _ a e hs=>by injection e with e;have:=hsl _ hs;rw[<-e]at this;exact Nat.lt_irrefl _ this) (by rw[hzl];unfold need;omega);rw[hz];obtain⟨r1,hr1⟩:∃r,acn p z s=r:=⟨_,rfl⟩;have hok1:r1.2.wt.length<=50001/\r1.2.left<=9223372036854775807:=by
  have:=ake p z s;rw[hr1,hzl]at this;have e:need 512=1:=rfl;omega
 rw[hr1]at hc1;rw[hr1];rw[hzl]at hc1;obtain⟨o,ho⟩:=nmE (andThen (andThen r1 (acn (p+1) b)) (acn p rec));rw[ho];have HO:=hE0 ho;clear ho;have HC1:=hE0 hc1;have HBV:=hE0 hbv;have HV1:=hE0 hv1;have HRD:=hE0 ((hr.below hbv).more hbv.size);have HAS:Hid (∀a,A=some a->¬S a.block):=hA;have HAB:Hid (0<b.length->∀a,A=some a->a.block<w.heap.size):=(show _->∀a,_->_ from fun hn a e=>by obtain⟨k,o,e',hk,_⟩:=hr.2 hn;rw[e]at e';injection e' with e';rw[e'];exact hk);have HSL:Hid (∀j,S j->j<w.heap.size):=hsl;obtain⟨bl,hbl⟩:=nmE b.length;have HSUM:=hE0 (fun W (h:Rd W W.heap.size A bl b)=>af3 A bl cA W.heap.size b W h (by omega));obtain⟨sm,hsm⟩:=nmE (abS 0 b);have hsml:sm<4294967296:=by rw[<-hsm];exact ad2 _ _
 rw[hsm]at HSUM;have HPUT:=hE0 (fun W=>alZ W (G+1) bl sm hsml (by unfold akl;simp only[Bool.and_eq_true,decide_eq_true_eq];omega));rw[hbl,hsm]at hrec;rw[hrec]at HPUT;have HBL:=hE0 hbl;have hpi:(p:Int)+1=((p+1:Nat):Int):=rfl;have HPI:=hE0 hpi;have hneed:p+1+need bl<=N:=by unfold need;omega
 have hn2:need bl<=200:=by unfold need;omega
 have HRL:=hE0 hrl;have hbl6:bl<=65536:=by omega
 rw[hbl]at hbc HRD HAB;rw[hbl];clear h hfz hbv hv1 hc1 hr hA hsl hz hzl hr1 hbl hsm hrec hpi hrl hfit;go_enter Tryz.func81,Tryz.ntmps81
 go_wp2_with (first | (rw[HV1.out]) | fail)
 clear hmk;refine HC1.out.mono ?_;rintro e v2 ⟨rfl,hR,hT⟩;have HR:=hE0 hR;have HT:=hE0 hT;clear hR hT HC1;rcases agL r1.1 with⟨e,h0⟩ | ⟨e,h0⟩
 · rw[e];have ho:=HO.out;rw[aaB h0]at ho;have hc:=afg HR.out hN2 (by omega) hok1.2 (p+1) A cA b (by rw[HBL.out];exact HRD.out.tch HT.out HAS.out) (by rw[HBL.out];exact hbc) hcm (fun hn a e hs=>by
    rcases hs with hs | hs
    · exact HAS.out a e hs
    · have h1:=HBV.out.size;have h2:=HAB.out (by rw[<-HBL.out];exact hn) a e;omega) (by rw[HBL.out];exact hneed)
   rw[HBL.out]at hc;obtain⟨r2,hr2⟩:∃r,acn (p+1) b r1.2=r:=⟨_,rfl⟩;have hok2:r2.2.wt.length<=60000/\r2.2.left<=9223372036854775807:=by
    have:=ake (p+1) b r1.2;rw[hr2,HBL.out]at this;omega
   rw[hr2]at hc ho;have HO2:=hE0 ho;have HC:=hE0 hc;clear hc hr2 e h0 ho HO;go_wp2_with fail
   rw[HPI.out];refine DS.two HT.out HC.out HT.out.size ?_;rintro e v3 rfl hR hT;have HR3:=hE0 hR;have HT3:=hE0 hT;clear hR hT HC HR HT;rcases agL r2.1 with⟨e,h0⟩ | ⟨e,h0⟩
   · rw[e];have ho:=HO2.out;rw[aaB h0]at ho;clear e h0 HO2;have HS3:=hE0 (HSUM.out v3 (HRD.out.tch HT3.out HAS.out));go_wp2_with fail
     refine HS3.out.mono ?_;rintro e v4 ⟨rfl,rfl⟩;go_wp2_with fail
     refine(HPUT.out v3).mono ?_;rintro e v4 ⟨b4,rfl,hb4,hf4,hbl4⟩;have hd3:∀j,adP S v1 v3 j->j<v3.heap.size:=by obtain⟨_,_,_,_,_,_,_,_,hs⟩:=HR3.out;exact hs
     have hc:=afg (HR3.out.below hbl4) hN2 (by omega) hok2.2 p (some ⟨b4,0,none⟩) 512 rec hf4.reads (by rw[HRL.out];omega) (by omega) (fun _ a e hs=>by
      injection e with e;have:=hd3 _ hs;rw[<-e]at this;exact absurd this (Nat.not_lt.2 hb4)) (by rw[HRL.out];unfold need;omega)
     rw[HRL.out]at hc;obtain⟨r3,hr3⟩:∃r,acn p rec r2.2=r:=⟨_,rfl⟩;rw[hr3]at hc ho;subst ho;have HC:=hE0 hc;have HB4:=hE0 hbl4;clear hc hr3 hd3 hb4 hf4 hbl4;go_wp2_with fail
     refine HC.out.mono ?_;rintro e v5 ⟨rfl,hR,hT⟩;have HF:=hE0 (StpD.via HT3.out HB4.out hR hT);clear hR hT HC;go_wp2
     go_ret
     exact StpD.from HBV.out rfl HF.out.1 HF.out.2
   · have HV:=hE0 e;have ho:=HO2.out;rw[abk h0]at ho;subst ho;rw[e];clear e h0 HO2;go_wp2_with fail
     go_ret
     exact StpD.from HBV.out (by rw[HV.out];rfl) HR3.out HT3.out
 · have HV:=hE0 e;have ho:=HO.out;rw[abk h0,abk h0]at ho;subst ho;rw[e];clear e h0 HO;go_wp2_with fail
   go_ret
   exact StpD.from HBV.out (by rw[HV.out];rfl) HR.out HT.out
end
theorem avm (b:List UInt8) (half:Nat) (a:Nat->List UInt8):(al5 b half a).G<=4611686018427387904:=by
 unfold al5;split
 · exact Nat.zero_le _
 · rename_i h;have h:acv b=true:=by cases e:acv b;exact absurd e h;rfl
   have:=(ar7 h).1;split
   · exact this
   · unfold ara;split<;>exact this
section
variable {N:Nat} {S:Nat->Prop} {w:World} {g:Nat} {s:Dst} {q ga base cap c:Nat} {A:Option Addr} {bs:List UInt8} {H:Hp}
theorem DS.gz{s:Dst}(h:DS N S w g s):∀j,S j->j<w.heap.size:=by
 obtain⟨_,_,_,_,_,_,_,_,hs⟩:=h;exact hs
theorem aqi (h:DS N S w g s) (half:Nat) (hh:N/2=half) (h1:1<=half) (hN2:N<=128) (ho:s.off=false) (hwt:s.wt.length<=1000) (hleft:s.left<=9223372036854775807) (x y:Sk) (hx:adp s.bs s.wt half 0=x) (hy:adp s.bs s.wt half 1=y) (hp:PH w q ga base cap A c bs H) (o:Nat × Dst) (hO:arS x y half (aaU bs.length (H.blks.map toR) (ofD bs H.blks)) s=o):
 Calls Tryz.prog 24 #[.pointer (some ⟨g,0,none⟩), .pointer (some ⟨q,0,none⟩)] w fun e w'=>StpD N S w g o e w':=by
 have HL:=hE0 (akc h half hh h1 hN2 ho x y hx hy);have hlen:=hp.len;have hm:=aj6 hp.rd.rt.walk hlen hp.rd.rt.nfree.2.1;have hGx:x.G<=4611686018427387904:=by rw[<-hx];exact avm _ _ _
 have hGy:y.G<=4611686018427387904:=by rw[<-hy];exact avm _ _ _
 obtain⟨hl,hdl,_⟩:=aqg hm;have hfl:=(aqX hm).1;have HAR:=hE0 (fun W (hW:Below w.heap.size w W)=>ahJ (hp.below hW));have HOF:=hE0 (fun W g' c' A' (ha:Ar W 195 g' base cap A' c' bs)=>atu W g' base cap c' A' bs H.blks ha hp.b62 hlen hp.rd.rt.chk hp.rd.rt.walk);have HPUT:=hE0 (fun W A1 A2 k1 k2 (hr:RkRd W W.heap.size A1 (H.blks.map toR)) (hd:DtRd W W.heap.size A2 (ofD bs H.blks))=>aqW W bs.length (by omega) A1 A2 k1 k2 (H.blks.map toR) (ofD bs H.blks) hr hd hl hdl (by omega) hm);unfold imV at HPUT;rw[List.length_map]at HPUT;obtain⟨b,hb⟩:=nmE (aaU bs.length (H.blks.map toR) (ofD bs H.blks));rw[hb]at HPUT hO;obtain⟨ll,hll⟩:=nmE H.blks.length;obtain⟨dl,hdl'⟩:∃dl,(ofD bs H.blks).length=dl:=⟨_,rfl⟩;obtain⟨nn,hnn⟩:=nmE bs.length;rw[hll,hdl',hnn]at HOF HPUT;have HOLD:=hE0 (fun W A1 c1 A2 c2 B1 k1 B2 k2=>anJ W x y A1 c1 A2 c2 B1 k1 B2 k2);unfold arV at HOLD;have HALF:=hE0 (fun W (hW:Below w.heap.size w W)=>agJ (h.below hW) hN2 half hh);obtain⟨M,hM⟩:=nmE (512*(half-1));have HROOM:=hE0 (fun W (hW:Below w.heap.size w W)=>akb (h.below hW) hN2 half M hh h1 hM);have HD:=hE0 h;obtain⟨m,hml⟩:=nmE b.length;rw[hml]at HPUT;have HM:=hE0 hml;obtain⟨tO,hto⟩:∃tO,(if agm x y=0 then 1 else 0)=tO:=⟨_,rfl⟩;obtain⟨p,hpp⟩:=nmE (tO*half);have hto1:tO<=1:=by rw[<-hto];split<;>omega
 have hp2:p+half<=N:=by
  rw[<-hpp];rcases Nat.le_one_iff_eq_zero_or_eq_one.1 hto1 with e | e<;>rw[e]<;>omega
 have hpi:(tO:Int)*(half:Int)=(p:Int):=by rw[<-hpp];exact(Int.natCast_mul tO half).symm
 unfold arS at hO;rw[hM,hto,hpp,hml]at hO;rw[hto]at HOLD;obtain⟨xG,xN,xS,xo,xn,xl,xd⟩:=x;obtain⟨yG,yN,yS,yo,yn,yl,yd⟩:=y;dsimp only at HOLD hO hGx hGy;obtain⟨G,hG⟩:=nmE (max xG yG);rw[hG]at hO;have HO:=hE0 hO;have HG:=hE0 hG;have hGl:G<=4611686018427387904:=by omega
 have hMM:=hE0 hM;have hpq:p<=128:=by omega
 have hhl:half<=64:=by omega
 clear h hx hy hp hlen hm hl hdl hfl hb hll hdl' hnn hto hpp hto1 hO hG hml hM hGx hGy hh ho;go_enter Tryz.func24,Tryz.ntmps24
 go_wp2_with fail
 refine HL.out.mono ?_;rintro e w1 ⟨A1,c1,A2,c2,B1,k1,B2,k2,rfl,_,_,hb1⟩;unfold arV;dsimp only;obtain⟨w2,ha2⟩:=nmE (w1.alloc (.cells #[.int .u64 0, .int .u64 0, .int .u32 0, .bool false, .int .i64 0, .slice none 0 0, .slice none 0 0, .int .u64 0, .int .u64 0, .int .u32 0, .bool false, .int .i64 0, .slice none 0 0, .slice none 0 0] 149));have n2:=anE ha2;have b2:=abE ha2;have N2:=hE0 n2;have HA2:=hE0 ha2;obtain⟨⟨pc0,pc1,pc2,pc3,pc4,pc5,pc6,pc7,pc8,pc9,pc10,pc11,pc12,pc13⟩,⟨pf0,pf1,pf2,pf3,pf4,pf5,pf6,pf7,pf8,pf9,pf10,pf11,pf12,pf13⟩,hlp⟩:=acb n2;obtain⟨w3,hp3,n3,b3,_,_⟩:=amy N2 (.int .u64 (xG:Int)) (.int .u64 (xN:Int)) (.int .u32 (xS:Int)) (.bool xo) (.int .i64 (xn:Int)) (.slice A1 xl.length c1) (.slice A2 xd.length c2);obtain⟨w4,hp4,n4,b4,_,_⟩:=amz n3 (.int .u64 (yG:Int)) (.int .u64 (yN:Int)) (.int .u32 (yS:Int)) (.bool yo) (.int .i64 (yn:Int)) (.slice B1 yl.length k1) (.slice B2 yd.length k2);have b14:=b4.out _ _ (Nat.le_refl _) (b3.out _ _ (Nat.le_refl _) b2);have HB4:=hE0 (hb1.trans (b14.mono hb1.size));clear ha2 b2 hb1 n2 b14 HL;go_wp2_with (first | (rw[HA2.out]) | (rw[hp3.out,hp4.out]) | fail)
 clear pc0 pc1 pc2 pc3 pc4 pc5 pc6 pc7 pc8 pc9 pc10 pc11 pc12 pc13 pf0 pf1 pf2 pf3 pf4 pf5 pf6 pf7 pf8 pf9 pf10 pf11 pf12 pf13 hlp;refine(HAR.out w4 HB4.out).mono ?_;rintro e w5 ⟨g5,A5,c5,rfl,ha5,hb5,_,_⟩;have HB5:=hE0 (HB4.out.trans (hb5.mono HB4.out.size));have n5:=hE0 ((hb5.block _ (aab n4.out)).trans n4.out);have HF5:=hE0 (HOF.out w5 g5 c5 A5 ha5);clear ha5 hb5 HAR HOF;go_wp2_with fail
 refine HF5.out.mono ?_;rintro e w6 ⟨I1,I2,i1,i2,rfl,hr6,hd6,hb6⟩;obtain⟨w7,ha7,m7,b7⟩:=ajo w6 107 (.int .i64 0) (.slice none 0 0) (.slice none 0 0);obtain⟨w8,hp8,m8,b8,⟨z0,z1,z2⟩,⟨e0,e1,e2⟩,hle⟩:=atH m7 (.int .i64 (nn:Int)) (.slice I1 ll i1) (.slice I2 dl i2);have hb68:=b8.out w6.heap.size w6 (Nat.le_refl _) b7.out;have hb58:=hb6.trans (hb68.mono hb6.size);have HB8:=hE0 (HB5.out.trans (hb58.mono HB5.out.size));have n8:=hE0 ((hb58.block _ (aab n5.out)).trans n5.out);have HP8:=hE0 (HPUT.out w8 I1 I2 i1 i2 ((hr6.below hb68).more hb68.size) ((hd6.below hb68).more hb68.size));obtain⟨⟨t0,t1,t2⟩,_,hlt⟩:=adO m8.out;clear hr6 hd6 hb6 hb68 hb58 HF5 HPUT;go_wp2_with (first | (rw[ha7.out]) | (rw[hp8.out]) | fail)
 clear z0 z1 z2 e0 e1 e2 hle t0 t1 t2 hlt;refine HP8.out.mono ?_;rintro e w9 ⟨A9,c9,rfl,o9,b9⟩;have HB9:=hE0 (HB8.out.trans (b9.mono HB8.out.size));have n9:=hE0 ((b9.block _ (aab n8.out)).trans n8.out);have hc9:=aoW o9;unfold maxLen at hc9;have HR9:=hE0 (acH o9);have HA9:Hid (∀a,A9=some a->¬S a.block):=(show ∀a,_->_ from fun a e hs=>by
  have h1:=HD.out.gz _ hs;have h2:=ajl o9 a.block (by rw[e];rfl);have h3:=HB8.out.size;omega)
 obtain⟨⟨qc0,qc1,qc2,qc3,qc4,qc5,qc6,qc7,qc8,qc9,qc10,qc11,qc12,qc13⟩,⟨qf0,qf1,qf2,qf3,qf4,qf5,qf6,qf7,qf8,qf9,qf10,qf11,qf12,qf13⟩,hlq⟩:=acb n9.out;clear o9 b9 HP8;have hmx:max (xG:Int) (yG:Int)=(G:Int):=by have:=HG.out;omega
 have ho:=HO.out;have HFIN:Hid (StpD N S w g (7,s) (.returned (aiO 7)) w9):=StpD.from HB9.out rfl ((HD.out.below HB9.out).grown (Tch.refl _ _)) (Tch.refl _ _);go_wp2_with fail
 refine(HROOM.out _ HB9.out).mono ?_;rintro e w10 ⟨rfl,rfl⟩;clear qc0 qc1 qc2 qc3 qc4 qc5 qc6 qc7 qc8 qc9 qc10 qc11 qc12 qc13 qf0 qf1 qf2 qf3 qf4 qf5 qf6 qf7 qf8 qf9 qf10 qf11 qf12 qf13 hlq;by_cases hfar:M<m\/4611686018427387904<=G
 · rw[if_pos hfar]at ho;subst ho;by_cases hf1:M<m
   · have g1:decide ((M:Int)<(m:Int))=true:=decide_eq_true (by omega);have g1':decide (M<m)=true:=decide_eq_true hf1;go_wp2_with fail
     go_ret
     exact HFIN.out
   · have g1:decide ((M:Int)<(m:Int))=false:=decide_eq_false (by omega);have g1':decide (M<m)=false:=decide_eq_false hf1;obtain rfl:G=4611686018427387904:=by omega
     go_wp2_with fail
     go_ret
     exact HFIN.out
 · rw[if_neg hfar]at ho;have g1:decide ((M:Int)<(m:Int))=false:=decide_eq_false (by omega);have g1':decide (M<m)=false:=decide_eq_false (by omega);have g2:((G:Int)==4611686018427387904)=false:=by rw[beq_eq_false_iff_ne];omega
   have hGl':G<4611686018427387904:=by omega
   have hmM:m<=M:=by omega
   have HO2:=hE0 ho;clear ho hfar HFIN HO;obtain⟨⟨qc0,qc1,qc2,qc3,qc4,qc5,qc6,qc7,qc8,qc9,qc10,qc11,qc12,qc13⟩,⟨qf0,qf1,qf2,qf3,qf4,qf5,qf6,qf7,qf8,qf9,qf10,qf11,qf12,qf13⟩,hlq⟩:=acb n9.out;go_wp2_with fail
   clear qc0 qc1 qc2 qc3 qc4 qc5 qc6 qc7 qc8 qc9 qc10 qc11 qc12 qc13 qf0 qf1 qf2 qf3 qf4 qf5 qf6 qf7 qf8 qf9 qf10 qf11 qf12 qf13 hlq;refine(HOLD.out _ A1 c1 A2 c2 B1 k1 B2 k2).mono ?_;rintro e w10 ⟨rfl,hb10⟩;have HB10:=hE0 (HB9.out.trans (hb10.mono HB9.out.size));have HR10:=hE0 ((HR9.out.below hb10).more hb10.size);clear hb10;go_wp2_with fail
   refine(HALF.out _ HB10.out).mono ?_;rintro e w11 ⟨rfl,rfl⟩;have hG1:((G:Int)+1)=((G+1:Nat):Int):=rfl;have HG1:=hE0 hG1;clear hG1;have HLAY:=hE0 (arW (HD.out.below HB10.out) hN2 (by omega) hleft p half hp2 A9 c9 b (by rw[HM.out];exact HR10.out) (by rw[HM.out];exact hc9.1) (by omega) HA9.out h1 (by rw[HM.out,hMM.out];exact hmM) G hGl');rw[HM.out,HO2.out]at HLAY;go_wp2_with fail
   rw[HG1.out];refine HLAY.out.mono ?_;rintro e w12 ⟨rfl,hR,hT⟩;have HF:=hE0 (StpD.from HB10.out rfl hR hT);clear hR hT HLAY;go_wp2
   go_ret
   exact HF.out
end
theorem aiK (p:Nat) (d:List UInt8) (hd:d.length=512):agf p d 1= [(p,d)]:=by
 have hp:age d 0=d:=by
  unfold age;rw[hd,Nat.zero_mul,List.drop_zero,List.take_of_length_le (by omega)];simp
 simp[agf,hp,List.range_succ]
theorem akf (n p:Nat) (b:List UInt8) (j:Nat) (h:(p+j)*512<=n):aoQ n (agf p b j):=by
 intro x hx;unfold agf at hx;obtain⟨i,hi,rfl⟩:=List.mem_map.1 hx;have:=List.mem_range.1 hi;exact⟨by dsimp only;omega,aek _ _⟩
section
variable {s:Dst}
theorem amA (h:akn s) (p:Nat) (d:List UInt8):(dwr s p d).2.wt=s.wt++ [(p,d)]/\(dwr s p d).2.bs=s.bs:=by
 unfold dwr;rw[if_neg (by rintro(e | e);· rw[h.1]at e;cases e
                          · have:=h.2;omega)]
 exact⟨rfl,rfl⟩
theorem aqj (h:akn s):(dfl s).2.bs=aej s.bs s.wt:=by
 unfold dfl;rw[if_neg (by rw[h.1];decide)]
theorem aqk (h:akn s) (p:Nat) (b:List UInt8):(ahN s p b).2.wt=s.wt++agf p b (need b.length)/\(ahN s p b).2.bs=s.bs:=by
 have e:wk (need b.length) s.left s.off=need b.length:=by unfold wk;rw[if_neg (by rw[h.1];decide),if_pos h.2]
 unfold ahN;rw[e];exact⟨rfl,rfl⟩
theorem arX (h:akn s) (hw:s.wt= []) (p:Nat) (b rec:List UInt8):(ady p b rec s).2.bs=aej (aej (aej s.bs [(p,List.replicate 512 0)]) (agf (p+1) b (need b.length))) [(p,rec)]:=by
 obtain⟨a1,h1⟩:=afW h p (List.replicate 512 0);obtain⟨a2,h2,e2⟩:=aeU h1;obtain⟨a3,h3⟩:=aka h2 (p+1) b;obtain⟨a4,h4,e4⟩:=aeU h3;obtain⟨a5,h5⟩:=afW h4 p rec;unfold ady;rw[aaB a1,aaB a2,aaB a3,aaB a4,aaB a5,aqj h5,(amA h4 _ _).1,(amA h4 _ _).2,e4,aqj h3,(aqk h2 _ _).1,(aqk h2 _ _).2,e2,aqj h1,(amA h _ _).1,(amA h _ _).2,hw];rfl
theorem ahO (h:akn s) (hw:s.wt= []) (p:Nat) (b rec:List UInt8) (hrec:rec.length=512) (hp:(p+1+need b.length)*512<=s.bs.length) (i:Nat):
 abv (ady p b rec s).2.bs [] i=if i=p then rec else if p+1<=i/\i<p+1+need b.length then age b (i-(p+1)) else abv s.bs [] i:=by
 have e1:∀d:List UInt8,d.length=512->aoQ s.bs.length [(p,d)]:=fun d hd=>by rw[<-aiK p d hd];exact akf _ _ _ _ (by omega)
 have hz:(List.replicate 512 (0:UInt8)).length=512:=List.length_replicate;have l1:=abR _ _ (e1 _ hz);have e2:aoQ s.bs.length (agf (p+1) b (need b.length)):=akf _ _ _ _ hp;have l2:=abR (agf (p+1) b (need b.length)) (aej s.bs [(p,List.replicate 512 0)]) (by rw[l1];exact e2);rw[arX h hw,ael _ _ _ (by rw[l2,l1];exact e1 _ hrec),<-aiK p rec hrec,ac6,ael _ _ _ (by rw[l1];exact e2),ac6,ael _ _ _ (e1 _ hz),<-aiK p _ hz,ac6];by_cases hi:i=p
 · subst hi;rw[if_pos (by omega),if_pos rfl];unfold age;rw[hrec,Nat.sub_self,Nat.zero_mul,List.drop_zero,List.take_of_length_le (by omega)];simp
 · rw[if_neg (by omega),if_neg hi];split
   · rfl
   · rw[if_neg (by omega)]
theorem anL (h:akn s) (hw:s.wt= []) (half k G:Nat) (n:Nat) (l:List Rk) (d:List (List UInt8)) (hm:aea (n:Int) l d=true) (b:List UInt8) (hb:aaU n l d=b) (hfit:b.length<=512*(half-1)) (h1:1<=half) (hl:(k*half+half)*512<=s.bs.length) (hG:1<=G/\G<=4611686018427387904) (h64:half<=64):
 adp (ady (k*half) b (abG G b.length (abS 0 b)) s).2.bs [] half k=⟨G,b.length,abS 0 b,true,n,l,d⟩:=by
 have hok:akl G b.length=true:=by unfold akl;simp only[Bool.and_eq_true,decide_eq_true_eq];omega
 obtain⟨p1,p2,p3,p4⟩:=aoL hok (ad2 0 b);obtain⟨-,f1,f2,f3⟩:=aid p1;obtain⟨p,hp⟩:=nmE (k*half);rw[hp]at hl ⊢;have hn:need b.length<=half-1:=by unfold need;omega
 have hlast:=ahO h hw p b (abG G b.length (abS 0 b)) (adN _ _ _) (by omega);unfold adp al5;rw[hp,hlast p,if_pos rfl,if_neg (by rw[p1];decide),<-f1,<-f2,<-f3,p2,p3,p4,if_neg (by omega)];have hr:adn (ady p b (abG G b.length (abS 0 b)) s).2.bs [] (p+1) (need b.length)=aeK b (need b.length):=by
  rw[<-am4 s.bs (p+1) b (need b.length)];refine agj _ _ fun i hi=> ?_;rw[hlast,if_neg (by omega),if_pos (by omega),ac6,if_pos (by omega)]
 dsimp only;rw[hr,akM b _ rfl];have hg:=(akP hm).got;rw[hb]at hg;rw[hg];unfold ara;rw[if_pos ⟨rfl,rfl⟩]
theorem aly (h:akn s) (hw:s.wt= []) (half k j:Nat) (b rec:List UInt8) (hrec:rec.length=512) (hkj:j*half+half<=k*half\/k*half+half<=j*half) (h1:1<=half) (hfit:b.length<=512*(half-1)) (hl:(k*half+half)*512<=s.bs.length):
 adp (ady (k*half) b rec s).2.bs [] half j=adp s.bs [] half j:=by
 have hn:need b.length<=half-1:=by unfold need;omega
 have hlast:=ahO h hw (k*half) b rec hrec (by omega);have e0:abv (ady (k*half) b rec s).2.bs [] (j*half)=abv s.bs [] (j*half):=by rw[hlast,if_neg (by omega),if_neg (by omega)]
 unfold adp;rw[e0];unfold al5;split
 · rfl
 split
 · rfl
 · rename_i hq;dsimp only;have hq':need (slN (abv s.bs [] (j*half)))<=half-1:=by unfold need;omega
   rw[agj (bs:=(ady (k*half) b rec s).2.bs) (bs':=s.bs) (l:= []) (l':= []) (j*half+1) (need (slN (abv s.bs [] (j*half)))) fun i hi=>(by rw[hlast,if_neg (by omega),if_neg (by omega)])]
end
theorem alz (n i:Nat) (hi:i*512+512<=n):abv (List.replicate n 0) [] i=List.replicate 512 0:=by
 show((List.replicate n (0:UInt8)).drop (i*512)).take 512=_;rw[List.drop_replicate,List.take_replicate];congr 1;omega
theorem agM (n half k:Nat) (hk:k*half*512+512<=n):adp (List.replicate n 0) [] half k=aqt:=by
 unfold adp al5;rw[alz _ _ hk,if_pos akH]
section
variable {N:Nat} {S:Nat->Prop} {w w':World} {g:Nat} {s:Dst}
theorem DS.made{h c:Nat}{bs:List UInt8}(k:Dk (adP (fun _=>False) w w') w' g h c none 0 bs [] (-1) false) (hl:bs.length=512*N):DS N (adP (fun _=>False) w w') w' g ⟨bs,[],-1,false⟩:=
 ⟨h,c,none,0,[],k,rfl,hl,fun j hj=>by rcases hj with h | h;exact h.elim;exact h.2⟩
end
theorem alA{n:Int}{l:List Rk}{d:List (List UInt8)}{out:List UInt8}(h:aea n l d=true) (ho:alw n l d=some out):∃N:Nat,n=(N:Int)/\184<=N/\N<=16384/\ab8 out=true/\abA out=some (l.map toB)/\out.length=N/\ofD out (l.map toB)=d/\l=(l.map toB).map toR:=by
 have hlo:abT n=true:=by unfold aea at h;rw[Bool.and_eq_true]at h;exact h.1
 have hlB:=(aaR n).1 hlo;obtain⟨N,rfl⟩:∃N:Nat,n=(N:Int):=⟨n.toNat,by omega⟩;have hrow:abc (N:Int) 184 false l=true:=by unfold aea at h;simp only[Bool.and_eq_true]at h;exact h.2.1
 obtain⟨out',_,_,hre,h1,h2,h3,h4⟩:=ahK h;unfold alw at ho;rw[Int.toNat_natCast,hre]at ho;injection ho with ho;subst ho;exact⟨N,rfl,by omega,by omega,h1,h2,h3,h4,(afU (o:=184) hrow).2.1⟩
theorem avi (x:Bk):toB (toR x)=x:=by
 unfold toB toR;simp
theorem aut (l:List Bk):(l.map toR).map toB=l:=by
 rw[List.map_map];exact(List.map_congr_left fun x _=>avi x).trans (List.map_id l)
theorem aql{out:List UInt8}{H:Hp}(h:RtD out H){s:Nat}(hb:H.blks= [⟨184,s,true⟩]) (hc:H.cap<=16384):out.length=184+s/\aea ((184+s:Nat):Int) (H.blks.map toR) (ofD out H.blks)=true/\(aaU out.length (H.blks.map toR) (ofD out H.blks)).length<=48+s:=by
 have hl:=h.rt.lenE;have hle:=h.rt.bound hc;rw[hb]at hl;have hl:out.length=184+s:=by
  rw[<-hl];unfold lenB;simp[aa7]
 have hm:=aj6 h.rt.walk hle.1 h.rt.nfree.2.1;refine⟨hl,by rw[<-hl];exact hm,?_⟩;unfold aea at hm;simp only[Bool.and_eq_true]at hm;have hf:=afL hm.2.1 hm.2.2;rw[ahh,List.length_map,hb];rw[hb]at hf;simp only[List.length_cons,List.length_nil];omega
theorem auu{bs:List UInt8}{H:Hp}(h:RtD bs H){n s:Nat}(x:UInt8) (hs:abW n=some s) (hz:aaD (s:Int)=true) (hr:s+aeX H.blks<=H.cap):(H.get n x).1.2=0:=by
 have hr':=h.rt.room (s:=s) hz;rw[decide_eq_true hr,Bool.or_true]at hr'
 cases hq:(H.take s).1 with
 | none=>rw[hq]at hr';cases hr'
 | some o=>unfold Hp.get;rw[hs];dsimp only;rw[hq]
theorem asl{H:Hp}{s:Nat}(hb:H.blks= [⟨184,s,true⟩]):H.handleB 192=some 0:=by
 unfold Hp.handleB aaY;rw[hb];rfl
theorem auv{out:List UInt8}{H:Hp}(h:RtD out H){s:Nat}(hb:H.blks= [⟨184,s,true⟩]):∃d,H.ds= [d]/\ofD out H.blks= [d.2]:=by
 have hl:=h.dl;unfold Hp.Dl at hl;rw[hb]at hl;obtain⟨d,hd⟩:=List.length_eq_one_iff.1 hl;refine⟨d,hd,?_⟩;rw[amt h,hb,hd];rfl
theorem arY{H:Hp}{s:Nat}(hb:H.blks= [⟨184,s,true⟩]):(H.give 0).blks= [⟨184,s,false⟩]/\(H.give 0).cap=H.cap:=by
 obtain⟨cap,blks,ds,lists⟩:=H;dsimp only at hb;subst hb;exact⟨rfl,rfl⟩
def up19A:Hp:=((aed 1024).get 100 165).2
def up19B:Hp:=(up19A.writeP 192 0 [1,2,3]).2
theorem up19_1:((aed 1024).doC 1 0 100 0 0 [])=(⟨0,192,0,[],St5.none⟩,up19A):=by
 rw[als];exact Prod.ext (by kernel_rfl) rfl
theorem auw:(up19A.doC 7 192 0 0 0 [1,2,3])=(Rp.err 0,up19B):=by
 rw[arO];exact Prod.ext (by kernel_rfl) rfl
theorem aux:up19B.blks= [⟨184,128,true⟩]/\up19B.cap=1024:=by
 constructor<;>kernel_rfl
theorem auy{out:List UInt8}(h:RtD out up19B):ofD out up19B.blks= [1::2::3::List.replicate 109 165]:=by
 rw[amt h];kernel_rfl
theorem auz{out:List UInt8}{H:Hp}(h:RtD out H) (hb:H.blks= [⟨184,128,true⟩]) (hd:ofD out H.blks= [1::2::3::List.replicate 109 165]):H.doC 6 192 4 0 0 []=(⟨0,0,0,[1,2,3,165],St5.none⟩,H):=by
 obtain⟨d,e1,e2⟩:=auv h hb;rw[hd]at e2;have e3:1::2::3::List.replicate 109 165=d.2:=(List.cons.inj e2).1;rw[arN];unfold Hp.readP;rw[asl hb,e1];dsimp only;rw[show([d].getD 0 aco)=d from rfl,<-e3];rfl
section
variable {B:Nat} {w w':World} {q g base cap c:Nat} {A:Option Addr} {bs:List UInt8} {H:Hp}
theorem Hv.do4_ (h:Hv B w q g base cap A c bs H) (hB:B<=w.heap.size) (hE:ET w) (h0:0<B) (op:Nat) (hop:op<9) (p n m a bl k:Nat) (V:Option Addr) (b:List UInt8) (hp:p<18446744073709551616) (hn:n<18446744073709551616) (hm:m<18446744073709551616) (ha:a<18446744073709551616) (hbl:b.length=bl) (hr:Rd w w.heap.size V b.length b) (hb6:bl<=1000000) (r:Rp × Hp) (hd:H.doC (op:Int) p n m a b=r):
 Calls Tryz.prog 20 #[.pointer (some ⟨q,0,none⟩),abj (op:Int) p n m a V bl k] w fun e w'=>ada r.1 w e w'/\∃A' c' bs',Hv B w' q g base cap A' c' bs' r.2/\Tch (foot g A) w w'/\Below B w w'/\(A'=A\/∀a,A'=some a->w.heap.size<=a.block):=by
 have hc:r.2.cap=cap:=by rw[<-hd];exact(atz hop).trans h.ph.cp
 refine(aty h.ph hE (fun hf=>absurd (h.fB hf) (by omega)) op hop p n m a bl k V b hp hn hm ha hbl hr hb6).mono ?_;rintro e w' ⟨h1,h2⟩;rw[hd]at h1 h2;obtain⟨A',c',bs',hv,t,h3⟩:=h.turn hB h2 hc;exact⟨h1,A',c',bs',hv,t,h.low hB t,h3⟩
theorem Hv.do_ (h:Hv B w q g base cap A c bs H) (hB:B<=w.heap.size) (hE:ET w) (h0:0<B) (op:Nat) (hop:op<9) (p n m a bl k:Nat) (V:Option Addr) (b:List UInt8) (hp:p<18446744073709551616) (hn:n<18446744073709551616) (hm:m<18446744073709551616) (ha:a<18446744073709551616) (hbl:b.length=bl) (hr:Rd w w.heap.size V b.length b) (hb6:bl<=1000000) (r:Rp × Hp) (hd:H.doC (op:Int) p n m a b=r):
 Calls Tryz.prog 20 #[.pointer (some ⟨q,0,none⟩),abj (op:Int) p n m a V bl k] w fun e w'=>ada r.1 w e w'/\∃A' c' bs',Hv B w' q g base cap A' c' bs' r.2/\Tch (foot g A) w w'/\Below B w w':=
 (h.do4_ hB hE h0 op hop p n m a bl k V b hp hn hm ha hbl hr hb6 r hd).mono fun _ _ ⟨h1,A',c',bs',h2,h3,h4,_⟩=>⟨h1,A',c',bs',h2,h3,h4⟩
end
def Hp.Has (H:Hp) (p:Nat) (b:List UInt8):Prop:=∃j x d,H.At j x d/\x.used=true/\p=x.off+8/\b=d.2
section
variable {bs out:List UInt8} {H H':Hp} {p q i s:Nat} {b b':List UInt8}
theorem Hp.Ok.one (h:H.Ok):H.One:=fun a c x y ha hc e=>by
 have hpw:=List.pairwise_iff_getElem.1 (adi _ _ _ h.tl);have e1:H.blks[a]'(aaG ha)=x:=by have:=List.getElem?_eq_getElem (aaG ha);rw[ha]at this;exact(Option.some.inj this).symm
 have e2:H.blks[c]'(aaG hc)=y:=by have:=List.getElem?_eq_getElem (aaG hc);rw[hc]at this;exact(Option.some.inj this).symm
 rcases Nat.lt_trichotomy a c with h' | h' | h'
 · exact absurd (by rw[e1,e2];exact e) (hpw a c (aaG ha) (aaG hc) h')
 · exact h'
 · exact absurd (by rw[e1,e2];exact e.symm) (hpw c a (aaG hc) (aaG ha) h')
theorem auA (h:H.One){j k:Nat}{x y:Bk}{d d':Dt}(h1:H.At j x d) (h2:H.At k y d') (e:x.off=y.off):j=k/\x=y/\d=d':=by
 obtain rfl:=h j k x y h1.1 h2.1 e;exact⟨rfl,Option.some.inj (h1.1.symm.trans h2.1),Option.some.inj (h1.2.symm.trans h2.2)⟩
theorem Hp.Has.uniq (h:H.One) (h1:H.Has p b) (h2:H.Has p b'):b=b':=by
 obtain⟨j,x,d,a1,_,e1,rfl⟩:=h1;obtain⟨k,y,d',a2,_,e2,rfl⟩:=h2;rw[(auA h a1 a2 (by omega)).2.2]
theorem akg (h:H.Dl){x:Bk}(hx:x∈H.blks):∃j d,H.At j x d:=by
 obtain⟨j,hj⟩:=List.mem_iff_getElem?.1 hx;have h:H.ds.length=H.blks.length:=h;have:j<H.ds.length:=by rw[h];exact aaG hj
 exact⟨j,_,hj,List.getElem?_eq_getElem this⟩
theorem Hp.Has.handle (h:RtD bs H) (hc:H.cap<=16384) (h1:H.Has p b):∃i,H.handleB p=some i/\(H.ds.getD i aco).2=b:=by
 obtain⟨j,x,d,a1,u,rfl,rfl⟩:=h1;have hm:=List.mem_of_getElem? a1.1;have h2:=h.rt.sz hm;have h3:=h.rt.len;obtain⟨i,hi,hil,hb⟩:=ama (aaj h.rt.walk).2.1 hm;have hx:H.blks[i]?=some x:=by rw[<-hb];exact aar hil
 obtain rfl:=h.rt.one i j x x hx a1.1 rfl;refine⟨i,?_,by rw[List.getD_eq_getElem?_getD,a1.2];rfl⟩;unfold Hp.handleB aaY;rw[if_neg (by omega),show((x.off+8:Nat):Int)-8=(x.off:Int) by omega,hi];dsimp only;rw[hb,if_pos u]
theorem aqm (hd:H.Dl) (hh:H.handleB p=some i):∃x d,H.At i x d/\x.used=true/\p=x.off+8/\H.ds.getD i aco=d/\aam H.blks i=x:=by
 obtain⟨h8,_,hu⟩:=aep hh;obtain⟨h1,h2,h3⟩:=acL hu;have hd:H.ds.length=H.blks.length:=hd;have hl:i<H.ds.length:=by rw[hd];exact h1
 exact⟨aam H.blks i,H.ds[i],⟨aar h1,List.getElem?_eq_getElem hl⟩,h3,by omega,by rw[List.getD_eq_getElem?_getD,List.getElem?_eq_getElem hl];rfl,rfl⟩
theorem Hp.Has.both (h1:H.One) (hd:H'.Dl){P:Nat->List UInt8->Prop}(fwd:∀p b,H'.Has p b->P p b\/H.Has p b){x:Bk}{d:Dt}{j:Nat}(ha:H.At j x d) (hu:x.used=true) (hx:x∈H'.blks) (hP:∀b,¬P (x.off+8) b):H'.Has (x.off+8) d.2:=by
 obtain⟨k,d',a'⟩:=akg hd hx;have e:H'.Has (x.off+8) d'.2:=⟨k,x,d',a',hu,rfl,rfl⟩;rcases fwd _ _ e with h | h
 · exact absurd h (hP _)
 · have:=Hp.Has.uniq h1 h ⟨j,x,d,ha,hu,rfl,rfl⟩;rw[<-this];exact e
theorem arZ (h:RtD bs H) (hh:H.handleB q=some i):∀p b,(H.give i).Has p b ↔ H.Has p b/\p≠q:=by
 obtain⟨x,d,ax,ux,ex,_,ebk⟩:=aqm h.dl hh;have hil:=aaG ax.1;have fwd:∀p b,(H.give i).Has p b->H.Has p b/\p≠q:=fun p b hb=>by
  obtain⟨j,y,e,ay,uy,ey,rfl⟩:=hb;obtain⟨j',hne,a'⟩:=ait hil ay uy;exact⟨⟨j',y,e,a',uy,ey,rfl⟩,fun e'=>hne (auA h.rt.one a' ax (by omega)).1⟩
 refine fun p b=>⟨fwd p b,fun⟨hb,hne⟩=> ?_⟩;obtain⟨j,y,e,ay,uy,rfl,rfl⟩:=hb;refine Hp.Has.both (P:=fun _ _=>False) h.rt.one h.dl.give (fun p b hb=> .inr (fwd p b hb).1) ay uy (ais hil (List.mem_of_getElem? ay.1) uy fun e'=>hne ?_) (fun _=>id);rw[e',ebk];exact ex.symm
theorem aqn (h:RtD bs H) (hc:H.cap<=16384) (n:Nat) (v:UInt8) (h':RtD out (H.get n v).2) (hc':(H.get n v).2.cap<=16384):
 ((H.get n v).1=(0,5)/\(H.get n v).2=H)\/∃p m,(H.get n v).1=(p,0)/\n<=m/\m<n+48/\p≠0/\(∀b,¬H.Has p b)/\(H.get n v).2.Has p (List.replicate m v)/\∀p' b',(H.get n v).2.Has p' b' ↔ (p'=p/\b'=List.replicate m v)\/H.Has p' b':=by
 unfold Hp.get at h' hc' ⊢
 cases hs:abW n with
 | none=>exact .inl ⟨rfl,rfl⟩
 | some s=>
  rw[hs]at h' hc';dsimp only at h' hc' ⊢;have hsz:=acM hs
  cases hq:(H.take s).1 with
  | none=>exact .inl ⟨rfl,rfl⟩
  | some o=>
   right;rw[hq]at h' hc';dsimp only at h' hc' ⊢;obtain⟨y,y1,y2,y3,y4,y5,y6⟩:=h.rt.what hsz hq;have hok:=(h.rt.ok hc h.dl).take hc hsz;have hone:=hok.one;have hdl:(H.take s).2.Dl:=h.dl.take;have hfr:=fun j hj=>by obtain⟨a,_,c⟩:=h.rt.found (s:=s) (i:=j) hsz hj;exact(⟨a,c⟩:j<H.blks.length/\(aam H.blks j).used=false)
   obtain⟨k,dk,ak⟩:=akg hdl y1;obtain⟨i,hi,hil,hb⟩:=ama hok.tl y1;rw[y2]at hi;have hiy:(H.take s).2.blks[i]?=some y:=by rw[<-hb];exact aar hil
   obtain rfl:=hone i k y y hiy ak.1 rfl;rw[hi]at h' hc' ⊢;dsimp only at h' hc' ⊢;have hdl':(H.take s).2.ds.length=(H.take s).2.blks.length:=hdl;have ebl:(((H.take s).2.wipe i).fill i v).blks=(H.take s).2.blks:=rfl;have eds:(((H.take s).2.wipe i).fill i v).ds=((H.take s).2.ds.set i aco).set i (.slice none 0 0,List.replicate (y.size-16) v):=by
    show((H.take s).2.ds.set i aco).set i (.slice none 0 0,agW ((((H.take s).2.wipe i)).ds.getD i aco).2 ((aam (H.take s).2.blks i).size-16) v)=_;rw[ajI,hb];unfold agW;simp
   have hss:=(aac _).1 hsz;have hn:n+16<=s/\s<=n+32:=by
    unfold abW at hs;split at hs
    · injection hs with hs;omega
    · cases hs
   have hnot:∀b,¬H.Has (o+8) b:=fun b hb=>by
    obtain⟨j,x,d,a,u,e,rfl⟩:=hb;have h1:=y6 x (List.mem_of_getElem? a.1) u;have h2:=h.rt.sz (List.mem_of_getElem? a.1);omega
   have hnew:(((H.take s).2.wipe i).fill i v).Has (o+8) (List.replicate (y.size-16) v):=
    ⟨i,y,(.slice none 0 0,List.replicate (y.size-16) v),⟨hiy,by rw[eds,List.getElem?_set_self (by rw[List.length_set,hdl'];exact hil)]⟩,y3,by rw[y2],rfl⟩
   have fwd:∀p' b',(((H.take s).2.wipe i).fill i v).Has p' b'->(p'=o+8/\b'=List.replicate (y.size-16) v)\/H.Has p' b':=fun p' b' hb'=>by
    obtain⟨j,x,d,a,u,rfl,rfl⟩:=hb';by_cases e:j=i
    · left;subst e;have e1:x=y:=Option.some.inj ((show(H.take s).2.blks[j]?=some x from a.1).symm.trans hiy);subst e1;exact⟨by rw[y2],Hp.Has.uniq h'.rt.one ⟨j,x,d,a,u,rfl,rfl⟩ (by rw[y2];exact hnew)⟩
    · right;have a2:=a.2;rw[eds,List.getElem?_set_ne (fun e'=>e e'.symm),List.getElem?_set_ne (fun e'=>e e'.symm)]at a2;rcases aiu h.dl hfr ⟨a.1,a2⟩ u with e' | ⟨j',b'⟩
      · rw[hq]at e';injection e' with e';exact absurd (hone j i x y a.1 hiy (by omega)) e
      · exact⟨j',x,d,b',u,rfl,rfl⟩
   refine⟨o+8,y.size-16,rfl,by omega,by omega,by omega,hnot,hnew,fun p' b'=>⟨fwd p' b',fun hb'=> ?_⟩⟩;rcases hb' with⟨rfl,rfl⟩ | hb'
   · exact hnew
   · have hne:∀b,¬(p'=o+8/\b=List.replicate (y.size-16) v):=fun b e=>hnot b' (by rw[<-e.1];exact hb');obtain⟨j,x,d,a,u,rfl,rfl⟩:=hb';exact Hp.Has.both (P:=fun p b=>p=o+8/\b=List.replicate (y.size-16) v) h.rt.one h'.dl fwd a u (afQ (by rw[h.rt.lenE];exact(aaj h.rt.walk).2.1) hsz hfr (List.mem_of_getElem? a.1) u) hne
end
section
variable {bs out:List UInt8} {H H':Hp} {p q i s:Nat} {b b':List UInt8} {l:List (Nat × List UInt8)}
end
def abq:List Bk->Nat
 | []=>0
 | x::r=>if x.used=true then abq r else max x.size (abq r)
theorem ahP (x:Bk):∀l:List Bk,abq (l++ [x])=if x.used=true then abq l else max (abq l) x.size
 | []=>by
  show abq [x]=_;unfold abq;split
  · rfl
  · show max x.size 0=max 0 x.size;omega
 | y::r=>by
  show(if y.used=true then abq (r++ [x]) else max y.size (abq (r++ [x])))=_;rw[ahP x r];show _=if x.used=true then (if y.used=true then abq r else max y.size (abq r)) else max (if y.used=true then abq r else max y.size (abq r)) x.size
  split<;>split<;>omega
theorem anM{l:List Bk}{j:Nat}{x:Bk}(hx:l[j]?=some x):abq (l.take (j+1))=if x.used=true then abq (l.take j) else max (abq (l.take j)) x.size:=by
 have e:l.take (j+1)=l.take j++ [x]:=by
  rw[List.take_add_one,hx];rfl
 rw[e,ahP]
theorem akh (s:Nat) (hs:0<s):∀l:List Bk,(l.any fun x=> !x.used&&decide (s<=x.size))=decide (s<=abq l)
 | []=>by
  show false=decide (s<=0);exact(decide_eq_false (by omega)).symm
 | x::r=>by
  rw[List.any_cons,akh s hs r];show _=decide (s<=if x.used=true then abq r else max x.size (abq r))
  cases hu:x.used with
  | true=>rw[if_pos rfl];simp
  | false=>
   rw[if_neg Bool.false_ne_true];have e:decide (s<=max x.size (abq r))=(decide (s<=x.size) || decide (s<=abq r)):=by
    rw[<-Bool.decide_or];exact decide_eq_decide.2 (by omega)
   rw[e];simp
theorem agN:∀l:List Bk,(∀x∈l,x.size<=16384)->abq l<=16384
 | [],_=>Nat.zero_le _
 | x::r,hx=>by
  have h1:=hx x (List.mem_cons_self ..);have h2:=agN r fun y hy=>hx y (List.mem_cons_of_mem _ hy);unfold abq;split<;>omega
section
variable {bs out:List UInt8} {H H':Hp} {s n:Nat}
theorem amB (h:RtD bs H) (_hc:H.cap<=16384):abq H.blks<=16384/\aeX H.blks<=H.cap/\184<=aeX H.blks:=by
 refine⟨?_,?_⟩
 · have key:∀l:List Bk,(∀x∈l,x.size<=16384)->abq l<=16384:=by
    intro l;induction l with
    | nil=>intro _;exact Nat.zero_le _
    | cons x r ih=>
     intro hx;have h1:=hx x (List.mem_cons_self ..);have h2:=ih fun y hy=>hx y (List.mem_cons_of_mem _ hy);unfold abq;split<;>omega
   exact key _ fun x hx=>(h.rt.sz hx).2.2.1
 · have h1:=ajF (l:=H.blks) (by rw[h.rt.lenE];exact(aaj h.rt.walk).2.1) h.rt.nfree.2.1;have h2:=h.rt.lenE;have h3:=h.rt.len;have key:∀(l:List Bk) (e:Nat),184<=e->(∀x∈l,184<=x.off)->184<=l.foldl (fun e x=>if x.used=true then x.off+x.size else e) e:=by
    intro l;induction l with
    | nil=>intro e he _;exact he
    | cons x r ih=>
     intro e he hx;rw[List.foldl_cons];refine ih _ ?_ fun y hy=>hx y (List.mem_cons_of_mem _ hy);have:=hx x (List.mem_cons_self ..);split<;>omega
   have h4:=key H.blks 184 (Nat.le_refl _) fun x hx=>(h.rt.sz hx).1;unfold aeX at h1 ⊢;omega
theorem amC (h:RtD bs H) (hc:H.cap<=16384) (n:Nat) (v:UInt8):
 ((H.get n v).1.2=0->n<=16368/\n+16<=max (abq H.blks) (H.cap-aeX H.blks))/\((H.get n v).1.2≠0->(H.get n v).1.2=5/\¬(n<=16384/\n+32<=max (abq H.blks) (H.cap-aeX H.blks))):=by
 obtain⟨m1,m2,m3⟩:=amB h hc;unfold Hp.get
 cases hs:abW n with
 | none=>
  refine⟨fun e=>(by dsimp only at e;omega),fun _=>⟨rfl,fun⟨e1,e2⟩=> ?_⟩⟩;unfold abW at hs;split at hs
  · cases hs
  · omega
 | some s=>
  have hsz:=acM hs;have hr:=h.rt.room hsz;have hss:=(aac _).1 hsz;rw[akh s (by omega)]at hr;have hn:n+16<=s/\s<=n+32:=by
   unfold abW at hs;split at hs
   · injection hs with hs;omega
   · cases hs
  dsimp only
  cases hq:(H.take s).1 with
  | none=>
   rw[hq]at hr;refine⟨fun e=>(by dsimp only at e;omega),fun _=>⟨rfl,fun⟨e1,e2⟩=> ?_⟩⟩;have hr:false=(decide (s<=abq H.blks) || decide (s+aeX H.blks<=H.cap)):=hr;have:=(Bool.or_eq_false_iff).1 hr.symm;have a1:=of_decide_eq_false this.1;have a2:=of_decide_eq_false this.2;omega
  | some o=>
   rw[hq]at hr;refine⟨fun _=> ?_,fun e=>absurd rfl e⟩;have hr:true=(decide (s<=abq H.blks) || decide (s+aeX H.blks<=H.cap)):=hr;have hr2:=hr.symm;rw[Bool.or_eq_true]at hr2;rcases hr2 with a | a
   · have:=of_decide_eq_true a;omega
   · have:=of_decide_eq_true a;omega
theorem amD (h:RtD bs H) (hno:∀p b,¬H.Has p b):∀x∈H.blks,x.used=false:=fun x hx=>by
 cases hu:x.used with
 | false=>rfl
 | true=>
  obtain⟨j,d,a⟩:=akg h.dl hx;exact absurd ⟨j,x,d,a,hu,rfl,rfl⟩ (hno (x.off+8) d.2)
theorem anN:∀l:List Bk,adx l=true->(∀x∈l,x.used=false)->l.length<=1
 | [],_,_=>Nat.zero_le _
 | [_],_,_=>Nat.le_refl _
 | x::y::r,h,hf=>by
  have h1:=hf x (List.mem_cons_self ..);have h2:=hf y (List.mem_cons_of_mem _ (List.mem_cons_self ..));unfold adx at h;have h3:=List.all_eq_true.1 h 1 (List.mem_range.2 (by simp));unfold ac2 ac1 at h3;simp[h1,h2]at h3
theorem ahQ:∀l:List Bk,(∀x∈l,x.used=false)->(aaS l).1=0/\(aaS l).2.1=l.length
 | [],_=>⟨rfl,rfl⟩
 | x::r,hf=>by
  have h1:=hf x (List.mem_cons_self ..);obtain⟨h2,h3⟩:=ahQ r fun y hy=>hf y (List.mem_cons_of_mem _ hy);unfold aaS;rw[h1,if_neg (by decide)];exact⟨h2,by rw[List.length_cons,<-h3]⟩
theorem afh (h:RtD bs H) (hno:∀p b,¬H.Has p b):H.stats.used=0/\H.stats.free<=1:=by
 have hf:=amD h hno;obtain⟨h1,h2⟩:=ahQ _ hf;exact⟨h1,by show(aaS H.blks).2.1<=1;rw[h2];exact anN _ h.rt.nfree.2.1 hf⟩
theorem aki:∀(l:List Bk) (e:Nat),(∀x∈l,x.used=false)->l.foldl (fun e x=>if x.used=true then x.off+x.size else e) e=e
 | [],_,_=>rfl
 | x::r,e,hf=>by
  rw[List.foldl_cons,if_neg (by rw[hf x (List.mem_cons_self ..)];decide)];exact aki r e fun y hy=>hf y (List.mem_cons_of_mem _ hy)
theorem akj:∀(l:List Bk) (z:Bk),z∈l->z.used=true->l.Pairwise (fun x y=>x.off≠y.off)->(∀x∈l,x.used=true->x.off=z.off)->(aaS l).2.2=z.size-16
 | x::r,z,hz,hu,hp,ho=>by
  have hpr:=List.pairwise_cons.1 hp;rcases List.mem_cons.1 hz with e | hz'
  · subst e;have hr:∀y∈r,y.used=false:=fun y hy=>by
     cases hy2:y.used with
     | false=>rfl
     | true=>exact absurd (ho y (List.mem_cons_of_mem _ hy) hy2).symm (hpr.1 y hy)
    unfold aaS;rw[if_pos hu];have key:∀q:List Bk,(∀y∈q,y.used=false)->(aaS q).2.2=0:=by
     intro q;induction q with
     | nil=>intro _;rfl
     | cons y q ih=>
      intro hq;unfold aaS;rw[hq y (List.mem_cons_self ..),if_neg (by decide)];exact ih fun u hu=>hq u (List.mem_cons_of_mem _ hu)
    show(aaS r).2.2+(z.size-16)=z.size-16;rw[key r hr,Nat.zero_add]
  · have hx:x.used=false:=by
     cases hx:x.used with
     | false=>rfl
     | true=>exact absurd (ho x (List.mem_cons_self ..) hx) (hpr.1 z hz')
    unfold aaS;rw[hx,if_neg (by decide)];exact akj r z hz' hu hpr.2 fun y hy h=>ho y (List.mem_cons_of_mem _ hy) h
theorem aqo (h:RtD bs H) (hc:H.cap<=16384) (hc1:1024<=H.cap) (hno:∀p b,¬H.Has p b) (v:UInt8){m:Nat}(hm:(H.cap-184)/16*16-16=m) (h':RtD out (H.get m v).2) (hc':(H.get m v).2.cap=H.cap):
 (H.get m v).1.2=0/\(H.get m v).2.stats.bytes=m:=by
 have hf:=amD h hno;have he:aeX H.blks=184:=aki _ _ hf;have hs:abW m=some (m+16):=by
  unfold abW;rw[if_pos (by omega)];congr 1;omega
 have h0:(H.get m v).1.2=0:=by
  have hr:=h.rt.room (acM hs);rw[decide_eq_true (by omega:m+16+aeX H.blks<=H.cap),Bool.or_true]at hr
  cases hq:(H.take (m+16)).1 with
  | none=>rw[hq]at hr;cases hr
  | some o=>unfold Hp.get;rw[hs];dsimp only;rw[hq]
 refine⟨h0,?_⟩;rcases aqn h hc m v h' (by omega)with⟨e,_⟩ | ⟨p,k,e,k1,k2,_,_,hp,hall⟩
 · rw[e]at h0;cases h0
 obtain⟨j,x,d,a,u,rfl,ed⟩:=hp;have hx:=List.mem_of_getElem? a.1;have h1:=(h'.ho j x d a u).1;have h2:=h'.rt.sz hx;have h3:=h'.rt.len;have h4:=((aak _ _ _ (aaj h'.rt.walk).2.1).2 x hx);have h5:=(aac _).1 h4.2.2.1;have hk:d.2.length=k:=by rw[<-ed,List.length_replicate]
 show(aaS (H.get m v).2.blks).2.2=m;rw[akj _ x hx u (adi _ _ _ (aaj h'.rt.walk).2.1) fun y hy hu=> ?_]
 · omega
 · obtain⟨j2,d2,a2⟩:=akg h'.dl hy;rcases(hall (y.off+8) d2.2).1 ⟨j2,y,d2,a2,hu,rfl,rfl⟩with⟨e,_⟩ | e
   · omega
   · exact absurd e (hno _ _)
theorem alB (h:RtD bs H) (hc:H.cap<=16384) (n:Nat){r:Rp × Hp}(hr:H.doC ((1:Nat):Int) 0 n 0 0 []=r) (h':RtD out r.2) (hc':r.2.cap<=16384):
 (r.1.code=5/\r.2=H/\¬(n<=16384/\n+32<=max (abq H.blks) (H.cap-aeX H.blks)))\/(r.1.code=0/\n<=16368/\n+16<=max (abq H.blks) (H.cap-aeX H.blks)/\∃m,(∀b,¬H.Has r.1.hd b)/\r.2.Has r.1.hd (List.replicate m 165)/\∀p b,r.2.Has p b ↔ (p=r.1.hd/\b=List.replicate m 165)\/H.Has p b):=by
 have e:H.doC ((1:Nat):Int) 0 n 0 0 []=apv (H.get n 165):=als (H:=H) 0 n 0 0 [];rw[e]at hr;subst hr;obtain⟨g1,g2⟩:=amC h hc n 165;rcases aqn h hc n 165 h' hc' with⟨a,b⟩ | ⟨p,m,a,m1,m2,m3,m4,m5,m6⟩
 · left;have h5:(H.get n 165).1.2≠0:=by rw[a];decide
   exact⟨(g2 h5).1,b,(g2 h5).2⟩
 · right;have h0:(H.get n 165).1.2=0:=by rw[a]
   have hp:(H.get n 165).1.1=p:=by rw[a]
   refine⟨h0,(g1 h0).1,(g1 h0).2,m,?_,?_,?_⟩
   · show ∀b,¬H.Has (H.get n 165).1.1 b;rw[hp];exact m4
   · show(H.get n 165).2.Has (H.get n 165).1.1 _;rw[hp];exact m5
   · show ∀p' b',(H.get n 165).2.Has p' b' ↔ (p'=(H.get n 165).1.1/\_)\/_;rw[hp];exact m6
theorem aeV{p:Nat}{b:List UInt8}(h:RtD bs H) (hc:H.cap<=16384) (hp:H.Has p b):∃H2:Hp,H.doC ((3:Nat):Int) p 0 0 0 []=(Rp.err 0,H2)/\∀p' b',H2.Has p' b' ↔ H.Has p' b'/\p'≠p:=by
 obtain⟨i,hi,_⟩:=hp.handle h hc;have e:H.doC ((3:Nat):Int) p 0 0 0 []=(Rp.err (H.freeP p).1,(H.freeP p).2):=apZ (H:=H) p 0 0 0 [];refine⟨H.give i,?_,arZ h hi⟩;rw[e];unfold Hp.freeP;rw[hi]
theorem afi (h:RtD bs H) (hc:H.cap<=16384) (hc1:1024<=H.cap) (hno:∀p b,¬H.Has p b){m:Nat}(hm:(H.cap-184)/16*16-16=m){r:Rp × Hp}(hr:H.doC ((1:Nat):Int) 0 m 0 0 []=r) (h':RtD out r.2) (hc':r.2.cap=H.cap):r.1.code=0/\r.2.stats.bytes=m:=by
 have e:H.doC ((1:Nat):Int) 0 m 0 0 []=apv (H.get m 165):=als (H:=H) 0 m 0 0 [];rw[e]at hr;subst hr;exact aqo h hc hc1 hno 165 hm h' hc'
end
theorem ad1{w:World}{g:Nat}{t:TypeId}{y0 y1 y2 y3 y4 y5 y6 y7 y8:Value}(h:w.heap[g]?=some (.cells #[y0,y1,y2,y3,y4,y5,y6,y7,y8] t (0,0))):(w.cell? ⟨g,0,none⟩=some y0/\w.cell? ⟨g,1,none⟩=some y1/\w.cell? ⟨g,2,none⟩=some y2/\w.cell? ⟨g,3,none⟩=some y3/\w.cell? ⟨g,4,none⟩=some y4/\w.cell? ⟨g,5,none⟩=some y5/\w.cell? ⟨g,6,none⟩=some y6/\w.cell? ⟨g,7,none⟩=some y7/\w.cell? ⟨g,8,none⟩=some y8)/\(w.frozen? ⟨g,0,none⟩=false/\w.frozen? ⟨g,1,none⟩=false/\w.frozen? ⟨g,2,none⟩=false/\w.frozen? ⟨g,3,none⟩=false/\w.frozen? ⟨g,4,none⟩=false/\w.frozen? ⟨g,5,none⟩=false/\w.frozen? ⟨g,6,none⟩=false/\w.frozen? ⟨g,7,none⟩=false/\w.frozen? ⟨g,8,none⟩=false)/\g<w.heap.size:=
 ⟨⟨by rw[cell_of_row w g 0 _ _ (0,0) h];rfl,by rw[cell_of_row w g 1 _ _ (0,0) h];rfl,by rw[cell_of_row w g 2 _ _ (0,0) h];rfl,by rw[cell_of_row w g 3 _ _ (0,0) h];rfl,by rw[cell_of_row w g 4 _ _ (0,0) h];rfl,by rw[cell_of_row w g 5 _ _ (0,0) h];rfl,by rw[cell_of_row w g 6 _ _ (0,0) h];rfl,by rw[cell_of_row w g 7 _ _ (0,0) h];rfl,by rw[cell_of_row w g 8 _ _ (0,0) h];rfl⟩,⟨frozen_of_row w g 0 _ _ h,frozen_of_row w g 1 _ _ h,frozen_of_row w g 2 _ _ h,frozen_of_row w g 3 _ _ h,frozen_of_row w g 4 _ _ h,frozen_of_row w g 5 _ _ h,frozen_of_row w g 6 _ _ h,frozen_of_row w g 7 _ _ h,frozen_of_row w g 8 _ _ h⟩,aab h⟩
theorem aeW (w:World) (t:TypeId) (y0 y1 y2 y3 y4 y5 y6 y7 y8:Value):∃w',Hid (w.alloc (.cells #[y0,y1,y2,y3,y4,y5,y6,y7,y8] t)=w')/\Hid (w'.heap[w.heap.size]?=some (.cells #[y0,y1,y2,y3,y4,y5,y6,y7,y8] t (0,0)))/\Hid (Below w.heap.size w w'):=
 ⟨_,hE0 rfl,hE0 (heap_alloc_new w _),hE0 ((Below.refl _ _).alloc (Nat.le_refl _) _)⟩
theorem aqp{w:World}{g:Nat}{t:TypeId}{y0 y1 y2 y3 y4:Value}(h:w.heap[g]?=some (.cells #[y0,y1,y2,y3,y4] t (0,0))):(w.cell? ⟨g,0,none⟩=some y0/\w.cell? ⟨g,1,none⟩=some y1/\w.cell? ⟨g,2,none⟩=some y2/\w.cell? ⟨g,3,none⟩=some y3/\w.cell? ⟨g,4,none⟩=some y4)/\(w.frozen? ⟨g,0,none⟩=false/\w.frozen? ⟨g,1,none⟩=false/\w.frozen? ⟨g,2,none⟩=false/\w.frozen? ⟨g,3,none⟩=false/\w.frozen? ⟨g,4,none⟩=false)/\g<w.heap.size:=
 ⟨⟨by rw[cell_of_row w g 0 _ _ (0,0) h];rfl,by rw[cell_of_row w g 1 _ _ (0,0) h];rfl,by rw[cell_of_row w g 2 _ _ (0,0) h];rfl,by rw[cell_of_row w g 3 _ _ (0,0) h];rfl,by rw[cell_of_row w g 4 _ _ (0,0) h];rfl⟩,⟨frozen_of_row w g 0 _ _ h,frozen_of_row w g 1 _ _ h,frozen_of_row w g 2 _ _ h,frozen_of_row w g 3 _ _ h,frozen_of_row w g 4 _ _ h⟩,aab h⟩
theorem aqq (w:World) (t:TypeId) (y0 y1 y2 y3 y4:Value):∃w',Hid (w.alloc (.cells #[y0,y1,y2,y3,y4] t)=w')/\Hid (w'.heap[w.heap.size]?=some (.cells #[y0,y1,y2,y3,y4] t (0,0)))/\Hid (Below w.heap.size w w'):=
 ⟨_,hE0 rfl,hE0 (heap_alloc_new w _),hE0 ((Below.refl _ _).alloc (Nat.le_refl _) _)⟩
def avj (_B base cap n:Nat) (w:World) (e:Ending) (w':World):Prop:=
 Below w.heap.size w w'/\∃q g A c bs H told At ct,e= .returned (.tuple #[.pointer (some ⟨q,0,none⟩), .slice At told.length ct])/\Hv w.heap.size w' q g base cap A c bs H/\w'.ownsRow w.heap.size 25 1 (.slice At told.length ct) told.length (told.map uV)/\told.length<=n/\(∀v∈told,v<18446744073709551616)/\(n=0->H=aed cap/\told= [])
theorem aiL{w W:World}{A:Option Addr}{l:List Cl}(hL:ClRd w w.heap.size A l) (hb:Below w.heap.size w W):ClRd W W.heap.size A l:=fun hn=>by
 obtain⟨b,o,e,hB,hc⟩:=(hL.below hb) hn;exact⟨b,o,e,Nat.lt_of_lt_of_le hB hb.size,fun j x hx=>by
  obtain⟨y1,y2,y3⟩:=hc j x hx;exact⟨y1,y2.more hb.size,y3⟩⟩
theorem aqr (w:World) (base:Nat) (hb:base<18446744073709551616) (cap:Int) (hc: -9223372036854775808<=cap/\cap<=9223372036854775807) (hbad:base%16≠0\/4611686018427387904<base\/cap<1024\/16384<cap) (A:Option Addr) (n k:Nat) (most:Int):
 Calls Tryz.prog 47 #[.int .u64 (base:Int), .int .i64 cap, .slice A n k, .int .i64 most] w fun e w'=>e= .returned (.tuple #[.pointer none, .slice none 0 0])/\w=w':=by
 have HN:=hE0 (arL w base hb cap hc hbad);clear hbad;go_enter Tryz.func47,Tryz.ntmps47
 go_wp2_with fail
 refine HN.out.mono ?_;rintro e w2 ⟨rfl,rfl⟩;rw[aum];go_wp2_with fail
 go_ret2
 exact⟨rfl,rfl⟩
theorem anO (w:World) (base cap:Nat) (h1b:base%16=0) (h2b:base<=4611686018427387904) (h1:1024<=cap) (h2:cap<=16384) (A:Option Addr) (k:Nat) (l:List Cl) (hL:ClRd w w.heap.size A l) (hm:l.length<=maxLen) (most:Nat) (hmo:most<=100) (hs:acT l most=false):
 Calls Tryz.prog 47 #[.int .u64 (base:Int), .int .i64 (cap:Int), .slice A l.length k, .int .i64 (most:Int)] w fun e w'=>e= .returned (.tuple #[.pointer none, .slice none 0 0])/\Below w.heap.size w w':=by
 unfold maxLen at hm;have HN:=hE0 (agF w base cap h1b h2b h1 h2);have hsm:=fun W (hb:Below w.heap.size w W)=>aj9 W A k l (aiL hL hb) (by omega) most (by omega);rw[hs]at hsm;have HSM:=hE0 hsm;obtain⟨n,hn⟩:=nmE l.length;rw[hn]at HSM hm ⊢;clear hsm hs hL hn;go_enter Tryz.func47,Tryz.ntmps47
 go_wp2_with fail
 refine HN.out.mono ?_;intro e w2 hm2;obtain⟨q1,g1,A1,c1,b1,rfl,hv1,hb2⟩:=hm2.hv;have HB2:=hE0 hb2;clear hm2 hv1 hb2;go_wp2_with fail
 refine(HSM.out w2 HB2.out).mono ?_;rintro e w4 ⟨rfl,rfl⟩;go_wp2
 go_ret2
 exact⟨rfl,HB2.out⟩
theorem aqs (w:World) (hE:ET w) (base cap:Nat) (h1b:base%16=0) (h2b:base<=4611686018427387904) (h1:1024<=cap) (h2:cap<=16384) (A:Option Addr) (k:Nat) (l:List Cl) (hL:ClRd w w.heap.size A l) (most:Nat) (hmo:most<=100) (hs:acT l most=true):
 Calls Tryz.prog 47 #[.int .u64 (base:Int), .int .i64 (cap:Int), .slice A l.length k, .int .i64 (most:Int)] w fun e w'=>avj w.heap.size base cap l.length w e w':=by
 have hs':=hs;unfold acT at hs';rw[Bool.and_eq_true,List.all_eq_true]at hs';have hl80:l.length<=most:=of_decide_eq_true hs'.1;have HSB:Hid (∀x∈l,x.b.length<=2000):=fun x hx=>of_decide_eq_true (hs'.2 x hx);have HN:=hE0 (agF w base cap h1b h2b h1 h2);have hsm:=fun W (hb:Below w.heap.size w W)=>aj9 W A k l (aiL hL hb) (by omega) most (by omega);rw[hs]at hsm;have HSM:=hE0 hsm;obtain⟨n,hn⟩:=nmE l.length;rw[hn]at HSM hl80 ⊢;have HNL:=hE0 hn;have HL:=hE0 hL;have HE:=hE0 hE;clear hsm hs hs' hL hn hE;go_enter Tryz.func47,Tryz.ntmps47
 go_wp2_with fail
 refine HN.out.mono ?_;intro e w2 hm2;obtain⟨q,g,A1,c1,b1,rfl,hv1,hb2⟩:=hm2.hv;have HB2:=hE0 hb2;have HV1:=hE0 hv1;clear hm2 hv1 hb2 HN;go_wp2_with fail
 refine(HSM.out w2 HB2.out).mono ?_;rintro e w3 ⟨rfl,rfl⟩;clear HSM;go_wp2_with fail
 go_loopw [12,13] (fun t i wr=>∃(j:Nat) (told:List Nat) (At:Option Addr) (ct:Nat) (H:Hp) (A1:Option Addr) (c1:Nat) (b1:List UInt8),t= .slice At told.length ct/\i= .int .i64 (j:Int)/\j<=n/\told.length<=j/\(∀v∈told,v<18446744073709551616)/\wr.ownsRow w.heap.size 25 1 (.slice At told.length ct) told.length (told.map uV)/\Hv w.heap.size wr q g base cap A1 c1 b1 H/\Below w.heap.size w wr/\(j=0->H=aed cap/\told= [])) (fun _ i _=>n-(intOf i).toNat)
 case atStart=>exact⟨0,[],none,0,aed cap,A1,c1,b1,rfl,rfl,Nat.zero_le _,Nat.le_refl _,(fun v hv=>by cases hv),World.ownsRow_nil _ _ _ _,HV1.out,HB2.out,fun _=>⟨rfl,rfl⟩⟩
 case round=>
  clear HV1 HB2;obtain⟨j,told,At,ct,H,A1,c1,b1,rfl,rfl,hj,htl,h64,hown,hv,hb,hz⟩:=hrel;by_cases hlt:j<n
  · clear hz;obtain⟨x,hx⟩:∃x,l[j]?=some x:=⟨l[j]'(by rw[HNL.out];exact hlt),List.getElem?_eq_getElem _⟩;obtain⟨b,o,hA,hbB,hcx⟩:=(HL.out.below hb) (by rw[HNL.out];omega);subst hA;obtain⟨⟨i0,i1,i2,i3,i4,i5,i6⟩,hxr,hok⟩:=hcx j x hx;have hxr0:=((HL.out (by rw[HNL.out];omega)));obtain⟨b',o',hA',_,hcx0⟩:=hxr0;have HXB:=hE0 (hcx0 j x hx).2.1;clear hcx hcx0 hA' hxr;have hbl2:=HSB.out x (List.mem_of_getElem? hx);obtain⟨o9,ho9⟩:=nmE (ahM x);obtain⟨p9,hp⟩:=nmE (ahL x told);have hp64:p9<18446744073709551616:=by rw[<-hp];exact ap5 x told hok.2.2.1
    have ho9l:o9<9:=by rw[<-ho9];exact aj7 x
    have hM:=ap7 wr x hok At ct told w.heap.size (Tl.own hown) (by omega) h64;rw[ho9,hp]at hM;obtain⟨_,_,hh,hn,hm,ha,_⟩:=hok;obtain⟨wh,xo,xh,xn,xm,xa,xA,xc,xb⟩:=x;dsimp only at i0 i1 i2 i3 i4 i5 i6 hM hbl2 hh hn hm ha HXB;obtain⟨bl,hbl⟩:=nmE xb.length;rw[hbl]at i6 hM hbl2;have HBLN:=hE0 hbl;have HV:=hE0 hv;have HOW:=hE0 hown;have H64:=hE0 h64;have HBB:=hE0 hb;unfold abj at hM;clear hx hb hv hown h64 hbl ho9 hp hh;have HM:=hE0 hM;clear hM;go_wp2_with fail
    refine HM.out.mono ?_;rintro e w3 ⟨rfl,hb3⟩;have hv3:=HV.out.below hb3;have hb03:=HBB.out.trans (hb3.mono HBB.out.size);have hE3:=HE.out.below hb03;have ho3:=aaM HOW.out hb3;have hr3:=((HXB.out.below hb03).more hb03.size);have hch:=asj hv3.ph.rd (by rw[hv3.ph.cp];exact hv3.ph.c16) ho9l p9 xn xm xa xb;obtain⟨dc,hdc⟩:=nmE (H.doC (o9:Int) p9 xn xm xa xb);rw[hdc]at hch;have hd:=hv3.do_ hb03.size hE3 HE.out.lt o9 ho9l p9 xn xm xa bl xc xA xb hp64 hn hm ha HBLN.out hr3 (by omega) dc hdc;obtain⟨⟨ck,ch,cn,cb,⟨s0,s1,s2,s3,s4⟩⟩,H1⟩:=dc;unfold abj at hd;dsimp only at hd hch;obtain⟨cbl,hcbl⟩:=nmE cb.length;have HDO:=hE0 hd;have HCH:=hE0 hch;have HB03:=hE0 hb03;have HV3:=hE0 hv3;have HO3:=hE0 ho3;have HCBL:=hE0 hcbl;clear hb3 hv3 hb03 hE3 ho3 hr3 hd hch hdc hcbl HM i0 i1 i2 i3 i4 i5 i6;go_wp2_with fail
    refine HDO.out.mono ?_;rintro e w4 ⟨hdt,A1',c1',b1',hv4,t4,bb4⟩;obtain⟨A',c',rfl,hob⟩:=hdt;unfold rpV aeS;dsimp only at hob hv4 ⊢;rw[HCBL.out];have ho4:=HV3.out.ph.ownO t4 HO3.out (by decide) (by decide) (by decide);have hb04:=HB03.out.trans bb4;obtain⟨w5,hw5,n5,b5⟩:=aeW w4 50 (.int .i64 ck) (.int .u64 (ch:Int)) (.int .u64 (cn:Int)) (.slice A' cbl c') (.int .i64 (s0:Int)) (.int .i64 (s1:Int)) (.int .i64 (s2:Int)) (.int .i64 (s3:Int)) (.int .i64 (s4:Int));obtain⟨⟨z0,z1,z2,z3,z4,z5,z6,z7,z8⟩,_,hz8⟩:=ad1 n5.out;have HV5:=hE0 (hv4.below b5.out);have HO5:=hE0 (aaM ho4 b5.out);have HB5:=hE0 (hb04.trans (b5.out.mono hb04.size));clear hob hv4 t4 bb4 ho4 hb04 HDO HV3 HO3 HB03;by_cases hch0:ch=0
    · have gz:((ch:Int) !=0)=false:=by rw[bne_eq_false_iff_eq];omega
      clear hch0;go_wp2_with (first | (rw[hw5.out]) | fail)
      go_roundw
      case rel=>exact⟨j+1,told,At,ct,H1,A1',c1',b1',rfl,by go_num,by omega,by omega,H64.out,HO5.out,HV5.out,HB5.out,fun e=>by omega⟩
      case measure=>simp only[intOf];omega
    · have gz:((ch:Int) !=0)=true:=by rw[bne_iff_ne];omega
      obtain⟨w9,hw9⟩:=nmE (w5.alloc (.cells #[.int .u64 (ch:Int)] 25));have b9:=abE hw9;have n9:=anE hw9;have c9:w9.cell? ⟨w5.heap.size,0,none⟩=some (uV ch):=by rw[cell_of_row w9 _ 0 _ _ (0,0) n9];rfl
      have HO9:=hE0 (aaM HO5.out b9);have HV9:=hE0 (HV5.out.below b9);have HB9:=hE0 (HB5.out.trans (b9.mono HB5.out.size));have HC9:=hE0 c9;have HW9:=hE0 hw9;have H641:Hid (∀v∈told++ [ch],v<18446744073709551616):=fun v hv=>by
       rcases List.mem_append.1 hv with h | h
       · exact H64.out v h
       · simp at h;rw[h];exact HCH.out
      clear hch0 hw9 b9 n9 c9;go_wp2_with (first
       | (rw[hw5.out])
       | (rw[HW9.out])
       | (at_builtin;go_must (refine ag3 rfl _ _ rfl w.heap.size _ told.length told rfl HO9.out ⟨w5.heap.size,0,none⟩ 1 ch rfl HC9.out (by omega) HB9.out.size ?_);intro x12 w12 own12 gr12 lie12
          have HX12:Hid (w12.ownsRow w.heap.size 25 1 x12 (told.length+1) ((told++ [ch]).map uV)/\w9.grownBy w12 (Value.slice At told.length ct).ownBlock):=⟨own12,gr12⟩;clear own12 gr12 lie12)
       | fail)
      go_roundw
      case rel=>
       obtain⟨own12,gr12⟩:=HX12.out;obtain⟨A12,c12,rfl⟩:=alV own12;have tg:Tch (fun k=>(Value.slice At told.length ct).ownBlock=some k) w9 w12:=Tch.grown gr12 (fun k e=>e);refine⟨j+1,told++ [ch],A12,c12,H1,A1',c1',b1',by rw[List.length_append,List.length_singleton],by go_num,by omega,by rw[List.length_append,List.length_singleton];omega,H641.out,by rw[List.length_append,List.length_singleton];exact own12,HV9.out.keepO tg (fun k hk hf=>HV9.out.ph.oth (atx HO9.out hf) hk),HB9.out.trans (tg.below (fun k hk=>(HO9.out.lt k hk).1) HB9.out.size),fun e=>by omega⟩
      case measure=>simp only[intOf];omega
  · have HB:=hE0 hb;have HV:=hE0 hv;have HO:=hE0 hown;have H64:=hE0 h64;have HZ:=hE0 hz;clear hb hv hown h64 hz;go_wp2_with fail
    go_ret2
    exact⟨HB.out,q,g,A1,c1,b1,H,told,At,ct,rfl,HV.out,HO.out,by omega,H64.out,fun e=>HZ.out (by omega)⟩
theorem aiM (w:World) (hE:ET w):
 Calls Tryz.prog 46 #[] w fun e w'=>e= .returned (.bool true)/\Below w.heap.size w w':=by
 have HDN:=hE0 (aq3 w 20 (by omega) (by omega));have HHN:=hE0 (fun W=>agF W 0 1024 (by omega) (by omega) (by omega) (by omega));have HE:=hE0 hE;have HE0:=hE0 hE.lt;clear hE;go_enter Tryz.func46,Tryz.ntmps46
 go_wp2_with fail
 refine HDN.out.mono ?_;rintro e w1 ⟨rfl,hdk,hb1⟩;have hds:=DS.made (N:=20) hdk (by rw[List.length_replicate]);obtain⟨gd,hgd⟩:=nmE (w.heap.size+1);obtain⟨S,hS⟩:=nmE (adP (fun _=>False) w w1);obtain⟨s0,hs0⟩:∃s0:Dst,(⟨List.replicate (20*512) 0,[],-1,false⟩:Dst)=s0:=⟨_,rfl⟩;rw[hgd,hS,hs0]at hds;rw[hgd];have HS:Hid (∀j,S j->w.heap.size<=j/\j<w1.heap.size):=fun j hj=>by
  rw[<-hS]at hj;exact hj.elim False.elim id
 have HDS:=hE0 hds;have HB1:=hE0 hb1;have HL0:Hid (akn s0/\s0.wt= []/\s0.bs.length=10240/\adp s0.bs s0.wt 10 0=aqt/\adp s0.bs s0.wt 10 1=aqt/\s0.off=false/\s0.left= -1):=by
  subst hs0;exact⟨⟨rfl,by show(-1:Int)<0;decide⟩,rfl,List.length_replicate,agM _ _ _ (by omega),agM _ _ _ (by omega),rfl,rfl⟩
 have HE1:=hE0 (HE.out.below hb1);clear hdk hb1 hds hgd hS hs0 HDN;go_wp2_with fail
 refine(HHN.out w1).mono ?_;intro e w2 hm;obtain⟨q,g,A,c,bs,rfl,hv,hb2⟩:=hm.hv;have HB2:=hE0 (HB1.out.trans (hb2.mono HB1.out.size));have HD2:=hE0 (HDS.out.below hb2);have HV2:=hE0 hv;have HW2:=hE0 hb2.size;have HE2:=hE0 (HE1.out.below hb2);have HB1P:=hE0 HB1.out.size;obtain⟨dc,hdc⟩:=nmE ((aed 1024).doC ((1:Nat):Int) 0 100 0 0 []);have HD:=hv.do_ hb2.size (HE1.out.below hb2) (by have:=HE1.out.lt;omega) 1 (by omega) 0 100 0 0 0 0 none [] (by omega) (by omega) (by omega) (by omega) rfl (Rd.nil_) (by omega) dc hdc;have HQ:Hid ((⟨0,192,0,[],St5.none⟩,up19A)=dc):=by rw[<-hdc];exact up19_1.symm
 obtain⟨⟨ck1,ch1,cn1,cb1,⟨sa1,sb1,sc1,sd1,se1⟩⟩,H1⟩:=dc;unfold abj at HD;dsimp only at HD;obtain⟨cbl,hcbl⟩:=nmE cb1.length;have HCB:=hE0 hcbl;have HDO:=hE0 HD;clear HD hm hv hb2 HHN HDS HE1 hdc hcbl;go_wp2_with fail
 refine HDO.out.mono ?_;rintro e w3 ⟨⟨A3,k3,rfl,ho3⟩,A',c',bs',hv3,t3,b3⟩;unfold rpV aeS;dsimp only at hv3 ⊢;rw[HCB.out];obtain⟨e1,rfl⟩:=Prod.mk.inj HQ.out;injection e1 with q1 q2 q3 q4 q5;have HCH:Hid (ch1=192):=q2.symm;have hd3:=HD2.out.tch t3 fun j hj hf=>by have h1:=(HS.out j hj).2;have h2:=HV2.out.fB hf;omega
 obtain⟨w4,hw4,n4,b4⟩:=aeW w3 50 (.int .i64 ck1) (.int .u64 (ch1:Int)) (.int .u64 (cn1:Int)) (.slice A3 cbl k3) (.int .i64 (sa1:Int)) (.int .i64 (sb1:Int)) (.int .i64 (sc1:Int)) (.int .i64 (sd1:Int)) (.int .i64 (se1:Int));obtain⟨⟨z0,z1,z2,z3,z4,z5,z6,z7,z8⟩,_,hz8⟩:=ad1 n4.out;have HV4:=hv3.below b4.out;have hB3:=HB2.out.trans (b3.mono HB1P.out);have hB4:=hB3.trans (b4.out.mono hB3.size);obtain⟨y3,hy3⟩:∃y:List UInt8,[1,2,3]=y:=⟨_,rfl⟩;have hyl:y3.length=3:=by rw[<-hy3];rfl
 obtain⟨w5,hw5⟩:=nmE (w4.alloc (.cells #[.int .u8 1, .int .u8 2, .int .u8 3] 5));have b5:=abE hw5;have f5:Fill w5 w4.heap.size 5 y3:=by rw[<-hw5,<-hy3];exact Fill.made w4 5 [1,2,3]
 have hv5:=HV4.below b5;have hB5:=hB4.trans (b5.mono hB4.size);have hE5:=HE.out.below hB5;have hd2:=hv5.do_ (by have:=hB5.size;have:=b5.size;have:=b4.out.size;have:=t3.size;have:=HW2.out;omega) hE5 (by have:=HB1P.out;have:=HE0.out;omega) 7 (by omega) ch1 0 0 0 3 3 (some ⟨w4.heap.size,0,none⟩) y3 (by rw[HCH.out];omega) (by omega) (by omega) (by omega) hyl f5.reads (by omega) (Rp.err 0,up19B) (by rw[HCH.out,<-hy3];exact auw);unfold abj at hd2;have HDO2:=hE0 hd2;have H23:=hE0 t3.size;have HV5:=hE0 hv5;have HB5:=hE0 hB5;have HD5:=hE0 ((hd3.below b4.out).below b5);have N5:=hE0 ((b5.block _ (aab n4.out)).trans n4.out);have H25:=hE0 (show w2.heap.size<=w5.heap.size from by have:=b5.size;have:=b4.out.size;have:=t3.size;omega);have HW5:=hE0 hw5;clear hv3 t3 b3 q1 q2 q3 q4 q5 hd3 HV4 hB3 hB4 hyl hw5 b5 f5 hv5 hB5 hE5 hd2 hy3 HDO HD2 HV2 ho3 HQ;go_wp2_with (first | (rw[hw4.out]) | (rw[HW5.out]) | fail)
 refine HDO2.out.mono ?_;rintro e w6 ⟨⟨A6,k6,rfl,_⟩,A'',c'',bs'',hv6,t6,b6⟩;have hd6:=HD5.out.tch t6 fun j hj hf=>by have h1:=(HS.out j hj).2;have h2:=HV5.out.fB hf;omega
 have n6:=HV5.out.ph.locO t6 N5.out (by decide) (by decide) (by decide);have HB6:=hE0 (HB5.out.trans (b6.mono HB1P.out));have HD6:=hE0 hd6;have N6:=hE0 n6;obtain⟨e1,e2⟩:=aux;obtain⟨o1,o2,o3⟩:=aql hv6.ph.rd e1 (by rw[e2];omega);have od:=auy hv6.ph.rd;obtain⟨b,hb⟩:=nmE (aaU bs''.length (up19B.blks.map toR) (ofD bs'' up19B.blks));obtain⟨L,hL⟩:=nmE (up19B.blks.map toR);obtain⟨d,hd⟩:=nmE (ofD bs'' up19B.blks);have hLb:L.map toB= [⟨184,128,true⟩]:=by rw[<-hL,aut,e1]
 have hsv:=aqi HD6.out 10 (by omega) (by omega) (by omega) HL0.out.2.2.2.2.2.1 (by rw[HL0.out.2.1];exact Nat.zero_le _) (by rw[HL0.out.2.2.2.2.2.2];omega) aqt aqt HL0.out.2.2.2.1 HL0.out.2.2.2.2.1 hv6.ph _ rfl;rw[hb]at hsv o3;rw[hL,hd]at hb o2;rw[hd]at od;rw[o1]at hb;have hsp:arS aqt aqt 10 b s0=ady (0*10) b (abG 1 b.length (abS 0 b)) s0:=by
  unfold arS;rw[if_neg (by show ¬(512*(10-1)<b.length\/4611686018427387904<=max 0 0);omega)];rfl
 rw[hsp]at hsv;obtain⟨s1,hs1⟩:=nmE (ady (0*10) b (abG 1 b.length (abS 0 b)) s0);obtain⟨l1,l2,l3,l4,l5,l6,l7⟩:=HL0.out;obtain⟨v1,v2,v3⟩:=anH l1 (0*10) b (abG 1 b.length (abS 0 b));have hx:=anL l1 l2 10 0 1 (184+128) L d o2 b hb (by omega) (by omega) (by omega) (by omega) (by omega);have hy:=aly l1 l2 10 0 1 b (abG 1 b.length (abS 0 b)) (adN _ _ _) (by omega) (by omega) (by omega) (by omega);rw[l2]at l5;rw[hs1]at hsv v1 v2 v3 hx hy;rw[l5]at hy;have HSV:=hE0 hsv;have HV:Hid (s1.1=0/\s1.2.wt= []/\s1.2.off=false/\adp s1.2.bs s1.2.wt 10 0=⟨1,b.length,abS 0 b,true,184+128,L,d⟩/\adp s1.2.bs s1.2.wt 10 1=aqt):=⟨v1,v3,v2.1,by rw[v3];exact hx,by rw[v3];exact hy⟩;have HLB:=hE0 hLb;have HMM:=hE0 o2;have HOD:=hE0 od;have H26:=hE0 (show w2.heap.size<=w6.heap.size from by have:=t6.size;have:=H25.out;omega);have HL6:=hE0 (aab n6);have HL64:=hE0 (show w1.heap.size<=w3.heap.size from Nat.le_trans HW2.out H23.out);clear hv6 t6 b6 hd6 n6 e1 e2 o1 o2 o3 od hb hL hd hLb hsv hsp l1 l2 l3 l4 l5 l6 l7 v1 v2 v3 hx hy hs1 HDO2 HV5 HD5 N5 z0 z1 z2 z3 z4 z5 z6 z7 z8 HB5;go_wp2_with fail
 refine HSV.out.mono ?_;rintro e w7 ⟨rfl,hd7,t7⟩;have HB7:=hE0 (HB6.out.trans (t7.below (fun k hk=>(HS.out k hk).1) HB6.out.size));have n7:=(t7.block _ HL6.out (fun hs=>by have:=(HS.out _ hs).2;have:=HL64.out;omega)).trans N6.out;have N7:=hE0 n7;have HLD2:Hid (Calls Tryz.prog 30 #[.pointer (some ⟨gd,0,none⟩), .int .u64 4096, .int .i64 4096] w7 fun e w'=>Below w7.heap.size w7 w'/\∃out H q g A c,e= .returned (.tuple #[.pointer (some ⟨q,0,none⟩), .nilIface])/\Hv w7.heap.size w' q g 4096 4096 A c out H/\H.blks= [⟨184,128,true⟩]/\ofD out H.blks= [1::2::3::List.replicate 109 165]):=by
  obtain⟨h1,h2,h3,h4,h5⟩:=HV.out;refine(aqh hd7 10 (by omega) (by omega) (by omega) h3 _ aqt h4 h5 4096 (by omega) 4096 (by omega) (0,184+128,L,d) rfl).mono ?_;rintro e w' ⟨hb,h⟩;rw[if_pos rfl]at h;obtain⟨out,H,q,g,A,c,hl,rfl,hp,q1,q2,q3⟩:=h;obtain⟨_,_,_,_,_,hw,_,hof,_⟩:=alA HMM.out hl;have e1:H.blks= [⟨184,128,true⟩]:=by
   have:=hp.rd.rt.walk;rw[hw,HLB.out]at this;injection this with this;exact this.symm
  refine⟨hb,out,H,q,g,A,c,rfl,⟨hp,q1,q2,q3⟩,e1,?_⟩;rw[e1,<-HLB.out,hof];exact HOD.out
 rw[HV.out.1];rw[show aiO 0= .nilIface from rfl];clear hd7 t7 n7 HSV N6 HB6 HD6;go_wp2_with fail
 refine HLD2.out.mono ?_;rintro e w8 ⟨hb8,out8,H8,q8,g8,A8,c8,rfl,hv8,e8,d8⟩;obtain⟨⟨z0,z1,z2,z3,z4,z5,z6,z7,z8⟩,_,hz8⟩:=ad1 ((hb8.block _ (aab N7.out)).trans N7.out);have HB8:=hE0 (HB7.out.trans (hb8.mono HB7.out.size));have HP7:=hE0 (show 0<w7.heap.size from Nat.lt_of_lt_of_le HE0.out HB7.out.size);obtain⟨y4,hy4⟩:∃y:List UInt8,[1,2,3,165]=y:=⟨_,rfl⟩;have hyl:y4.length=4:=by rw[<-hy4];rfl
 have hr6:=auz hv8.ph.rd e8 d8;rw[hy4]at hr6;obtain⟨dc,hdc⟩:=nmE (H8.doC ((6:Nat):Int) ch1 4 0 0 []);have HD:=auo hv8.ph (HE.out.below HB8.out) (fun hf=>by have h1:=hv8.fB hf;have h2:=HP7.out;omega) ch1 4 0 0 0 0 none [] (by rw[HCH.out];omega) (by omega) (by omega);have hdc':H8.doC 6 ch1 4 0 0 []=dc:=hdc;rw[hdc']at HD;have HQ:Hid ((⟨0,0,0,y4,St5.none⟩,H8)=dc):=by rw[<-hdc,HCH.out];exact hr6.symm
 obtain⟨⟨ck3,ch3,cn3,cb3,⟨sa3,sb3,sc3,sd3,se3⟩⟩,H3⟩:=dc;unfold abj at HD;dsimp only at HD;obtain⟨e1,e2⟩:=Prod.mk.inj HQ.out;injection e1 with q1 q2 q3 q4 q5;subst e2 q4 q1;clear q2 q3 q5 hdc';have HDO:=hE0 HD;have HYL:=hE0 hyl;have HY4:=hE0 hy4;have HE8:=hE0 e8;have HV8:=hE0 hv8;have N8:=hE0 ((hb8.block _ (aab N7.out)).trans N7.out);have HW78:=hE0 hb8.size;have H07:=hE0 HB7.out.size;clear hb8 hv8 e8 d8 hyl hr6 hdc HD HQ HLD2 N7 hy4;go_wp2_with fail
 refine HDO.out.mono ?_;rintro e w9 ⟨⟨A9,k9,rfl,ho9⟩,_,b9⟩;have hv9:=HV8.out.below b9;unfold rpV aeS;dsimp only at ho9 ⊢;rw[HYL.out]at ho9 ⊢;clear z0 z1 z2 z3 z4 z5 z6 z7 z8 hz8;obtain⟨w10,hw10,n10,b10⟩:=aeW w9 50 (.int .i64 0) (.int .u64 (ch3:Int)) (.int .u64 (cn3:Int)) (.slice A9 4 k9) (.int .i64 (sa3:Int)) (.int .i64 (sb3:Int)) (.int .i64 (sc3:Int)) (.int .i64 (sd3:Int)) (.int .i64 (se3:Int));have hB9:=HB8.out.trans (b9.mono HB8.out.size);have hB10:=hB9.trans (b10.out.mono hB9.size);have m9:=(b9.block _ (aab N8.out)).trans N8.out;have M10:=hE0 ((b10.out.block _ (aab m9)).trans m9);obtain⟨⟨z0,z1,z2,z3,z4,z5,z6,z7,z8⟩,_,hz8⟩:=ad1 M10.out;have hv10:=hv9.below b10.out;have ho10:=aaM ho9 b10.out;have h3:H8.doC ((3:Nat):Int) ch1 0 0 0 []=(Rp.err 0,H8.give 0):=by
  rw[HCH.out];have e:H8.doC ((3:Nat):Int) 192 0 0 0 []=_:=apZ (H:=H8) 192 0 0 0 [];rw[e];unfold Hp.freeP;rw[asl HE8.out]
 have hnf:∀j,(Value.slice A9 4 k9).ownBlock=some j->w8.heap.size<=j/\j<w10.heap.size:=fun j e=>⟨(ho9.lt j e).1,(ho10.lt j e).2⟩;have HNF:=hE0 (fun j (e:(Value.slice A9 4 k9).ownBlock=some j)=>(⟨fun hf=>by have h1:=HV8.out.ph.ar.foot_lt hf;have h2:=(hnf j e).1;omega,(hnf j e).2⟩:¬foot g8 A8 j/\j<w10.heap.size));have HD:=hv10.do4_ (by have:=b10.out.size;have:=b9.size;have:=HW78.out;omega) (HE.out.below hB10) HP7.out 3 (by omega) ch1 0 0 0 0 0 none [] (by rw[HCH.out];omega) (by omega) (by omega) (by omega) rfl (Rd.nil_) (by omega) _ h3;unfold abj at HD;have HDO3:=hE0 HD;have HB10:=hE0 hB10;have HV10:=hE0 hv10;have HO10:=hE0 ho10;have HB10S:=hE0 (show w7.heap.size<=w10.heap.size from by have:=b10.out.size;have:=b9.size;have:=HW78.out;omega);clear hv9 b9 ho9 hB9 hB10 m9 hv10 ho10 hnf h3 HD HDO HV8 N8 HB8;go_wp2_with (first | (rw[hw10.out]) | fail)
 refine HDO3.out.mono ?_;rintro e w11 ⟨⟨A11,k11,rfl,_⟩,Ab,c',bs',hv11,t11,b11,hA11⟩;unfold rpV aeS Rp.err St5.none;dsimp only;clear z0 z1 z2 z3 z4 z5 z6 z7 z8 hz8;obtain⟨w12,hw12,n12,b12⟩:=aeW w11 50 (.int .i64 0) (.int .u64 0) (.int .u64 0) (.slice A11 0 k11) (.int .i64 0) (.int .i64 0) (.int .i64 0) (.int .i64 0) (.int .i64 0);have hB11:=HB10.out.trans (b11.mono H07.out);have hB12:=hB11.trans (b12.out.mono hB11.size);have m11:=HV10.out.ph.locO t11 n10.out (by decide) (by decide) (by decide);have M12:=hE0 ((b12.out.block _ (aab m11)).trans m11);have hv12:=hv11.below b12.out;have ho12:=aaM (agG HO10.out fun j e=>t11.block j (HNF.out j e).2 (HNF.out j e).1) b12.out;have hnf2:∀j,(Value.slice A9 4 k9).ownBlock=some j->¬foot g8 Ab j:=fun j e hf=>by
  rcases hA11 with rfl | hA
  · exact(HNF.out j e).1 hf
  · rcases hf with hf | ⟨a,ea,rfl⟩
    · exact(HNF.out j e).1 (.inl hf)
    · have h1:=hA a ea;have h2:=(HNF.out _ e).2;omega
 have hb9:=arY HE8.out;have hend:aeX (H8.give 0).blks=184:=by rw[hb9.1];rfl
 have hgc:(H8.give 0).cap=4096:=hv12.ph.cp;have h5:=auu hv12.ph.rd 165 (show abW 3880=some 3904 from rfl) (show aaD ((3904:Nat):Int)=true from by decide) (by rw[hend,hgc];omega);obtain⟨dc,hdc⟩:=nmE ((H8.give 0).doC ((1:Nat):Int) 0 3880 0 0 []);have hk5:dc.1.code=0:=by
  rw[<-hdc];have e:(H8.give 0).doC ((1:Nat):Int) 0 3880 0 0 []=_:=als (H:=H8.give 0) 0 3880 0 0 [];rw[e];exact h5
 have HD:=hv12.do_ (by have:=b12.out.size;have:=t11.size;have:=HB10S.out;omega) (HE.out.below hB12) HP7.out 1 (by omega) 0 3880 0 0 0 0 none [] (by omega) (by omega) (by omega) (by omega) rfl (Rd.nil_) (by omega) dc hdc;obtain⟨⟨ck5,ch5,cn5,cb5,⟨sa5,sb5,sc5,sd5,se5⟩⟩,H5⟩:=dc;unfold abj at HD;dsimp only at HD hk5;subst hk5;obtain⟨cbm,hcbm⟩:=nmE cb5.length;have HCM:=hE0 hcbm;have HDO5:=hE0 HD;have HV12:=hE0 hv12;have HO12:=hE0 ho12;have HB12:=hE0 hB12;have HNF2:Hid (∀j,(Value.slice A9 4 k9).ownBlock=some j->¬foot g8 Ab j):=hnf2;have N12:=hE0 n12.out;clear hv11 t11 b11 hA11 hB11 hB12 m11 hv12 ho12 hnf2 hb9 hend hgc h5 hdc HD hcbm HDO3 HV10 HO10 HB10;go_wp2_with (first | (rw[hw12.out]) | fail)
 refine HDO5.out.mono ?_;rintro e w13 ⟨⟨A13,k13,rfl,_⟩,A',c',bs',hv13,t13,b13⟩;unfold rpV aeS;dsimp only;rw[HCM.out];obtain⟨w14,hw14,n14,b14⟩:=aeW w13 50 (.int .i64 0) (.int .u64 (ch5:Int)) (.int .u64 (cn5:Int)) (.slice A13 cbm k13) (.int .i64 (sa5:Int)) (.int .i64 (sb5:Int)) (.int .i64 (sc5:Int)) (.int .i64 (sd5:Int)) (.int .i64 (se5:Int));have hB13:=HB12.out.trans (b13.mono H07.out);have HB14:=hE0 (hB13.trans (b14.out.mono hB13.size));have m13:=HV12.out.ph.locO t13 M12.out (by decide) (by decide) (by decide);have m14:=(b14.out.block _ (aab m13)).trans m13;have l13:=HV12.out.ph.locO t13 N12.out (by decide) (by decide) (by decide);have l14:=(b14.out.block _ (aab l13)).trans l13;have ho14:=aaM (agG HO12.out fun j e=>t13.block j (HO12.out.lt j e).2 (HNF2.out j e)) b14.out;obtain⟨w15,hw15⟩:=nmE (w14.alloc (.cells #[.int .u8 1, .int .u8 2, .int .u8 3, .int .u8 165] 5));have b15:=abE hw15;have f15:Fill w15 w14.heap.size 5 y4:=by rw[<-hw15,<-HY4.out];exact Fill.made w14 5 [1,2,3,165]
 have r15:=f15.reads;rw[HYL.out]at r15;obtain⟨S9,hS9⟩:=nmE (amG y4);have q1:(convert 37 9 (.slice A9 4 k9)).run Tryz.prog w14= .ok (.string S9) w14:=by rw[<-hS9];exact adG (acH ho14)
 have q2:(convert 37 9 (.slice (some ⟨w14.heap.size,0,none⟩) 4 4)).run Tryz.prog w15= .ok (.string S9) w15:=by rw[<-hS9];exact adG r15
 obtain⟨⟨z0,z1,z2,z3,z4,z5,z6,z7,z8⟩,_,hz8⟩:=ad1 m14;obtain⟨⟨u0,u1,u2,u3,u4,u5,u6,u7,u8⟩,_,hu8⟩:=ad1 ((b15.block _ (aab l14)).trans l14);obtain⟨⟨x0,x1,x2,x3,x4,x5,x6,x7,x8⟩,_,hx8⟩:=ad1 ((b15.block _ (aab n14.out)).trans n14.out);have HB15:=hE0 (HB14.out.trans (b15.mono HB14.out.size));have HW15:=hE0 hw15;clear hv13 t13 b13 hB13 m13 m14 l13 l14 ho14 hw15 b15 f15 r15 hS9 HDO5 HV12 HO12 HB12;go_wp2_with (first | (rw[hw14.out]) | (rw[HW15.out]) | fail)
 go_ret
 exact⟨rfl,HB15.out⟩
end Go.Proofs.YtncadccbepjekaaGreatDoor
