/- Texts of mine, joined. -/
import Derived.Test.YtncadccbepjekaaGreatDoorU38
import Derived.Test.YtncadccbepjekaaGreatDoorU40
import Derived.Test.YtncadccbepjekaaGreatDoorU42
set_option maxRecDepth 100000
set_option maxHeartbeats 4000000
namespace Go.Proofs.YtncadccbepjekaaGreatDoor
open Go.RowKit
def ahu (r:Rp) (A:Option Addr) (c:Nat):Array Value:= #[.int .i64 r.code, .int .u64 (r.hd:Int), .int .u64 (r.n:Int), .slice A r.b.length c, .int .i64 (r.st.used:Int), .int .i64 (r.st.free:Int), .int .i64 (r.st.bytes:Int), .int .i64 (r.st.len:Int), .int .i64 (r.st.cap:Int)]
def rpV (r:Rp) (A:Option Addr) (c:Nat):Value:= .agg (ahu r A c)
def rp0:Array Value:= #[.int .i64 0, .int .u64 0, .int .u64 0, .slice none 0 0, .int .i64 0, .int .i64 0, .int .i64 0, .int .i64 0, .int .i64 0]
def adn (r:Rp) (w:World) (e:Ending) (w':World):Prop:=∃A' c',e= .returned (rpV r A' c')/\w'.ownsRow w.heap.size 5 1 (.slice A' r.b.length c') r.b.length (r.b.map bv)
def abB (op:Int) (p n m a:Nat) (B:Option Addr) (bl k:Nat):Value:= .agg #[.int .i64 op, .int .u64 (p:Int), .int .u64 (n:Int), .int .u64 (m:Int), .int .u64 (a:Int), .slice B bl k]
section
variable {w w' w4 w5:World} {q g base cap c:Nat} {A:Option Addr} {bs out:List UInt8} {H H':Hp}
theorem abo{x0 x1 x2 x3 x4 x5 x6 x7 x8:Value}{g:Nat}{t:TypeId}(h:w.heap[g]?=some (.cells #[x0,x1,x2,x3,x4,x5,x6,x7,x8] t (0,0))):
 (w.cell? ⟨g,0,none⟩=some x0/\w.cell? ⟨g,1,none⟩=some x1/\w.cell? ⟨g,2,none⟩=some x2/\w.cell? ⟨g,3,none⟩=some x3/\w.cell? ⟨g,4,none⟩=some x4/\w.cell? ⟨g,5,none⟩=some x5/\w.cell? ⟨g,6,none⟩=some x6/\w.cell? ⟨g,7,none⟩=some x7/\w.cell? ⟨g,8,none⟩=some x8)/\
 (w.frozen? ⟨g,0,none⟩=false/\w.frozen? ⟨g,1,none⟩=false/\w.frozen? ⟨g,2,none⟩=false/\w.frozen? ⟨g,3,none⟩=false/\w.frozen? ⟨g,4,none⟩=false/\w.frozen? ⟨g,5,none⟩=false/\w.frozen? ⟨g,6,none⟩=false/\w.frozen? ⟨g,7,none⟩=false/\w.frozen? ⟨g,8,none⟩=false):=by
 refine⟨⟨?_,?_,?_,?_,?_,?_,?_,?_,?_⟩,frozen_of_row w g 0 _ _ h,frozen_of_row w g 1 _ _ h,frozen_of_row w g 2 _ _ h,frozen_of_row w g 3 _ _ h,frozen_of_row w g 4 _ _ h,frozen_of_row w g 5 _ _ h,frozen_of_row w g 6 _ _ h,frozen_of_row w g 7 _ _ h,frozen_of_row w g 8 _ _ h⟩
 · rw[cell_of_row w g 0 _ _ (0,0) h];rfl
 · rw[cell_of_row w g 1 _ _ (0,0) h];rfl
 · rw[cell_of_row w g 2 _ _ (0,0) h];rfl
 · rw[cell_of_row w g 3 _ _ (0,0) h];rfl
 · rw[cell_of_row w g 4 _ _ (0,0) h];rfl
 · rw[cell_of_row w g 5 _ _ (0,0) h];rfl
 · rw[cell_of_row w g 6 _ _ (0,0) h];rfl
 · rw[cell_of_row w g 7 _ _ (0,0) h];rfl
 · rw[cell_of_row w g 8 _ _ (0,0) h];rfl
theorem abp{x0 x1 x2 x3 x4 x5:Value}{g:Nat}{t:TypeId}(h:w.heap[g]?=some (.cells #[x0,x1,x2,x3,x4,x5] t (0,0))):
 w.cell? ⟨g,0,none⟩=some x0/\w.cell? ⟨g,1,none⟩=some x1/\w.cell? ⟨g,2,none⟩=some x2/\w.cell? ⟨g,3,none⟩=some x3/\w.cell? ⟨g,4,none⟩=some x4/\w.cell? ⟨g,5,none⟩=some x5:=by
 refine⟨?_,?_,?_,?_,?_,?_⟩
 · rw[cell_of_row w g 0 _ _ (0,0) h];rfl
 · rw[cell_of_row w g 1 _ _ (0,0) h];rfl
 · rw[cell_of_row w g 2 _ _ (0,0) h];rfl
 · rw[cell_of_row w g 3 _ _ (0,0) h];rfl
 · rw[cell_of_row w g 4 _ _ (0,0) h];rfl
 · rw[cell_of_row w g 5 _ _ (0,0) h];rfl
def aq7 (w:World) (g:Nat) (x0 x1 x2 x3 x4 x5 x6 x7 x8:Value):World:=((((((((w.setCell ⟨g,0,none⟩ x0).setCell ⟨g,1,none⟩ x1).setCell ⟨g,2,none⟩ x2).setCell ⟨g,3,none⟩ x3).setCell ⟨g,4,none⟩ x4).setCell ⟨g,5,none⟩ x5).setCell ⟨g,6,none⟩ x6).setCell ⟨g,7,none⟩ x7).setCell ⟨g,8,none⟩ x8
theorem aix{y0 y1 y2 y3 y4 y5 y6 y7 y8:Value}{g:Nat}{t:TypeId}(h:w.heap[g]?=some (.cells #[y0,y1,y2,y3,y4,y5,y6,y7,y8] t (0,0))) (x0 x1 x2 x3 x4 x5 x6 x7 x8:Value):
 (aq7 w g x0 x1 x2 x3 x4 x5 x6 x7 x8).heap[g]?=some (.cells #[x0,x1,x2,x3,x4,x5,x6,x7,x8] t (0,0)):=by
 unfold aq7;have h1:=heap_setCell_same _ g 0 _ _ x0 h;have h1:(_:Option Obj)=some (.cells #[x0,y1,y2,y3,y4,y5,y6,y7,y8] t (0,0)):=h1;have h2:=heap_setCell_same _ g 1 _ _ x1 h1;have h2:(_:Option Obj)=some (.cells #[x0,x1,y2,y3,y4,y5,y6,y7,y8] t (0,0)):=h2;have h3:=heap_setCell_same _ g 2 _ _ x2 h2;have h3:(_:Option Obj)=some (.cells #[x0,x1,x2,y3,y4,y5,y6,y7,y8] t (0,0)):=h3;have h4:=heap_setCell_same _ g 3 _ _ x3 h3;have h4:(_:Option Obj)=some (.cells #[x0,x1,x2,x3,y4,y5,y6,y7,y8] t (0,0)):=h4;have h5:=heap_setCell_same _ g 4 _ _ x4 h4;have h5:(_:Option Obj)=some (.cells #[x0,x1,x2,x3,x4,y5,y6,y7,y8] t (0,0)):=h5;have h6:=heap_setCell_same _ g 5 _ _ x5 h5;have h6:(_:Option Obj)=some (.cells #[x0,x1,x2,x3,x4,x5,y6,y7,y8] t (0,0)):=h6;have h7:=heap_setCell_same _ g 6 _ _ x6 h6;have h7:(_:Option Obj)=some (.cells #[x0,x1,x2,x3,x4,x5,x6,y7,y8] t (0,0)):=h7;have h8:=heap_setCell_same _ g 7 _ _ x7 h7;have h8:(_:Option Obj)=some (.cells #[x0,x1,x2,x3,x4,x5,x6,x7,y8] t (0,0)):=h8;have h9:=heap_setCell_same _ g 8 _ _ x8 h8;have h9:(_:Option Obj)=some (.cells #[x0,x1,x2,x3,x4,x5,x6,x7,x8] t (0,0)):=h9;exact h9
theorem aew (w:World) (g:Nat) (x0 x1 x2 x3 x4 x5 x6 x7 x8:Value):Tch (fun k=>k=g) w (aq7 w g x0 x1 x2 x3 x4 x5 x6 x7 x8):=by
 unfold aq7;have t:∀(W:World) (i:Nat) (x:Value),Tch (fun k=>k=g) w W->Tch (fun k=>k=g) w (W.setCell ⟨g,i,none⟩ x):=fun W i x h=>h.trans (Tch.set (S:=fun k=>k=g) W ⟨g,i,none⟩ x rfl) (fun _ _ h=>h);exact t _ _ _ (t _ _ _ (t _ _ _ (t _ _ _ (t _ _ _ (t _ _ _ (t _ _ _ (t _ _ _ (t _ _ _ (Tch.refl _ _)))))))))
theorem aqU{fn:Func}{R:Ending->World->Prop}{a:Act}{w:World}{p:Tmp}{g:Nat}{x0 x1 x2 x3 x4 x5 x6 x7 x8:Value}(hres:fn.results= #[.cell p 50]) (hp:a.tmps.getD p undef= .pointer (some ⟨g,0,none⟩)) (hd:a.defers= [])
 (hg:w.heap[g]?=some (.cells #[x0,x1,x2,x3,x4,x5,x6,x7,x8] 50 (0,0))) (hR:R (.returned (.agg #[x0,x1,x2,x3,x4,x5,x6,x7,x8])) w):bodyPost Tryz.prog fn R .ret a w:=by
 refine bodyPost_ret (v:= .agg #[x0,x1,x2,x3,x4,x5,x6,x7,x8]) ?_ hd hR;exact results_cell_row hres _ _ g _ _ _ _ hp hg rfl rfl rfl
theorem aqV (h:Ar w 195 g base cap A c bs){k:Nat}{cs:Array Value}(hk:w.heap[k]?=some (.cells cs 50 (0,0))):¬foot g A k:=by
 rintro(rfl | ⟨a,ea,rfl⟩)
 · have h1:=h.obj;rw[hk]at h1;injection h1 with h1;injection h1 with _ h2 _;exact absurd h2 (by decide)
 · obtain⟨h',e,cur,hg,_⟩:=h.row ea;subst e;rw[hk]at hg;injection hg with hg;injection hg with _ h2 _;exact absurd h2 (by decide)
theorem PTurn.near{S:Nat->Prop}(h:PTurn g base cap A H' w w4) (ht:Tch S w4 w5) (hS:∀k,S k->w.heap.size<=k/\∃cs,w4.heap[k]?=some (.cells cs 50 (0,0))):PTurn g base cap A H' w w5:=by
 obtain⟨out,⟨A4,c4,a4,t4,m4⟩,rd⟩:=h;refine⟨out,⟨A4,c4,a4.tch ht (fun k hk hs=> ?_),t4.trans ht (fun i hi hs=> ?_),m4⟩,rd⟩
 · obtain⟨_,cs,hcs⟩:=hS k hs;exact aqV a4 hcs hk
 · have:=(hS i hs).1;omega
theorem acc{w w':World}{base n size:Nat}{t:TypeId}{v:Value}{xs:List Value}(h:w.ownsRow base t size v n xs) (hk:∀k,v.ownBlock=some k->w'.heap[k]?=w.heap[k]?):w'.ownsRow base t size v n xs:=by
 refine⟨h.1,?_⟩;rcases h.2 with h2 | ⟨g,cap,cur,hv,hg,hh,r⟩
 · exact .inl h2
 · exact .inr ⟨g,cap,cur,hv,hg,(hk g (by rw[hv];rfl)).trans hh,r⟩
theorem PTurn.after{w1:World}(h:PTurn g base cap A H' w1 w4) (hb:Below w.heap.size w w1):PTurn g base cap A H' w w4:=by
 obtain⟨out,hbe,hr⟩:=h;exact⟨out,hbe.after hb,hr⟩
theorem PTurn.tch (h:PTurn g base cap A H' w w4):Tch (foot g A) w w4:=by
 obtain⟨_,⟨_,_,_,t,_⟩,_⟩:=h;exact t
theorem PTurn.ends{b4 b5:Nat}(h:PTurn g base cap A H' w w4) (m4:w4.heap[b4]?=some (.cells rp0 50 (0,0))) (m5:w4.heap[b5]?=some (.cells rp0 50 (0,0))) (l4:w.heap.size<=b4) (l5:w.heap.size<=b5) (ht:Tch (fun k=>k=b4\/k=b5) w4 w5):PTurn g base cap A H' w w5:=
 h.near ht (by
  rintro k (rfl | rfl)
  · exact⟨l4,_,m4⟩
  · exact⟨l5,_,m5⟩)
theorem avX{y0 y1 y2 y3 y4 y5 y6 y7 y8:Value}{g:Nat}{t:TypeId}(h:w.heap[g]?=some (.cells #[y0,y1,y2,y3,y4,y5,y6,y7,y8] t (0,0))) (x4 x5 x6 x7 x8:Value):
 (((((w.setCell ⟨g,4,none⟩ x4).setCell ⟨g,5,none⟩ x5).setCell ⟨g,6,none⟩ x6).setCell ⟨g,7,none⟩ x7).setCell ⟨g,8,none⟩ x8).heap[g]?=some (.cells #[y0,y1,y2,y3,x4,x5,x6,x7,x8] t (0,0)):=by
 have h1:=heap_setCell_same w g 4 _ _ x4 h;have h2:=heap_setCell_same _ g 5 _ _ x5 h1;have h3:=heap_setCell_same _ g 6 _ _ x6 h2;have h4:=heap_setCell_same _ g 7 _ _ x7 h3;have h5:=heap_setCell_same _ g 8 _ _ x8 h4;rw[h5];rfl
theorem avg (w:World) (g:Nat) (x4 x5 x6 x7 x8:Value):Tch (fun k=>k=g) w (((((w.setCell ⟨g,4,none⟩ x4).setCell ⟨g,5,none⟩ x5).setCell ⟨g,6,none⟩ x6).setCell ⟨g,7,none⟩ x7).setCell ⟨g,8,none⟩ x8):=by
 have t:∀(W:World) (i:Nat) (x:Value),Tch (fun k=>k=g) w W->Tch (fun k=>k=g) w (W.setCell ⟨g,i,none⟩ x):=fun W i x h=>h.trans (Tch.set (S:=fun k=>k=g) W ⟨g,i,none⟩ x rfl) (fun _ _ h=>h);exact t _ _ _ (t _ _ _ (t _ _ _ (t _ _ _ (t _ _ _ (Tch.refl _ _)))))
structure Do3 (w w3:World) (b3 b4 b5:Nat) (cs:Array Value):Prop where
 bel:Below w.heap.size w w3
 n3:w3.heap[b3]?=some (.cells cs 43 (0,0))
 n4:w3.heap[b4]?=some (.cells rp0 50 (0,0))
 n5:w3.heap[b5]?=some (.cells rp0 50 (0,0))
 l3:w.heap.size<=b3
 l4:w.heap.size<=b4
 l5:w.heap.size<=b5
 ne:b4≠b5
theorem Do3.made (w:World) (cs:Array Value):Do3 w (((w.alloc (.cells cs 43)).alloc (.cells rp0 50)).alloc (.cells rp0 50)) w.heap.size (w.alloc (.cells cs 43)).heap.size ((w.alloc (.cells cs 43)).alloc (.cells rp0 50)).heap.size cs:=by
 obtain⟨w1,hw1⟩:=nmE (w.alloc (.cells cs 43));have b1:=abE hw1;have n1:=anE hw1;rw[hw1];obtain⟨w2,hw2⟩:=nmE (w1.alloc (.cells rp0 50));have b2:=abE hw2;have n2:=anE hw2;rw[hw2];have n12:=(b2.block _ (aae n1)).trans n1;obtain⟨w3,hw3⟩:=nmE (w2.alloc (.cells rp0 50));have b3:=abE hw3;have n3:=anE hw3;rw[hw3];have l12:=aae n2;exact⟨b1.trans ((b2.mono b1.size).trans (b3.mono (Nat.le_trans b1.size b2.size))),(b3.block _ (aae n12)).trans n12,(b3.block _ l12).trans n2,n3,Nat.le_refl _,b1.size,Nat.le_trans b1.size b2.size,by omega⟩
theorem aui (p n m a:Nat) (b:List UInt8):H.doC 0 p n m a b=(Rp.err 1,H):=by
 unfold Hp.doC;rw[if_neg (by decide),if_neg (by decide),if_neg (by decide),if_neg (by decide),if_neg (by decide),if_neg (by decide)]
theorem aqW (p n m a:Nat) (b:List UInt8):H.doC 1 p n m a b=asN (H.get n 165):=by unfold Hp.doC;rw[if_pos rfl]
theorem auj (p n m a:Nat) (b:List UInt8):H.doC 2 p n m a b=asN (H.calloc n m):=by unfold Hp.doC;rw[if_neg (by decide),if_pos rfl]
theorem asu (p n m a:Nat) (b:List UInt8):H.doC 3 p n m a b=(Rp.err (H.freeP p).1,(H.freeP p).2):=by
 unfold Hp.doC Hp.freeP;rw[if_neg (by decide),if_neg (by decide),if_pos rfl]
 cases H.handleB p<;>rfl
theorem auk (p n m a:Nat) (b:List UInt8):H.doC 4 p n m a b=asN (H.realloc p n):=by unfold Hp.doC;rw[if_neg (by decide),if_neg (by decide),if_neg (by decide),if_pos rfl]
theorem aul (p n m a:Nat) (b:List UInt8):H.doC 5 p n m a b=(⟨(H.usableP p).2,0,(H.usableP p).1,[],St5.none⟩,H):=by
 unfold Hp.doC Hp.heldC Hp.usableP;rw[if_neg (by decide),if_neg (by decide),if_neg (by decide),if_neg (by decide),if_pos (.inl rfl)]
 cases H.handleB p with
 | none=>rfl
 | some i=>dsimp only;rw[if_pos rfl]
theorem asv (p n m a:Nat) (b:List UInt8):H.doC 6 p n m a b=(⟨(H.readP p a n).2,0,0,(H.readP p a n).1,St5.none⟩,H):=by
 unfold Hp.doC Hp.heldC Hp.readP;rw[if_neg (by decide),if_neg (by decide),if_neg (by decide),if_neg (by decide),if_pos (.inr (.inl rfl))]
 cases H.handleB p with
 | none=>rfl
 | some i=>
  dsimp only;rw[if_neg (by decide),if_neg (show ¬(6:Int)=7 by decide)];by_cases h:(H.ds.getD i acI).2.length<a+n
  · rw[if_pos h,if_pos h];rfl
  · rw[if_neg h,if_neg h,if_pos rfl]
theorem asw (p n m a:Nat) (b:List UInt8):H.doC 7 p n m a b=(Rp.err (H.writeP p a b).1,(H.writeP p a b).2):=by
 unfold Hp.doC Hp.heldC Hp.writeP;rw[if_neg (by decide),if_neg (by decide),if_neg (by decide),if_neg (by decide),if_pos (.inr (.inr rfl))]
 cases H.handleB p with
 | none=>rfl
 | some i=>
  dsimp only;rw[if_neg (by decide),if_pos (show(7:Int)=7 from rfl)];by_cases h:(H.ds.getD i acI).2.length<a+b.length
  · rw[if_pos h,if_pos h]
  · rw[if_neg h,if_neg h,if_neg (by decide)]
theorem aum (p n m a:Nat) (b:List UInt8):H.doC 8 p n m a b=(⟨0,0,0,[],H.stats⟩,H):=by
 unfold Hp.doC;rw[if_neg (by decide),if_neg (by decide),if_neg (by decide),if_neg (by decide),if_neg (by decide),if_pos rfl]
end
theorem ado{P:Prop}(h:P:=by
 clear y0 y1 y2 y3 y4 y5 y6 y7 y8 f0 f1 f2 f3 f4 f5 f6 f7 f8 hy;obtain⟨⟨y0,y1,y2,y3,y4,y5,y6,y7,y8⟩,f0,f1,f2,f3,f4,f5,f6,f7,f8⟩:=abo n6;have hy6:=aac n6;have HW7:=hE0 hw7;obtain⟨⟨u0,u1,u2,u3,u4,u5,u6,u7,u8⟩,_⟩:=abo n7;have hy7:=aac n7;obtain⟨⟨v0,v1,v2,v3,v4,v5,v6,v7,v8⟩,e0,e1,e2,e3,e4,e5,e6,e7,e8⟩:=abo m7;have hm7:=aac m7;clear hb6 n6 m6 hw7 n7 m7 t7 tf HNM HT5 HN5 HM5;go_wp2_with (first | (rw[HW7.out]) | fail)
 (try simp only[Exit.inBlock,Exit.then])
 refine aqU (g:=w1.heap.size) Tryz.results20 ?_ ?_ MF.out ?_
 · rfl
 · rfl
 · exact⟨⟨none,0,rfl,World.ownsRow_nil _ _ _ _⟩,HT4.out.ends HM4.out HM45.out HD.out.l4 HD.out.l5 TF.out⟩
 ):P:=h
theorem avY{w:World}{q g base cap c:Nat}{A:Option Addr}{bs:List UInt8}{H:Hp}(h:PH w q g base cap A c bs H) (hE:ET w) (h0:¬foot g A 0) (p n m a bl k:Nat) (B:Option Addr) (b:List UInt8):
 Calls Tryz.prog 20 #[.pointer (some ⟨q,0,none⟩),abB 0 p n m a B bl k] w fun e w'=>adn (H.doC 0 p n m a b).1 w e w'/\PTurn g base cap A (H.doC 0 p n m a b).2 w w':=by
 rw[aui];unfold abB;have hd:=Do3.made w #[.int .i64 0, .int .u64 (p:Int), .int .u64 (n:Int), .int .u64 (m:Int), .int .u64 (a:Int), .slice B bl k];obtain⟨w1,hw1⟩:=nmE (w.alloc (.cells #[.int .i64 0, .int .u64 (p:Int), .int .u64 (n:Int), .int .u64 (m:Int), .int .u64 (a:Int), .slice B bl k] 43));rw[hw1]at hd;obtain⟨w2,hw2⟩:=nmE (w1.alloc (.cells rp0 50));rw[hw2]at hd;obtain⟨w3,hw3⟩:=nmE (w2.alloc (.cells rp0 50));rw[hw3]at hd;unfold rp0 at hw2 hw3;obtain⟨z0,z1,z2,z3,z4,z5⟩:=abp hd.n3;have hz:=aac hd.n3;have h3:=h.below hd.bel;have hk:∀k,w.heap.size<=k->¬foot g A k:=fun k hk hf=>by have:=h.ar.foot_lt hf;omega
 have HD:=hE0 hd;have HH:=hE0 h;have HK:=hE0 hk;have HW1:=hE0 hw1;have HW2:=hE0 hw2;have HW3:=hE0 hw3;have HE:=hE0 hE;have H00:=hE0 h0;clear h hd h3 hE hk hw1 hw2 hw3 h0;go_enter Tryz.func20,Tryz.ntmps20
 have T4:PTurn g base cap A H w w3:=HH.out.stay HD.out.bel;have E4:ET w3:=HE.out.keep (T4.tch.block 0 HE.out.lt H00.out);have t34:Tch (foot g A) w3 w3:=Tch.refl _ _;have m4:=(t34.block _ (aae HD.out.n4) (HK.out _ HD.out.l4)).trans HD.out.n4;have m5:=(t34.block _ (aae HD.out.n5) (HK.out _ HD.out.l5)).trans HD.out.n5;obtain⟨⟨y0,y1,y2,y3,y4,y5,y6,y7,y8⟩,f0,f1,f2,f3,f4,f5,f6,f7,f8⟩:=abo m5;have hy:=aac m5;have n5:w3.heap[w2.heap.size]?=some (.cells #[.int .i64 0, .int .u64 0, .int .u64 0, .slice none 0 0, .int .i64 0, .int .i64 0, .int .i64 0, .int .i64 0, .int .i64 0] 50 (0,0)):=m5;have t5:Tch (fun k=>k=w2.heap.size) w3 w3:=Tch.refl _ _;have E5:ET w3:=E4.keep (t5.block 0 E4.lt (fun e=>by
  have e:0=w2.heap.size:=e;have h1:=HD.out.l5;have h2:=HE.out.lt;omega))
 have m5':w3.heap[w1.heap.size]?=some (.cells rp0 50 (0,0)):=(t5.block _ (aae m4) HD.out.ne).trans m4;have HNM:=hE0 (ahl E5 1);have HT5:=hE0 t5;have HN5:=hE0 n5;have HM5:=hE0 m5';have HM4:=hE0 m4;have HM45:=hE0 m5;have HT4:=hE0 T4;clear E4 E5 m4 m5 m5' n5 t5 T4;go_wp2_with (first | (rw[HW1.out]) | (rw[HW2.out]) | (rw[HW3.out]) | fail)
 refine HNM.out.mono ?_;rintro e w6 ⟨rfl,hb6⟩;have n6:=(hb6.block _ (aae HN5.out)).trans HN5.out;have m6:=(hb6.block _ (aae HM5.out)).trans HM5.out;obtain⟨w7,hw7⟩:=nmE (w6.setCell ⟨w2.heap.size,0,none⟩ (.int .i64 1));have n7:w7.heap[w2.heap.size]?=some (.cells #[.int .i64 1, .int .u64 0, .int .u64 0, .slice none 0 0, .int .i64 0, .int .i64 0, .int .i64 0, .int .i64 0, .int .i64 0] 50 (0,0)):=by rw[<-hw7];exact heap_setCell_same w6 w2.heap.size 0 _ _ _ n6
 have m7:w7.heap[w1.heap.size]?=some (.cells rp0 50 (0,0)):=by rw[<-hw7];exact(Below.heap_setCell w6 ⟨w2.heap.size,0,none⟩ _ w1.heap.size HD.out.ne).trans m6
 have t7:Tch (fun k=>k=w2.heap.size) w6 w7:=by rw[<-hw7];exact Tch.set (S:=fun k=>k=w2.heap.size) w6 ⟨w2.heap.size,0,none⟩ _ rfl
 have tf:Tch (fun k=>k=w1.heap.size\/k=w2.heap.size) w3 (aq7 w7 w1.heap.size (.int .i64 1) (.int .u64 0) (.int .u64 0) (.slice none 0 0) (.int .i64 0) (.int .i64 0) (.int .i64 0) (.int .i64 0) (.int .i64 0)):=
  (((((Tch.refl (fun k=>k=w1.heap.size\/k=w2.heap.size) w3).trans HT5.out (fun _ _ e=> .inr e)).trans (Tch.of_below (S:=fun _=>False) hb6) (fun _ _ h=>h.elim)).trans t7 (fun _ _ e=> .inr e)).trans (aew w7 w1.heap.size (.int .i64 1) (.int .u64 0) (.int .u64 0) (.slice none 0 0) (.int .i64 0) (.int .i64 0) (.int .i64 0) (.int .i64 0) (.int .i64 0)) (fun _ _ e=> .inl e))
 have TF:=hE0 tf;have MF:=hE0 (aix m7 (.int .i64 1) (.int .u64 0) (.int .u64 0) (.slice none 0 0) (.int .i64 0) (.int .i64 0) (.int .i64 0) (.int .i64 0) (.int .i64 0));exact ado
theorem aiy{P:Prop}(h:P:=by
 have HT5:=hE0 t5;have HN5:=hE0 n5;have HM5:=hE0 m5';have HM4:=hE0 m4;have HM45:=hE0 m5;have HT4:=hE0 T4;clear E4 E5 m4 m5 m5' n5 t5 T4;go_wp2_with (first | (rw[HW5.out]) | fail)
 refine HNM.out.mono ?_;rintro e w6 ⟨rfl,hb6⟩;have n6:=(hb6.block _ (aae HN5.out)).trans HN5.out;have m6:=(hb6.block _ (aae HM5.out)).trans HM5.out;obtain⟨w7,hw7⟩:=nmE (w6.setCell ⟨w2.heap.size,0,none⟩ (.int .i64 rk));have n7:w7.heap[w2.heap.size]?=some (.cells #[.int .i64 rk, .int .u64 (rh:Int), .int .u64 0, .slice none 0 0, .int .i64 0, .int .i64 0, .int .i64 0, .int .i64 0, .int .i64 0] 50 (0,0)):=by rw[<-hw7];exact heap_setCell_same w6 w2.heap.size 0 _ _ _ n6
 have m7:w7.heap[w1.heap.size]?=some (.cells rp0 50 (0,0)):=by rw[<-hw7];exact(Below.heap_setCell w6 ⟨w2.heap.size,0,none⟩ _ w1.heap.size HD.out.ne).trans m6
 have t7:Tch (fun k=>k=w2.heap.size) w6 w7:=by rw[<-hw7];exact Tch.set (S:=fun k=>k=w2.heap.size) w6 ⟨w2.heap.size,0,none⟩ _ rfl
 have tf:Tch (fun k=>k=w1.heap.size\/k=w2.heap.size) w4 (aq7 w7 w1.heap.size (.int .i64 rk) (.int .u64 (rh:Int)) (.int .u64 0) (.slice none 0 0) (.int .i64 0) (.int .i64 0) (.int .i64 0) (.int .i64 0) (.int .i64 0)):=
  (((((Tch.refl (fun k=>k=w1.heap.size\/k=w2.heap.size) w4).trans HT5.out (fun _ _ e=> .inr e)).trans (Tch.of_below (S:=fun _=>False) hb6) (fun _ _ h=>h.elim)).trans t7 (fun _ _ e=> .inr e)).trans (aew w7 w1.heap.size (.int .i64 rk) (.int .u64 (rh:Int)) (.int .u64 0) (.slice none 0 0) (.int .i64 0) (.int .i64 0) (.int .i64 0) (.int .i64 0) (.int .i64 0)) (fun _ _ e=> .inl e))
 have TF:=hE0 tf;have MF:=hE0 (aix m7 (.int .i64 rk) (.int .u64 (rh:Int)) (.int .u64 0) (.slice none 0 0) (.int .i64 0) (.int .i64 0) (.int .i64 0) (.int .i64 0) (.int .i64 0));exact ado
 ):P:=h
theorem asx{w:World}{q g base cap c:Nat}{A:Option Addr}{bs:List UInt8}{H:Hp}(h:PH w q g base cap A c bs H) (hE:ET w) (h0:¬foot g A 0) (p n m a bl k:Nat) (B:Option Addr) (b:List UInt8) (hM:∀w3,Below w.heap.size w w3->Calls Tryz.prog 61 #[.pointer (some ⟨q,0,none⟩), .int .u64 (n:Int)] w3 fun e w'=>ahj g base cap A (H.get n 165) w3 e w') (hN:∀W,ET W->Calls Tryz.prog 71 #[ak1 (H.get n 165).1.2] W fun e w'=>e= .returned (.int .i64 (H.get n 165).1.2)/\Below W.heap.size W w'):
 Calls Tryz.prog 20 #[.pointer (some ⟨q,0,none⟩),abB 1 p n m a B bl k] w fun e w'=>adn (H.doC 1 p n m a b).1 w e w'/\PTurn g base cap A (H.doC 1 p n m a b).2 w w':=by
 rw[aqW];unfold abB;have hd:=Do3.made w #[.int .i64 1, .int .u64 (p:Int), .int .u64 (n:Int), .int .u64 (m:Int), .int .u64 (a:Int), .slice B bl k];obtain⟨w1,hw1⟩:=nmE (w.alloc (.cells #[.int .i64 1, .int .u64 (p:Int), .int .u64 (n:Int), .int .u64 (m:Int), .int .u64 (a:Int), .slice B bl k] 43));rw[hw1]at hd;obtain⟨w2,hw2⟩:=nmE (w1.alloc (.cells rp0 50));rw[hw2]at hd;obtain⟨w3,hw3⟩:=nmE (w2.alloc (.cells rp0 50));rw[hw3]at hd;unfold rp0 at hw2 hw3;obtain⟨z0,z1,z2,z3,z4,z5⟩:=abp hd.n3;have hz:=aac hd.n3;have hk:∀k,w.heap.size<=k->¬foot g A k:=fun k hk hf=>by have:=h.ar.foot_lt hf;omega
 have hO:=hM w3 hd.bel;obtain⟨r,hr⟩:=nmE (H.get n 165);rw[hr]at hO hN ⊢;obtain⟨⟨rh,rk⟩,H'⟩:=r;dsimp only[ahj]at hO;dsimp only[asN];dsimp only at hN;have HO:=hE0 hO;have HNM:=hE0 hN;have HD:=hE0 hd;have HH:=hE0 h;have HK:=hE0 hk;have HW1:=hE0 hw1;have HW2:=hE0 hw2;have HW3:=hE0 hw3;have HE:=hE0 hE;have H00:=hE0 h0;clear h hd hM hN hE hk hw1 hw2 hw3 h0 hO hr;go_enter Tryz.func20,Tryz.ntmps20
 go_wp2_with (first | (rw[HW1.out]) | (rw[HW2.out]) | (rw[HW3.out]) | fail)
 refine HO.out.mono ?_;rintro e w4 ⟨rfl,ht⟩;have T4:PTurn g base cap A H' w w4:=ht.after HD.out.bel;have E4:ET w4:=HE.out.keep (T4.tch.block 0 HE.out.lt H00.out);have t34:Tch (foot g A) w3 w4:=ht.tch;have m4:=(t34.block _ (aae HD.out.n4) (HK.out _ HD.out.l4)).trans HD.out.n4;have m5:=(t34.block _ (aae HD.out.n5) (HK.out _ HD.out.l5)).trans HD.out.n5;obtain⟨⟨y0,y1,y2,y3,y4,y5,y6,y7,y8⟩,f0,f1,f2,f3,f4,f5,f6,f7,f8⟩:=abo m5;have hy:=aac m5;clear z0 z1 z2 z3 z4 z5 hz HO t34;obtain⟨w5,hw5⟩:=nmE (w4.setCell ⟨w2.heap.size,1,none⟩ (.int .u64 (rh:Int)));have n5:w5.heap[w2.heap.size]?=some (.cells #[.int .i64 0, .int .u64 (rh:Int), .int .u64 0, .slice none 0 0, .int .i64 0, .int .i64 0, .int .i64 0, .int .i64 0, .int .i64 0] 50 (0,0)):=by rw[<-hw5];exact heap_setCell_same w4 w2.heap.size 1 _ _ _ m5
 have t5:Tch (fun k=>k=w2.heap.size) w4 w5:=by rw[<-hw5];exact Tch.set (S:=fun k=>k=w2.heap.size) w4 ⟨w2.heap.size,1,none⟩ _ rfl
 have HW5:=hE0 hw5;clear hw5;have E5:ET w5:=E4.keep (t5.block 0 E4.lt (fun e=>by
  have e:0=w2.heap.size:=e;have h1:=HD.out.l5;have h2:=HE.out.lt;omega))
 have m5':w5.heap[w1.heap.size]?=some (.cells rp0 50 (0,0)):=(t5.block _ (aae m4) HD.out.ne).trans m4;have HNM:=hE0 (HNM.out _ E5);exact aiy
theorem avZ{w:World}{q g base cap c:Nat}{A:Option Addr}{bs:List UInt8}{H:Hp}(h:PH w q g base cap A c bs H) (hE:ET w) (h0:¬foot g A 0) (p n m a bl k:Nat) (B:Option Addr) (b:List UInt8) (hn:n<18446744073709551616):
 Calls Tryz.prog 20 #[.pointer (some ⟨q,0,none⟩),abB 1 p n m a B bl k] w fun e w'=>adn (H.doC 1 p n m a b).1 w e w'/\PTurn g base cap A (H.doC 1 p n m a b).2 w w':=
 asx h hE h0 p n m a bl k B b (fun _ hb=>al8 (h.below hb) n hn) fun _ hE=>acS hE _
theorem aiz{P:Prop}(h:P:=by
 rw[hr]at hO ⊢;obtain⟨⟨rh,rk⟩,H'⟩:=r;dsimp only[ahj]at hO;dsimp only[asN];have HO:=hE0 hO;have HD:=hE0 hd;have HH:=hE0 h;have HK:=hE0 hk;have HW1:=hE0 hw1;have HW2:=hE0 hw2;have HW3:=hE0 hw3;have HE:=hE0 hE;have H00:=hE0 h0;clear h hd h3 hE hk hw1 hw2 hw3 h0 hO hr;go_enter Tryz.func20,Tryz.ntmps20
 go_wp2_with (first | (rw[HW1.out]) | (rw[HW2.out]) | (rw[HW3.out]) | fail)
 refine HO.out.mono ?_;rintro e w4 ⟨rfl,ht⟩;have T4:PTurn g base cap A H' w w4:=ht.after HD.out.bel;have E4:ET w4:=HE.out.keep (T4.tch.block 0 HE.out.lt H00.out);have t34:Tch (foot g A) w3 w4:=ht.tch;have m4:=(t34.block _ (aae HD.out.n4) (HK.out _ HD.out.l4)).trans HD.out.n4;have m5:=(t34.block _ (aae HD.out.n5) (HK.out _ HD.out.l5)).trans HD.out.n5;obtain⟨⟨y0,y1,y2,y3,y4,y5,y6,y7,y8⟩,f0,f1,f2,f3,f4,f5,f6,f7,f8⟩:=abo m5;have hy:=aac m5;clear z0 z1 z2 z3 z4 z5 hz HO t34;obtain⟨w5,hw5⟩:=nmE (w4.setCell ⟨w2.heap.size,1,none⟩ (.int .u64 (rh:Int)));have n5:w5.heap[w2.heap.size]?=some (.cells #[.int .i64 0, .int .u64 (rh:Int), .int .u64 0, .slice none 0 0, .int .i64 0, .int .i64 0, .int .i64 0, .int .i64 0, .int .i64 0] 50 (0,0)):=by rw[<-hw5];exact heap_setCell_same w4 w2.heap.size 1 _ _ _ m5
 have t5:Tch (fun k=>k=w2.heap.size) w4 w5:=by rw[<-hw5];exact Tch.set (S:=fun k=>k=w2.heap.size) w4 ⟨w2.heap.size,1,none⟩ _ rfl
 have HW5:=hE0 hw5;clear hw5;have E5:ET w5:=E4.keep (t5.block 0 E4.lt (fun e=>by
  have e:0=w2.heap.size:=e;have h1:=HD.out.l5;have h2:=HE.out.lt;omega))
 have m5':w5.heap[w1.heap.size]?=some (.cells rp0 50 (0,0)):=(t5.block _ (aae m4) HD.out.ne).trans m4;have HNM:=hE0 (acS E5 rk);exact aiy
 ):P:=h
theorem av0{w:World}{q g base cap c:Nat}{A:Option Addr}{bs:List UInt8}{H:Hp}(h:PH w q g base cap A c bs H) (hE:ET w) (h0:¬foot g A 0) (p n m a bl k:Nat) (B:Option Addr) (b:List UInt8) (hn:n<18446744073709551616) (hm:m<18446744073709551616):
 Calls Tryz.prog 20 #[.pointer (some ⟨q,0,none⟩),abB 2 p n m a B bl k] w fun e w'=>adn (H.doC 2 p n m a b).1 w e w'/\PTurn g base cap A (H.doC 2 p n m a b).2 w w':=by
 rw[auj];unfold abB;have hd:=Do3.made w #[.int .i64 2, .int .u64 (p:Int), .int .u64 (n:Int), .int .u64 (m:Int), .int .u64 (a:Int), .slice B bl k];obtain⟨w1,hw1⟩:=nmE (w.alloc (.cells #[.int .i64 2, .int .u64 (p:Int), .int .u64 (n:Int), .int .u64 (m:Int), .int .u64 (a:Int), .slice B bl k] 43));rw[hw1]at hd;obtain⟨w2,hw2⟩:=nmE (w1.alloc (.cells rp0 50));rw[hw2]at hd;obtain⟨w3,hw3⟩:=nmE (w2.alloc (.cells rp0 50));rw[hw3]at hd;unfold rp0 at hw2 hw3;obtain⟨z0,z1,z2,z3,z4,z5⟩:=abp hd.n3;have hz:=aac hd.n3;have h3:=h.below hd.bel;have hk:∀k,w.heap.size<=k->¬foot g A k:=fun k hk hf=>by have:=h.ar.foot_lt hf;omega
 have hO:=akJ h3 n m hn hm;obtain⟨r,hr⟩:=nmE (H.calloc n m);exact aiz
theorem aiA{P:Prop}(h:P:=by
 go_enter Tryz.func20,Tryz.ntmps20
 go_wp2_with (first | (rw[HW1.out]) | (rw[HW2.out]) | (rw[HW3.out]) | fail)
 refine HO.out.mono ?_;rintro e w4 ⟨rfl,ht⟩;have T4:PTurn g base cap A H' w w4:=ht.after HD.out.bel;have E4:ET w4:=HE.out.keep (T4.tch.block 0 HE.out.lt H00.out);have t34:Tch (foot g A) w3 w4:=ht.tch;have m4:=(t34.block _ (aae HD.out.n4) (HK.out _ HD.out.l4)).trans HD.out.n4;have m5:=(t34.block _ (aae HD.out.n5) (HK.out _ HD.out.l5)).trans HD.out.n5;obtain⟨⟨y0,y1,y2,y3,y4,y5,y6,y7,y8⟩,f0,f1,f2,f3,f4,f5,f6,f7,f8⟩:=abo m5;have hy:=aac m5;clear z0 z1 z2 z3 z4 z5 hz HO t34;have n5:w4.heap[w2.heap.size]?=some (.cells #[.int .i64 0, .int .u64 0, .int .u64 0, .slice none 0 0, .int .i64 0, .int .i64 0, .int .i64 0, .int .i64 0, .int .i64 0] 50 (0,0)):=m5;have t5:Tch (fun k=>k=w2.heap.size) w4 w4:=Tch.refl _ _;have E5:ET w4:=E4.keep (t5.block 0 E4.lt (fun e=>by
  have e:0=w2.heap.size:=e;have h1:=HD.out.l5;have h2:=HE.out.lt;omega))
 have m5':w4.heap[w1.heap.size]?=some (.cells rp0 50 (0,0)):=(t5.block _ (aae m4) HD.out.ne).trans m4;have HNM:=hE0 (acS E5 rk);have HT5:=hE0 t5;have HN5:=hE0 n5;have HM5:=hE0 m5';have HM4:=hE0 m4;have HM45:=hE0 m5;have HT4:=hE0 T4;clear E4 E5 m4 m5 m5' n5 t5 T4;go_wp2_with fail
 refine HNM.out.mono ?_;rintro e w6 ⟨rfl,hb6⟩;have n6:=(hb6.block _ (aae HN5.out)).trans HN5.out;have m6:=(hb6.block _ (aae HM5.out)).trans HM5.out;obtain⟨w7,hw7⟩:=nmE (w6.setCell ⟨w2.heap.size,0,none⟩ (.int .i64 rk));have n7:w7.heap[w2.heap.size]?=some (.cells #[.int .i64 rk, .int .u64 0, .int .u64 0, .slice none 0 0, .int .i64 0, .int .i64 0, .int .i64 0, .int .i64 0, .int .i64 0] 50 (0,0)):=by rw[<-hw7];exact heap_setCell_same w6 w2.heap.size 0 _ _ _ n6
 have m7:w7.heap[w1.heap.size]?=some (.cells rp0 50 (0,0)):=by rw[<-hw7];exact(Below.heap_setCell w6 ⟨w2.heap.size,0,none⟩ _ w1.heap.size HD.out.ne).trans m6
 have t7:Tch (fun k=>k=w2.heap.size) w6 w7:=by rw[<-hw7];exact Tch.set (S:=fun k=>k=w2.heap.size) w6 ⟨w2.heap.size,0,none⟩ _ rfl
 have tf:Tch (fun k=>k=w1.heap.size\/k=w2.heap.size) w4 (aq7 w7 w1.heap.size (.int .i64 rk) (.int .u64 0) (.int .u64 0) (.slice none 0 0) (.int .i64 0) (.int .i64 0) (.int .i64 0) (.int .i64 0) (.int .i64 0)):=
  (((((Tch.refl (fun k=>k=w1.heap.size\/k=w2.heap.size) w4).trans HT5.out (fun _ _ e=> .inr e)).trans (Tch.of_below (S:=fun _=>False) hb6) (fun _ _ h=>h.elim)).trans t7 (fun _ _ e=> .inr e)).trans (aew w7 w1.heap.size (.int .i64 rk) (.int .u64 0) (.int .u64 0) (.slice none 0 0) (.int .i64 0) (.int .i64 0) (.int .i64 0) (.int .i64 0) (.int .i64 0)) (fun _ _ e=> .inl e))
 have TF:=hE0 tf;have MF:=hE0 (aix m7 (.int .i64 rk) (.int .u64 0) (.int .u64 0) (.slice none 0 0) (.int .i64 0) (.int .i64 0) (.int .i64 0) (.int .i64 0) (.int .i64 0));exact ado
 ):P:=h
theorem av1{w:World}{q g base cap c:Nat}{A:Option Addr}{bs:List UInt8}{H:Hp}(h:PH w q g base cap A c bs H) (hE:ET w) (h0:¬foot g A 0) (p n m a bl k:Nat) (B:Option Addr) (b:List UInt8) (hp:p<18446744073709551616):
 Calls Tryz.prog 20 #[.pointer (some ⟨q,0,none⟩),abB 3 p n m a B bl k] w fun e w'=>adn (H.doC 3 p n m a b).1 w e w'/\PTurn g base cap A (H.doC 3 p n m a b).2 w w':=by
 rw[asu];unfold abB;have hd:=Do3.made w #[.int .i64 3, .int .u64 (p:Int), .int .u64 (n:Int), .int .u64 (m:Int), .int .u64 (a:Int), .slice B bl k];obtain⟨w1,hw1⟩:=nmE (w.alloc (.cells #[.int .i64 3, .int .u64 (p:Int), .int .u64 (n:Int), .int .u64 (m:Int), .int .u64 (a:Int), .slice B bl k] 43));rw[hw1]at hd;obtain⟨w2,hw2⟩:=nmE (w1.alloc (.cells rp0 50));rw[hw2]at hd;obtain⟨w3,hw3⟩:=nmE (w2.alloc (.cells rp0 50));rw[hw3]at hd;unfold rp0 at hw2 hw3;obtain⟨z0,z1,z2,z3,z4,z5⟩:=abp hd.n3;have hz:=aac hd.n3;have h3:=h.below hd.bel;have hk:∀k,w.heap.size<=k->¬foot g A k:=fun k hk hf=>by have:=h.ar.foot_lt hf;omega
 have hO:=aqD h3 p hp;obtain⟨r,hr⟩:=nmE (H.freeP p);rw[hr]at hO ⊢;obtain⟨rk,H'⟩:=r;dsimp only at hO;dsimp only[Rp.err];have HO:=hE0 hO;have HD:=hE0 hd;have HH:=hE0 h;have HK:=hE0 hk;have HW1:=hE0 hw1;have HW2:=hE0 hw2;have HW3:=hE0 hw3;have HE:=hE0 hE;have H00:=hE0 h0;clear h hd h3 hE hk hw1 hw2 hw3 h0 hO hr;exact aiA
theorem av2{w:World}{q g base cap c:Nat}{A:Option Addr}{bs:List UInt8}{H:Hp}(h:PH w q g base cap A c bs H) (hE:ET w) (h0:¬foot g A 0) (p n m a bl k:Nat) (B:Option Addr) (b:List UInt8) (hp:p<18446744073709551616) (hn:n<18446744073709551616):
 Calls Tryz.prog 20 #[.pointer (some ⟨q,0,none⟩),abB 4 p n m a B bl k] w fun e w'=>adn (H.doC 4 p n m a b).1 w e w'/\PTurn g base cap A (H.doC 4 p n m a b).2 w w':=by
 rw[auk];unfold abB;have hd:=Do3.made w #[.int .i64 4, .int .u64 (p:Int), .int .u64 (n:Int), .int .u64 (m:Int), .int .u64 (a:Int), .slice B bl k];obtain⟨w1,hw1⟩:=nmE (w.alloc (.cells #[.int .i64 4, .int .u64 (p:Int), .int .u64 (n:Int), .int .u64 (m:Int), .int .u64 (a:Int), .slice B bl k] 43));rw[hw1]at hd;obtain⟨w2,hw2⟩:=nmE (w1.alloc (.cells rp0 50));rw[hw2]at hd;obtain⟨w3,hw3⟩:=nmE (w2.alloc (.cells rp0 50));rw[hw3]at hd;unfold rp0 at hw2 hw3;obtain⟨z0,z1,z2,z3,z4,z5⟩:=abp hd.n3;have hz:=aac hd.n3;have h3:=h.below hd.bel;have hk:∀k,w.heap.size<=k->¬foot g A k:=fun k hk hf=>by have:=h.ar.foot_lt hf;omega
 have hO:=ajs h3 p n hp hn;obtain⟨r,hr⟩:=nmE (H.realloc p n);exact aiz
theorem av3{w:World}{q g base cap c:Nat}{A:Option Addr}{bs:List UInt8}{H:Hp}(h:PH w q g base cap A c bs H) (hE:ET w) (h0:¬foot g A 0) (p n m a bl k:Nat) (B:Option Addr) (b:List UInt8) (hp:p<18446744073709551616):
 Calls Tryz.prog 20 #[.pointer (some ⟨q,0,none⟩),abB 5 p n m a B bl k] w fun e w'=>adn (H.doC 5 p n m a b).1 w e w'/\PTurn g base cap A (H.doC 5 p n m a b).2 w w':=by
 rw[aul];unfold abB;have hd:=Do3.made w #[.int .i64 5, .int .u64 (p:Int), .int .u64 (n:Int), .int .u64 (m:Int), .int .u64 (a:Int), .slice B bl k];obtain⟨w1,hw1⟩:=nmE (w.alloc (.cells #[.int .i64 5, .int .u64 (p:Int), .int .u64 (n:Int), .int .u64 (m:Int), .int .u64 (a:Int), .slice B bl k] 43));rw[hw1]at hd;obtain⟨w2,hw2⟩:=nmE (w1.alloc (.cells rp0 50));rw[hw2]at hd;obtain⟨w3,hw3⟩:=nmE (w2.alloc (.cells rp0 50));rw[hw3]at hd;unfold rp0 at hw2 hw3;obtain⟨z0,z1,z2,z3,z4,z5⟩:=abp hd.n3;have hz:=aac hd.n3;have h3:=h.below hd.bel;have hk:∀k,w.heap.size<=k->¬foot g A k:=fun k hk hf=>by have:=h.ar.foot_lt hf;omega
 have hO:=akK h3 p hp;obtain⟨r,hr⟩:=nmE (H.usableP p);rw[hr]at hO ⊢;obtain⟨rh,rk⟩:=r;dsimp only at hO;dsimp only;have HO:=hE0 hO;have HD:=hE0 hd;have HH:=hE0 h;have HK:=hE0 hk;have HW1:=hE0 hw1;have HW2:=hE0 hw2;have HW3:=hE0 hw3;have HE:=hE0 hE;have H00:=hE0 h0;clear h hd h3 hE hk hw1 hw2 hw3 h0 hO hr;go_enter Tryz.func20,Tryz.ntmps20
 go_wp2_with (first | (rw[HW1.out]) | (rw[HW2.out]) | (rw[HW3.out]) | fail)
 refine HO.out.mono ?_;rintro e w4 ⟨rfl,hb4⟩;have T4:PTurn g base cap A H w w4:=HH.out.stay (HD.out.bel.trans (hb4.mono HD.out.bel.size));have E4:ET w4:=HE.out.keep (T4.tch.block 0 HE.out.lt H00.out);have t34:Tch (foot g A) w3 w4:=Tch.of_below hb4;have m4:=(t34.block _ (aae HD.out.n4) (HK.out _ HD.out.l4)).trans HD.out.n4;have m5:=(t34.block _ (aae HD.out.n5) (HK.out _ HD.out.l5)).trans HD.out.n5;obtain⟨⟨y0,y1,y2,y3,y4,y5,y6,y7,y8⟩,f0,f1,f2,f3,f4,f5,f6,f7,f8⟩:=abo m5;have hy:=aac m5;clear z0 z1 z2 z3 z4 z5 hz HO t34;obtain⟨w5,hw5⟩:=nmE (w4.setCell ⟨w2.heap.size,2,none⟩ (.int .u64 (rh:Int)));have n5:w5.heap[w2.heap.size]?=some (.cells #[.int .i64 0, .int .u64 0, .int .u64 (rh:Int), .slice none 0 0, .int .i64 0, .int .i64 0, .int .i64 0, .int .i64 0, .int .i64 0] 50 (0,0)):=by rw[<-hw5];exact heap_setCell_same w4 w2.heap.size 2 _ _ _ m5
 have t5:Tch (fun k=>k=w2.heap.size) w4 w5:=by rw[<-hw5];exact Tch.set (S:=fun k=>k=w2.heap.size) w4 ⟨w2.heap.size,2,none⟩ _ rfl
 have HW5:=hE0 hw5;clear hw5;have E5:ET w5:=E4.keep (t5.block 0 E4.lt (fun e=>by
  have e:0=w2.heap.size:=e;have h1:=HD.out.l5;have h2:=HE.out.lt;omega))
 have m5':w5.heap[w1.heap.size]?=some (.cells rp0 50 (0,0)):=(t5.block _ (aae m4) HD.out.ne).trans m4;have HNM:=hE0 (acS E5 rk);have HT5:=hE0 t5;have HN5:=hE0 n5;have HM5:=hE0 m5';have HM4:=hE0 m4;have HM45:=hE0 m5;have HT4:=hE0 T4;clear E4 E5 m4 m5 m5' n5 t5 T4;go_wp2_with (first | (rw[HW5.out]) | fail)
 refine HNM.out.mono ?_;rintro e w6 ⟨rfl,hb6⟩;have n6:=(hb6.block _ (aae HN5.out)).trans HN5.out;have m6:=(hb6.block _ (aae HM5.out)).trans HM5.out;obtain⟨w7,hw7⟩:=nmE (w6.setCell ⟨w2.heap.size,0,none⟩ (.int .i64 rk));have n7:w7.heap[w2.heap.size]?=some (.cells #[.int .i64 rk, .int .u64 0, .int .u64 (rh:Int), .slice none 0 0, .int .i64 0, .int .i64 0, .int .i64 0, .int .i64 0, .int .i64 0] 50 (0,0)):=by rw[<-hw7];exact heap_setCell_same w6 w2.heap.size 0 _ _ _ n6
 have m7:w7.heap[w1.heap.size]?=some (.cells rp0 50 (0,0)):=by rw[<-hw7];exact(Below.heap_setCell w6 ⟨w2.heap.size,0,none⟩ _ w1.heap.size HD.out.ne).trans m6
 have t7:Tch (fun k=>k=w2.heap.size) w6 w7:=by rw[<-hw7];exact Tch.set (S:=fun k=>k=w2.heap.size) w6 ⟨w2.heap.size,0,none⟩ _ rfl
 have tf:Tch (fun k=>k=w1.heap.size\/k=w2.heap.size) w4 (aq7 w7 w1.heap.size (.int .i64 rk) (.int .u64 0) (.int .u64 (rh:Int)) (.slice none 0 0) (.int .i64 0) (.int .i64 0) (.int .i64 0) (.int .i64 0) (.int .i64 0)):=
  (((((Tch.refl (fun k=>k=w1.heap.size\/k=w2.heap.size) w4).trans HT5.out (fun _ _ e=> .inr e)).trans (Tch.of_below (S:=fun _=>False) hb6) (fun _ _ h=>h.elim)).trans t7 (fun _ _ e=> .inr e)).trans (aew w7 w1.heap.size (.int .i64 rk) (.int .u64 0) (.int .u64 (rh:Int)) (.slice none 0 0) (.int .i64 0) (.int .i64 0) (.int .i64 0) (.int .i64 0) (.int .i64 0)) (fun _ _ e=> .inl e))
 have TF:=hE0 tf;have MF:=hE0 (aix m7 (.int .i64 rk) (.int .u64 0) (.int .u64 (rh:Int)) (.slice none 0 0) (.int .i64 0) (.int .i64 0) (.int .i64 0) (.int .i64 0) (.int .i64 0));exact ado
theorem avh{w:World}{q g base cap c:Nat}{A:Option Addr}{bs:List UInt8}{H:Hp}(h:PH w q g base cap A c bs H) (hE:ET w) (h0:¬foot g A 0) (p n m a bl k:Nat) (B:Option Addr) (b:List UInt8) (hp:p<18446744073709551616) (ha:a<18446744073709551616) (hn:n<18446744073709551616):
 Calls Tryz.prog 20 #[.pointer (some ⟨q,0,none⟩),abB 6 p n m a B bl k] w fun e w'=>adn (H.doC 6 p n m a b).1 w e w'/\PTurn g base cap A (H.doC 6 p n m a b).2 w w'/\Below w.heap.size w w':=by
 rw[asv];unfold abB;have hd:=Do3.made w #[.int .i64 6, .int .u64 (p:Int), .int .u64 (n:Int), .int .u64 (m:Int), .int .u64 (a:Int), .slice B bl k];obtain⟨w1,hw1⟩:=nmE (w.alloc (.cells #[.int .i64 6, .int .u64 (p:Int), .int .u64 (n:Int), .int .u64 (m:Int), .int .u64 (a:Int), .slice B bl k] 43));rw[hw1]at hd;obtain⟨w2,hw2⟩:=nmE (w1.alloc (.cells rp0 50));rw[hw2]at hd;obtain⟨w3,hw3⟩:=nmE (w2.alloc (.cells rp0 50));rw[hw3]at hd;unfold rp0 at hw2 hw3;obtain⟨z0,z1,z2,z3,z4,z5⟩:=abp hd.n3;have hz:=aac hd.n3;have h3:=h.below hd.bel;have hk:∀k,w.heap.size<=k->¬foot g A k:=fun k hk hf=>by have:=h.ar.foot_lt hf;omega
 have hO:=aqN h3 p a n hp ha hn;obtain⟨r,hr⟩:=nmE (H.readP p a n);rw[hr]at hO ⊢;obtain⟨rb,rk⟩:=r;unfold PBytes at hO;dsimp only at hO;dsimp only;have hbs:=hd.bel.size;have HO:=hE0 hO;have HD:=hE0 hd;have HH:=hE0 h;have HK:=hE0 hk;have HW1:=hE0 hw1;have HW2:=hE0 hw2;have HW3:=hE0 hw3;have HE:=hE0 hE;have H00:=hE0 h0;clear h hd h3 hE hk hw1 hw2 hw3 h0 hO hr;go_enter Tryz.func20,Tryz.ntmps20
 go_wp2_with (first | (rw[HW1.out]) | (rw[HW2.out]) | (rw[HW3.out]) | fail)
 refine HO.out.mono ?_;rintro e w4 ⟨A',c',rfl,ho,hb4⟩;have BW4:=hE0 (HD.out.bel.trans (hb4.mono HD.out.bel.size));have T4:PTurn g base cap A H w w4:=HH.out.stay (HD.out.bel.trans (hb4.mono HD.out.bel.size));have E4:ET w4:=HE.out.keep (T4.tch.block 0 HE.out.lt H00.out);have t34:Tch (foot g A) w3 w4:=Tch.of_below hb4;have m4:=(t34.block _ (aae HD.out.n4) (HK.out _ HD.out.l4)).trans HD.out.n4;have m5:=(t34.block _ (aae HD.out.n5) (HK.out _ HD.out.l5)).trans HD.out.n5;obtain⟨⟨y0,y1,y2,y3,y4,y5,y6,y7,y8⟩,f0,f1,f2,f3,f4,f5,f6,f7,f8⟩:=abo m5;have hy:=aac m5;clear z0 z1 z2 z3 z4 z5 hz HO t34;obtain⟨w5,hw5⟩:=nmE (w4.setCell ⟨w2.heap.size,3,none⟩ (.slice A' rb.length c'));have n5:w5.heap[w2.heap.size]?=some (.cells #[.int .i64 0, .int .u64 0, .int .u64 0, .slice A' rb.length c', .int .i64 0, .int .i64 0, .int .i64 0, .int .i64 0, .int .i64 0] 50 (0,0)):=by rw[<-hw5];exact heap_setCell_same w4 w2.heap.size 3 _ _ _ m5
 have t5:Tch (fun k=>k=w2.heap.size) w4 w5:=by rw[<-hw5];exact Tch.set (S:=fun k=>k=w2.heap.size) w4 ⟨w2.heap.size,3,none⟩ _ rfl
 have HW5:=hE0 hw5;clear hw5;have E5:ET w5:=E4.keep (t5.block 0 E4.lt (fun e=>by
  have e:0=w2.heap.size:=e;have h1:=HD.out.l5;have h2:=HE.out.lt;omega))
 have m5':w5.heap[w1.heap.size]?=some (.cells rp0 50 (0,0)):=(t5.block _ (aae m4) HD.out.ne).trans m4;have HNM:=hE0 (acS E5 rk);have HT5:=hE0 t5;have HN5:=hE0 n5;have HM5:=hE0 m5';have HM4:=hE0 m4;have HM45:=hE0 m5;have HT4:=hE0 T4;clear E4 E5 m4 m5 m5' n5 t5 T4;go_wp2_with (first | (rw[HW5.out]) | fail)
 refine HNM.out.mono ?_;rintro e w6 ⟨rfl,hb6⟩;have n6:=(hb6.block _ (aae HN5.out)).trans HN5.out;have m6:=(hb6.block _ (aae HM5.out)).trans HM5.out;obtain⟨w7,hw7⟩:=nmE (w6.setCell ⟨w2.heap.size,0,none⟩ (.int .i64 rk));have n7:w7.heap[w2.heap.size]?=some (.cells #[.int .i64 rk, .int .u64 0, .int .u64 0, .slice A' rb.length c', .int .i64 0, .int .i64 0, .int .i64 0, .int .i64 0, .int .i64 0] 50 (0,0)):=by rw[<-hw7];exact heap_setCell_same w6 w2.heap.size 0 _ _ _ n6
 have m7:w7.heap[w1.heap.size]?=some (.cells rp0 50 (0,0)):=by rw[<-hw7];exact(Below.heap_setCell w6 ⟨w2.heap.size,0,none⟩ _ w1.heap.size HD.out.ne).trans m6
 have t7:Tch (fun k=>k=w2.heap.size) w6 w7:=by rw[<-hw7];exact Tch.set (S:=fun k=>k=w2.heap.size) w6 ⟨w2.heap.size,0,none⟩ _ rfl
 have tf:Tch (fun k=>k=w1.heap.size\/k=w2.heap.size) w4 (aq7 w7 w1.heap.size (.int .i64 rk) (.int .u64 0) (.int .u64 0) (.slice A' rb.length c') (.int .i64 0) (.int .i64 0) (.int .i64 0) (.int .i64 0) (.int .i64 0)):=
  (((((Tch.refl (fun k=>k=w1.heap.size\/k=w2.heap.size) w4).trans HT5.out (fun _ _ e=> .inr e)).trans (Tch.of_below (S:=fun _=>False) hb6) (fun _ _ h=>h.elim)).trans t7 (fun _ _ e=> .inr e)).trans (aew w7 w1.heap.size (.int .i64 rk) (.int .u64 0) (.int .u64 0) (.slice A' rb.length c') (.int .i64 0) (.int .i64 0) (.int .i64 0) (.int .i64 0) (.int .i64 0)) (fun _ _ e=> .inl e))
 have TF:=hE0 tf;have MF:=hE0 (aix m7 (.int .i64 rk) (.int .u64 0) (.int .u64 0) (.slice A' rb.length c') (.int .i64 0) (.int .i64 0) (.int .i64 0) (.int .i64 0) (.int .i64 0));clear y0 y1 y2 y3 y4 y5 y6 y7 y8 f0 f1 f2 f3 f4 f5 f6 f7 f8 hy;obtain⟨⟨y0,y1,y2,y3,y4,y5,y6,y7,y8⟩,f0,f1,f2,f3,f4,f5,f6,f7,f8⟩:=abo n6;have hy6:=aac n6;have HW7:=hE0 hw7;obtain⟨⟨u0,u1,u2,u3,u4,u5,u6,u7,u8⟩,_⟩:=abo n7;have hy7:=aac n7;obtain⟨⟨v0,v1,v2,v3,v4,v5,v6,v7,v8⟩,e0,e1,e2,e3,e4,e5,e6,e7,e8⟩:=abo m7;have hm7:=aac m7;clear hb6 n6 m6 hw7 n7 m7 t7 tf HNM HT5 HN5 HM5;go_wp2_with (first | (rw[HW7.out]) | fail)
 (try simp only[Exit.inBlock,Exit.then])
 refine aqU (g:=w1.heap.size) Tryz.results20 ?_ ?_ MF.out ?_
 · rfl
 · rfl
 · exact⟨⟨A',c',rfl,akP (acc ho (fun j e=>TF.out.block j (ho.lt j e).2 (by
    have h1:=(ho.lt j e).1;have h2:=aae HD.out.n4;have h3:=aae HD.out.n5;rintro(rfl | rfl)<;>omega))) hbs⟩,HT4.out.ends HM4.out HM45.out HD.out.l4 HD.out.l5 TF.out,BW4.out.trans (TF.out.below (fun k hk=>by
    rcases hk with rfl | rfl
    · exact HD.out.l4
    · exact HD.out.l5) BW4.out.size)⟩
theorem av4{w:World}{q g base cap c:Nat}{A:Option Addr}{bs:List UInt8}{H:Hp}(h:PH w q g base cap A c bs H) (hE:ET w) (h0:¬foot g A 0) (p n m a bl k:Nat) (B:Option Addr) (b:List UInt8) (hp:p<18446744073709551616) (ha:a<18446744073709551616) (hbl:b.length=bl) (hr:Rd w w.heap.size B b.length b) (hb6:bl<=1000000):
 Calls Tryz.prog 20 #[.pointer (some ⟨q,0,none⟩),abB 7 p n m a B bl k] w fun e w'=>adn (H.doC 7 p n m a b).1 w e w'/\PTurn g base cap A (H.doC 7 p n m a b).2 w w':=by
 rw[asw];unfold abB;have hd:=Do3.made w #[.int .i64 7, .int .u64 (p:Int), .int .u64 (n:Int), .int .u64 (m:Int), .int .u64 (a:Int), .slice B bl k];obtain⟨w1,hw1⟩:=nmE (w.alloc (.cells #[.int .i64 7, .int .u64 (p:Int), .int .u64 (n:Int), .int .u64 (m:Int), .int .u64 (a:Int), .slice B bl k] 43));rw[hw1]at hd;obtain⟨w2,hw2⟩:=nmE (w1.alloc (.cells rp0 50));rw[hw2]at hd;obtain⟨w3,hw3⟩:=nmE (w2.alloc (.cells rp0 50));rw[hw3]at hd;unfold rp0 at hw2 hw3;obtain⟨z0,z1,z2,z3,z4,z5⟩:=abp hd.n3;have hz:=aac hd.n3;have h3:=h.below hd.bel;have hk:∀k,w.heap.size<=k->¬foot g A k:=fun k hk hf=>by have:=h.ar.foot_lt hf;omega
 have hO:=aon h3 p a b B k ((hr.below hd.bel).more hd.bel.size) hp ha (by omega);rw[hbl]at hO;obtain⟨r,hr2⟩:=nmE (H.writeP p a b);rw[hr2]at hO ⊢;obtain⟨rk,H'⟩:=r;dsimp only at hO;dsimp only[Rp.err];have HO:=hE0 hO;have HD:=hE0 hd;have HH:=hE0 h;have HK:=hE0 hk;have HW1:=hE0 hw1;have HW2:=hE0 hw2;have HW3:=hE0 hw3;have HE:=hE0 hE;have H00:=hE0 h0;clear h hd h3 hE hk hw1 hw2 hw3 h0 hO hr hr2 hbl;exact aiA
theorem av5{w:World}{q g base cap c:Nat}{A:Option Addr}{bs:List UInt8}{H:Hp}(h:PH w q g base cap A c bs H) (hE:ET w) (h0:¬foot g A 0) (p n m a bl k:Nat) (B:Option Addr) (b:List UInt8):
 Calls Tryz.prog 20 #[.pointer (some ⟨q,0,none⟩),abB 8 p n m a B bl k] w fun e w'=>adn (H.doC 8 p n m a b).1 w e w'/\PTurn g base cap A (H.doC 8 p n m a b).2 w w':=by
 rw[aum];unfold abB;have hd:=Do3.made w #[.int .i64 8, .int .u64 (p:Int), .int .u64 (n:Int), .int .u64 (m:Int), .int .u64 (a:Int), .slice B bl k];obtain⟨w1,hw1⟩:=nmE (w.alloc (.cells #[.int .i64 8, .int .u64 (p:Int), .int .u64 (n:Int), .int .u64 (m:Int), .int .u64 (a:Int), .slice B bl k] 43));rw[hw1]at hd;obtain⟨w2,hw2⟩:=nmE (w1.alloc (.cells rp0 50));rw[hw2]at hd;obtain⟨w3,hw3⟩:=nmE (w2.alloc (.cells rp0 50));rw[hw3]at hd;unfold rp0 at hw2 hw3;obtain⟨z0,z1,z2,z3,z4,z5⟩:=abp hd.n3;have hz:=aac hd.n3;have h3:=h.below hd.bel;have hk:∀k,w.heap.size<=k->¬foot g A k:=fun k hk hf=>by have:=h.ar.foot_lt hf;omega
 have hO:=aeR h3;obtain⟨r,hr⟩:=nmE H.stats;rw[hr]at hO ⊢;obtain⟨s0,s1,s2,s3,s4⟩:=r;dsimp only[stV]at hO;dsimp only;have HO:=hE0 hO;have HD:=hE0 hd;have HH:=hE0 h;have HK:=hE0 hk;have HW1:=hE0 hw1;have HW2:=hE0 hw2;have HW3:=hE0 hw3;have HE:=hE0 hE;have H00:=hE0 h0;clear h hd h3 hE hk hw1 hw2 hw3 h0 hO hr;go_enter Tryz.func20,Tryz.ntmps20
 go_wp2_with (first | (rw[HW1.out]) | (rw[HW2.out]) | (rw[HW3.out]) | fail)
 refine HO.out.mono ?_;rintro e w4 ⟨rfl,hb4⟩;have T4:PTurn g base cap A H w w4:=HH.out.stay (HD.out.bel.trans (hb4.mono HD.out.bel.size));have E4:ET w4:=HE.out.keep (T4.tch.block 0 HE.out.lt H00.out);have t34:Tch (foot g A) w3 w4:=Tch.of_below hb4;have m4:=(t34.block _ (aae HD.out.n4) (HK.out _ HD.out.l4)).trans HD.out.n4;have m5:=(t34.block _ (aae HD.out.n5) (HK.out _ HD.out.l5)).trans HD.out.n5;obtain⟨⟨y0,y1,y2,y3,y4,y5,y6,y7,y8⟩,f0,f1,f2,f3,f4,f5,f6,f7,f8⟩:=abo m5;have hy:=aac m5;clear z0 z1 z2 z3 z4 z5 hz HO t34;obtain⟨w5,hw5⟩:=nmE (((((w4.setCell ⟨w2.heap.size,4,none⟩ (.int .i64 (s0:Int))).setCell ⟨w2.heap.size,5,none⟩ (.int .i64 (s1:Int))).setCell ⟨w2.heap.size,6,none⟩ (.int .i64 (s2:Int))).setCell ⟨w2.heap.size,7,none⟩ (.int .i64 (s3:Int))).setCell ⟨w2.heap.size,8,none⟩ (.int .i64 (s4:Int)));have n5:w5.heap[w2.heap.size]?=some (.cells #[.int .i64 0, .int .u64 0, .int .u64 0, .slice none 0 0, .int .i64 (s0:Int), .int .i64 (s1:Int), .int .i64 (s2:Int), .int .i64 (s3:Int), .int .i64 (s4:Int)] 50 (0,0)):=by rw[<-hw5];exact avX m5 _ _ _ _ _
 have t5:Tch (fun k=>k=w2.heap.size) w4 w5:=by rw[<-hw5];exact avg _ _ _ _ _ _ _
 have HW5:=hE0 hw5;clear hw5;have E5:ET w5:=E4.keep (t5.block 0 E4.lt (fun e=>by
  have e:0=w2.heap.size:=e;have h1:=HD.out.l5;have h2:=HE.out.lt;omega))
 have m5':w5.heap[w1.heap.size]?=some (.cells rp0 50 (0,0)):=(t5.block _ (aae m4) HD.out.ne).trans m4;have HNM:=hE0 (ahk w5);have HT5:=hE0 t5;have HN5:=hE0 n5;have HM5:=hE0 m5';have HM4:=hE0 m4;have HM45:=hE0 m5;have HT4:=hE0 T4;clear E4 E5 m4 m5 m5' n5 t5 T4;go_wp2_with (first | (rw[HW5.out]) | fail)
 refine HNM.out.mono ?_;rintro e w6 ⟨rfl,hb6⟩;have n6:=(hb6.block _ (aae HN5.out)).trans HN5.out;have m6:=(hb6.block _ (aae HM5.out)).trans HM5.out;obtain⟨w7,hw7⟩:=nmE (w6.setCell ⟨w2.heap.size,0,none⟩ (.int .i64 0));have n7:w7.heap[w2.heap.size]?=some (.cells #[.int .i64 0, .int .u64 0, .int .u64 0, .slice none 0 0, .int .i64 (s0:Int), .int .i64 (s1:Int), .int .i64 (s2:Int), .int .i64 (s3:Int), .int .i64 (s4:Int)] 50 (0,0)):=by rw[<-hw7];exact heap_setCell_same w6 w2.heap.size 0 _ _ _ n6
 have m7:w7.heap[w1.heap.size]?=some (.cells rp0 50 (0,0)):=by rw[<-hw7];exact(Below.heap_setCell w6 ⟨w2.heap.size,0,none⟩ _ w1.heap.size HD.out.ne).trans m6
 have t7:Tch (fun k=>k=w2.heap.size) w6 w7:=by rw[<-hw7];exact Tch.set (S:=fun k=>k=w2.heap.size) w6 ⟨w2.heap.size,0,none⟩ _ rfl
 have tf:Tch (fun k=>k=w1.heap.size\/k=w2.heap.size) w4 (aq7 w7 w1.heap.size (.int .i64 0) (.int .u64 0) (.int .u64 0) (.slice none 0 0) (.int .i64 (s0:Int)) (.int .i64 (s1:Int)) (.int .i64 (s2:Int)) (.int .i64 (s3:Int)) (.int .i64 (s4:Int))):=
  (((((Tch.refl (fun k=>k=w1.heap.size\/k=w2.heap.size) w4).trans HT5.out (fun _ _ e=> .inr e)).trans (Tch.of_below (S:=fun _=>False) hb6) (fun _ _ h=>h.elim)).trans t7 (fun _ _ e=> .inr e)).trans (aew w7 w1.heap.size (.int .i64 0) (.int .u64 0) (.int .u64 0) (.slice none 0 0) (.int .i64 (s0:Int)) (.int .i64 (s1:Int)) (.int .i64 (s2:Int)) (.int .i64 (s3:Int)) (.int .i64 (s4:Int))) (fun _ _ e=> .inl e))
 have TF:=hE0 tf;have MF:=hE0 (aix m7 (.int .i64 0) (.int .u64 0) (.int .u64 0) (.slice none 0 0) (.int .i64 (s0:Int)) (.int .i64 (s1:Int)) (.int .i64 (s2:Int)) (.int .i64 (s3:Int)) (.int .i64 (s4:Int)));exact ado
end Go.Proofs.YtncadccbepjekaaGreatDoor
