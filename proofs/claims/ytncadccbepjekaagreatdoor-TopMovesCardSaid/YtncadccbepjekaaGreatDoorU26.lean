/- Texts of mine, joined. -/
import Derived.Test.YtncadccbepjekaaGreatDoorU20
import Derived.Test.YtncadccbepjekaaGreatDoorU24
set_option maxRecDepth 100000
set_option maxHeartbeats 2000000
namespace Go.Proofs.YtncadccbepjekaaGreatDoor
open Go.RowKit
def frV (o:Int):Option Bk->Value
 | none=> .agg #[.int .i64 o, .int .i64 0, .bool false]
 | some y=> .agg #[.int .i64 (y.off:Int), .int .i64 (y.size:Int), .bool false]
theorem aet{fn:Func}{R:Ending->World->Prop}{a:Act}{w:World}{p:Tmp}{g:Nat}{o s:Int}{b:Bool}(hres:fn.results= #[.cell p 112]) (hp:a.tmps.getD p undef= .pointer (some ⟨g,0,none⟩)) (hd:a.defers= [])
 (hg:w.heap[g]?=some (.cells #[.int .i64 o, .int .i64 s, .bool b] 112 (0,0))) (hR:R (.returned (.agg #[.int .i64 o, .int .i64 s, .bool b])) w):bodyPost Tryz.prog fn R .ret a w:=by
 refine bodyPost_ret (v:= .agg #[.int .i64 o, .int .i64 s, .bool b]) ?_ hd hR;exact results_cell_row hres _ _ g _ _ _ _ hp hg rfl rfl rfl
section
variable {w:World} {g base cap c:Nat} {A:Option Addr} {bs:List UInt8}
theorem ain{P:Prop}(h:P:=by
 obtain⟨w1,hw1⟩:=nmE (w.alloc (.cells #[.int .i64 0, .int .i64 0, .bool false] 112));have hb1:=abE hw1;have hn1:=anE hw1;have h1:=h.below hb1;have hG:=alG w1 g base cap c A bs o _ h1 hb hl ho hy;dsimp only[aaA,bkV,Bk.val,Option.isSome,aat]at hG;have HG:=hE0 hG;have HW1:=hE0 hw1;have HB1:=hE0 hb1;have HN1:=hE0 hn1;clear hG hy hw1 hb1 hn1 h1 h;go_enter Tryz.func236,Tryz.ntmps236
 go_wp2_with fail
 rw[HW1.out]
 with_reducible refine HG.out.mono ?_
 rintro e w2 ⟨rfl,hb2⟩;have hn2:=(hb2.block w.heap.size (aae HN1.out)).trans HN1.out;have HB2:=hE0 (HB1.out.trans (hb2.mono HB1.out.size));have HN2:=hE0 hn2;clear hb2 hn2 HG;obtain⟨⟨c0,c1,c2⟩,f0,f1,f2⟩:=aad HN2.out;have hlt:=aac HN2.out;go_wp2
 (try simp only[Exit.inBlock,Exit.then])
 refine aet (g:=w.heap.size) (o:=o) (s:=0) (b:=false) Tryz.results236 ?_ ?_ ((heap_alloc_old _ _ (aae (aaJ HN2.out _ _ _))).trans (aaJ HN2.out _ _ _)) ?_
 · rfl
 · rfl
 · refine⟨rfl,Below.alloc (((HB2.out.setCell ?_ _).setCell ?_ _).setCell ?_ _) ?_ _⟩
   · exact Nat.le_refl _
   · exact Nat.le_refl _
   · exact Nat.le_refl _
   · simp only[World.setCell];have h9:=HB2.out.size;simpa using h9
 ):P:=h
theorem alY (h:Ar w 195 g base cap A c bs) (hb:base<=4611686018427387904) (hl:bs.length<=16384) (o:Int) (ho: -9223372036854775808<=o/\o<=9223372036854775807) (hy:aa6 bs o=none):
 Calls Tryz.prog 236 #[.pointer (some ⟨g,0,none⟩), .int .i64 o] w fun e w'=>e= .returned (frV o none)/\Below w.heap.size w w':=by
 exact ain
theorem alZ (h:Ar w 195 g base cap A c bs) (hb:base<=4611686018427387904) (hl:bs.length<=16384) (o:Int) (ho: -9223372036854775808<=o/\o<=9223372036854775807) (xo xs:Nat) (hy:aa6 bs o=some ⟨xo,xs,true⟩):
 Calls Tryz.prog 236 #[.pointer (some ⟨g,0,none⟩), .int .i64 o] w fun e w'=>e= .returned (frV o none)/\Below w.heap.size w w':=by
 exact ain
theorem al0 (h:Ar w 195 g base cap A c bs) (hb:base<=4611686018427387904) (hl:bs.length<=16384) (o:Int) (ho: -9223372036854775808<=o/\o<=9223372036854775807) (xo xs:Nat) (hy:aa6 bs o=some ⟨xo,xs,false⟩):
 Calls Tryz.prog 236 #[.pointer (some ⟨g,0,none⟩), .int .i64 o] w fun e w'=>e= .returned (frV o (some ⟨xo,xs,false⟩))/\Below w.heap.size w w':=by
 obtain⟨w1,hw1⟩:=nmE (w.alloc (.cells #[.int .i64 0, .int .i64 0, .bool false] 112));have hb1:=abE hw1;have hn1:=anE hw1;have h1:=h.below hb1;have hG:=alG w1 g base cap c A bs o _ h1 hb hl ho hy;dsimp only[aaA,bkV,Bk.val,Option.isSome,aat]at hG;have HG:=hE0 hG;have HW1:=hE0 hw1;have HB1:=hE0 hb1;have HN1:=hE0 hn1;clear hG hy hw1 hb1 hn1 h1 h;go_enter Tryz.func236,Tryz.ntmps236
 go_wp2_with fail
 rw[HW1.out]
 with_reducible refine HG.out.mono ?_
 rintro e w2 ⟨rfl,hb2⟩;have hn2:=(hb2.block w.heap.size (aae HN1.out)).trans HN1.out;have HB2:=hE0 (HB1.out.trans (hb2.mono HB1.out.size));have HN2:=hE0 hn2;clear hb2 hn2 HG;obtain⟨⟨c0,c1,c2⟩,f0,f1,f2⟩:=aad HN2.out;have hlt:=aac HN2.out;go_wp2
 (try simp only[Exit.inBlock,Exit.then])
 refine aet (g:=w.heap.size) (o:=(xo:Int)) (s:=(xs:Int)) (b:=false) Tryz.results236 ?_ ?_ ((heap_alloc_old _ _ (aae (aaJ HN2.out _ _ _))).trans (aaJ HN2.out _ _ _)) ?_
 · rfl
 · rfl
 · refine⟨rfl,Below.alloc (((HB2.out.setCell ?_ _).setCell ?_ _).setCell ?_ _) ?_ _⟩
   · exact Nat.le_refl _
   · exact Nat.le_refl _
   · exact Nat.le_refl _
   · simp only[World.setCell];have h9:=HB2.out.size;simpa using h9
theorem aoc (h:Ar w 195 g base cap A c bs) (hb:base<=4611686018427387904) (hl:bs.length<=16384) (o:Int) (ho: -9223372036854775808<=o/\o<=9223372036854775807) (y:Option Bk) (hy:frO (aa6 bs o)=y):
 Calls Tryz.prog 236 #[.pointer (some ⟨g,0,none⟩), .int .i64 o] w fun e w'=>e= .returned (frV o y)/\Below w.heap.size w w':=by
 subst hy
 cases hg:aa6 bs o with
 | none=>exact alY h hb hl o ho hg
 | some x=>
  obtain⟨xo,xs,xu⟩:=x
  cases xu with
  | true=>exact alZ h hb hl o ho xo xs hg
  | false=>exact al0 h hb hl o ho xo xs hg
theorem aha{P:Prop}(h:P:=by
 go_enter Tryz.func237,Tryz.ntmps237
 go_wp2_with fail
 rw[HW1.out]
 with_reducible refine HG.out.mono ?_
 rintro e w2 ⟨rfl,hb2⟩;have hn2:=(hb2.block w.heap.size (aae HN1.out)).trans HN1.out;have HB2:=hE0 (HB1.out.trans (hb2.mono HB1.out.size));have HN2:=hE0 hn2;clear hb2 hn2 HG;obtain⟨⟨c0,c1,c2⟩,f0,f1,f2⟩:=aad HN2.out;have hlt:=aac HN2.out;go_wp2
 (try simp only[Exit.inBlock,Exit.then])
 refine aet (g:=w.heap.size) (o:=o) (s:=0) (b:=false) Tryz.results237 ?_ ?_ ((heap_alloc_old _ _ (aae (aaJ HN2.out _ _ _))).trans (aaJ HN2.out _ _ _)) ?_
 · rfl
 · rfl
 · refine⟨rfl,Below.alloc (((HB2.out.setCell ?_ _).setCell ?_ _).setCell ?_ _) ?_ _⟩
   · exact Nat.le_refl _
   · exact Nat.le_refl _
   · exact Nat.le_refl _
   · simp only[World.setCell];have h9:=HB2.out.size;simpa using h9
 ):P:=h
theorem akx (o:Int) (hA:∀w1,Below w.heap.size w w1->Calls Tryz.prog 270 #[.pointer (some ⟨g,0,none⟩), .int .i64 o] w1 fun e w'=>aaA none w1 e w'):
 Calls Tryz.prog 237 #[.pointer (some ⟨g,0,none⟩), .int .i64 o] w fun e w'=>e= .returned (frV o none)/\Below w.heap.size w w':=by
 obtain⟨w1,hw1⟩:=nmE (w.alloc (.cells #[.int .i64 0, .int .i64 0, .bool false] 112));have hb1:=abE hw1;have hn1:=anE hw1;have hG:=hA w1 hb1;dsimp only[aaA,bkV,Bk.val,Option.isSome,aat]at hG;have HG:=hE0 hG;have HW1:=hE0 hw1;have HB1:=hE0 hb1;have HN1:=hE0 hn1;clear hG hA hw1 hb1 hn1;exact aha
theorem ahI (h:Ar w 195 g base cap A c bs) (hb:base<=4611686018427387904) (hl:bs.length<=16384) (o:Int) (ho: -9223372036854775808<=o/\o<=9223372036854775807) (hy:abN bs o=none):
 Calls Tryz.prog 237 #[.pointer (some ⟨g,0,none⟩), .int .i64 o] w fun e w'=>e= .returned (frV o none)/\Below w.heap.size w w':=
 akx o fun w1 hb1=>ap2 w1 g base cap c A bs o _ (h.below hb1) hb hl ho hy
theorem ahJ (h:Ar w 195 g base cap A c bs) (hb:base<=4611686018427387904) (hl:bs.length<=16384) (o:Int) (ho: -9223372036854775808<=o/\o<=9223372036854775807) (xo xs:Nat) (hy:abN bs o=some ⟨xo,xs,true⟩):
 Calls Tryz.prog 237 #[.pointer (some ⟨g,0,none⟩), .int .i64 o] w fun e w'=>e= .returned (frV o none)/\Below w.heap.size w w':=by
 obtain⟨w1,hw1⟩:=nmE (w.alloc (.cells #[.int .i64 0, .int .i64 0, .bool false] 112));have hb1:=abE hw1;have hn1:=anE hw1;have h1:=h.below hb1;have hG:=ap2 w1 g base cap c A bs o _ h1 hb hl ho hy;dsimp only[aaA,bkV,Bk.val,Option.isSome,aat]at hG;have HG:=hE0 hG;have HW1:=hE0 hw1;have HB1:=hE0 hb1;have HN1:=hE0 hn1;clear hG hy hw1 hb1 hn1 h1 h;exact aha
theorem ahK (h:Ar w 195 g base cap A c bs) (hb:base<=4611686018427387904) (hl:bs.length<=16384) (o:Int) (ho: -9223372036854775808<=o/\o<=9223372036854775807) (xo xs:Nat) (hy:abN bs o=some ⟨xo,xs,false⟩):
 Calls Tryz.prog 237 #[.pointer (some ⟨g,0,none⟩), .int .i64 o] w fun e w'=>e= .returned (frV o (some ⟨xo,xs,false⟩))/\Below w.heap.size w w':=by
 obtain⟨w1,hw1⟩:=nmE (w.alloc (.cells #[.int .i64 0, .int .i64 0, .bool false] 112));have hb1:=abE hw1;have hn1:=anE hw1;have h1:=h.below hb1;have hG:=ap2 w1 g base cap c A bs o _ h1 hb hl ho hy;dsimp only[aaA,bkV,Bk.val,Option.isSome,aat]at hG;have HG:=hE0 hG;have HW1:=hE0 hw1;have HB1:=hE0 hb1;have HN1:=hE0 hn1;clear hG hy hw1 hb1 hn1 h1 h;go_enter Tryz.func237,Tryz.ntmps237
 go_wp2_with fail
 rw[HW1.out]
 with_reducible refine HG.out.mono ?_
 rintro e w2 ⟨rfl,hb2⟩;have hn2:=(hb2.block w.heap.size (aae HN1.out)).trans HN1.out;have HB2:=hE0 (HB1.out.trans (hb2.mono HB1.out.size));have HN2:=hE0 hn2;clear hb2 hn2 HG;obtain⟨⟨c0,c1,c2⟩,f0,f1,f2⟩:=aad HN2.out;have hlt:=aac HN2.out;go_wp2
 (try simp only[Exit.inBlock,Exit.then])
 refine aet (g:=w.heap.size) (o:=(xo:Int)) (s:=(xs:Int)) (b:=false) Tryz.results237 ?_ ?_ ((heap_alloc_old _ _ (aae (aaJ HN2.out _ _ _))).trans (aaJ HN2.out _ _ _)) ?_
 · rfl
 · rfl
 · refine⟨rfl,Below.alloc (((HB2.out.setCell ?_ _).setCell ?_ _).setCell ?_ _) ?_ _⟩
   · exact Nat.le_refl _
   · exact Nat.le_refl _
   · exact Nat.le_refl _
   · simp only[World.setCell];have h9:=HB2.out.size;simpa using h9
theorem adH (h:Ar w 195 g base cap A c bs) (hb:base<=4611686018427387904) (hl:bs.length<=16384) (o:Int) (ho: -9223372036854775808<=o/\o<=9223372036854775807) (y:Option Bk) (hy:frO (abN bs o)=y):
 Calls Tryz.prog 237 #[.pointer (some ⟨g,0,none⟩), .int .i64 o] w fun e w'=>e= .returned (frV o y)/\Below w.heap.size w w':=by
 subst hy
 cases hg:abN bs o with
 | none=>exact ahI h hb hl o ho hg
 | some x=>
  obtain⟨xo,xs,xu⟩:=x
  cases xu with
  | true=>exact ahJ h hb hl o ho xo xs hg
  | false=>exact ahK h hb hl o ho xo xs hg
theorem aky (o:Int):
 Calls Tryz.prog 238 #[.pointer (some ⟨g,0,none⟩), .agg #[.int .i64 o, .int .i64 0, .bool false]] w fun e w'=>e= .returned (.tuple #[])/\Below w.heap.size w w':=by
 go_enter Tryz.func238,Tryz.ntmps238
 go_wp2
 go_end0
 exact⟨rfl,(Below.refl _ _).alloc (Nat.le_refl _) _⟩
theorem akz (h:Ar w 195 g base cap A c bs) (hb:base<=4611686018427387904) (hl:bs.length<=16384) (o s:Nat) (ho:(o:Int)<=9223372036854775807) (hs:(0:Int)<(s:Int)) (out:List UInt8) (hy:aeC bs (o:Int)=some out):
 Calls Tryz.prog 238 #[.pointer (some ⟨g,0,none⟩), .agg #[.int .i64 (o:Int), .int .i64 (s:Int), .bool false]] w fun e w'=>e= .returned (.tuple #[])/\Became 195 g base cap A out w w':=by
 obtain⟨w1,hw1⟩:=nmE (w.alloc (.cells #[.int .i64 (o:Int), .int .i64 (s:Int), .bool false] 112));have hb1:=abE hw1;have hT:=au2 w1 g base cap c A bs (o:Int) _ (h.below hb1) hb hl (by omega) hy;dsimp only[aoE,aat]at hT;have HT:=hE0 hT;have HW1:=hE0 hw1;have HB1:=hE0 hb1;clear hT hy hw1 hb1 h;go_enter Tryz.func238,Tryz.ntmps238
 go_wp2_with fail
 rw[HW1.out]
 with_reducible refine HT.out.mono ?_
 rintro e w2 ⟨rfl,hb2⟩;have HB2:=hE0 (hb2.after HB1.out);clear hb2 HT;go_wp2
 go_end0
 exact⟨rfl,HB2.out⟩
end
def Loc (w w':World):Prop:=∀(k:Nat) (cs:Array Value),w.heap[k]?=some (.cells cs 112 (0,0))->w'.heap[k]?=some (.cells cs 112 (0,0))
theorem Loc.below{w w':World}(h:Below w.heap.size w w'):Loc w w':=fun i _ hi=>(h.block i (aae hi)).trans hi
theorem ajf{w:World}{g base cap c:Nat}{A:Option Addr}{bs:List UInt8}(h:Ar w 195 g base cap A c bs){k:Nat}{cs:Array Value}(hk:w.heap[k]?=some (.cells cs 112 (0,0))):¬foot g A k:=by
 rintro(rfl | ⟨a,ea,rfl⟩)
 · have h1:=h.obj;rw[hk]at h1;injection h1 with h1;injection h1 with _ h2 _;exact absurd h2 (by decide)
 · obtain⟨h',e,cur,h1,_⟩:=h.row ea;rw[e]at hk;have hk:w.heap[h']?=some (.cells cs 112 (0,0)):=hk;rw[hk]at h1;injection h1 with h1;injection h1 with _ h2 _;exact absurd h2 (by decide)
theorem Loc.tch{w w':World}{g base cap c:Nat}{A:Option Addr}{bs:List UInt8}(h:Ar w 195 g base cap A c bs) (ht:Tch (foot g A) w w'):Loc w w':=fun i _ hi=>(ht.block i (aae hi) (ajf h hi)).trans hi
section
variable {w w1:World} {g base cap:Nat} {A:Option Addr} {b1 b2:List UInt8}
theorem aio{k:Nat}{cs:Array Value}(h:Became 195 g base cap A b1 w w1) (hk:w1.heap[k]?=some (.cells cs 112 (0,0))) (hB:w.heap.size<=k) (i:Nat) (v:Value):Became 195 g base cap A b1 w (w1.setCell ⟨k,i,none⟩ v):=by
 obtain⟨A',c',a,tc,kk⟩:=h;have hne:=ajf a hk;refine⟨A',c',a.keep fun q hq=>Below.heap_setCell w1 ⟨k,i,none⟩ v q (fun e=>by have e:q=k:=e;subst e;exact hne hq),?_,kk⟩;exact⟨tc.os,tc.tape,tc.output,by simpa[World.setCell]using tc.size,fun q hq hn=>(Below.heap_setCell w1 ⟨k,i,none⟩ v q (fun e=>by have e:q=k:=e;omega)).trans (tc.block q hq hn)⟩
theorem aa4 (h:Became 195 g base cap A b1 w w1) (o:Obj):Became 195 g base cap A b1 w (w1.alloc o):=aaz h ((Below.refl _ _).alloc (Nat.le_refl _) _)
theorem au5 (h:Became 195 g base cap A b1 w w1) (hb:base<=4611686018427387904) (hl:b1.length<=16384) (o:Int) (ho: -9223372036854775808<=o/\o<=9223372036854775807) (y:Option Bk) (hy:frO (aa6 b1 o)=y):
 Calls Tryz.prog 236 #[.pointer (some ⟨g,0,none⟩), .int .i64 o] w1 fun e w2=>e= .returned (frV o y)/\Became 195 g base cap A b1 w w2/\Below w1.heap.size w1 w2:=by
 obtain⟨A',c',a,tc,k⟩:=h;refine(aoc a hb hl o ho y hy).mono ?_;rintro e w2 ⟨h1,h2⟩;exact⟨h1,aaz ⟨A',c',a,tc,k⟩ h2,h2⟩
theorem asd (h:Became 195 g base cap A b1 w w1) (hb:base<=4611686018427387904) (hl:b1.length<=16384) (o:Int) (ho: -9223372036854775808<=o/\o<=9223372036854775807) (y:Option Bk) (hy:frO (abN b1 o)=y):
 Calls Tryz.prog 237 #[.pointer (some ⟨g,0,none⟩), .int .i64 o] w1 fun e w2=>e= .returned (frV o y)/\Became 195 g base cap A b1 w w2/\Below w1.heap.size w1 w2:=by
 obtain⟨A',c',a,tc,k⟩:=h;refine(adH a hb hl o ho y hy).mono ?_;rintro e w2 ⟨h1,h2⟩;exact⟨h1,aaz ⟨A',c',a,tc,k⟩ h2,h2⟩
theorem amZ (h:Became 195 g base cap A b1 w w1) (hb:base<=4611686018427387904) (hl:b1.length<=16384) (o:Int) (y:Option Bk) (hs:∀z,y=some z->0<z.size/\z.off<=16384) (hy:apU b1 y=some b2):
 Calls Tryz.prog 238 #[.pointer (some ⟨g,0,none⟩),frV o y] w1 fun e w2=>e= .returned (.tuple #[])/\Became 195 g base cap A b2 w w2/\Loc w1 w2:=by
 cases y with
 | none=>
  injection hy with hy;subst hy;refine(aky o).mono ?_;rintro e w2 ⟨h1,h2⟩;exact⟨h1,aaz h h2,Loc.below h2⟩
 | some z=>
  obtain⟨A',c',a,tc,k⟩:=h;have hz:=hs z rfl;refine(akz a hb hl z.off z.size (by omega) (by omega) b2 hy).mono ?_;rintro e w2 ⟨h1,h2⟩;have h2':=h2;obtain⟨_,_,_,ht,_⟩:=h2';exact⟨h1,Became.trans a tc k h2,Loc.tch a ht⟩
theorem aip (h:Became 195 g base cap A b1 w w1) (hb:base<=4611686018427387904) (hl:b1.length<=16384) (o s:Nat) (u:Bool) (ho:o<=16384) (hs:s<=16384) (hy:aeo b1 (o:Int) (s:Int) u=some b2):
 Calls Tryz.prog 217 #[.pointer (some ⟨g,0,none⟩), .agg #[.int .i64 (o:Int), .int .i64 (s:Int), .bool u]] w1 fun e w2=>e= .returned .nilIface/\Became 195 g base cap A b2 w w2/\Loc w1 w2:=by
 obtain⟨A',c',a,tc,k⟩:=h;refine(avV w1 g base cap c' A' b1 (o:Int) (s:Int) u _ a hb hl (by omega) (by omega) hy).mono ?_;rintro e w2 ⟨h1,h2⟩;have h2':=h2;obtain⟨_,_,_,ht,_⟩:=h2';exact⟨h1,Became.trans a tc k h2,Loc.tch a ht⟩
theorem au6 (h:Became 195 g base cap A b1 w w1) (hb:base<=4611686018427387904) (hl:b1.length<=16384) (o:Nat) (ho:o<=16384) (hy:ahS b1 (o:Int)=some b2):
 Calls Tryz.prog 174 #[.pointer (some ⟨g,0,none⟩), .int .i64 (o:Int)] w1 fun e w2=>e= .returned .nilIface/\Became 195 g base cap A b2 w w2/\Loc w1 w2:=by
 obtain⟨A',c',a,tc,k⟩:=h;refine(av9 w1 g base cap c' A' b1 (o:Int) _ a hb hl (by omega) hy).mono ?_;rintro e w2 ⟨h1,h2⟩;have h2':=h2;obtain⟨_,_,_,ht,_⟩:=h2';exact⟨h1,Became.trans a tc k h2,Loc.tch a ht⟩
theorem atW (h:Became 195 g base cap A b1 w w1) (n:Nat) (hl:b1.length<=cap) (hcap:cap<=16384) (hn:b1.length+n<=cap):
 Calls Tryz.prog 65 #[.pointer (some ⟨g,0,none⟩), .int .i64 (n:Int)] w1 fun e w2=>e= .returned .nilIface/\Became 195 g base cap A (b1++List.replicate n 0) w w2/\Loc w1 w2:=by
 obtain⟨A',c',a,tc,k⟩:=h;refine(aiD a n hl hcap hn).mono ?_;rintro e w2 ⟨h1,h2⟩;have h2':=h2;obtain⟨_,_,_,ht,_⟩:=h2';exact⟨h1,Became.trans a tc k h2,Loc.tch a ht⟩
end
theorem afX (o:Int) (y:Option Bk):frV o y= .agg #[.int .i64 ((y.map fun z=>(z.off:Int)).getD o), .int .i64 (((y.map Bk.size).getD 0:Nat):Int), .bool false]:=by cases y<;>rfl
theorem aod{bs out:List UInt8}{o s:Int}{u:Bool}(h:aeo bs o s u=some out):184<=o/\32<=s/\o+s<=bs.length:=by
 unfold aeo at h;split at h
 · rename_i hc;have h1:=(aab _).1 hc.1;have h2:=(aa1 _ _ _).1 hc.2;omega
 · cases h
theorem Rt.bound{bs:List UInt8}{H:Hp}(h:Rt bs H) (hc:H.cap<=16384):bs.length<=16384/\∀y∈H.blks,184<=y.off/\32<=y.size/\y.off+y.size<=bs.length:=by
 have hM:=h.md hc;refine⟨hM.ls.small,fun y hy=> ?_⟩;have:=hM.ls.st.facts hy;omega
theorem aqq{ops:Array Oper}{Q:Exit->Act->World->Prop}{o:Oper}{rest:List Oper}{a:Act}{w:World}{x y:Operand}{gx:Nat}{p q:Int}{r:Bool}{v0 v1 v2:Value}(ho:o.op= .store 112 x y) (hd:o.dst=none)
 (hw:Region.wanted o (yielded ops a.tmps)=true) (hx:a.eval x= .pointer (some ⟨gx,0,none⟩)) (hy:a.eval y= .agg #[.int .i64 p, .int .i64 q, .bool r]) (h:w.heap[gx]?=some (.cells #[v0,v1,v2] 112 (0,0)))
 (hk:∀w',w'.heap[gx]?=some (.cells #[.int .i64 p, .int .i64 q, .bool r] 112 (0,0))->(∀k,k≠gx->w'.heap[k]?=w.heap[k]?)->(∀B,B<=gx->Below B w w')->wpList Tryz.prog ops Q rest a w'):wpList Tryz.prog ops Q (o::rest) a w:=by
 unfold wpList;rw[if_pos hw];refine .inl ?_;unfold Oper.wp;rw[ape a.eval o x y ho w gx p q r v0 v1 v2 hx hy h];show wpList Tryz.prog ops Q rest (a.put o.dst undef) _;rw[hd];refine hk _ (aaJ h _ _ _) (fun k hk=> ?_) fun B hB=> ?_
 · exact(Below.heap_setCell _ ⟨gx,2,none⟩ _ k hk).trans ((Below.heap_setCell _ ⟨gx,1,none⟩ _ k hk).trans (Below.heap_setCell _ ⟨gx,0,none⟩ _ k hk))
 · exact(((Below.refl _ _).setCell (p:=⟨gx,0,none⟩) hB _).setCell (p:=⟨gx,1,none⟩) hB _).setCell (p:=⟨gx,2,none⟩) hB _
section
variable {w:World} {g base cap c:Nat} {A:Option Addr} {bs:List UInt8} {H:Hp}
theorem akA (h:Ar w 195 g base cap A c bs) (hbase:base<=4611686018427387904) (hcap:cap<=16384) (hc:H.cap=cap) (hR:Rt bs H){A1 B1:List Bk}{p n:Option Bk}{xo xs:Nat}
 (hb:H.blks=(A1++p.toList)++⟨xo,xs,true⟩::(n.toList++B1)) (hN:alu A1 p n B1):
 Calls Tryz.prog 190 #[.pointer (some ⟨g,0,none⟩), .agg #[.int .i64 (xo:Int), .int .i64 (xs:Int), .bool true]] w fun e w'=>e= .returned .nilIface/\∃out,Became 195 g base cap A out w w'/\Rt out (H.give (A1++p.toList).length)/\
  ∀z∈H.blks,z.used=true->z≠⟨xo,xs,true⟩->∀i,Pay z i->out[i]?=bs[i]?:=by
 obtain⟨b1,b2,out,e1,e2,e3,e4,l1,l2,l3,l4,hRo,hP⟩:=hR.gives (by omega) hb hN rfl;have hM:=hR.md (by omega);obtain⟨hl,hbd⟩:=hR.bound (by omega);have y1:=hM.behind hb hN;have y2:=hM.ahead hb hN;have hx:=hbd ⟨xo,xs,true⟩ (by rw[hb];simp);have hn:∀z,n=some z->0<z.size/\z.off<=16384:=fun z hz=>by have:=hbd z (by rw[hb,hz];simp);omega
 have hp:∀z,p=some z->0<z.size/\z.off<=16384:=fun z hz=>by have:=hbd z (by rw[hb,hz];simp);omega
 have r3:=aod e3;obtain⟨s3,hs3⟩:=nmE (aaU b2 (aea p ⟨xo,xs,true⟩ n));rw[hs3]at e3 e4 l3;obtain⟨wo,hwo⟩:=nmE ((aea p ⟨xo,xs,true⟩ n).off);obtain⟨ws,hws⟩:=nmE ((aea p ⟨xo,xs,true⟩ n).size);rw[hwo,hws]at e3 r3;rw[hwo]at e4;have f1:=afX ((xo:Int)+(xs:Int)) n;have f2:=afX (xo:Int) p;obtain⟨no,hno⟩:∃no:Int,(n.map fun z=>(z.off:Int)).getD ((xo:Int)+(xs:Int))=no:=⟨_,rfl⟩;obtain⟨nz,hnz⟩:=nmE ((n.map Bk.size).getD 0);obtain⟨pz,hpz⟩:=nmE ((p.map Bk.size).getD 0);have hpo:(p.map fun z=>(z.off:Int)).getD (xo:Int)=(wo:Int):=by rw[<-hwo];cases p<;>rfl
 rw[hno,hnz]at f1;rw[hpo,hpz]at f2;have hwe:ws=pz+xs+nz:=by rw[<-hws,<-hpz,<-hnz];rfl
 dsimp only at y1 y2 hx;obtain⟨w1,hw1⟩:=nmE (w.alloc (.cells #[.int .i64 (xo:Int), .int .i64 (xs:Int), .bool true] 112));have hb1:=abE hw1;have n1:=anE hw1;have N1:=hE0 n1;have BC0:Became 195 g base cap A bs w w:=⟨A,c,h,Tch.refl _ _, .inl rfl⟩;have BC1:=hE0 (aaz BC0 hb1.drew);clear BC0;obtain⟨⟨d0,d1,d2⟩,_⟩:=aad n1;have hlt1:=aae n1;have HW1:=hE0 hw1;clear hw1 hb1 n1 h;have HH:=hE0 (show ∀w',Became 195 g base cap A out w w'->((Ending.returned .nilIface:Ending)= .returned .nilIface/\∃out,Became 195 g base cap A out w w'/\Rt out (H.give (A1++p.toList).length)/\∀z∈H.blks,z.used=true->z≠⟨xo,xs,true⟩->∀i,Pay z i->out[i]?=bs[i]?) from fun w' hh=>⟨rfl,out,hh,hRo,hP⟩);clear hRo hP hM hbd hb hN hR;go_enter Tryz.func190,Tryz.ntmps190
 go_wp2_with (first | (rw[HW1.out]) | fail)
 refine aln w1.heap.size [0,1,2,3,4,5,7,8,9] (auT 6 10 11 12) [13,14] (by kernel_rfl) (by kernel_rfl) (by kernel_rfl) (fun _ _ _ _ _ h=>h) ?_;have q0:∀z:LaterB w1.heap.size w1.drew,z.val.cell? ⟨w.heap.size,0,none⟩=some (.int .i64 (xo:Int)):=fun z=>(z.ext.cell (p:=⟨w.heap.size,0,none⟩) hlt1).trans d0;have q1:∀z:LaterB w1.heap.size w1.drew,z.val.cell? ⟨w.heap.size,1,none⟩=some (.int .i64 (xs:Int)):=fun z=>(z.ext.cell (p:=⟨w.heap.size,1,none⟩) hlt1).trans d1;refine auN (l:= ?seg1) ?hseg1 ?_
 case hseg1=>simp only[pick,lE1,lE2,lE3];rfl
 repeat (go_big_quiet_step (fail))
 refine wpQuiet_nil ?_;clear q0 q1;refine apw (S:= [7,12,14,16]) (d1:=13) (d2:=17) (e1:=5) (e2:=6) (v1:=frV ((xo:Int)+(xs:Int)) n) (v2:=frV (xo:Int) p) (cs:= #[.int .i64 0, .int .i64 0, .bool false]) (ty:=112) (w0:=w1.drew) ⟨?_,?_,?_,?_,by decide,by decide,by decide,by decide,by decide,rfl,?_⟩
 · refine amG (vs:= #[.pointer (some ⟨g,0,none⟩), .int .i64 ((xo:Int)+(xs:Int))]) Tryz.call236 rfl (fun a ha=> ?_) fun W hW=> ?_
   · show [a.tmps.getD 7 undef,a.tmps.getD 12 undef]=_;rw[ha 7 (by decide),ha 12 (by decide)];rfl
   · refine(au5 (aaz BC1.out hW) hbase hl _ ⟨by omega,by omega⟩ n y1).mono ?_;rintro e w' ⟨h1,h2,h3⟩;exact⟨h1,h3⟩
 · refine amG (vs:= #[.pointer (some ⟨g,0,none⟩), .int .i64 (xo:Int)]) Tryz.call237 rfl (fun a ha=> ?_) fun W hW=> ?_
   · show [a.tmps.getD 14 undef,a.tmps.getD 16 undef]=_;rw[ha 14 (by decide),ha 16 (by decide)];rfl
   · refine(asd (aaz BC1.out hW) hbase hl _ ⟨by omega,by omega⟩ p y2).mono ?_;rintro e w' ⟨h1,h2,h3⟩;exact⟨h1,h3⟩
 · exact aj7 rfl rfl (fun _=>rfl) fun ρ w=>aj2 ρ _ rfl w
 · exact aj7 rfl rfl (fun _=>rfl) fun ρ w=>aj2 ρ _ rfl w
 intro p1 p2 w5 k1 k2 kne m1 m2 hb5;rw[f1,f2];unfold adq;refine avB (t:= ?tl1) ?htl1 ?_
 case htl1=>simp only[pick,lE1,lE2,lE3];rfl
 simp only[Act.put,lE4,lE5,lE6];refine aqq (gx:=p1) (p:=no) (q:=(nz:Int)) (r:=false) rfl rfl rfl rfl rfl m1 ?_;intro w6 n6 k6 b6;refine aqq (gx:=p2) (p:=(wo:Int)) (q:=(pz:Int)) (r:=false) rfl rfl rfl rfl rfl ((k6 p2 (Ne.symm kne)).trans m2) ?_;intro w7 n7 k7 b7;have hb7:Below w1.heap.size w1.drew w7:=(hb5.trans (b6 _ k1)).trans (b7 _ k2);have n6:=(k7 p1 kne).trans n6;have nb:=(hb7.block w.heap.size hlt1).trans N1.out;have BC7:=hE0 (aaz BC1.out hb7);have h1:=amZ BC7.out hbase hl ((xo:Int)+(xs:Int)) n hn e1;rw[f1]at h1;have H1:=hE0 h1;have K1:=hE0 k1;have K2:=hE0 k2;have KN:=hE0 kne;clear h1 hb5 hb7 k6 k7 b6 b7 m1 m2 d0 d1 d2 k1 k2 kne;have NB:=hE0 nb;have N6:=hE0 n6;have N7:=hE0 n7;obtain⟨⟨c0,c1,c2⟩,_⟩:=aad n6;clear nb n6 n7;have hlt6:=aac N6.out;go_wp2_with fail
 refine H1.out.mono ?_;clear c0 c1 c2 hlt6;rintro e w8 ⟨rfl,hB8,hL8⟩;have n6:=hL8 _ _ N6.out;have n7:=hL8 _ _ N7.out;have nb:=hL8 _ _ NB.out;have h2:=amZ hB8 hbase (by omega) (xo:Int) p hp e2;rw[f2]at h2;have H2:=hE0 h2;clear N6 N7 NB BC7 BC1 h2 hL8 hB8 H1;have NB:=hE0 nb;have N6:=hE0 n6;have N7:=hE0 n7;obtain⟨⟨c0,c1,c2⟩,_⟩:=aad n7;clear nb n6 n7;have hlt7:=aac N7.out;go_wp2_with fail
 refine H2.out.mono ?_;clear c0 c1 c2 hlt7;rintro e w9 ⟨rfl,hB9,hL9⟩;have n6:=hL9 _ _ N6.out;have n7:=hL9 _ _ N7.out;have nb:=hL9 _ _ NB.out;have h3:=aip hB9 hbase (by omega) wo ws false (by omega) (by omega) e3;rw[hwe,Int.natCast_add,Int.natCast_add]at h3;have H3:=hE0 h3;clear N6 N7 NB h3 hL9 hB9 H2;have N7:=hE0 n7;obtain⟨⟨c0,c1,c2⟩,_⟩:=aad n7;obtain⟨⟨d0,d1,d2⟩,_⟩:=aad nb;obtain⟨⟨g0,g1,g2⟩,_⟩:=aad n6;have hlt7:=aac n7;have hlt6:=aac n6;have hltb:=aac nb;clear nb n6 n7;go_wp2_with fail
 refine H3.out.mono ?_;clear c0 c1 c2 d0 d1 d2 g0 g1 g2 hlt7 hlt6 hltb;rintro e w10 ⟨rfl,hB10,hL10⟩;have n7:=hL10 _ _ N7.out;have h4:=au6 hB10 hbase (by omega) wo (by omega) e4;have H4:=hE0 h4;clear N7 h4 hL10 hB10 H3;obtain⟨⟨c0,c1,c2⟩,_⟩:=aad n7;have hlt7:=aac n7;clear n7;go_wp2_with fail
 refine H4.out.mono ?_;clear c0 c1 c2 hlt7;rintro e w11 ⟨rfl,hB11,hL11⟩;have HB:=hE0 hB11;clear hB11 hL11 H4;go_wp2
 go_ret
 exact⟨rfl,(HH.out _ HB.out).2⟩
theorem aqr{w1:World}(h:Became 195 g base cap A bs w w1) (hbase:base<=4611686018427387904) (hcap:cap<=16384) (hc:H.cap=cap) (hR:Rt bs H){A1 B1:List Bk}{p n:Option Bk}{xo xs:Nat}
 (hb:H.blks=(A1++p.toList)++⟨xo,xs,true⟩::(n.toList++B1)) (hN:alu A1 p n B1):
 Calls Tryz.prog 190 #[.pointer (some ⟨g,0,none⟩), .agg #[.int .i64 (xo:Int), .int .i64 (xs:Int), .bool true]] w1 fun e w2=>e= .returned .nilIface/\∃out,Became 195 g base cap A out w w2/\Rt out (H.give (A1++p.toList).length)/\
  ∀z∈H.blks,z.used=true->z≠⟨xo,xs,true⟩->∀i,Pay z i->out[i]?=bs[i]?:=by
 obtain⟨A',c',a,tc,k⟩:=h;refine(akA a hbase hcap hc hR hb hN).mono ?_;rintro e w2 ⟨h1,out,h2,h3⟩;exact⟨h1,out,Became.trans a tc k h2,h3⟩
end
section
variable {w w1:World} {g base cap:Nat} {A:Option Addr} {bs:List UInt8} {H:Hp}
theorem aqs (h:Became 195 g base cap A bs w w1) (hR:Rt bs H){A0 B0:List Bk}{xo xs s:Nat}(hb:H.blks=A0++⟨xo,xs,true⟩::B0) (hxo:xo<=16384) (hxs:xs<=16384) (hle:s<=xs) (hlt:xs<s+32):
 Calls Tryz.prog 239 #[.pointer (some ⟨g,0,none⟩), .agg #[.int .i64 (xo:Int), .int .i64 (xs:Int), .bool true], .int .i64 (s:Int)] w1 fun e w2=>e= .returned .nilIface/\∃out,Became 195 g base cap A out w w2/\Rt out (H.cut A0.length s)/\
  Held H bs (H.cut A0.length s) out/\∀z∈H.blks,z.used=true->z.off≠xo->∀i,Pay z i->out[i]?=bs[i]?:=by
 obtain⟨hR2,hH⟩:=hR.uncut hb hlt;have HRH:=hE0 (show Rt bs (H.cut A0.length s)/\Held H bs (H.cut A0.length s) bs/\∀z∈H.blks,z.used=true->z.off≠xo->∀i,Pay z i->bs[i]?=bs[i]? from⟨hR2,hH,fun _ _ _ _ _ _=>rfl⟩);obtain⟨wa,hwa⟩:=nmE (w1.alloc (.cells #[.int .i64 (xo:Int), .int .i64 (xs:Int), .bool true] 112));have na:=anE hwa;have BCa:=aa4 h (.cells #[.int .i64 (xo:Int), .int .i64 (xs:Int), .bool true] 112);rw[hwa]at BCa;obtain⟨wb,hwb⟩:=nmE (wa.alloc (.cells #[.int .i64 ((xo:Int)+(s:Int)), .int .i64 ((xs:Int)-(s:Int)), .bool true] 112));have nb:=anE hwb;have BCb:=aa4 BCa (.cells #[.int .i64 ((xo:Int)+(s:Int)), .int .i64 ((xs:Int)-(s:Int)), .bool true] 112);rw[hwb]at BCb;have HB:=hE0 BCb;have HWA:=hE0 hwa;have HWB:=hE0 hwb;obtain⟨⟨c0,c1,c2⟩,_⟩:=aad na;obtain⟨⟨d0,d1,d2⟩,_⟩:=aad nb;have hlta:=aac na;have hltb:=aac nb;clear hR2 hH hR hwa hwb BCa BCb h na nb hb;go_enter Tryz.func239,Tryz.ntmps239
 go_wp2_with (first | (rw[HWA.out]) | (rw[HWB.out]) | fail)
 go_ret
 exact⟨rfl,bs,HB.out,HRH.out.1,HRH.out.2.1,fun _ _ _ _ _ _=>rfl⟩
theorem atX (h:Became 195 g base cap A bs w w1) (hbase:base<=4611686018427387904) (hcap:cap<=16384) (hc:H.cap=cap) (hR:Rt bs H){A0 B0:List Bk}{xo xs s:Nat}(hb:H.blks=A0++⟨xo,xs,true⟩::B0) (hs:aaB (s:Int)=true) (hle:s+32<=xs):
 Calls Tryz.prog 239 #[.pointer (some ⟨g,0,none⟩), .agg #[.int .i64 (xo:Int), .int .i64 (xs:Int), .bool true], .int .i64 (s:Int)] w1 fun e w2=>e= .returned .nilIface/\∃out,Became 195 g base cap A out w w2/\Rt out (H.cut A0.length s)/\
  Held H bs (H.cut A0.length s) out/\∀z∈H.blks,z.used=true->z.off≠xo->∀i,Pay z i->out[i]?=bs[i]?:=by
 obtain⟨b1,b2,H1,A1,B1,p,n,e1,e2,l1,l2,hc1,hR1,hb1,hN,hcut,hP⟩:=hR.cutting (by omega) hb hs hle;obtain⟨hl,hbd⟩:=hR.bound (by omega);have hx:=hbd ⟨xo,xs,true⟩ (by rw[hb];simp);dsimp only at hx;have hq:=(aab _).1 hs;have HG:=hE0 (fun w3 (h3:Became 195 g base cap A b2 w w3)=>aqr h3 hbase hcap (by omega) hR1 hb1 hN);rw[hcut]at HG;have HP:=hE0 hP;obtain⟨wa,hwa⟩:=nmE (w1.alloc (.cells #[.int .i64 (xo:Int), .int .i64 (xs:Int), .bool true] 112));have na:=anE hwa;have BCa:=aa4 h (.cells #[.int .i64 (xo:Int), .int .i64 (xs:Int), .bool true] 112);rw[hwa]at BCa;obtain⟨wb,hwb⟩:=nmE (wa.alloc (.cells #[.int .i64 ((xo:Int)+(s:Int)), .int .i64 ((xs:Int)-(s:Int)), .bool true] 112));have nb:=anE hwb;have nab:wb.heap[w1.heap.size]?=some (.cells #[.int .i64 (xo:Int), .int .i64 (xs:Int), .bool true] 112 (0,0)):=by rw[<-hwb];exact(heap_alloc_old _ _ (aae na)).trans na
 have BCb:=aa4 BCa (.cells #[.int .i64 ((xo:Int)+(s:Int)), .int .i64 ((xs:Int)-(s:Int)), .bool true] 112);rw[hwb]at BCb;have hsz:w.heap.size<=w1.heap.size:=by obtain⟨_,_,_,ht,_⟩:=h;exact ht.size
 obtain⟨wc,hwc⟩:=nmE (wb.setCell ⟨w1.heap.size,1,none⟩ (.int .i64 (s:Int)));have nac:=heap_setCell_same wb w1.heap.size 1 _ _ (.int .i64 (s:Int)) nab;have nbc:=(Below.heap_setCell wb ⟨w1.heap.size,1,none⟩ (.int .i64 (s:Int)) wa.heap.size (fun e=>by have:=aae na;have e:wa.heap.size=w1.heap.size:=e;omega)).trans nb;have BCc:=aio BCb nab hsz 1 (.int .i64 (s:Int));rw[hwc]at nac nbc BCc;have nac:wc.heap[w1.heap.size]?=some (.cells #[.int .i64 (xo:Int), .int .i64 (s:Int), .bool true] 112 (0,0)):=nac;have h1:=aip BCc hbase hl xo s true (by omega) (by omega) e1;have H1':=hE0 h1;have E2:=hE0 e2;have NBC:=hE0 nbc;have HWA:=hE0 hwa;have HWB:=hE0 hwb;have HWC:=hE0 hwc;have NAC:=hE0 nac;obtain⟨⟨d0,d1,d2⟩,_⟩:=aad nb;obtain⟨⟨u0,u1,u2⟩,_⟩:=aad na;obtain⟨⟨c0,c1,c2⟩,f0,f1,f2⟩:=aad nab;obtain⟨⟨g0,g1,g2⟩,_⟩:=aad nac;have hlta:=aac na;have hltb:=aac nb;have hltc:=aac nab;clear hR hwa hwb hwc BCa BCb BCc h na nb nab nac nbc hb hR1 hb1 hN hcut hP h1 e1 e2 hbd;go_enter Tryz.func239,Tryz.ntmps239
 go_wp2_with (first | (rw[HWA.out]) | (rw[HWB.out]) | (rw[HWC.out]) | fail)
 refine H1'.out.mono ?_;clear d0 d1 d2 u0 u1 u2 c0 c1 c2 f0 f1 f2 g0 g1 g2 hlta hltb hltc;rintro e wd ⟨rfl,hB1,hL1⟩;have nb:=hL1 _ _ NBC.out;have h2:=aip hB1 hbase (by omega) (xo+s) (xs-s) true (by omega) (by omega) E2.out;have en:((xo+s:Nat):Int)=(xo:Int)+(s:Int):=Int.natCast_add _ _;have em:((xs-s:Nat):Int)=(xs:Int)-(s:Int):=Int.ofNat_sub (by omega);rw[en,em]at h2;have H2:=hE0 h2;have EN:=hE0 en;have EM:=hE0 em;have NB:=hE0 nb;clear hB1 hL1 NBC NAC HWA HWB HWC H1' h2 E2 en em;obtain⟨⟨d0,d1,d2⟩,_⟩:=aad nb;have hltb:=aac nb;clear nb;go_wp2_with fail
 refine H2.out.mono ?_;clear d0 d1 d2 hltb;rintro e we ⟨rfl,hB2,hL2⟩;have nb:=hL2 _ _ NB.out;have h3:=HG.out we hB2;rw[EN.out,EM.out]at h3;have H3:=hE0 h3;clear hB2 hL2 NB H2 h3 HG;obtain⟨⟨d0,d1,d2⟩,_⟩:=aad nb;have hltb:=aac nb;clear nb;go_wp2_with fail
 refine H3.out.mono ?_;clear d0 d1 d2 hltb;rintro e wf ⟨rfl,out,hB,hR,hP⟩;have HB:=hE0 hB;have HR:=hE0 hR;have HPP:=hE0 (HP.out out hP);clear hB hR hP H3 HP;go_wp2
 go_ret
 exact⟨rfl,out,HB.out,HR.out,HPP.out.1,HPP.out.2⟩
theorem aqt (h:Became 195 g base cap A bs w w1) (hbase:base<=4611686018427387904) (hcap:cap<=16384) (hc:H.cap=cap) (hR:Rt bs H){A0 B0:List Bk}{xo xs s:Nat}(hb:H.blks=A0++⟨xo,xs,true⟩::B0) (hs:aaB (s:Int)=true) (hle:s<=xs):
 Calls Tryz.prog 239 #[.pointer (some ⟨g,0,none⟩), .agg #[.int .i64 (xo:Int), .int .i64 (xs:Int), .bool true], .int .i64 (s:Int)] w1 fun e w2=>e= .returned .nilIface/\∃out,Became 195 g base cap A out w w2/\Rt out (H.cut A0.length s)/\
  Held H bs (H.cut A0.length s) out/\∀z∈H.blks,z.used=true->z.off≠xo->∀i,Pay z i->out[i]?=bs[i]?:=by
 obtain⟨hl,hbd⟩:=hR.bound (by omega);have hx:=hbd ⟨xo,xs,true⟩ (by rw[hb];simp);dsimp only at hx;by_cases hlt:xs<s+32
 · exact aqs h hR hb (by omega) (by omega) hle hlt
 · exact atX h hbase hcap hc hR hb hs (by omega)
end
end Go.Proofs.YtncadccbepjekaaGreatDoor
