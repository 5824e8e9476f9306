/- Texts of mine, joined. -/
import Derived.Test.YtncadccbepjekaaGreatDoorU26
set_option maxRecDepth 100000
set_option maxHeartbeats 2000000
namespace Go.Proofs.YtncadccbepjekaaGreatDoor
open Go.RowKit
section
variable {w w1:World} {g base cap c:Nat} {A:Option Addr} {bs b1 b2:List UInt8}
theorem aiq (o:Int):
 Calls Tryz.prog 244 #[.int .i64 o, .nilIface] w fun e w'=>e= .returned (.tuple #[.int .i64 o, .nilIface])/\w'=w:=by
 go_enter Tryz.func244,Tryz.ntmps244
 go_wp2
 go_ret2
 exact⟨rfl,rfl⟩
theorem air (h:Ar w 195 g base cap A c bs) (hb:base<=4611686018427387904) (o:Nat) (ho:o<=16384):
 Calls Tryz.prog 273 #[.pointer (some ⟨g,0,none⟩), .int .i64 (o:Int)] w fun e w'=>e= .returned (.int .u64 ((base+o+8:Nat):Int))/\w=w':=by
 have HB:=hE0 (ab4 h);have e1:IntKind.u64.wrap (o:Int)=(o:Int):=IntWalk.u64_in _ (by omega);have e2:IntKind.u64.wrap ((base:Int)+(o:Int))=(base:Int)+(o:Int):=IntWalk.u64_in _ (by omega);have e3:IntKind.u64.wrap ((base:Int)+(o:Int)+8)=(base:Int)+(o:Int)+8:=IntWalk.u64_in _ (by omega);clear h;go_enter Tryz.func273,Tryz.ntmps273
 go_wp2_with fail
 with_reducible refine HB.out.mono ?_
 rintro e w' ⟨rfl,rfl⟩;go_wp2
 go_ret
 exact⟨by push_cast;rfl,rfl⟩
theorem ais{P:Prop}(h:P:=by
 obtain⟨w0,hw0⟩:=nmE (w.alloc (.cells #[.int .i64 (xo:Int), .int .i64 (xs:Int), .bool true] 112));have hb0:=abE hw0;have n0:=anE hw0;have z0:w0.heap.size=w.heap.size+1:=by rw[<-hw0];simp only[World.alloc,Array.size_push]
 obtain⟨w1,hw1⟩:=nmE (w0.alloc (.cells #[.int .i64 0, .int .i64 0, .bool false] 112));have hb1:Below w.heap.size w w1:=by rw[<-hw1];exact hb0.alloc hb0.size _
 have hn1:w1.heap[w.heap.size+1]?=some (.cells #[.int .i64 0, .int .i64 0, .bool false] 112 (0,0)):=by rw[<-hw1,<-z0];exact heap_alloc_new w0 _
 have n1:w1.heap[w.heap.size]?=some (.cells #[.int .i64 (xo:Int), .int .i64 (xs:Int), .bool true] 112 (0,0)):=by rw[<-hw1];exact(heap_alloc_old _ _ (aae n0)).trans n0
 have h1:=h.below hb1;have hG:=alG w1 g base cap c A bs ((xo:Int)+(xs:Int)) _ h1 hb hl ⟨by omega,by omega⟩ hy;dsimp only[aaA,bkV,Bk.val,Option.isSome,aat]at hG;have HG:=hE0 hG;have HW0:=hE0 hw0;have HW1:=hE0 hw1;have HB1:=hE0 hb1;have HN1:=hE0 hn1;obtain⟨⟨d0,d1,d2⟩,_⟩:=aad n1;have hlt1:=aac n1;clear hG hy hw0 hw1 hb0 hb1 n0 n1 hn1 h1 h z0;go_enter Tryz.func242,Tryz.ntmps242
 go_wp2_with (first | (rw[HW0.out,HW1.out]) | fail)
 clear d0 d1 d2 hlt1
 with_reducible refine HG.out.mono ?_
 rintro e w2 ⟨rfl,hb2⟩;have hn2:=(hb2.block _ (aae HN1.out)).trans HN1.out;have HB2:=hE0 (HB1.out.trans (hb2.mono HB1.out.size));have HN2:=hE0 hn2;clear hb2 hn2 HG;obtain⟨⟨c0,c1,c2⟩,f0,f1,f2⟩:=aad HN2.out;have hlt:=aac HN2.out;go_wp2
 (try simp only[Exit.inBlock,Exit.then])
 refine aet (g:=w.heap.size+1) (o:=0) (s:=0) (b:=false) Tryz.results242 ?_ ?_ ((heap_alloc_old _ _ (aae (aaJ HN2.out _ _ _))).trans (aaJ HN2.out _ _ _)) ?_
 · rfl
 · rfl
 · refine⟨rfl,Below.alloc (((HB2.out.setCell ?_ _).setCell ?_ _).setCell ?_ _) ?_ _⟩
   · exact Nat.le_succ _
   · exact Nat.le_succ _
   · exact Nat.le_succ _
   · simp only[World.setCell];have h9:=HB2.out.size;simpa using h9
 ):P:=h
theorem al2 (h:Ar w 195 g base cap A c bs) (hb:base<=4611686018427387904) (hl:bs.length<=16384) (xo xs:Nat) (hxo:xo<=16384) (hxs:xs<=16384) (hy:aa6 bs ((xo:Int)+(xs:Int))=none):
 Calls Tryz.prog 242 #[.pointer (some ⟨g,0,none⟩), .agg #[.int .i64 (xo:Int), .int .i64 (xs:Int), .bool true]] w fun e w'=>e= .returned (frV 0 none)/\Below w.heap.size w w':=by
 exact ais
theorem al3 (h:Ar w 195 g base cap A c bs) (hb:base<=4611686018427387904) (hl:bs.length<=16384) (xo xs:Nat) (hxo:xo<=16384) (hxs:xs<=16384) (yo ys:Nat) (hy:aa6 bs ((xo:Int)+(xs:Int))=some ⟨yo,ys,true⟩):
 Calls Tryz.prog 242 #[.pointer (some ⟨g,0,none⟩), .agg #[.int .i64 (xo:Int), .int .i64 (xs:Int), .bool true]] w fun e w'=>e= .returned (frV 0 none)/\Below w.heap.size w w':=by
 exact ais
theorem al4 (h:Ar w 195 g base cap A c bs) (hb:base<=4611686018427387904) (hl:bs.length<=16384) (xo xs:Nat) (hxo:xo<=16384) (hxs:xs<=16384) (yo ys:Nat) (hy:aa6 bs ((xo:Int)+(xs:Int))=some ⟨yo,ys,false⟩):
 Calls Tryz.prog 242 #[.pointer (some ⟨g,0,none⟩), .agg #[.int .i64 (xo:Int), .int .i64 (xs:Int), .bool true]] w fun e w'=>e= .returned (frV 0 (some ⟨yo,ys,false⟩))/\Below w.heap.size w w':=by
 obtain⟨w0,hw0⟩:=nmE (w.alloc (.cells #[.int .i64 (xo:Int), .int .i64 (xs:Int), .bool true] 112));have hb0:=abE hw0;have n0:=anE hw0;have z0:w0.heap.size=w.heap.size+1:=by rw[<-hw0];simp only[World.alloc,Array.size_push]
 obtain⟨w1,hw1⟩:=nmE (w0.alloc (.cells #[.int .i64 0, .int .i64 0, .bool false] 112));have hb1:Below w.heap.size w w1:=by rw[<-hw1];exact hb0.alloc hb0.size _
 have hn1:w1.heap[w.heap.size+1]?=some (.cells #[.int .i64 0, .int .i64 0, .bool false] 112 (0,0)):=by rw[<-hw1,<-z0];exact heap_alloc_new w0 _
 have n1:w1.heap[w.heap.size]?=some (.cells #[.int .i64 (xo:Int), .int .i64 (xs:Int), .bool true] 112 (0,0)):=by rw[<-hw1];exact(heap_alloc_old _ _ (aae n0)).trans n0
 have h1:=h.below hb1;have hG:=alG w1 g base cap c A bs ((xo:Int)+(xs:Int)) _ h1 hb hl ⟨by omega,by omega⟩ hy;dsimp only[aaA,bkV,Bk.val,Option.isSome,aat]at hG;have HG:=hE0 hG;have HW0:=hE0 hw0;have HW1:=hE0 hw1;have HB1:=hE0 hb1;have HN1:=hE0 hn1;obtain⟨⟨d0,d1,d2⟩,_⟩:=aad n1;have hlt1:=aac n1;clear hG hy hw0 hw1 hb0 hb1 n0 n1 hn1 h1 h z0;go_enter Tryz.func242,Tryz.ntmps242
 go_wp2_with (first | (rw[HW0.out,HW1.out]) | fail)
 clear d0 d1 d2 hlt1
 with_reducible refine HG.out.mono ?_
 rintro e w2 ⟨rfl,hb2⟩;have hn2:=(hb2.block _ (aae HN1.out)).trans HN1.out;have HB2:=hE0 (HB1.out.trans (hb2.mono HB1.out.size));have HN2:=hE0 hn2;clear hb2 hn2 HG;obtain⟨⟨c0,c1,c2⟩,f0,f1,f2⟩:=aad HN2.out;have hlt:=aac HN2.out;go_wp2
 (try simp only[Exit.inBlock,Exit.then])
 refine aet (g:=w.heap.size+1) (o:=(yo:Int)) (s:=(ys:Int)) (b:=false) Tryz.results242 ?_ ?_ ((heap_alloc_old _ _ (aae (aaJ HN2.out _ _ _))).trans (aaJ HN2.out _ _ _)) ?_
 · rfl
 · rfl
 · refine⟨rfl,Below.alloc (((HB2.out.setCell ?_ _).setCell ?_ _).setCell ?_ _) ?_ _⟩
   · exact Nat.le_succ _
   · exact Nat.le_succ _
   · exact Nat.le_succ _
   · simp only[World.setCell];have h9:=HB2.out.size;simpa using h9
theorem aeu (h:Ar w 195 g base cap A c bs) (hb:base<=4611686018427387904) (hl:bs.length<=16384) (xo xs:Nat) (hxo:xo<=16384) (hxs:xs<=16384) (y:Option Bk) (hy:frO (aa6 bs ((xo:Int)+(xs:Int)))=y):
 Calls Tryz.prog 242 #[.pointer (some ⟨g,0,none⟩), .agg #[.int .i64 (xo:Int), .int .i64 (xs:Int), .bool true]] w fun e w'=>e= .returned (frV 0 y)/\Below w.heap.size w w':=by
 subst hy
 cases hg:aa6 bs ((xo:Int)+(xs:Int))with
 | none=>exact al2 h hb hl xo xs hxo hxs hg
 | some x=>
  obtain⟨yo,ys,yu⟩:=x
  cases yu with
  | true=>exact al3 h hb hl xo xs hxo hxs yo ys hg
  | false=>exact al4 h hb hl xo xs hxo hxs yo ys hg
theorem at1 (h:Became 195 g base cap A b1 w w1) (hb:base<=4611686018427387904) (hl:b1.length<=16384) (o:Nat) (ho:o<=16384) (hy:aeC b1 (o:Int)=some b2):
 Calls Tryz.prog 271 #[.pointer (some ⟨g,0,none⟩), .int .i64 (o:Int)] w1 fun e w2=>e= .returned .nilIface/\Became 195 g base cap A b2 w w2/\Loc w1 w2:=by
 obtain⟨A',c',a,tc,k⟩:=h;refine(au2 w1 g base cap c' A' b1 (o:Int) _ a hb hl (by omega) hy).mono ?_;rintro e w2 ⟨h1,h2⟩;have h2':=h2;obtain⟨_,_,_,ht,_⟩:=h2';exact⟨h1,Became.trans a tc k h2,Loc.tch a ht⟩
end
section
variable {w w1:World} {g base cap c:Nat} {A:Option Addr} {bs b1 b2:List UInt8}
theorem aqx (h:Became 195 g base cap A bs w w1) (hb:base<=4611686018427387904) (hl:bs.length<=16384) (xo xs n:Nat) (ho:xo<=16384) (hn:n<=16384) (hy:aeo bs (xo:Int) (n:Int) true=some b2):
 Calls Tryz.prog 243 #[.pointer (some ⟨g,0,none⟩), .agg #[.int .i64 (xo:Int), .int .i64 (xs:Int), .bool true], .agg #[.int .i64 0, .int .i64 0, .bool false], .int .i64 (n:Int)] w1 fun e w2=>e= .returned (.tuple #[])/\Became 195 g base cap A b2 w w2:=by
 obtain⟨w0,hw0⟩:=nmE (w1.alloc (.cells #[.int .i64 (xo:Int), .int .i64 (xs:Int), .bool true] 112));have B0:=aa4 h (.cells #[.int .i64 (xo:Int), .int .i64 (xs:Int), .bool true] 112);rw[hw0]at B0;have n0:=anE hw0;have z0:w0.heap.size=w1.heap.size+1:=by rw[<-hw0];simp only[World.alloc,Array.size_push]
 obtain⟨w2,hw2⟩:=nmE (w0.alloc (.cells #[.int .i64 0, .int .i64 0, .bool false] 112));have B2:=aa4 B0 (.cells #[.int .i64 0, .int .i64 0, .bool false] 112);rw[hw2]at B2;have m2:w2.heap[w1.heap.size+1]?=some (.cells #[.int .i64 0, .int .i64 0, .bool false] 112 (0,0)):=by rw[<-hw2,<-z0];exact heap_alloc_new w0 _
 have n2:w2.heap[w1.heap.size]?=some (.cells #[.int .i64 (xo:Int), .int .i64 (xs:Int), .bool true] 112 (0,0)):=by rw[<-hw2];exact(heap_alloc_old _ _ (aae n0)).trans n0
 have HS:=hE0 (aip B2 hb hl xo n true ho hn hy);have HW0:=hE0 hw0;have HW2:=hE0 hw2;obtain⟨⟨d0,d1,d2⟩,_⟩:=aad n2;have hlt1:=aac n2;obtain⟨⟨c0,c1,c2⟩,_⟩:=aad m2;have hlt2:=aac m2;clear hw0 hw2 B0 B2 n0 n2 m2 z0 hy h;go_enter Tryz.func243,Tryz.ntmps243
 go_wp2_with (first | (rw[HW0.out,HW2.out]) | fail)
 refine HS.out.mono ?_;rintro e w3 ⟨rfl,hB3,_⟩;have HB3:=hE0 hB3;clear hB3 HS d0 d1 d2 c0 c1 c2 hlt1 hlt2;go_wp2
 go_end0
 exact⟨rfl,HB3.out⟩
theorem aqy (h:Became 195 g base cap A bs w w1) (hb:base<=4611686018427387904) (hl:bs.length<=16384) (xo xs yo ys n:Nat) (ho:xo<=16384) (hyo:yo<=16384) (hys:(0:Int)<(ys:Int)) (hn:n<=16384) (hl1:b1.length<=16384) (ht:aeC bs (yo:Int)=some b1) (hy:aeo b1 (xo:Int) (n:Int) true=some b2):
 Calls Tryz.prog 243 #[.pointer (some ⟨g,0,none⟩), .agg #[.int .i64 (xo:Int), .int .i64 (xs:Int), .bool true], .agg #[.int .i64 (yo:Int), .int .i64 (ys:Int), .bool false], .int .i64 (n:Int)] w1 fun e w2=>e= .returned (.tuple #[])/\Became 195 g base cap A b2 w w2:=by
 obtain⟨w0,hw0⟩:=nmE (w1.alloc (.cells #[.int .i64 (xo:Int), .int .i64 (xs:Int), .bool true] 112));have B0:=aa4 h (.cells #[.int .i64 (xo:Int), .int .i64 (xs:Int), .bool true] 112);rw[hw0]at B0;have n0:=anE hw0;have z0:w0.heap.size=w1.heap.size+1:=by rw[<-hw0];simp only[World.alloc,Array.size_push]
 obtain⟨w2,hw2⟩:=nmE (w0.alloc (.cells #[.int .i64 (yo:Int), .int .i64 (ys:Int), .bool false] 112));have B2:=aa4 B0 (.cells #[.int .i64 (yo:Int), .int .i64 (ys:Int), .bool false] 112);rw[hw2]at B2;have m2:w2.heap[w1.heap.size+1]?=some (.cells #[.int .i64 (yo:Int), .int .i64 (ys:Int), .bool false] 112 (0,0)):=by rw[<-hw2,<-z0];exact heap_alloc_new w0 _
 have n2:w2.heap[w1.heap.size]?=some (.cells #[.int .i64 (xo:Int), .int .i64 (xs:Int), .bool true] 112 (0,0)):=by rw[<-hw2];exact(heap_alloc_old _ _ (aae n0)).trans n0
 have HT:=hE0 (at1 B2 hb hl yo hyo ht);have HS:=hE0 (fun w3 (B3:Became 195 g base cap A b1 w w3)=>aip B3 hb hl1 xo n true ho hn hy);have HW0:=hE0 hw0;have HW2:=hE0 hw2;have HN2:=hE0 n2;obtain⟨⟨d0,d1,d2⟩,_⟩:=aad n2;have hlt1:=aac n2;obtain⟨⟨c0,c1,c2⟩,_⟩:=aad m2;have hlt2:=aac m2;clear hw0 hw2 B0 B2 n0 n2 m2 z0 hy ht h;go_enter Tryz.func243,Tryz.ntmps243
 go_wp2_with (first | (rw[HW0.out,HW2.out]) | fail)
 refine HT.out.mono ?_;clear d0 d1 d2 c0 c1 c2 hlt1 hlt2;rintro e w3 ⟨rfl,hB3,hL3⟩;have n3:=hL3 _ _ HN2.out;have HS3:=hE0 (HS.out w3 hB3);obtain⟨⟨d0,d1,d2⟩,_⟩:=aad n3;have hlt1:=aac n3;clear hB3 hL3 n3 HT HS HN2;go_wp2_with fail
 refine HS3.out.mono ?_;clear d0 d1 d2 hlt1;rintro e w4 ⟨rfl,hB4,_⟩;have HB4:=hE0 hB4;clear hB4 HS3;go_wp2
 go_end0
 exact⟨rfl,HB4.out⟩
theorem am9 (h:Became 195 g base cap A bs w w1) (hb:base<=4611686018427387904) (hl:bs.length<=16384) (xo xs n:Nat) (y:Option Bk) (ho:xo<=16384) (hs:∀z,y=some z->0<z.size/\z.off<=16384) (hn:n<=16384) (hl1:b1.length<=16384) (ht:apU bs y=some b1) (hy:aeo b1 (xo:Int) (n:Int) true=some b2):
 Calls Tryz.prog 243 #[.pointer (some ⟨g,0,none⟩), .agg #[.int .i64 (xo:Int), .int .i64 (xs:Int), .bool true],frV 0 y, .int .i64 (n:Int)] w1 fun e w2=>e= .returned (.tuple #[])/\Became 195 g base cap A b2 w w2:=by
 cases y with
 | none=>
  injection ht with ht;subst ht;exact aqx h hb hl xo xs n ho hn hy
 | some z=>
  have hz:=hs z rfl;exact aqy h hb hl xo xs z.off z.size n ho hz.2 (by omega) hn hl1 ht hy
end
end Go.Proofs.YtncadccbepjekaaGreatDoor
