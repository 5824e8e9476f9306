/- Texts of mine, joined. -/
import Derived.Lib.Mul64
import Derived.Laws.Bits64b
import Derived.Test.YtncadccbepjekaaGreatDoorL7
set_option maxRecDepth 100000
set_option maxHeartbeats 4000000
namespace Go.Proofs.YtncadccbepjekaaGreatDoor
open Go.RowKit
def RezTold (g base cap:Nat) (A:Option Addr) (bs:List UInt8) (H:Hp) (o:Int) (r:(Nat × Int) × Hp) (w:World) (e:Ending) (w':World):Prop:=
 (r.1.2=0->e= .returned (.tuple #[.int .i64 (r.1.1:Int),aav true 0])/\∃out,Became 195 g base cap A out w w'/\Rt out r.2/\Held H bs r.2 out/\ai9 H bs o r.2 out r.1.1)/\
 (r.1.2≠0->e= .returned (.tuple #[.int .i64 0,aav false r.1.2])/\Below w.heap.size w w')
def aud:Prop:=∀(w:World) (g base cap c:Nat) (A:Option Addr) (bs:List UInt8) (H:Hp) (o s:Int),Ar w 195 g base cap A c bs->base<=4611686018427387904->cap<=16384->H.cap=cap->Rt bs H->(-9223372036854775808<=o/\o<=9223372036854775807)->(-9223372036854775808<=s/\s<=9223372036854775807)->
 (aaG s=false->Calls Tryz.prog 129 #[.pointer (some ⟨g,0,none⟩), .int .i64 o, .int .i64 s] w fun e w'=>e= .returned (.tuple #[.int .i64 0,aav false 1])/\Below w.heap.size w w')/\
 (aaG s=true->Calls Tryz.prog 129 #[.pointer (some ⟨g,0,none⟩), .int .i64 o, .int .i64 s] w fun e w'=>RezTold g base cap A bs H o (H.resize o s.toNat) w e w')
section
variable {w w1:World} {g base cap c:Nat} {A:Option Addr} {bs b1 b2:List UInt8}
theorem aif (o:Int):
 Calls Tryz.prog 244 #[.int .i64 o, .nilIface] w fun e w'=>e= .returned (.tuple #[.int .i64 o, .nilIface])/\w'=w:=by
 go_enter Tryz.func244,Tryz.ntmps244
 go_wp2
 go_ret2
 exact⟨rfl,rfl⟩
theorem aig (h:Ar w 195 g base cap A c bs) (hb:base<=4611686018427387904) (o:Nat) (ho:o<=16384):
 Calls Tryz.prog 273 #[.pointer (some ⟨g,0,none⟩), .int .i64 (o:Int)] w fun e w'=>e= .returned (.int .u64 ((base+o+8:Nat):Int))/\w=w':=by
 have HB:=hE0 (acj h);have e1:IntKind.u64.wrap (o:Int)=(o:Int):=IntWalk.u64_in _ (by omega);have e2:IntKind.u64.wrap ((base:Int)+(o:Int))=(base:Int)+(o:Int):=IntWalk.u64_in _ (by omega);have e3:IntKind.u64.wrap ((base:Int)+(o:Int)+8)=(base:Int)+(o:Int)+8:=IntWalk.u64_in _ (by omega);clear h;go_enter Tryz.func273,Tryz.ntmps273
 go_wp2_with fail
 with_reducible refine HB.out.mono ?_
 rintro e w' ⟨rfl,rfl⟩;go_wp2
 go_ret
 exact⟨by push_cast;rfl,rfl⟩
theorem aih{P:Prop}(h:P:=by
 obtain⟨w0,hw0⟩:=nmE (w.alloc (.cells #[.int .i64 (xo:Int), .int .i64 (xs:Int), .bool true] 112));have hb0:=abE hw0;have n0:=anE hw0;have z0:w0.heap.size=w.heap.size+1:=by rw[<-hw0];simp only[World.alloc,Array.size_push]
 obtain⟨w1,hw1⟩:=nmE (w0.alloc (.cells #[.int .i64 0, .int .i64 0, .bool false] 112));have hb1:Below w.heap.size w w1:=by rw[<-hw1];exact hb0.alloc hb0.size _
 have hn1:w1.heap[w.heap.size+1]?=some (.cells #[.int .i64 0, .int .i64 0, .bool false] 112 (0,0)):=by rw[<-hw1,<-z0];exact heap_alloc_new w0 _
 have n1:w1.heap[w.heap.size]?=some (.cells #[.int .i64 (xo:Int), .int .i64 (xs:Int), .bool true] 112 (0,0)):=by rw[<-hw1];exact(heap_alloc_old _ _ (aae n0)).trans n0
 have h1:=h.below hb1;have hG:=alu w1 g base cap c A bs ((xo:Int)+(xs:Int)) _ h1 hb hl ⟨by omega,by omega⟩ hy;dsimp only[aaE,bkV,Bk.val,Option.isSome,aav]at hG;have HG:=hE0 hG;have HW0:=hE0 hw0;have HW1:=hE0 hw1;have HB1:=hE0 hb1;have HN1:=hE0 hn1;obtain⟨⟨d0,d1,d2⟩,_⟩:=aad n1;have hlt1:=aac n1;clear hG hy hw0 hw1 hb0 hb1 n0 n1 hn1 h1 h z0;go_enter Tryz.func242,Tryz.ntmps242
 go_wp2_with (first | (rw[HW0.out,HW1.out]) | fail)
 clear d0 d1 d2 hlt1
 with_reducible refine HG.out.mono ?_
 rintro e w2 ⟨rfl,hb2⟩;have hn2:=(hb2.block _ (aae HN1.out)).trans HN1.out;have HB2:=hE0 (HB1.out.trans (hb2.mono HB1.out.size));have HN2:=hE0 hn2;clear hb2 hn2 HG;obtain⟨⟨c0,c1,c2⟩,f0,f1,f2⟩:=aad HN2.out;have hlt:=aac HN2.out;go_wp2
 (try simp only[Exit.inBlock,Exit.then])
 refine aeq (g:=w.heap.size+1) (o:=0) (s:=0) (b:=false) Tryz.results242 ?_ ?_ ((heap_alloc_old _ _ (aae (aaK HN2.out _ _ _))).trans (aaK HN2.out _ _ _)) ?_
 · rfl
 · rfl
 · refine⟨rfl,Below.alloc (((HB2.out.setCell ?_ _).setCell ?_ _).setCell ?_ _) ?_ _⟩
   · exact Nat.le_succ _
   · exact Nat.le_succ _
   · exact Nat.le_succ _
   · simp only[World.setCell];have h9:=HB2.out.size;simpa using h9
 ):P:=h
theorem alX (h:Ar w 195 g base cap A c bs) (hb:base<=4611686018427387904) (hl:bs.length<=16384) (xo xs:Nat) (hxo:xo<=16384) (hxs:xs<=16384) (hy:aa8 bs ((xo:Int)+(xs:Int))=none):
 Calls Tryz.prog 242 #[.pointer (some ⟨g,0,none⟩), .agg #[.int .i64 (xo:Int), .int .i64 (xs:Int), .bool true]] w fun e w'=>e= .returned (frV 0 none)/\Below w.heap.size w w':=by
 exact aih
theorem alY (h:Ar w 195 g base cap A c bs) (hb:base<=4611686018427387904) (hl:bs.length<=16384) (xo xs:Nat) (hxo:xo<=16384) (hxs:xs<=16384) (yo ys:Nat) (hy:aa8 bs ((xo:Int)+(xs:Int))=some ⟨yo,ys,true⟩):
 Calls Tryz.prog 242 #[.pointer (some ⟨g,0,none⟩), .agg #[.int .i64 (xo:Int), .int .i64 (xs:Int), .bool true]] w fun e w'=>e= .returned (frV 0 none)/\Below w.heap.size w w':=by
 exact aih
theorem alZ (h:Ar w 195 g base cap A c bs) (hb:base<=4611686018427387904) (hl:bs.length<=16384) (xo xs:Nat) (hxo:xo<=16384) (hxs:xs<=16384) (yo ys:Nat) (hy:aa8 bs ((xo:Int)+(xs:Int))=some ⟨yo,ys,false⟩):
 Calls Tryz.prog 242 #[.pointer (some ⟨g,0,none⟩), .agg #[.int .i64 (xo:Int), .int .i64 (xs:Int), .bool true]] w fun e w'=>e= .returned (frV 0 (some ⟨yo,ys,false⟩))/\Below w.heap.size w w':=by
 obtain⟨w0,hw0⟩:=nmE (w.alloc (.cells #[.int .i64 (xo:Int), .int .i64 (xs:Int), .bool true] 112));have hb0:=abE hw0;have n0:=anE hw0;have z0:w0.heap.size=w.heap.size+1:=by rw[<-hw0];simp only[World.alloc,Array.size_push]
 obtain⟨w1,hw1⟩:=nmE (w0.alloc (.cells #[.int .i64 0, .int .i64 0, .bool false] 112));have hb1:Below w.heap.size w w1:=by rw[<-hw1];exact hb0.alloc hb0.size _
 have hn1:w1.heap[w.heap.size+1]?=some (.cells #[.int .i64 0, .int .i64 0, .bool false] 112 (0,0)):=by rw[<-hw1,<-z0];exact heap_alloc_new w0 _
 have n1:w1.heap[w.heap.size]?=some (.cells #[.int .i64 (xo:Int), .int .i64 (xs:Int), .bool true] 112 (0,0)):=by rw[<-hw1];exact(heap_alloc_old _ _ (aae n0)).trans n0
 have h1:=h.below hb1;have hG:=alu w1 g base cap c A bs ((xo:Int)+(xs:Int)) _ h1 hb hl ⟨by omega,by omega⟩ hy;dsimp only[aaE,bkV,Bk.val,Option.isSome,aav]at hG;have HG:=hE0 hG;have HW0:=hE0 hw0;have HW1:=hE0 hw1;have HB1:=hE0 hb1;have HN1:=hE0 hn1;obtain⟨⟨d0,d1,d2⟩,_⟩:=aad n1;have hlt1:=aac n1;clear hG hy hw0 hw1 hb0 hb1 n0 n1 hn1 h1 h z0;go_enter Tryz.func242,Tryz.ntmps242
 go_wp2_with (first | (rw[HW0.out,HW1.out]) | fail)
 clear d0 d1 d2 hlt1
 with_reducible refine HG.out.mono ?_
 rintro e w2 ⟨rfl,hb2⟩;have hn2:=(hb2.block _ (aae HN1.out)).trans HN1.out;have HB2:=hE0 (HB1.out.trans (hb2.mono HB1.out.size));have HN2:=hE0 hn2;clear hb2 hn2 HG;obtain⟨⟨c0,c1,c2⟩,f0,f1,f2⟩:=aad HN2.out;have hlt:=aac HN2.out;go_wp2
 (try simp only[Exit.inBlock,Exit.then])
 refine aeq (g:=w.heap.size+1) (o:=(yo:Int)) (s:=(ys:Int)) (b:=false) Tryz.results242 ?_ ?_ ((heap_alloc_old _ _ (aae (aaK HN2.out _ _ _))).trans (aaK HN2.out _ _ _)) ?_
 · rfl
 · rfl
 · refine⟨rfl,Below.alloc (((HB2.out.setCell ?_ _).setCell ?_ _).setCell ?_ _) ?_ _⟩
   · exact Nat.le_succ _
   · exact Nat.le_succ _
   · exact Nat.le_succ _
   · simp only[World.setCell];have h9:=HB2.out.size;simpa using h9
theorem aer (h:Ar w 195 g base cap A c bs) (hb:base<=4611686018427387904) (hl:bs.length<=16384) (xo xs:Nat) (hxo:xo<=16384) (hxs:xs<=16384) (y:Option Bk) (hy:frO (aa8 bs ((xo:Int)+(xs:Int)))=y):
 Calls Tryz.prog 242 #[.pointer (some ⟨g,0,none⟩), .agg #[.int .i64 (xo:Int), .int .i64 (xs:Int), .bool true]] w fun e w'=>e= .returned (frV 0 y)/\Below w.heap.size w w':=by
 subst hy
 cases hg:aa8 bs ((xo:Int)+(xs:Int))with
 | none=>exact alX h hb hl xo xs hxo hxs hg
 | some x=>
  obtain⟨yo,ys,yu⟩:=x
  cases yu with
  | true=>exact alY h hb hl xo xs hxo hxs yo ys hg
  | false=>exact alZ h hb hl xo xs hxo hxs yo ys hg
theorem aue (h:Became 195 g base cap A b1 w w1) (hb:base<=4611686018427387904) (hl:b1.length<=16384) (o:Nat) (ho:o<=16384) (hy:aeB b1 (o:Int)=some b2):
 Calls Tryz.prog 271 #[.pointer (some ⟨g,0,none⟩), .int .i64 (o:Int)] w1 fun e w2=>e= .returned .nilIface/\Became 195 g base cap A b2 w w2/\Loc w1 w2:=by
 obtain⟨A',c',a,tc,k⟩:=h;refine(auZ w1 g base cap c' A' b1 (o:Int) _ a hb hl (by omega) hy).mono ?_;rintro e w2 ⟨h1,h2⟩;have h2':=h2;obtain⟨_,_,_,ht,_⟩:=h2';exact⟨h1,Became.trans a tc k h2,Loc.tch a ht⟩
end
section
variable {w w1:World} {g base cap c:Nat} {A:Option Addr} {bs b1 b2:List UInt8}
theorem aqp (h:Became 195 g base cap A bs w w1) (hb:base<=4611686018427387904) (hl:bs.length<=16384) (xo xs n:Nat) (ho:xo<=16384) (hn:n<=16384) (hy:aek bs (xo:Int) (n:Int) true=some b2):
 Calls Tryz.prog 243 #[.pointer (some ⟨g,0,none⟩), .agg #[.int .i64 (xo:Int), .int .i64 (xs:Int), .bool true], .agg #[.int .i64 0, .int .i64 0, .bool false], .int .i64 (n:Int)] w1 fun e w2=>e= .returned (.tuple #[])/\Became 195 g base cap A b2 w w2:=by
 obtain⟨w0,hw0⟩:=nmE (w1.alloc (.cells #[.int .i64 (xo:Int), .int .i64 (xs:Int), .bool true] 112));have B0:=aa7 h (.cells #[.int .i64 (xo:Int), .int .i64 (xs:Int), .bool true] 112);rw[hw0]at B0;have n0:=anE hw0;have z0:w0.heap.size=w1.heap.size+1:=by rw[<-hw0];simp only[World.alloc,Array.size_push]
 obtain⟨w2,hw2⟩:=nmE (w0.alloc (.cells #[.int .i64 0, .int .i64 0, .bool false] 112));have B2:=aa7 B0 (.cells #[.int .i64 0, .int .i64 0, .bool false] 112);rw[hw2]at B2;have m2:w2.heap[w1.heap.size+1]?=some (.cells #[.int .i64 0, .int .i64 0, .bool false] 112 (0,0)):=by rw[<-hw2,<-z0];exact heap_alloc_new w0 _
 have n2:w2.heap[w1.heap.size]?=some (.cells #[.int .i64 (xo:Int), .int .i64 (xs:Int), .bool true] 112 (0,0)):=by rw[<-hw2];exact(heap_alloc_old _ _ (aae n0)).trans n0
 have HS:=hE0 (aie B2 hb hl xo n true ho hn hy);have HW0:=hE0 hw0;have HW2:=hE0 hw2;obtain⟨⟨d0,d1,d2⟩,_⟩:=aad n2;have hlt1:=aac n2;obtain⟨⟨c0,c1,c2⟩,_⟩:=aad m2;have hlt2:=aac m2;clear hw0 hw2 B0 B2 n0 n2 m2 z0 hy h;go_enter Tryz.func243,Tryz.ntmps243
 go_wp2_with (first | (rw[HW0.out,HW2.out]) | fail)
 refine HS.out.mono ?_;rintro e w3 ⟨rfl,hB3,_⟩;have HB3:=hE0 hB3;clear hB3 HS d0 d1 d2 c0 c1 c2 hlt1 hlt2;go_wp2
 go_end0
 exact⟨rfl,HB3.out⟩
theorem aqq (h:Became 195 g base cap A bs w w1) (hb:base<=4611686018427387904) (hl:bs.length<=16384) (xo xs yo ys n:Nat) (ho:xo<=16384) (hyo:yo<=16384) (hys:(0:Int)<(ys:Int)) (hn:n<=16384) (hl1:b1.length<=16384) (ht:aeB bs (yo:Int)=some b1) (hy:aek b1 (xo:Int) (n:Int) true=some b2):
 Calls Tryz.prog 243 #[.pointer (some ⟨g,0,none⟩), .agg #[.int .i64 (xo:Int), .int .i64 (xs:Int), .bool true], .agg #[.int .i64 (yo:Int), .int .i64 (ys:Int), .bool false], .int .i64 (n:Int)] w1 fun e w2=>e= .returned (.tuple #[])/\Became 195 g base cap A b2 w w2:=by
 obtain⟨w0,hw0⟩:=nmE (w1.alloc (.cells #[.int .i64 (xo:Int), .int .i64 (xs:Int), .bool true] 112));have B0:=aa7 h (.cells #[.int .i64 (xo:Int), .int .i64 (xs:Int), .bool true] 112);rw[hw0]at B0;have n0:=anE hw0;have z0:w0.heap.size=w1.heap.size+1:=by rw[<-hw0];simp only[World.alloc,Array.size_push]
 obtain⟨w2,hw2⟩:=nmE (w0.alloc (.cells #[.int .i64 (yo:Int), .int .i64 (ys:Int), .bool false] 112));have B2:=aa7 B0 (.cells #[.int .i64 (yo:Int), .int .i64 (ys:Int), .bool false] 112);rw[hw2]at B2;have m2:w2.heap[w1.heap.size+1]?=some (.cells #[.int .i64 (yo:Int), .int .i64 (ys:Int), .bool false] 112 (0,0)):=by rw[<-hw2,<-z0];exact heap_alloc_new w0 _
 have n2:w2.heap[w1.heap.size]?=some (.cells #[.int .i64 (xo:Int), .int .i64 (xs:Int), .bool true] 112 (0,0)):=by rw[<-hw2];exact(heap_alloc_old _ _ (aae n0)).trans n0
 have HT:=hE0 (aue B2 hb hl yo hyo ht);have HS:=hE0 (fun w3 (B3:Became 195 g base cap A b1 w w3)=>aie B3 hb hl1 xo n true ho hn hy);have HW0:=hE0 hw0;have HW2:=hE0 hw2;have HN2:=hE0 n2;obtain⟨⟨d0,d1,d2⟩,_⟩:=aad n2;have hlt1:=aac n2;obtain⟨⟨c0,c1,c2⟩,_⟩:=aad m2;have hlt2:=aac m2;clear hw0 hw2 B0 B2 n0 n2 m2 z0 hy ht h;go_enter Tryz.func243,Tryz.ntmps243
 go_wp2_with (first | (rw[HW0.out,HW2.out]) | fail)
 refine HT.out.mono ?_;clear d0 d1 d2 c0 c1 c2 hlt1 hlt2;rintro e w3 ⟨rfl,hB3,hL3⟩;have n3:=hL3 _ _ HN2.out;have HS3:=hE0 (HS.out w3 hB3);obtain⟨⟨d0,d1,d2⟩,_⟩:=aad n3;have hlt1:=aac n3;clear hB3 hL3 n3 HT HS HN2;go_wp2_with fail
 refine HS3.out.mono ?_;clear d0 d1 d2 hlt1;rintro e w4 ⟨rfl,hB4,_⟩;have HB4:=hE0 hB4;clear hB4 HS3;go_wp2
 go_end0
 exact⟨rfl,HB4.out⟩
theorem amU (h:Became 195 g base cap A bs w w1) (hb:base<=4611686018427387904) (hl:bs.length<=16384) (xo xs n:Nat) (y:Option Bk) (ho:xo<=16384) (hs:∀z,y=some z->0<z.size/\z.off<=16384) (hn:n<=16384) (hl1:b1.length<=16384) (ht:ap7 bs y=some b1) (hy:aek b1 (xo:Int) (n:Int) true=some b2):
 Calls Tryz.prog 243 #[.pointer (some ⟨g,0,none⟩), .agg #[.int .i64 (xo:Int), .int .i64 (xs:Int), .bool true],frV 0 y, .int .i64 (n:Int)] w1 fun e w2=>e= .returned (.tuple #[])/\Became 195 g base cap A b2 w w2:=by
 cases y with
 | none=>
  injection ht with ht;subst ht;exact aqp h hb hl xo xs n ho hn hy
 | some z=>
  have hz:=hs z rfl;exact aqq h hb hl xo xs z.off z.size n ho hz.2 (by omega) hn hl1 ht hy
end
theorem Held.moved{H H':Hp}{bs out:List UInt8}{o:Int}{p:Nat}(h:Held H bs H' out) (hp:(p:Int)=o):ai9 H bs o H' out p:=by
 intro x hx hu hxo y hy hyu hyp i i1 i2 i3;have e:x.off=p:=by omega
 have:=h x hx hu y hy hyu (by omega) (x.off+i) (by omega) (by omega) (by omega);rw[e]at this ⊢;exact this
theorem Held.self (H:Hp) (bs:List UInt8):Held H bs H bs:=fun _ _ _ _ _ _ _ _ _ _ _=>rfl
theorem al0{H:Hp}{p o:Int}:(H.moveD p o).lists=H.lists:=by unfold Hp.moveD;split<;>rfl
section
variable {bs:List UInt8} {H:Hp}
theorem Rt.moveD{p o:Int}(h:Rt bs H):Rt bs (H.moveD p o):=⟨by rw[ach];exact h.walk,fun c hc=>by rw[al0];exact h.all_ c hc,h.chk,by rw[moveD_cap];exact h.len⟩
theorem Rt.moved (h:Rt bs H){s i q:Nat}(hs:aaG (s:Int)=true){o:Int}(hi:aa3 H.blks o=some i){xo xs:Nat}(hx:aal H.blks i=⟨xo,xs,true⟩) (hlt:xs<s) (hq:(H.take s).1=some q){bs1:List UInt8}(h1:Rt bs1 (H.take s).2) (hh1:Held H bs (H.take s).2 bs1):
 q+8+(xs-16)<=bs1.length/\xo+8+(xs-16)<=bs1.length/\32<=xs/\Rt (lay bs1 (q+8) ((bs1.drop (xo+8)).take (xs-16))) ((H.take s).2.moveD (q:Int) o)/\(∃j,aa3 ((H.take s).2.moveD (q:Int) o).blks o=some j)/\
  ∀H' out,Held ((H.take s).2.moveD (q:Int) o) (lay bs1 (q+8) ((bs1.drop (xo+8)).take (xs-16))) H' out->Held H bs H' out/\ai9 H bs o H' out q:=by
 obtain⟨i1,i2,i3⟩:=aeP hi;have hxm:(⟨xo,xs,true⟩:Bk)∈H.blks:=by rw[<-hx];exact List.mem_of_getElem? (aat i1)
 rw[hx]at i2;dsimp only at i2;have ht:aby 184 H.blks (Go.Proofs.YtncadccbepjekaaGreatDoor.lenB H.blks):=by rw[h.lenE];exact(aaj h.walk).2.1
 have tm:∀z∈H.blks,z.used=true->z∈(H.take s).2.blks:=fun z hz hu=>afc ht hs (fun j hj=>by obtain⟨a,_,c⟩:=h.found hs hj;exact⟨a,c⟩) hz hu;obtain⟨y,n1,n2,n3,n4,n5,n6⟩:=h.what hs hq;have ht1:=(aaj h1.walk).2.1;obtain⟨y1,y2,y3,_⟩:=(aak _ _ _ ht1).2 y n1;obtain⟨x1,x2,x3,_⟩:=(aak _ _ _ ht1).2 _ (tm _ hxm rfl);dsimp only at x1 x2 x3;have sx:=(aab _).1 x3;have hap:=n6 _ hxm rfl;dsimp only at hap;obtain⟨cs,hcs⟩:=nmE ((bs1.drop (xo+8)).take (xs-16));have hcl:cs.length=xs-16:=by rw[<-hcs,List.length_take,List.length_drop];omega
 rw[hcs];have ag:ah5 bs1 (lay bs1 (q+8) cs) y:=ad8 (x:=y) (q+8) cs (by omega) (by omega) (by omega);have hR2:Rt (lay bs1 (q+8) cs) (H.take s).2:=h1.fill n1 n3 ag;refine⟨by omega,by omega,by omega,hR2.moveD,?_,fun H' out hH=>⟨?_,?_⟩⟩
 · rw[ach];obtain⟨j,hj⟩:=List.mem_iff_getElem?.1 (tm _ hxm rfl);have:=ajg ht1 hj i2 rfl
   cases hu:aa3 (H.take s).2.blks o with
   | none=>rw[hu]at this;cases this
   | some k=>exact⟨k,rfl⟩
 · intro z hz hzu v hv hvu e k k1 k2 k3;have a:=hH z (by rw[ach];exact tm z hz hzu) hzu v hv hvu e k k1 k2 k3;have b:=ag.2 k (by have:=n6 z hz hzu;omega);have d:=hh1 z hz hzu z (tm z hz hzu) hzu rfl k k1 k2 k2;rw[a,b,d]
 · intro x' hx' hxu' hxo' v hv hvu hvp k k1 k2 k3;obtain rfl:x'=⟨xo,xs,true⟩:=by
    have sz:=(aab _).1 ((aak _ _ _ ht).2 x' hx').2.2.1;rcases aaO _ _ _ ht x' hx' _ hxm with e | e | e
    · exact e
    · dsimp only at e;omega
    · dsimp only at e;omega
   dsimp only at k2 ⊢;have a:=hH y (by rw[ach];exact n1) n3 v hv hvu (by omega) (q+k) (by omega) (by omega) (by omega);have b:=agU bs1 (q+8) cs (by omega) (k-8) (by omega);rw[show q+8+(k-8)=q+k by omega]at b;have d:cs[k-8]?=bs1[xo+k]?:=by
    rw[<-hcs,List.getElem?_take_of_lt (by omega),List.getElem?_drop,show xo+8+(k-8)=xo+k by omega]
   have f:=hh1 _ hxm rfl _ (tm _ hxm rfl) rfl rfl (xo+k) (by dsimp only;omega) (by dsimp only;omega) (by dsimp only;omega);rw[a,b,d,f]
theorem Rt.wideHeld (h:Rt bs H){A B1:List Bk}{n:Option Bk}{xo xs t:Nat}(hb:H.blks=A++⟨xo,xs,true⟩::(n.toList++B1)) (hf:∀y,n=some y->y.used=false) (hxt:xs<=t){b2:List UInt8}{H':Hp}(hb':H'.blks=A++⟨xo,t,true⟩::B1)
 (h1:∀z∈H.blks,z.used=true->z.off≠xo->∀i,Pay z i->b2[i]?=bs[i]?) (h2:∀i,Pay ⟨xo,xs,true⟩ i->b2[i]?=bs[i]?) {H'':Hp} {out:List UInt8} (hH:Held H' b2 H'' out):Held H bs H'' out:=by
 intro z hz hzu v hv hvu e k k1 k2 k3;have ht:aby 184 H.blks (Go.Proofs.YtncadccbepjekaaGreatDoor.lenB H.blks):=by rw[h.lenE];exact(aaj h.walk).2.1
 have hxm:(⟨xo,xs,true⟩:Bk)∈H.blks:=by rw[hb];simp
 by_cases hzo:z.off=xo
 · obtain rfl:z=⟨xo,xs,true⟩:=by
    have sz:=(aab _).1 ((aak _ _ _ ht).2 z hz).2.2.1;have sx:=(aab _).1 ((aak _ _ _ ht).2 _ hxm).2.2.1;dsimp only at sx;rcases aaO _ _ _ ht z hz _ hxm with e | e | e
    · exact e
    · dsimp only at e;omega
    · dsimp only at e;omega
   dsimp only at k1 k2 e;rw[hH ⟨xo,t,true⟩ (by rw[hb'];simp) rfl v hv hvu e k k1 (by dsimp only;omega) k3,h2 k ⟨k1,k2⟩]
 · have hm:z∈H'.blks:=by
    rw[hb]at hz;rw[hb'];rcases List.mem_append.1 hz with hz | hz
    · simp[hz]
    · rcases List.mem_cons.1 hz with rfl | hz
      · exact absurd rfl hzo
      · rcases List.mem_append.1 hz with hz | hz
        · have:=hf z (by simpa using hz);rw[hzu]at this;cases this
        · simp[hz]
   rw[hH z hm hzu v hv hvu e k k1 k2 k3,h1 z hz hzu hzo k ⟨k1,k2⟩]
end
section
variable {w:World} {g base cap c:Nat} {A:Option Addr} {bs:List UInt8} {H:Hp}
theorem auf (h:Ar w 195 g base cap A c bs) (hbase:base<=4611686018427387904) (hcap:cap<=16384) (hc:H.cap=cap) (hR:Rt bs H) (xo xs s:Nat) (hs:aaG (s:Int)=true) (hq:(H.take s).1=none):
 Calls Tryz.prog 245 #[.pointer (some ⟨g,0,none⟩), .agg #[.int .i64 (xo:Int), .int .i64 (xs:Int), .bool true], .int .i64 (s:Int)] w fun e w'=>e= .returned (.tuple #[.int .i64 0,aav false 5])/\Below w.heap.size w w':=by
 have ss:=(aab _).1 hs;obtain⟨w0,hw0⟩:=nmE (w.alloc (.cells #[.int .i64 (xo:Int), .int .i64 (xs:Int), .bool true] 112));have hb0:=abE hw0;have hT:=(aub w0 g base cap c A bs H (s:Int) (h.below hb0) hbase hcap hc hR ⟨by omega,by omega⟩).2 hs;rw[Int.toNat_natCast]at hT;unfold aca at hT;rw[hq]at hT;dsimp only[aav]at hT ⊢;have HT:=hE0 hT;have HW0:=hE0 hw0;have HB0:=hE0 hb0;clear hT hw0 hb0 h hR hq hs;go_enter Tryz.func245,Tryz.ntmps245
 go_wp2_with (first | (rw[HW0.out]) | fail)
 refine HT.out.mono ?_;rintro e w2 ⟨rfl,hb2⟩;have HB2:=hE0 (HB0.out.trans (hb2.mono HB0.out.size));clear hb2 HT;go_wp2
 go_ret2
 exact⟨rfl,HB2.out⟩
theorem aso (h:Ar w 195 g base cap A c bs) (hbase:base<=4611686018427387904) (hcap:cap<=16384) (hc:H.cap=cap) (hR:Rt bs H){xo xs s i q:Nat}(hs:aaG (s:Int)=true) (hi:aa3 H.blks (xo:Int)=some i) (hx:aal H.blks i=⟨xo,xs,true⟩) (hlt:xs<s) (hq:(H.take s).1=some q):
 Calls Tryz.prog 245 #[.pointer (some ⟨g,0,none⟩), .agg #[.int .i64 (xo:Int), .int .i64 (xs:Int), .bool true], .int .i64 (s:Int)] w fun e w'=>e= .returned (.tuple #[.int .i64 (q:Int),aav true 5])/\∃out,Became 195 g base cap A out w w'/\
  Rt out ((((H.take s).2.moveD (q:Int) (xo:Int)).giveO (xo:Int)).getD ((H.take s).2.moveD (q:Int) (xo:Int)))/\Held H bs ((((H.take s).2.moveD (q:Int) (xo:Int)).giveO (xo:Int)).getD ((H.take s).2.moveD (q:Int) (xo:Int))) out/\
  ai9 H bs (xo:Int) ((((H.take s).2.moveD (q:Int) (xo:Int)).giveO (xo:Int)).getD ((H.take s).2.moveD (q:Int) (xo:Int))) out q:=by
 have ss:=(aab _).1 hs;obtain⟨w0,hw0⟩:=nmE (w.alloc (.cells #[.int .i64 (xo:Int), .int .i64 (xs:Int), .bool true] 112));have hb0:=abE hw0;have n0:=anE hw0;have h0:=h.below hb0;have hT:=(aub w0 g base cap c A bs H (s:Int) h0 hbase hcap hc hR ⟨by omega,by omega⟩).2 hs;rw[Int.toNat_natCast]at hT;unfold aca at hT;rw[hq]at hT;have hcap2:(H.take s).2.cap=cap:=take_cap.trans hc;have HM:=hE0 (fun bs1 (h1:Rt bs1 (H.take s).2) hh1=>hR.moved hs hi hx hlt hq h1 hh1);have HBD:=hE0 (fun bs1 (h1:Rt bs1 (H.take s).2)=>h1.bound (by omega));obtain⟨H1,hH1⟩:=nmE ((H.take s).2);rw[hH1]at hT HM HBD hcap2 ⊢;have hcap3:(H1.moveD (q:Int) (xo:Int)).cap=cap:=moveD_cap.trans hcap2;obtain⟨H2,hH2⟩:=nmE (H1.moveD (q:Int) (xo:Int));rw[hH2]at HM hcap3 ⊢;dsimp only[aav]at hT ⊢;have HT:=hE0 hT;have HW0:=hE0 hw0;have HB0:=hE0 hb0;have HN0:=hE0 n0;have HA0:=hE0 h0;clear hT hw0 hb0 n0 h0 h hR hq hs hi hx hlt hH1 hH2 hc hcap2;go_enter Tryz.func245,Tryz.ntmps245
 go_wp2_with (first | (rw[HW0.out]) | fail)
 refine HT.out.mono ?_;rintro e w2 ⟨rfl,bs1,hB2,hR1,hh1⟩;obtain⟨l1,l2,l3,hR2,⟨j,hj⟩,hfin⟩:=HM.out bs1 hR1 hh1;have hbl:=(HBD.out bs1 hR1).1;obtain⟨bs2,hbs2⟩:=nmE (lay bs1 (q+8) ((bs1.drop (xo+8)).take (xs-16)));rw[hbs2]at hR2 hfin;have hg:H2.giveO (xo:Int)=some (H2.give j):=by unfold Hp.giveO;rw[hj];rfl
 have HGV:=hE0 (show(H2.giveO (xo:Int)).getD H2=H2.give j by rw[hg];rfl);obtain⟨A2,c2,a2,t2,k2⟩:=hB2;have n2:=Loc.tch HA0.out t2 _ _ HN0.out;obtain⟨v1,hv1⟩:∃v1:Int,((base+q+8:Nat):Int)=v1:=⟨_,rfl⟩;obtain⟨v2,hv2⟩:∃v2:Int,((base+xo+8:Nat):Int)=v2:=⟨_,rfl⟩;have H1:=hE0 (aig a2.drew hbase q (by omega));have H2':=hE0 (aig a2.drew hbase xo (by omega));have HC:=hE0 (ati a2.drew (by omega) (base+q+8) (base+xo+8) (xs-16) (q+8) (xo+8) (by omega) (by omega) (by omega) (by omega) (by omega) (by omega) (by omega) (by omega) (by omega));rw[hbs2]at HC;rw[hv1]at H1 HC;rw[hv2]at H2' HC;have e16:((xs-16:Nat):Int)=(xs:Int)-16:=by omega
 rw[e16]at HC;have ew:IntKind.u64.wrap ((xs:Int)-16)=(xs:Int)-16:=IntWalk.u64_in _ (by omega);obtain⟨⟨d0,d1,d2⟩,_⟩:=aad n2;have hlt2:=aac n2;have HN2:=hE0 n2;have HGK:=hE0 (fun w3 c3 A3 (a3:Ar w3 195 g base cap A3 c3 bs2)=>avf w3 g base cap c3 A3 bs2 H2 (xo:Int) a3 hbase hcap hcap3 hR2 ⟨by omega,by omega⟩);rw[hg]at HGK;dsimp only[ac1,aav]at HGK;have HTR:=hE0 (fun b3 w4 (k:Became 195 g base cap A2 b3 w2 w4)=>Became.trans a2 t2 k2 k);have HFIN:=hE0 hfin;clear hfin hR2 hj hg hR1 hh1 HM HBD HT HA0 HN0 n2 t2 k2 hbs2 hv1 hv2;go_wp2_with fail
 refine aao w2.heap.size [([0,1,2,4,5,6,8,9,10,11],3),([],7)] [] [12] (by kernel_rfl) (by kernel_rfl) (by kernel_rfl) (fun _ _ _ _ _ h=>h) ?_;have q0:∀z:LaterB w2.heap.size w2.drew,z.val.cell? ⟨w.heap.size,0,none⟩=some (.int .i64 (xo:Int)):=fun z=>(z.ext.cell (p:=⟨w.heap.size,0,none⟩) hlt2).trans d0;have q1:∀z:LaterB w2.heap.size w2.drew,z.val.cell? ⟨w.heap.size,1,none⟩=some (.int .i64 (xs:Int)):=fun z=>(z.ext.cell (p:=⟨w.heap.size,1,none⟩) hlt2).trans d1;refine tail_cons (l:= ?seg1) ?hseg1 ?_
 case hseg1=>simp only[pick,lE1,lE2,lE3];rfl
 repeat (go_big_quiet_step (fail))
 refine wpQuiet_nil ?_;clear q0 q1;refine aar (vs:= #[.pointer (some ⟨g,0,none⟩), .int .i64 (q:Int)]) Tryz.call273 rfl rfl rfl (R:=fun r w'=>r= .int .u64 v1/\w'=w2.drew) (H1.out.mono ?_) w2.heap.size (Nat.le_refl _) ?_
 · rintro e w' ⟨rfl,rfl⟩;exact⟨_,rfl,Below.refl _ _,rfl,rfl⟩
 rintro r w3 _ ⟨rfl,rfl⟩;refine tail_cons (l:= []) rfl ?_;refine wpQuiet_nil ?_;refine aar (vs:= #[.pointer (some ⟨g,0,none⟩), .int .i64 (xo:Int)]) Tryz.call273 rfl rfl rfl (R:=fun r w'=>r= .int .u64 v2/\w'=w2.drew) (H2'.out.mono ?_) w2.heap.size (Nat.le_refl _) ?_
 · rintro e w' ⟨rfl,rfl⟩;exact⟨_,rfl,Below.refl _ _,rfl,rfl⟩
 rintro r w3 _ ⟨rfl,rfl⟩;refine aaH (l:= []) (t:= ?tl1) rfl ?htl1 ?_
 case htl1=>simp only[pick,lE1,lE2,lE3];rfl
 refine wpQuiet_nil ?_;simp only[Act.put,lE4,lE5,lE6];clear d0 d1 d2 hlt2 H1 H2';go_wp2_with fail
 refine HC.out.mono ?_;rintro e w3 ⟨rfl,hB3⟩;have hB3':=hB3;obtain⟨A3,c3,a3,t3,k3⟩:=hB3';have n3:=Loc.tch a2.drew t3 _ _ HN2.out;have HG:=hE0 (HGK.out w3 c3 A3 a3);have HTR3:=hE0 (fun b3 w4 (k:Became 195 g base cap A3 b3 w3 w4)=>HTR.out b3 w4 (Became.of_drew (Became.trans a3 t3 k3 k)));obtain⟨⟨d0,d1,d2⟩,_⟩:=aad n3;have hlt3:=aac n3;clear hB3 HGK HTR n3 a3 t3 k3 HC HN2 a2;go_wp2_with fail
 refine HG.out.mono ?_;clear d0 d1 d2 hlt3;rintro e w4 ⟨rfl,out,hB4,hR4,hh4⟩;have hBo:=HTR3.out out w4 hB4;have HBo:=hE0 (hBo.after HB0.out);have HR4:=hE0 hR4;have HF4:=hE0 (HFIN.out _ _ hh4);have HS:=hE0 (aif (w:=w4) (q:Int));clear hB4 hBo hR4 hh4 HG HTR3 HFIN HB0;go_wp2_with fail
 refine HS.out.mono ?_;rintro e w5 ⟨rfl,rfl⟩;clear HS;go_wp2
 go_ret2
 refine⟨rfl,out,HBo.out,?_⟩;rw[HGV.out];exact⟨HR4.out,HF4.out.1,HF4.out.2⟩
end
theorem asp{l:List Bk}{e:Nat}(ht:aby 184 l e){i:Nat}{x:Bk}{o:Int}(hx:l[i]?=some x) (ho:(x.off:Int)=o) (hu:x.used=true):aa3 l o=some i:=by
 have h:=ajg ht hx ho hu
 cases hk:aa3 l o with
 | none=>rw[hk]at h;cases h
 | some k=>
  obtain⟨k1,k2,k3⟩:=aeP hk;rw[hk,Option.map_some]at h;injection h with h;have hkx:=aat k1;rw[h]at hkx;have hpw:=List.pairwise_iff_getElem.1 (adX _ _ _ ht);have hi1:=aau hx;have e1:l[i]=x:=by rw[List.getElem?_eq_getElem hi1]at hx;exact Option.some.inj hx
  have e2:l[k]=x:=by rw[List.getElem?_eq_getElem k1]at hkx;exact Option.some.inj hkx
  rcases Nat.lt_trichotomy k i with h' | h' | h'
  · exact absurd (by rw[e1,e2]) (hpw k i k1 hi1 h')
  · rw[h']
  · exact absurd (by rw[e1,e2]) (hpw i k hi1 k1 h')
section
variable {bs:List UInt8} {H:Hp} {A1 B1:List Bk} {p n:Option Bk} {xo xs z:Nat}
theorem Rt.widened (h:Rt bs H) (hc:H.cap<=16384) (hb:H.blks=(A1++p.toList)++⟨xo,xs,true⟩::(n.toList++B1)) (hN:alK A1 p n B1) (hz:(n.map Bk.size).getD 0=z):
 ∃b1 b2,ap7 bs n=some b1/\aek b1 (xo:Int) ((xs+z:Nat):Int) true=some b2/\b1.length=bs.length/\Rt b2 (H.widen (A1++p.toList).length)/\aa3 (H.widen (A1++p.toList).length).blks (xo:Int)=some (A1++p.toList).length/\
  aal (H.widen (A1++p.toList).length).blks (A1++p.toList).length=⟨xo,xs+z,true⟩/\∀H'' out,Held (H.widen (A1++p.toList).length) b2 H'' out->Held H bs H'' out:=by
 obtain⟨w1,w2,w3,w4⟩:=aje hb hN.nf hN.nu;rw[hz]at w1 w3;obtain⟨A,hA⟩:=nmE (A1++p.toList);rw[hA]at hb w1 w2 w3 w4 ⊢;obtain⟨hl,hbd⟩:=h.bound hc;have ht:aby 184 H.blks bs.length:=(aaj h.walk).2.1;have htm:=(aak _ _ _ ht).2;have hxm:(⟨xo,xs,true⟩:Bk)∈H.blks:=by rw[hb];simp
 have sx:=(aab _).1 (htm _ hxm).2.2.1;have hx8:=(htm _ hxm).2.1;dsimp only at sx hx8;have hsz:aaG ((xs+z:Nat):Int)=true:=by
  rw[aab]
  cases n with
  | none=>simp at hz;omega
  | some m=>
   have hmm:m∈H.blks:=by rw[hb];simp
   have sm:=(aab _).1 (htm _ hmm).2.2.1;have hm8:=htm _ hmm;have hz:m.size=z:=hz;rw[hb,aaF]at ht;obtain⟨_,_,_,t3⟩:=ht;obtain⟨t4,_⟩:=t3;dsimp only at t4;omega
 obtain⟨b1,e1,e2,l1,l2,hRt,hP1,hP2⟩:=h.wide hc (n0:=0) (t:=xs+z) hb hN.nf (by rw[hz];omega) (.inl rfl) hsz (by have:=h.len;omega);rw[List.replicate_zero,List.append_nil]at e1;have hR2:=hRt (H.widen A.length) w1 w2 widen_cap;obtain⟨b2,hb2⟩:=nmE (aaY b1 ⟨xo,xs+z,true⟩);rw[hb2]at e2 hR2 hP1 hP2 l2;have hat:(H.widen A.length).blks[A.length]?=some ⟨xo,xs+z,true⟩:=by rw[w1];simp
 exact⟨b1,b2,e1,e2,by omega,hR2,asp (aaj hR2.walk).2.1 hat rfl rfl,aaX hat,fun H'' out hH=>h.wideHeld hb hN.nf (by omega) w1 hP1 hP2 hH⟩
theorem Rt.grown (h:Rt bs H) (hc:H.cap<=16384) (hb:H.blks=(A1++p.toList)++⟨xo,xs,true⟩::(n.toList++B1)) (hN:alK A1 p n B1) (hz:(n.map Bk.size).getD 0=z){s:Nat}(hs:aaG (s:Int)=true) (hlt:xs+z<s) (hend:xo+(xs+z)=bs.length) (hcap:bs.length+(s-(xs+z))<=H.cap):
 ∃b1 b2,ap7 (bs++List.replicate (s-(xs+z)) 0) n=some b1/\aek b1 (xo:Int) (s:Int) true=some b2/\b1.length=bs.length+(s-(xs+z))/\Rt b2 ((H.widen (A1++p.toList).length).size (A1++p.toList).length s)/\Held H bs ((H.widen (A1++p.toList).length).size (A1++p.toList).length s) b2:=by
 obtain⟨w1,w2,w3,w4⟩:=aje hb hN.nf hN.nu;rw[hz]at w1 w3;obtain⟨A,hA⟩:=nmE (A1++p.toList);rw[hA]at hb w1 w2 w3 w4 ⊢;have ht:aby 184 H.blks bs.length:=(aaj h.walk).2.1;have hB1:B1= []:=by
  rw[hb,aaF]at ht;obtain⟨_,t1,_,t3⟩:=ht;dsimp only at t1;rw[aaF]at t3;have hzn:abd n.toList=z:=by rw[<-hz];cases n<;>simp[abd]
  rw[hzn]at t3;have t4:=t3.2;dsimp only at t4
  cases B1 with
  | nil=>rfl
  | cons y r=>
   have:=(aak _ _ _ t4).2 y (by simp);have sy:=(aab _).1 this.2.2.1;omega
 obtain⟨b1,e1,e2,l1,l2,hRt,hP1,hP2⟩:=h.wide hc (n0:=s-(xs+z)) (t:=s) hb hN.nf (by rw[hz];omega) (.inr hB1) hs hcap;have hat:(H.widen A.length).blks[A.length]?=some ⟨xo,xs+z,true⟩:=by rw[w1];simp
 have hb':((H.widen A.length).size A.length s).blks=A++⟨xo,s,true⟩::B1:=by
  show(H.widen A.length).blks.set A.length {aal (H.widen A.length).blks A.length with size:=s}=_;rw[aaX hat,w1,List.set_append_right _ _ (Nat.le_refl _),Nat.sub_self];rfl
 have hR2:=hRt ((H.widen A.length).size A.length s) hb' w2 widen_cap;exact⟨b1,_,e1,e2,by omega,hR2,h.wideHeld hb hN.nf (by omega) hb' hP1 hP2 (Held.self _ _)⟩
end
section
variable {w:World} {g base cap c:Nat} {A:Option Addr} {bs:List UInt8} {H:Hp} {A1 B1:List Bk} {p n:Option Bk} {xo xs z s:Nat}
theorem al1 (h:Ar w 195 g base cap A c bs) (hbase:base<=4611686018427387904) (hcap:cap<=16384) (hc:H.cap=cap) (hR:Rt bs H) (hb:H.blks=(A1++p.toList)++⟨xo,xs,true⟩::(n.toList++B1)) (hN:alK A1 p n B1) (hz:(n.map Bk.size).getD 0=z) (hs:aaG (s:Int)=true) (hle:s<=xs+z):
 Calls Tryz.prog 193 #[.pointer (some ⟨g,0,none⟩), .agg #[.int .i64 (xo:Int), .int .i64 (xs:Int), .bool true], .int .i64 (s:Int)] w fun e w'=>e= .returned (.tuple #[.int .i64 (xo:Int),aav true 0])/\
  ∃out,Became 195 g base cap A out w w'/\Rt out ((H.widen (A1++p.toList).length).cut (A1++p.toList).length s)/\Held H bs ((H.widen (A1++p.toList).length).cut (A1++p.toList).length s) out:=by
 have ss:=(aab _).1 hs;obtain⟨hl,hbd⟩:=hR.bound (by omega);have hx:=hbd ⟨xo,xs,true⟩ (by rw[hb];simp);dsimp only at hx;have hn:∀y,n=some y->0<y.size/\y.off<=16384:=fun y hy=>by have:=hbd y (by rw[hb,hy];simp);omega
 have hzl:xs+z<=16384:=by
  cases n with
  | none=>simp at hz;omega
  | some m=>
   have hz:m.size=z:=hz;have hM:=hR.md (by omega);have ht:=hM.tl;rw[hb,aaF]at ht;obtain⟨_,t1,_,t3⟩:=ht;obtain⟨t4,_⟩:=t3;have:=hbd m (by rw[hb];simp);dsimp only at t1 t4;omega
 have hy:=(hR.md (by omega)).behind hb hN;dsimp only at hy;obtain⟨b1,b2,e1,e2,l1,hR2,hu2,hk2,hH2⟩:=hR.widened (by omega) hb hN hz;have l2:b2.length<=16384:=(hR2.bound (by rw[widen_cap];omega)).1;obtain⟨i,hi⟩:=nmE ((A1++p.toList).length);rw[hi]at hR2 hu2 hk2 hH2 ⊢;obtain⟨H2,hH⟩:=nmE (H.widen i);have hcap2:H2.cap=cap:=by rw[<-hH];exact widen_cap.trans hc
 rw[hH]at hR2 hu2 hk2 hH2 ⊢;have htr:H2.trimO (xo:Int) s=some (H2.cut i s):=by
  unfold Hp.trimO;rw[hu2];dsimp only;rw[hk2];dsimp only;rw[if_neg (by omega)]
 obtain⟨w0,hw0⟩:=nmE (w.alloc (.cells #[.int .i64 (xo:Int), .int .i64 (xs:Int), .bool true] 112));have hb0:=abE hw0;have n0:=anE hw0;have hF:=aer (h.below hb0) hbase hl xo xs (by omega) (by omega) n hy;have ef:=afN 0 n;rw[hz]at ef;obtain⟨fo,hfo⟩:∃fo:Int,(n.map fun z=>(z.off:Int)).getD 0=fo:=⟨_,rfl⟩;rw[hfo]at ef;rw[ef]at hF;have HJ:=hE0 (fun w2 (hb2:Below w.heap.size w w2)=>amU (w:=w2) (w1:=w2) ⟨A,c,h.below hb2,Tch.refl _ _, .inl rfl⟩ hbase hl xo xs (xs+z) n (by omega) hn hzl (by omega) e1 e2);rw[ef]at HJ;have ez:((xs+z:Nat):Int)=(xs:Int)+(z:Int):=by omega
 rw[ez]at HJ;have HTK:=hE0 (fun w3 c3 A3 (a3:Ar w3 195 g base cap A3 c3 b2)=>(avg w3 g base cap c3 A3 b2 H2 (xo:Int) (s:Int) a3 hbase hcap hcap2 hR2 ⟨by omega,by omega⟩ ⟨by omega,by omega⟩).2 hs);rw[Int.toNat_natCast,htr]at HTK;dsimp only[ac1,aav]at HTK;have HF:=hE0 hF;have HA:=hE0 h;have HW0:=hE0 hw0;have HB0:=hE0 hb0;have HN0:=hE0 n0;have HFIN:=hE0 hH2;have g1:((s:Int)<=(xs:Int)+(z:Int)):=by omega
 obtain⟨⟨d0,d1,d2⟩,_⟩:=aad n0;have hlt0:=aac n0;dsimp only[aav];clear hF hw0 hb0 n0 h hR hb hN hz hy hn hbd hs hle e1 e2 l1 hR2 hu2 hk2 hH2 hi hH hcap2 htr ef hfo ez hc;go_enter Tryz.func193,Tryz.ntmps193
 go_wp2_with (first | (rw[HW0.out]) | fail)
 refine HF.out.mono ?_;clear d0 d1 d2 hlt0;rintro e w1 ⟨rfl,hb1⟩;have n1:=Loc.below hb1 _ _ HN0.out;obtain⟨w2,hw2⟩:=nmE (w1.alloc (.cells #[.int .i64 fo, .int .i64 (z:Int), .bool false] 112));have m2:=anE hw2;have n2:w2.heap[w.heap.size]?=some (.cells #[.int .i64 (xo:Int), .int .i64 (xs:Int), .bool true] 112 (0,0)):=by rw[<-hw2];exact(heap_alloc_old _ _ (aae n1)).trans n1
 have hb01:=HB0.out.trans (hb1.mono HB0.out.size);have hb2:Below w.heap.size w w2:=by rw[<-hw2];exact hb01.alloc hb01.size _
 have HJ2:=hE0 (HJ.out w2 hb2);obtain⟨⟨d0,d1,d2⟩,_⟩:=aad n2;have hlt2:=aac n2;obtain⟨⟨c0,c1,c2⟩,_⟩:=aad m2;have hlt3:=aac m2;have HW2:=hE0 hw2;have HN2:=hE0 n2;have HB2:=hE0 hb2;clear hb1 n1 hw2 m2 n2 hb01 hb2 HF HJ HN0;go_wp2_with (first | (rw[HW2.out]) | fail)
 refine HJ2.out.mono ?_;clear d0 d1 d2 hlt2 c0 c1 c2 hlt3;rintro e w3 ⟨rfl,hB3⟩;obtain⟨A3,c3,a3,t3,k3⟩:=hB3;have n3:=Loc.tch (HA.out.below HB2.out) t3 _ _ HN2.out;have hnf:=ajf a3 n3;have HT3:=hE0 (HTK.out w3.drew c3 A3 a3.drew);have HTR:=hE0 (fun b4 w4 (k:Became 195 g base cap A3 b4 w3.drew w4)=>(Became.trans a3 t3 k3 (Became.of_drew k)).after HB2.out);obtain⟨⟨d0,d1,d2⟩,_⟩:=aad n3;have hlt3:=aac n3;have HNF:=hE0 hnf;clear a3 t3 k3 n3 hnf HJ2 HTK HN2 HB2 HA;go_wp2_with fail
 refine abk (foot g A3) [([0,1,2,3,4,5],6),([],7)] [8,9,10,11] [] (by kernel_rfl) (by kernel_rfl) (by kernel_rfl) (fun _ _ _ _ _ h=>h) ?_;have q0:∀z:LaterS (foot g A3) w3.drew,z.val.cell? ⟨w.heap.size,0,none⟩=some (.int .i64 (xo:Int)):=fun z=>z.ext.cell d0 HNF.out;clear d0 d1 d2;refine ab4 (l:= ?seg1) ?hseg1 ?_
 case hseg1=>simp only[pick,lE1,lE2,lE3];rfl
 repeat (go_big_quiet_step (fail))
 refine wpQuiet_nil ?_;clear q0;refine ack (vs:= #[.pointer (some ⟨g,0,none⟩), .int .i64 (xo:Int), .int .i64 (s:Int)]) Tryz.call191 rfl rfl rfl (R:=fun r w'=>r= .nilIface/\∃out,Became 195 g base cap A3 out w3.drew w'/\Rt out (H2.cut i s)/\Held H2 b2 (H2.cut i s) out) (HT3.out.mono ?_) ?_
 · rintro e w' ⟨rfl,out,hB,hR,hH⟩;have hB':=hB;obtain⟨_,_,_,ht,_⟩:=hB';exact⟨_,rfl,ht,rfl,out,hB,hR,hH⟩
 rintro r w4 _ ⟨rfl,out,hB4,hR4,hH4⟩;have HB4:=hE0 (HTR.out out w4 hB4);have HR4:=hE0 hR4;have HH4:=hE0 (HFIN.out _ _ hH4);clear hB4 hR4 hH4 HT3 HTR HFIN;refine⟨foot g A3,fun _ _ h=>h,?_⟩;refine ab4 (l:= []) rfl ?_;refine wpQuiet_nil ?_;refine ack (vs:= #[.int .i64 (xo:Int), .nilIface]) Tryz.call244 rfl rfl rfl (R:=fun r w'=>r= .tuple #[.int .i64 (xo:Int), .nilIface]/\w'=w4) ((aif (w:=w4) (xo:Int)).mono ?_) ?_
 · rintro e w' ⟨rfl,rfl⟩;exact⟨_,rfl,Tch.refl _ _,rfl,rfl⟩
 rintro r w5 _ ⟨rfl,rfl⟩;refine⟨foot g A3,fun _ _ h=>h,?_⟩;refine ado (l:= ?la4) (t:= []) ?hla4 ?htl4 ?_
 case hla4=>simp only[pick,lE1,lE2,lE3];rfl
 case htl4=>rfl
 simp only[Act.put,lE4,lE5,lE6];repeat (go_big_quiet_step (fail))
 refine wpQuiet_nil ?_;go_wp2
 go_ret2
 exact⟨rfl,out,HB4.out,HR4.out,HH4.out⟩
end
section
variable {P:Program} {ops:Array Oper} {Q:Exit->Act->World->Prop}
theorem asq{i:Nat}{S:Nat->Prop}{o:Oper}{a:Act}{w:World}{K:(Nat->Prop)->Act->World->Prop}(d:Option Tmp) (ho:ops[i]?=some o) (hd:o.dst=d) (hw:Region.wanted o (yielded ops a.tmps)=false) (hk:K S (a.put d undef) w):
 wpOp P ops Q i (fun a'' w''=>Tch S w w''/\∃S':Nat->Prop,(∀k,k<w.heap.size->S' k->S k)/\K S' a'' w'') a w:=by
 subst hd;unfold wpOp;simp only[ho];rw[if_neg (by rw[hw];decide)];exact⟨Tch.refl _ _,S,fun _ _ h=>h,hk⟩
end
def al2 (H:Hp) (o:Int) (s:Nat):(Nat × Int) × Hp:=match (H.take s).1 with
 | none=>((0,5),H)
 | some p=>((p,0),(((H.take s).2.moveD (p:Int) o).giveO o).getD ((H.take s).2.moveD (p:Int) o))
section
variable {w w1 w':World} {g base cap c:Nat} {A:Option Addr} {bs:List UInt8} {H:Hp} {o:Int} {r:(Nat × Int) × Hp} {e:Ending}
theorem RezTold.after (h:RezTold g base cap A bs H o r w1 e w') (hb:Below w.heap.size w w1):RezTold g base cap A bs H o r w e w':=by
 refine⟨fun hr=> ?_,fun hr=> ?_⟩
 · obtain⟨h1,out,h2,h3⟩:=h.1 hr;exact⟨h1,out,h2.after hb,h3⟩
 · obtain⟨h1,h2⟩:=h.2 hr;exact⟨h1,hb.trans (h2.mono hb.size)⟩
theorem RezTold.shape (h:RezTold g base cap A bs H o r w e w'):∃(v:Int) (x:Value),e= .returned (.tuple #[.int .i64 v,x]):=by
 by_cases hr:r.1.2=0
 · exact⟨_,_,(h.1 hr).1⟩
 · exact⟨_,_,(h.2 hr).1⟩
theorem RezTold.yes{p:Nat}{H':Hp}{out:List UInt8}(hb:Became 195 g base cap A out w w') (h1:Rt out H') (h2:Held H bs H' out) (h3:ai9 H bs o H' out p):RezTold g base cap A bs H o ((p,0),H') w (.returned (.tuple #[.int .i64 (p:Int),aav true 0])) w':=
 ⟨fun _=>⟨rfl,out,hb,h1,h2,h3⟩,fun hr=>absurd rfl hr⟩
theorem RezTold.no{k:Int}(hk:k≠0) (hb:Below w.heap.size w w'):RezTold g base cap A bs H o ((0,k),H) w (.returned (.tuple #[.int .i64 0,aav false k])) w':=
 ⟨fun hr=>absurd hr hk,fun _=>⟨rfl,hb⟩⟩
theorem amV (h:Ar w 195 g base cap A c bs) (hbase:base<=4611686018427387904) (hcap:cap<=16384) (hc:H.cap=cap) (hR:Rt bs H){xo xs s i:Nat}(hs:aaG (s:Int)=true) (hi:aa3 H.blks (xo:Int)=some i) (hx:aal H.blks i=⟨xo,xs,true⟩) (hlt:xs<s):
 Calls Tryz.prog 245 #[.pointer (some ⟨g,0,none⟩), .agg #[.int .i64 (xo:Int), .int .i64 (xs:Int), .bool true], .int .i64 (s:Int)] w fun e w'=>RezTold g base cap A bs H (xo:Int) (al2 H (xo:Int) s) w e w':=by
 unfold al2
 cases hq:(H.take s).1 with
 | none=>
  refine(auf h hbase hcap hc hR xo xs s hs hq).mono ?_;rintro e w' ⟨rfl,hb⟩;exact RezTold.no (by decide) hb
 | some q=>
  refine(aso h hbase hcap hc hR hs hi hx hlt hq).mono ?_;rintro e w' ⟨rfl,out,hb,h1,h2,h3⟩;exact RezTold.yes hb h1 h2 h3
end
section
variable {w:World} {g base cap c:Nat} {A:Option Addr} {bs:List UInt8} {H:Hp} {A1 B1:List Bk} {p n:Option Bk} {xo xs z s:Nat}
theorem ajm (h:Ar w 195 g base cap A c bs) (hbase:base<=4611686018427387904) (hcap:cap<=16384) (hc:H.cap=cap) (hR:Rt bs H) (hb:H.blks=(A1++p.toList)++⟨xo,xs,true⟩::(n.toList++B1)) (hN:alK A1 p n B1) (hz:(n.map Bk.size).getD 0=z) (hs:aaG (s:Int)=true) (hle:xs+z<s) (hend:xo+(xs+z)=bs.length) (hroom:bs.length+(s-(xs+z))<=cap):
 Calls Tryz.prog 193 #[.pointer (some ⟨g,0,none⟩), .agg #[.int .i64 (xo:Int), .int .i64 (xs:Int), .bool true], .int .i64 (s:Int)] w fun e w'=>e= .returned (.tuple #[.int .i64 (xo:Int),aav true 0])/\
  ∃out,Became 195 g base cap A out w w'/\Rt out ((H.widen (A1++p.toList).length).size (A1++p.toList).length s)/\Held H bs ((H.widen (A1++p.toList).length).size (A1++p.toList).length s) out:=by
 have ss:=(aab _).1 hs;obtain⟨hl,hbd⟩:=hR.bound (by omega);have hx:=hbd ⟨xo,xs,true⟩ (by rw[hb];simp);dsimp only at hx;have hn:∀y,n=some y->0<y.size/\y.off<=16384:=fun y hy=>by have:=hbd y (by rw[hb,hy];simp);omega
 have hzl:xs+z<=16384:=by omega
 have hy:=(hR.md (by omega)).behind hb hN;dsimp only at hy;have ef:=afN 0 n;rw[hz]at ef;obtain⟨fo,hfo⟩:∃fo:Int,(n.map fun z=>(z.off:Int)).getD 0=fo:=⟨_,rfl⟩;rw[hfo]at ef;obtain⟨b1,b2,e1,e2,l1,hR2,hH2⟩:=hR.grown (by omega) hb hN hz hs hle hend (by omega);obtain⟨bz,hbz⟩:=nmE (bs++List.replicate (s-(xs+z)) 0);have hbzl:bz.length<=16384:=by rw[<-hbz,List.length_append,List.length_replicate];omega
 have HG:=hE0 (fun w2 c2 A2 (a2:Ar w2 195 g base cap A2 c2 bs)=>aiB a2 (s-(xs+z)) (by omega) hcap hroom);rw[hbz]at HG e1;have ez:((s-(xs+z):Nat):Int)=(s:Int)-((xs:Int)+(z:Int)):=by omega
 rw[ez]at HG;have HJ:=hE0 (fun w4 c4 A4 (a4:Ar w4 195 g base cap A4 c4 bz)=>amU (w:=w4) (w1:=w4) ⟨A4,c4,a4,Tch.refl _ _, .inl rfl⟩ hbase hbzl xo xs s n (by omega) hn (by omega) (by omega) e1 e2);rw[ef]at HJ;have HR2:=hE0 hR2;have HH2:=hE0 hH2;have k1:((xo:Int)+((xs:Int)+(z:Int))==(bs.length:Int))=true:=by rw[beq_iff_eq];omega
 obtain⟨w0,hw0⟩:=nmE (w.alloc (.cells #[.int .i64 (xo:Int), .int .i64 (xs:Int), .bool true] 112));have hb0:=abE hw0;have n0:=anE hw0;have hF:=aer (h.below hb0) hbase hl xo xs (by omega) (by omega) n hy;rw[ef]at hF;have HF:=hE0 hF;have HA:=hE0 h;have HW0:=hE0 hw0;have HB0:=hE0 hb0;have HN0:=hE0 n0;have g1:((xs:Int)+(z:Int)<(s:Int)):=by omega
 obtain⟨⟨d0,d1,d2⟩,_⟩:=aad n0;have hlt0:=aac n0;dsimp only[aav];clear hF hw0 hb0 n0 h hR hb hN hz hy hn hbd hs hle ef hfo hc e1 e2 l1 hR2 hH2 hbz ez hend;go_enter Tryz.func193,Tryz.ntmps193
 go_wp2_with (first | (rw[HW0.out]) | fail)
 refine HF.out.mono ?_;clear d0 d1 d2 hlt0;rintro e w1 ⟨rfl,hb1⟩;have n1:=Loc.below hb1 _ _ HN0.out;obtain⟨w2,hw2⟩:=nmE (w1.alloc (.cells #[.int .i64 fo, .int .i64 (z:Int), .bool false] 112));have m2:=anE hw2;have n2:w2.heap[w.heap.size]?=some (.cells #[.int .i64 (xo:Int), .int .i64 (xs:Int), .bool true] 112 (0,0)):=by rw[<-hw2];exact(heap_alloc_old _ _ (aae n1)).trans n1
 have hb01:=HB0.out.trans (hb1.mono HB0.out.size);have hb2:Below w.heap.size w w2:=by rw[<-hw2];exact hb01.alloc hb01.size _
 obtain⟨⟨d0,d1,d2⟩,_⟩:=aad n2;have hlt2:=aac n2;obtain⟨⟨c0,c1,c2⟩,_⟩:=aad m2;have hlt3:=aac m2;have a2:=HA.out.below hb2;have HNF:=hE0 (ajf a2 n2);have HL:=hE0 (abO a2.drew);have HA2:=hE0 a2;have HW2:=hE0 hw2;have HN2:=hE0 n2;have HM2:=hE0 m2;have HB2:=hE0 hb2;clear hb1 n1 hw2 m2 n2 hb01 hb2 HF HN0 a2 HA HB0;go_wp2_with (first | (rw[HW2.out]) | fail)
 clear c0 c1 c2 hlt3 d1 d2;refine abk (foot g A) [([0,1,2,3,4],5),([6,7,8,9,10,11],12)] [13,14] [] (by kernel_rfl) (by kernel_rfl) (by kernel_rfl) (fun _ _ _ _ _ h=>h) ?_;have q0:∀z:LaterS (foot g A) w2.drew,z.val.cell? ⟨w.heap.size,0,none⟩=some (.int .i64 (xo:Int)):=fun z=>z.ext.cell d0 HNF.out;clear d0;refine ab4 (l:= ?seg1) ?hseg1 ?_
 case hseg1=>simp only[pick,lE1,lE2,lE3];rfl
 repeat (go_big_quiet_step (fail))
 refine wpQuiet_nil ?_;clear q0;refine ack (vs:= #[.pointer (some ⟨g,0,none⟩)]) Tryz.call97 rfl rfl rfl (R:=fun r w'=>r= .int .i64 (bs.length:Int)/\w'=w2.drew) (HL.out.mono ?_) ?_
 · rintro e w' ⟨rfl,rfl⟩;exact⟨_,rfl,Tch.refl _ _,rfl,rfl⟩
 rintro r w3 _ ⟨rfl,rfl⟩;refine⟨foot g A,fun _ _ h=>h,?_⟩;clear HL;refine ab4 (l:= ?seg2) ?hseg2 ?_
 case hseg2=>simp only[pick,lE1,lE2,lE3];rfl
 simp only[Act.put,lE4,lE5,lE6];repeat (go_big_quiet_step (fail))
 refine wpQuiet_nil ?_;refine ack (vs:= #[.pointer (some ⟨g,0,none⟩), .int .i64 ((s:Int)-((xs:Int)+(z:Int)))]) Tryz.call65 rfl rfl rfl (R:=fun r w'=>r= .nilIface/\Became 195 g base cap A bz w2.drew w') ((HG.out w2.drew c A HA2.out.drew).mono ?_) ?_
 · rintro e w' ⟨rfl,hB⟩;have hB':=hB;obtain⟨_,_,_,ht,_⟩:=hB';exact⟨_,rfl,ht,rfl,hB⟩
 rintro r w4 _ ⟨rfl,hB4⟩;refine⟨foot g A,fun _ _ h=>h,?_⟩;clear k1;refine ado (l:= ?la4) (t:= []) ?hla4 ?htl4 ?_
 case hla4=>simp only[pick,lE1,lE2,lE3];rfl
 case htl4=>rfl
 simp only[Act.put,lE4,lE5,lE6];repeat (go_big_quiet_step (fail))
 refine wpQuiet_nil ?_;obtain⟨A4,c4,a4,t4,k4⟩:=hB4;have n4:=Loc.tch HA2.out.drew t4 _ _ HN2.out;have m4:=Loc.tch HA2.out.drew t4 _ _ HM2.out;have HJ4:=hE0 (HJ.out w4 c4 A4 a4);have HTR:=hE0 (fun b5 w5 (k:Became 195 g base cap A4 b5 w4 w5)=>(Became.of_drew (Became.trans a4 t4 k4 k)).after HB2.out);have HA4:=hE0 a4;have HN4:=hE0 n4;obtain⟨⟨d0,d1,d2⟩,_⟩:=aad n4;have hlt2:=aac n4;obtain⟨⟨c0,c1,c2⟩,_⟩:=aad m4;have hlt3:=aac m4;clear a4 t4 k4 n4 m4 HJ HG HN2 HM2 HB2;go_wp2_with fail
 refine HJ4.out.mono ?_;clear d0 d1 d2 hlt2 c0 c1 c2 hlt3;rintro e w5 ⟨rfl,hB5⟩;have HB5:=hE0 (HTR.out b2 w5 hB5);obtain⟨A5,c5,a5,t5,k5⟩:=hB5;have n5:=Loc.tch HA4.out t5 _ _ HN4.out;obtain⟨⟨d0,d1,d2⟩,_⟩:=aad n5;have hlt2:=aac n5;clear a5 t5 k5 n5 HJ4 HTR HA4 HN4;go_wp2
 go_ret2
 exact⟨rfl,b2,HB5.out,HR2.out,HH2.out⟩
theorem ahz (h:Ar w 195 g base cap A c bs) (hbase:base<=4611686018427387904) (hcap:cap<=16384) (hc:H.cap=cap) (hR:Rt bs H) (hb:H.blks=(A1++p.toList)++⟨xo,xs,true⟩::(n.toList++B1)) (hN:alK A1 p n B1) (hz:(n.map Bk.size).getD 0=z) (hs:aaG (s:Int)=true) (hle:xs+z<s){i:Nat}(hi:aa3 H.blks (xo:Int)=some i) (hx0:aal H.blks i=⟨xo,xs,true⟩) (hend:xo+(xs+z)≠bs.length):
 Calls Tryz.prog 193 #[.pointer (some ⟨g,0,none⟩), .agg #[.int .i64 (xo:Int), .int .i64 (xs:Int), .bool true], .int .i64 (s:Int)] w fun e w'=>RezTold g base cap A bs H (xo:Int) (al2 H (xo:Int) s) w e w':=by
 have ss:=(aab _).1 hs;obtain⟨hl,hbd⟩:=hR.bound (by omega);have hx:=hbd ⟨xo,xs,true⟩ (by rw[hb];simp);dsimp only at hx;have hn:∀y,n=some y->0<y.size/\y.off<=16384:=fun y hy=>by have:=hbd y (by rw[hb,hy];simp);omega
 have hzl:xs+z<=16384:=by omega
 have hy:=(hR.md (by omega)).behind hb hN;dsimp only at hy;have ef:=afN 0 n;rw[hz]at ef;obtain⟨fo,hfo⟩:∃fo:Int,(n.map fun z=>(z.off:Int)).getD 0=fo:=⟨_,rfl⟩;rw[hfo]at ef;have HMV:=hE0 (fun w2 (hb2:Below w.heap.size w w2)=>amV (h.below hb2) hbase hcap hc hR hs hi hx0 (by omega));obtain⟨mr,hmr⟩:=nmE (al2 H (xo:Int) s);rw[hmr]at HMV ⊢;have k1:((xo:Int)+((xs:Int)+(z:Int))==(bs.length:Int))=false:=by rw[beq_eq_false_iff_ne];omega
 obtain⟨w0,hw0⟩:=nmE (w.alloc (.cells #[.int .i64 (xo:Int), .int .i64 (xs:Int), .bool true] 112));have hb0:=abE hw0;have n0:=anE hw0;have hF:=aer (h.below hb0) hbase hl xo xs (by omega) (by omega) n hy;rw[ef]at hF;have HF:=hE0 hF;have HA:=hE0 h;have HW0:=hE0 hw0;have HB0:=hE0 hb0;have HN0:=hE0 n0;have g1:((xs:Int)+(z:Int)<(s:Int)):=by omega
 obtain⟨⟨d0,d1,d2⟩,_⟩:=aad n0;have hlt0:=aac n0;clear hF hw0 hb0 n0 h hR hb hN hz hy hn hbd hs hle ef hfo hc hend hi hx0 hmr;go_enter Tryz.func193,Tryz.ntmps193
 go_wp2_with (first | (rw[HW0.out]) | fail)
 refine HF.out.mono ?_;clear d0 d1 d2 hlt0;rintro e w1 ⟨rfl,hb1⟩;have n1:=Loc.below hb1 _ _ HN0.out;obtain⟨w2,hw2⟩:=nmE (w1.alloc (.cells #[.int .i64 fo, .int .i64 (z:Int), .bool false] 112));have m2:=anE hw2;have n2:w2.heap[w.heap.size]?=some (.cells #[.int .i64 (xo:Int), .int .i64 (xs:Int), .bool true] 112 (0,0)):=by rw[<-hw2];exact(heap_alloc_old _ _ (aae n1)).trans n1
 have hb01:=HB0.out.trans (hb1.mono HB0.out.size);have hb2:Below w.heap.size w w2:=by rw[<-hw2];exact hb01.alloc hb01.size _
 obtain⟨⟨d0,d1,d2⟩,_⟩:=aad n2;have hlt2:=aac n2;obtain⟨⟨c0,c1,c2⟩,_⟩:=aad m2;have hlt3:=aac m2;have a2:=HA.out.below hb2;have HNF:=hE0 (ajf a2 n2);have HL:=hE0 (abO a2.drew);have HA2:=hE0 a2;have HW2:=hE0 hw2;have HN2:=hE0 n2;have HM2:=hE0 m2;have HB2:=hE0 hb2;clear hb1 n1 hw2 m2 n2 hb01 hb2 HF HN0 a2 HA HB0;go_wp2_with (first | (rw[HW2.out]) | fail)
 clear c0 c1 c2 hlt3 d1 d2;refine abk (foot g A) [([0,1,2,3,4],5),([6,7,8,9,10,11],12)] [13,14] [] (by kernel_rfl) (by kernel_rfl) (by kernel_rfl) (fun _ _ _ _ _ h=>h) ?_;have q0:∀z:LaterS (foot g A) w2.drew,z.val.cell? ⟨w.heap.size,0,none⟩=some (.int .i64 (xo:Int)):=fun z=>z.ext.cell d0 HNF.out;clear d0;refine ab4 (l:= ?seg1) ?hseg1 ?_
 case hseg1=>simp only[pick,lE1,lE2,lE3];rfl
 repeat (go_big_quiet_step (fail))
 refine wpQuiet_nil ?_;clear q0;refine ack (vs:= #[.pointer (some ⟨g,0,none⟩)]) Tryz.call97 rfl rfl rfl (R:=fun r w'=>r= .int .i64 (bs.length:Int)/\w'=w2.drew) (HL.out.mono ?_) ?_
 · rintro e w' ⟨rfl,rfl⟩;exact⟨_,rfl,Tch.refl _ _,rfl,rfl⟩
 rintro r w3 _ ⟨rfl,rfl⟩;refine⟨foot g A,fun _ _ h=>h,?_⟩;clear HL;refine ab4 (l:= ?seg2) ?hseg2 ?_
 case hseg2=>simp only[pick,lE1,lE2,lE3];rfl
 simp only[Act.put,lE4,lE5,lE6];repeat (go_big_quiet_step (fail))
 refine wpQuiet_nil ?_;refine asq (some 48) rfl rfl rfl ?_;clear k1;refine ado (l:= ?la4) (t:= []) ?hla4 ?htl4 ?_
 case hla4=>simp only[pick,lE1,lE2,lE3];rfl
 case htl4=>rfl
 simp only[Act.put,lE4,lE5,lE6];repeat (go_big_quiet_step (fail))
 refine wpQuiet_nil ?_;obtain⟨w3,hw3⟩:=nmE w2.drew;have hb3:Below w.heap.size w w3:=by rw[<-hw3];exact HB2.out.drew
 have n3:w3.heap[w.heap.size]?=some (.cells #[.int .i64 (xo:Int), .int .i64 (xs:Int), .bool true] 112 (0,0)):=by rw[<-hw3];exact HN2.out
 rw[hw3];have HMV3:=hE0 (HMV.out w3 hb3);have HB3:=hE0 hb3;obtain⟨⟨d0,d1,d2⟩,_⟩:=aad n3;have hlt2:=aac n3;clear n3 hb3 HMV HN2 HM2 HB2 HA2 hw3 HW2;go_wp2_with fail
 refine HMV3.out.mono ?_;clear d0 d1 d2 hlt2;rintro e w4 hT;obtain⟨v,x,rfl⟩:=hT.shape;have HT:=hE0 (hT.after HB3.out);clear hT HMV3 HB3;go_wp2
 go_ret2
 exact HT.out
theorem ahA (h:Ar w 195 g base cap A c bs) (hbase:base<=4611686018427387904) (hcap:cap<=16384) (hc:H.cap=cap) (hR:Rt bs H) (hb:H.blks=(A1++p.toList)++⟨xo,xs,true⟩::(n.toList++B1)) (hN:alK A1 p n B1) (hz:(n.map Bk.size).getD 0=z) (hs:aaG (s:Int)=true) (hle:xs+z<s){i:Nat}(hi:aa3 H.blks (xo:Int)=some i) (hx0:aal H.blks i=⟨xo,xs,true⟩) (hend:xo+(xs+z)=bs.length) (hroom:cap<bs.length+(s-(xs+z))):
 Calls Tryz.prog 193 #[.pointer (some ⟨g,0,none⟩), .agg #[.int .i64 (xo:Int), .int .i64 (xs:Int), .bool true], .int .i64 (s:Int)] w fun e w'=>RezTold g base cap A bs H (xo:Int) (al2 H (xo:Int) s) w e w':=by
 have ss:=(aab _).1 hs;obtain⟨hl,hbd⟩:=hR.bound (by omega);have hx:=hbd ⟨xo,xs,true⟩ (by rw[hb];simp);dsimp only at hx;have hn:∀y,n=some y->0<y.size/\y.off<=16384:=fun y hy=>by have:=hbd y (by rw[hb,hy];simp);omega
 have hzl:xs+z<=16384:=by omega
 have hy:=(hR.md (by omega)).behind hb hN;dsimp only at hy;have ef:=afN 0 n;rw[hz]at ef;obtain⟨fo,hfo⟩:∃fo:Int,(n.map fun z=>(z.off:Int)).getD 0=fo:=⟨_,rfl⟩;rw[hfo]at ef;have HMV:=hE0 (fun w2 (hb2:Below w.heap.size w w2)=>amV (h.below hb2) hbase hcap hc hR hs hi hx0 (by omega));obtain⟨mr,hmr⟩:=nmE (al2 H (xo:Int) s);rw[hmr]at HMV ⊢;have hlc:bs.length<=cap:=by have:=hR.len;omega
 have HG:=hE0 (fun w2 c2 A2 (a2:Ar w2 195 g base cap A2 c2 bs)=>ajB a2 (s-(xs+z)) hlc hcap hroom);have ez:((s-(xs+z):Nat):Int)=(s:Int)-((xs:Int)+(z:Int)):=by omega
 rw[ez]at HG;have k1:((xo:Int)+((xs:Int)+(z:Int))==(bs.length:Int))=true:=by rw[beq_iff_eq];omega
 obtain⟨w0,hw0⟩:=nmE (w.alloc (.cells #[.int .i64 (xo:Int), .int .i64 (xs:Int), .bool true] 112));have hb0:=abE hw0;have n0:=anE hw0;have hF:=aer (h.below hb0) hbase hl xo xs (by omega) (by omega) n hy;rw[ef]at hF;have HF:=hE0 hF;have HA:=hE0 h;have HW0:=hE0 hw0;have HB0:=hE0 hb0;have HN0:=hE0 n0;have g1:((xs:Int)+(z:Int)<(s:Int)):=by omega
 obtain⟨⟨d0,d1,d2⟩,_⟩:=aad n0;have hlt0:=aac n0;clear hF hw0 hb0 n0 h hR hb hN hz hy hn hbd hs hle ef hfo hc hend hi hx0 hmr ez hroom;go_enter Tryz.func193,Tryz.ntmps193
 go_wp2_with (first | (rw[HW0.out]) | fail)
 refine HF.out.mono ?_;clear d0 d1 d2 hlt0;rintro e w1 ⟨rfl,hb1⟩;have n1:=Loc.below hb1 _ _ HN0.out;obtain⟨w2,hw2⟩:=nmE (w1.alloc (.cells #[.int .i64 fo, .int .i64 (z:Int), .bool false] 112));have m2:=anE hw2;have n2:w2.heap[w.heap.size]?=some (.cells #[.int .i64 (xo:Int), .int .i64 (xs:Int), .bool true] 112 (0,0)):=by rw[<-hw2];exact(heap_alloc_old _ _ (aae n1)).trans n1
 have hb01:=HB0.out.trans (hb1.mono HB0.out.size);have hb2:Below w.heap.size w w2:=by rw[<-hw2];exact hb01.alloc hb01.size _
 obtain⟨⟨d0,d1,d2⟩,_⟩:=aad n2;have hlt2:=aac n2;obtain⟨⟨c0,c1,c2⟩,_⟩:=aad m2;have hlt3:=aac m2;have a2:=HA.out.below hb2;have HNF:=hE0 (ajf a2 n2);have HL:=hE0 (abO a2.drew);have HA2:=hE0 a2;have HW2:=hE0 hw2;have HN2:=hE0 n2;have HM2:=hE0 m2;have HB2:=hE0 hb2;clear hb1 n1 hw2 m2 n2 hb01 hb2 HF HN0 a2 HA HB0;go_wp2_with (first | (rw[HW2.out]) | fail)
 clear c0 c1 c2 hlt3 d1 d2;refine abk (foot g A) [([0,1,2,3,4],5),([6,7,8,9,10,11],12)] [13,14] [] (by kernel_rfl) (by kernel_rfl) (by kernel_rfl) (fun _ _ _ _ _ h=>h) ?_;have q0:∀z:LaterS (foot g A) w2.drew,z.val.cell? ⟨w.heap.size,0,none⟩=some (.int .i64 (xo:Int)):=fun z=>z.ext.cell d0 HNF.out;clear d0;refine ab4 (l:= ?seg1) ?hseg1 ?_
 case hseg1=>simp only[pick,lE1,lE2,lE3];rfl
 repeat (go_big_quiet_step (fail))
 refine wpQuiet_nil ?_;clear q0;refine ack (vs:= #[.pointer (some ⟨g,0,none⟩)]) Tryz.call97 rfl rfl rfl (R:=fun r w'=>r= .int .i64 (bs.length:Int)/\w'=w2.drew) (HL.out.mono ?_) ?_
 · rintro e w' ⟨rfl,rfl⟩;exact⟨_,rfl,Tch.refl _ _,rfl,rfl⟩
 rintro r w3 _ ⟨rfl,rfl⟩;refine⟨foot g A,fun _ _ h=>h,?_⟩;clear HL;refine ab4 (l:= ?seg2) ?hseg2 ?_
 case hseg2=>simp only[pick,lE1,lE2,lE3];rfl
 simp only[Act.put,lE4,lE5,lE6];repeat (go_big_quiet_step (fail))
 refine wpQuiet_nil ?_;refine ack (vs:= #[.pointer (some ⟨g,0,none⟩), .int .i64 ((s:Int)-((xs:Int)+(z:Int)))]) Tryz.call65 rfl rfl rfl (R:=fun r w'=>r= .iface 130 (.int .i64 5)/\∃k,w'=w2.drew.drewN k) ((HG.out w2.drew c A HA2.out.drew).mono ?_) ?_
 · rintro e w' ⟨rfl,k,rfl⟩;exact⟨_,rfl,Tch.of_below (S:=foot g A) ⟨rfl,rfl,rfl,Nat.le_refl _,fun _ _=>rfl⟩,rfl,k,rfl⟩
 rintro r w4 _ ⟨rfl,k,rfl⟩;refine⟨foot g A,fun _ _ h=>h,?_⟩;clear k1;refine ado (l:= ?la4) (t:= []) ?hla4 ?htl4 ?_
 case hla4=>simp only[pick,lE1,lE2,lE3];rfl
 case htl4=>rfl
 simp only[Act.put,lE4,lE5,lE6];repeat (go_big_quiet_step (fail))
 refine wpQuiet_nil ?_;obtain⟨w3,hw3⟩:=nmE (w2.drew.drewN k);have hb3:Below w.heap.size w w3:=by
  rw[<-hw3];have hd:=HB2.out.drew;exact⟨hd.os,hd.tape,hd.output,hd.size,hd.block⟩
 have n3:w3.heap[w.heap.size]?=some (.cells #[.int .i64 (xo:Int), .int .i64 (xs:Int), .bool true] 112 (0,0)):=by rw[<-hw3];exact HN2.out
 rw[hw3];have HMV3:=hE0 (HMV.out w3 hb3);have HB3:=hE0 hb3;obtain⟨⟨d0,d1,d2⟩,_⟩:=aad n3;have hlt2:=aac n3;clear n3 hb3 HMV HN2 HM2 HB2 HA2 hw3 HW2 HG;go_wp2_with fail
 refine HMV3.out.mono ?_;clear d0 d1 d2 hlt2;rintro e w4 hT;obtain⟨v,x,rfl⟩:=hT.shape;have HT:=hE0 (hT.after HB3.out);clear hT HMV3 HB3;go_wp2
 go_ret2
 exact HT.out
end
section
variable {w:World} {g base cap c:Nat} {A:Option Addr} {bs:List UInt8} {H:Hp} {xo xs s i:Nat}
theorem al3 (h:Ar w 195 g base cap A c bs) (hbase:base<=4611686018427387904) (hcap:cap<=16384) (hc:H.cap=cap) (hR:Rt bs H) (hs:aaG (s:Int)=true) (hi:aa3 H.blks (xo:Int)=some i) (hx:aal H.blks i=⟨xo,xs,true⟩) (hlt:xs<s):
 Calls Tryz.prog 193 #[.pointer (some ⟨g,0,none⟩), .agg #[.int .i64 (xo:Int), .int .i64 (xs:Int), .bool true], .int .i64 (s:Int)] w fun e w'=>RezTold g base cap A bs H (xo:Int) (H.resize (xo:Int) s) w e w':=by
 obtain⟨i1,i2,i3⟩:=aeP hi;obtain⟨m1,m2⟩:=aff i1;obtain⟨A1,p,n,B1,eA,eB,hN⟩:=alL (H.blks.take i) (H.blks.drop (i+1));rw[hx]at m1;have hb:H.blks=(A1++p.toList)++⟨xo,xs,true⟩::(n.toList++B1):=by rw[<-eA,<-eB];exact m1
 have hlen:(A1++p.toList).length=i:=by rw[<-eA];exact m2
 obtain⟨z,hz⟩:=nmE ((n.map Bk.size).getD 0);obtain⟨_,_,w3,_⟩:=aje hb hN.nf hN.nu;rw[hlen,hz]at w3;have hlE:=hR.lenE;have hle:=hR.len;have er:H.resize (xo:Int) s=if s<=xs+z then ((xo,0),(H.widen i).cut i s) else if afM H i s=true then ((xo,0),(H.widen i).size i s) else al2 H (xo:Int) s:=by
  unfold Hp.resize;rw[hi];dsimp only;rw[hx,w3];dsimp only;rw[if_neg (by omega)];rfl
 rw[er];by_cases h1:s<=xs+z
 · rw[if_pos h1];have k:=al1 h hbase hcap hc hR hb hN hz hs h1;rw[hlen]at k;refine k.mono ?_;rintro e w' ⟨rfl,out,k1,k2,k3⟩;exact RezTold.yes k1 k2 k3 (k3.moved rfl)
 · rw[if_neg h1];by_cases h2:xo+(xs+z)=bs.length
   · by_cases h3:bs.length+(s-(xs+z))<=cap
     · have hg:afM H i s=true:=by
        unfold afM;rw[hx,w3,hlE,Bool.and_eq_true,decide_eq_true_eq,decide_eq_true_eq];exact⟨h2,by omega⟩
       rw[if_pos hg];have k:=ajm h hbase hcap hc hR hb hN hz hs (by omega) h2 h3;rw[hlen]at k;refine k.mono ?_;rintro e w' ⟨rfl,out,k1,k2,k3⟩;exact RezTold.yes k1 k2 k3 (k3.moved rfl)
     · have hg:¬afM H i s=true:=by
        unfold afM;rw[hx,w3,hlE,Bool.and_eq_true,decide_eq_true_eq,decide_eq_true_eq];rintro⟨_,h4⟩;omega
       rw[if_neg hg];exact ahA h hbase hcap hc hR hb hN hz hs (by omega) hi hx h2 (by omega)
   · have hg:¬afM H i s=true:=by
      unfold afM;rw[hx,w3,hlE,Bool.and_eq_true,decide_eq_true_eq,decide_eq_true_eq];rintro⟨h4,_⟩;exact h2 h4
     rw[if_neg hg];exact ahz h hbase hcap hc hR hb hN hz hs (by omega) hi hx h2
end
theorem aug:aud:=by
 intro w g base cap c A bs H o s h hbase hcap hc hR ho hsr;have hT:=avg w g base cap c A bs H o s h hbase hcap hc hR ho hsr;constructor
 · intro hs;have HT:=hE0 (hT.1 hs);dsimp only[aav]at HT ⊢;clear hT hs h hR;go_enter Tryz.func129,Tryz.ntmps129
   go_wp2_with fail
   refine HT.out.mono ?_;rintro e w1 ⟨rfl,hb1⟩;have HB1:=hE0 hb1;have HI:=hE0 (av5 w1);clear hb1 HT;go_wp2_with fail
   refine HI.out.mono ?_;rintro e w2 ⟨rfl,rfl⟩;clear HI;go_wp2
   go_ret2
   exact⟨rfl,HB1.out⟩
 · intro hs;have hq:=(aab _).1 hs;obtain⟨n,rfl⟩:∃n:Nat,s=(n:Int):=⟨s.toNat,by omega⟩;rw[Int.toNat_natCast];have hT:=hT.2 hs;rw[Int.toNat_natCast]at hT;have HUK:=hE0 (fun w1 (hB:Below w.heap.size w w1)=>asi w1 g base cap c A bs H o (h.below hB) hbase hcap hc hR ho)
   cases hi:aa3 H.blks o with
   | none=>
    have e1:H.trimO o n=none:=by unfold Hp.trimO;rw[hi]
    have e2:H.resize o n=((0,3),H):=by unfold Hp.resize;rw[hi]
    rw[e1]at hT;rw[e2];rw[hi]at HUK;dsimp only[ac1,aaE,bkV,Bk.val,Option.isSome,aav,Option.map]at HUK hT;have HT:=hE0 hT;clear hT hs h hR e1 e2 hi;go_enter Tryz.func129,Tryz.ntmps129
    go_wp2_with fail
    refine HT.out.mono ?_;rintro e w1 ⟨rfl,hb1⟩;have HB1:=hE0 hb1;have HI:=hE0 (avh w1);have HU:=hE0 (HUK.out w1 hb1);clear hb1 HT HUK;go_wp2_with fail
    refine HI.out.mono ?_;rintro e w2 ⟨rfl,rfl⟩;clear HI;go_wp2_with fail
    refine HU.out.mono ?_;rintro e w3 ⟨rfl,hb3⟩;have hb3':=HB1.out.trans (hb3.mono HB1.out.size);have HB3:=hE0 (hb3'.alloc hb3'.size (.cells #[.int .i64 0, .int .i64 0, .bool false] 112));clear hb3 hb3' HU HB1;go_wp2
    go_ret2
    exact RezTold.no (by decide) HB3.out
   | some i=>
    obtain⟨i1,i2,i3⟩:=aeP hi;obtain⟨x,hx⟩:=nmE (aal H.blks i);obtain⟨xo,xs,xu⟩:=x;rw[hx]at i2 i3;dsimp only at i2 i3;subst i3;subst i2;have hxb:=(hR.bound (by omega)).2 _ (List.mem_of_getElem? (aat i1));rw[hx]at hxb;dsimp only at hxb;have hbl:=(hR.bound (by omega)).1;by_cases hle:n<=xs
    · have e1:H.trimO (xo:Int) n=some (H.cut i n):=by
       unfold Hp.trimO;rw[hi];dsimp only;rw[hx];dsimp only;rw[if_neg (by omega)]
      have e2:H.resize (xo:Int) n=((xo,0),H.cut i n):=by
       unfold Hp.resize;rw[hi];dsimp only;rw[hx];dsimp only;rw[if_pos hle]
      rw[e1]at hT;rw[e2];dsimp only[ac1,aav]at hT;have HT:=hE0 hT;clear hT hs h hR e1 e2 hi HUK;go_enter Tryz.func129,Tryz.ntmps129
      go_wp2_with fail
      refine HT.out.mono ?_;rintro e w1 ⟨rfl,out,hB,hR1,hH1⟩;have HF:=hE0 (RezTold.yes (o:=(xo:Int)) hB hR1 hH1 (hH1.moved rfl));clear hB hR1 hH1 HT;go_wp2
      go_ret2
      exact HF.out
    · have e1:H.trimO (xo:Int) n=none:=by
       unfold Hp.trimO;rw[hi];dsimp only;rw[hx];dsimp only;rw[if_pos (by omega)]
      have HE:=hE0 (fun w1 (hB:Below w.heap.size w w1)=>al3 (h.below hB) hbase hcap hc hR hs hi hx (by omega));obtain⟨rr,hrr⟩:=nmE (H.resize (xo:Int) n);rw[hrr]at HE ⊢;rw[e1]at hT;rw[hi,Option.map_some,hx]at HUK;dsimp only[ac1,aaE,bkV,Bk.val,Option.isSome,aav]at HUK hT;have HT:=hE0 hT;clear hT hs h hR e1 hi hrr;go_enter Tryz.func129,Tryz.ntmps129
      go_wp2_with fail
      refine HT.out.mono ?_;rintro e w1 ⟨rfl,hb1⟩;have HB1:=hE0 hb1;have HI:=hE0 (avh w1);have HU:=hE0 (HUK.out w1 hb1);clear hb1 HT HUK;go_wp2_with fail
      refine HI.out.mono ?_;rintro e w2 ⟨rfl,rfl⟩;clear HI;go_wp2_with fail
      refine HU.out.mono ?_;rintro e w3 ⟨rfl,hb3⟩;have hb3':=HB1.out.trans (hb3.mono HB1.out.size);obtain⟨w4,hw4⟩:=nmE (w3.alloc (.cells #[.int .i64 (xo:Int), .int .i64 (xs:Int), .bool true] 112));have hb4:Below w.heap.size w w4:=by rw[<-hw4];exact hb3'.alloc hb3'.size _
      have n4:=anE hw4;have HE4:=hE0 (HE.out w4 hb4);have HB4:=hE0 hb4;have HW4:=hE0 hw4;obtain⟨⟨d0,d1,d2⟩,_⟩:=aad n4;have hlt4:=aac n4;clear hb3 hb3' HU HB1 HE hb4 hw4 n4;go_wp2_with (first | (rw[HW4.out]) | fail)
      refine HE4.out.mono ?_;clear d0 d1 d2 hlt4;rintro e w5 hT;obtain⟨v,x,rfl⟩:=hT.shape;have HT:=hE0 (hT.after HB4.out);clear hT HE4 HB4;go_wp2
      go_ret2
      exact HT.out
structure PH (w:World) (q g base cap:Nat) (A:Option Addr) (c:Nat) (bs:List UInt8) (H:Hp):Prop where
 obj:w.heap[q]?=some (.cells #[.pointer (some ⟨g,0,none⟩)] 132 (0,0))
 ar:Ar w 195 g base cap A c bs
 rd:RtD bs H
 cp:H.cap=cap
 c16:cap<=16384
 b62:base<=4611686018427387904
section
variable {w w':World} {q g base cap c:Nat} {A:Option Addr} {bs out:List UInt8} {H H':Hp}
theorem PH.lt (h:PH w q g base cap A c bs H):q<w.heap.size:=aae h.obj
theorem PH.c0 (h:PH w q g base cap A c bs H):w.cell? ⟨q,0,none⟩=some (.pointer (some ⟨g,0,none⟩)):=by rw[cell_of_row w q 0 _ _ (0,0) h.obj];rfl
theorem PH.ap (h:PH w q g base cap A c bs H):¬foot g A q:=by
 rintro(rfl | ⟨a,ea,rfl⟩)
 · have h1:=h.ar.obj;rw[h.obj]at h1;injection h1 with h1;injection h1 with _ h2 _;exact absurd h2 (by decide)
 · obtain⟨h',e,cur,hg,_⟩:=h.ar.row ea;subst e;rw[h.obj]at hg;injection hg with hg;injection hg with _ h2 _;exact absurd h2 (by decide)
theorem PH.below (h:PH w q g base cap A c bs H) (hb:Below w.heap.size w w'):PH w' q g base cap A c bs H:=
 ⟨(hb.block q h.lt).trans h.obj,h.ar.below hb,h.rd,h.cp,h.c16,h.b62⟩
theorem PH.len (h:PH w q g base cap A c bs H):bs.length<=16384:=(h.rd.rt.bound (by rw[h.cp];exact h.c16)).1
theorem PH.became (h:PH w q g base cap A c bs H) (hb:Became 195 g base cap A out w w') (rd:RtD out H') (hc:H'.cap=cap):
 ∃A' c',PH w' q g base cap A' c' out H'/\Tch (foot g A) w w'/\(A'=A\/∀a,A'=some a->w.heap.size<=a.block):=by
 obtain⟨A',c',a,t,k⟩:=hb;exact⟨A',c',⟨(t.block q h.lt h.ap).trans h.obj,a,rd,hc,h.c16,h.b62⟩,t,k⟩
theorem abS (w:World) (o:Int) (s:Nat) (u:Bool) (h1:16<=s) (h2:s<=16384):
 Calls Tryz.prog 110 #[.agg #[.int .i64 o, .int .i64 (s:Int), .bool u]] w fun e w'=>e= .returned (.int .u64 ((s-16:Nat):Int))/\Below w.heap.size w w':=by
 have e:((s-16:Nat):Int)=(s:Int)-16:=by omega
 rw[e];have ew:IntKind.u64.wrap ((s:Int)-16)=(s:Int)-16:=IntWalk.u64_in _ (by omega);clear e;go_enter Tryz.func110,Tryz.ntmps110
 go_wp2
 go_ret
 exact⟨rfl,(Below.refl _ _).alloc (Nat.le_refl _) _⟩
theorem aqr (h:PH w q g base cap A c bs H){p:Nat}(p8:8<=p) (pl:p<=bs.length):H.handleB p=aa3 H.blks ((p:Int)-8):=by
 have:=h.len;unfold Hp.handleB;rw[if_neg (by omega)]
theorem an8 (h:PH w q g base cap A c bs H){p:Nat}(pl:bs.length<p):H.handleB p=none:=by
 unfold Hp.handleB;split
 · rfl
 · refine akv fun i x hx hh=> ?_;have:=(h.rd.rt.bound (by rw[h.cp];exact h.c16)).2 x (List.mem_of_getElem? hx);omega
theorem adi (h:PH w q g base cap A c bs H) (p:Nat) (hp:p<18446744073709551616):
 Calls Tryz.prog 125 #[.pointer (some ⟨q,0,none⟩), .int .u64 (p:Int)] w fun e w'=>e= .returned (.tuple #[bkV ((H.handleB p).map (aal H.blks)),aav (H.handleB p).isSome 4])/\Below w.heap.size w w':=by
 obtain⟨w1,hw1⟩:=nmE (w.alloc (.cells #[.int .i64 0, .int .i64 0, .bool false] 112));have hb1:=abE hw1;have n1:=anE hw1;have h1:=h.below hb1;have hl:=h.len;obtain⟨⟨c0,c1,c2⟩,f0,f1,f2⟩:=aad n1;have hlt1:=aac n1;have HW1:=hE0 hw1;have HB1:=hE0 hb1;have HN1:=hE0 n1;have k0:=h1.c0;have HL:=hE0 (abO h1.ar);by_cases p8:p<8
 · have e:H.handleB p=none:=by unfold Hp.handleB;rw[if_pos (.inl p8)]
   rw[e];dsimp only[bkV,aav,Option.map,Option.isSome];have g1:decide ((p:Int)<8)=true:=decide_eq_true (by omega);clear e h h1 hw1 hb1 n1 k0 HL;go_enter Tryz.func125,Tryz.ntmps125
   go_wp2_with (first | (rw[HW1.out]) | fail)
   (try simp only[Exit.inBlock,Exit.then])
   refine abP (x:= .iface 130 (.int .i64 4)) (g:=w.heap.size) (o:=0) (s:=0) (b:=false) Tryz.results125 ?_ ?_ ?_ (aaK HN1.out _ _ _) ?_
   · rfl
   · rfl
   · rfl
   · exact⟨rfl,((HB1.out.setCell (Nat.le_refl _) _).setCell (Nat.le_refl _) _).setCell (Nat.le_refl _) _⟩
 · have g1:decide ((p:Int)<8)=false:=decide_eq_false (by omega);obtain⟨n,hn⟩:=nmE bs.length;rw[hn]at HL hl;by_cases pl:n<p
   · have e:=an8 h (p:=p) (by omega);rw[e];dsimp only[bkV,aav,Option.map,Option.isSome];have g2:decide ((n:Int)<(p:Int))=true:=decide_eq_true (by omega);clear e h h1 hw1 hb1 n1;go_enter Tryz.func125,Tryz.ntmps125
     go_wp2_with (first | (rw[HW1.out]) | fail)
     refine HL.out.mono ?_;rintro e w2 ⟨rfl,rfl⟩;go_wp2
     (try simp only[Exit.inBlock,Exit.then])
     refine abP (x:= .iface 130 (.int .i64 4)) (g:=w.heap.size) (o:=0) (s:=0) (b:=false) Tryz.results125 ?_ ?_ ?_ (aaK HN1.out _ _ _) ?_
     · rfl
     · rfl
     · rfl
     · exact⟨rfl,((HB1.out.setCell (Nat.le_refl _) _).setCell (Nat.le_refl _) _).setCell (Nat.le_refl _) _⟩
   · have g2:decide ((n:Int)<(p:Int))=false:=decide_eq_false (by omega);have e:=aqr h (p:=p) (by omega) (by omega);rw[e];obtain⟨pz,hpz⟩:∃pz:Int,(p:Int)-8=pz:=⟨_,rfl⟩;have hU:=asi w1 g base cap c A bs H pz h1.ar h.b62 h.c16 h.cp h.rd.rt (by omega);rw[hpz];have ewp:IntKind.i64.wrap pz=pz:=IntWalk.i64_in _ (by omega)
     cases hi:aa3 H.blks pz with
     | none=>
      rw[hi]at hU;dsimp only[aaE,bkV,aav,Option.map,Option.isSome]at hU ⊢;have HU:=hE0 hU;clear e h h1 hw1 hb1 n1 hU hi;go_enter Tryz.func125,Tryz.ntmps125
      go_wp2_with (first | (rw[HW1.out]) | fail)
      refine HL.out.mono ?_;rintro e w2 ⟨rfl,rfl⟩;go_wp2_with fail
      refine HU.out.mono ?_;rintro e w2 ⟨rfl,hb2⟩;have n2:=(hb2.block w.heap.size (aae HN1.out)).trans HN1.out;have n3:(w2.alloc (.cells #[.int .i64 0, .int .i64 0, .bool false] 112)).heap[w.heap.size]?=some (.cells #[.int .i64 0, .int .i64 0, .bool false] 112 (0,0)):=(heap_alloc_old _ _ (aae n2)).trans n2;have hb12:=HB1.out.trans (hb2.mono HB1.out.size);have hb3:Below w.heap.size w (w2.alloc (.cells #[.int .i64 0, .int .i64 0, .bool false] 112)):=hb12.alloc hb12.size _;clear c0 c1 c2 f0 f1 f2 hlt1 k0;obtain⟨⟨c0,c1,c2⟩,f0,f1,f2⟩:=aad n3;have hlt3:=aac n3;have HB3:=hE0 hb3;have HN3:=hE0 n3;clear hb3 n3 n2 hb12 hb2 HU HL HN1 HB1 HW1;go_wp2
      (try simp only[Exit.inBlock,Exit.then])
      refine abP (x:= .iface 130 (.int .i64 4)) (g:=w.heap.size) (o:=0) (s:=0) (b:=false) Tryz.results125 ?_ ?_ ?_ (aaK HN3.out _ _ _) ?_
      · rfl
      · rfl
      · rfl
      · exact⟨rfl,((HB3.out.setCell (Nat.le_refl _) _).setCell (Nat.le_refl _) _).setCell (Nat.le_refl _) _⟩
     | some i=>
      rw[hi]at hU;obtain⟨x,hx⟩:=nmE (aal H.blks i);dsimp only[aaE,Option.map]at hU ⊢;rw[hx]at hU ⊢;obtain⟨xo,xs,xu⟩:=x;dsimp only[bkV,Bk.val,aav,Option.isSome]at hU ⊢;have HU:=hE0 hU;clear e h h1 hw1 hb1 n1 hU hi hx;go_enter Tryz.func125,Tryz.ntmps125
      go_wp2_with (first | (rw[HW1.out]) | fail)
      refine HL.out.mono ?_;rintro e w2 ⟨rfl,rfl⟩;go_wp2_with fail
      refine HU.out.mono ?_;rintro e w2 ⟨rfl,hb2⟩;have n2:=(hb2.block w.heap.size (aae HN1.out)).trans HN1.out;obtain⟨w3,hw3⟩:=nmE (w2.alloc (.cells #[.int .i64 (xo:Int), .int .i64 (xs:Int), .bool xu] 112));have n3:w3.heap[w.heap.size]?=some (.cells #[.int .i64 0, .int .i64 0, .bool false] 112 (0,0)):=by rw[<-hw3];exact(heap_alloc_old _ _ (aae n2)).trans n2
      have m3:=anE hw3;have hb12:=HB1.out.trans (hb2.mono HB1.out.size);have hb3:Below w.heap.size w w3:=by rw[<-hw3];exact hb12.alloc hb12.size _
      have HNEQ:=hE0 (show w2.heap.size≠w.heap.size from fun e=>by have:=aae n2;omega);clear c0 c1 c2 f0 f1 f2 hlt1 k0;obtain⟨⟨c0,c1,c2⟩,f0,f1,f2⟩:=aad n3;obtain⟨⟨d0,d1,d2⟩,_⟩:=aad m3;have hlt3:=aac n3;have hlt4:=aac m3;have HW3:=hE0 hw3;have HB3:=hE0 hb3;have HN3:=hE0 n3;clear hw3 hb3 n3 n2 hb12 hb2 HU HL HN1 HB1 HW1 m3;go_wp2_with (first | (rw[HW3.out]) | fail)
      (try simp only[Exit.inBlock,Exit.then])
      refine abP (x:= .nilIface) (g:=w.heap.size) (o:=(xo:Int)) (s:=(xs:Int)) (b:=xu) Tryz.results125 ?_ ?_ ?_ (aaK HN3.out _ _ _) ?_
      · rfl
      · rfl
      · rfl
      · exact⟨rfl,((HB3.out.setCell (Nat.le_refl _) _).setCell (Nat.le_refl _) _).setCell (Nat.le_refl _) _⟩
end
section
variable {w w':World} {q g base cap c:Nat} {A:Option Addr} {bs out:List UInt8} {H H':Hp}
theorem PH.blk (h:PH w q g base cap A c bs H){p i:Nat}(hh:H.handleB p=some i):
 ∃xo xs,aal H.blks i=⟨xo,xs,true⟩/\p=xo+8/\184<=xo/\32<=xs/\xo+xs<=bs.length/\i<H.blks.length/\H.At i ⟨xo,xs,true⟩ (H.ds.getD i acc)/\(H.ds.getD i acc).2.length+16=xs/\xs<=16384/\aa3 H.blks (xo:Int)=some i:=by
 obtain⟨p8,_,hu⟩:=adA hh;obtain⟨h1,h2,h3⟩:=aeP hu;have hb:=(h.rd.rt.bound (by rw[h.cp];exact h.c16)).2 _ (List.mem_of_getElem? (aat h1));have hl:=h.len;have hdl:H.ds.length=H.blks.length:=h.rd.dl;have hat:H.At i (aal H.blks i) (H.ds.getD i acc):=⟨aat h1,by rw[List.getD_eq_getElem?_getD,List.getElem?_eq_getElem (by omega)];rfl⟩;have hd:=(h.rd.ho i _ _ hat h3).1;obtain⟨x,hx⟩:=nmE (aal H.blks i);rw[hx]at h2 h3 hb hat hd ⊢;obtain⟨xo,xs,xu⟩:=x;dsimp only at h2 h3 hb hat hd;subst h3;have hxo:(p:Int)-8=(xo:Int):=by omega
 rw[hxo]at hu;exact⟨xo,xs,rfl,by omega,by omega,by omega,by omega,h1,hat,hd,by omega,hu⟩
theorem ag3 (h:PH w q g base cap A c bs H) (p a n:Nat) (hp:p<18446744073709551616) (hh:H.handleB p=none):
 Calls Tryz.prog 131 #[.pointer (some ⟨q,0,none⟩), .int .u64 (p:Int), .int .u64 (a:Int), .int .u64 (n:Int)] w fun e w'=>e= .returned (.tuple #[.int .u64 0, .iface 130 (.int .i64 4)])/\Below w.heap.size w w':=by
 have hF:=adi h p hp;rw[hh]at hF;dsimp only[bkV,aav,Option.map,Option.isSome]at hF;have HF:=hE0 hF;clear h hh hF;go_enter Tryz.func131,Tryz.ntmps131
 go_wp2_with fail
 refine HF.out.mono ?_;rintro e w2 ⟨rfl,hb⟩;have HB:=hE0 (hb.alloc hb.size (.cells #[.int .i64 0, .int .i64 0, .bool false] 112));clear hb HF;go_wp2
 go_ret2
 exact⟨rfl,HB.out⟩
theorem ag4{P:Prop}(h:P:=by
 go_wp2_with fail
 refine HF.out.mono ?_;rintro e w2 ⟨rfl,hb⟩;obtain⟨w3,hw3⟩:=nmE (w2.alloc (.cells #[.int .i64 (xo:Int), .int .i64 (xs:Int), .bool true] 112));have n3:=anE hw3;have HB3:Hid (Below w.heap.size w w3):=(show Below _ _ _ by rw[<-hw3];exact hb.alloc hb.size _);obtain⟨⟨d0,d1,d2⟩,_⟩:=aad n3;have hlt3:=aac n3;have HW3:=hE0 hw3;clear hb HF hw3 n3;go_wp2_with (first | (rw[HW3.out]) | fail)
 refine(HUS.out w3).mono ?_;rintro e w4 ⟨rfl,hb4⟩;have HB4:=hE0 (HB3.out.trans (hb4.mono HB3.out.size));clear hb4 d0 d1 d2 HB3;go_wp2
 go_ret2
 exact⟨rfl,HB4.out⟩
 ):P:=h
theorem aii (h:PH w q g base cap A c bs H) (p a n:Nat) (hp:p<18446744073709551616) (ha:a<18446744073709551616) (hn:n<18446744073709551616){i L:Nat}(hh:H.handleB p=some i) (hL:(H.ds.getD i acc).2.length=L) (hf:L<a+n):
 Calls Tryz.prog 131 #[.pointer (some ⟨q,0,none⟩), .int .u64 (p:Int), .int .u64 (a:Int), .int .u64 (n:Int)] w fun e w'=>e= .returned (.tuple #[.int .u64 0, .iface 130 (.int .i64 2)])/\Below w.heap.size w w':=by
 have hF:=adi h p hp;obtain⟨xo,xs,hx,hpx,h184,h32,hle,hi,hat,hd,h16,hu⟩:=h.blk hh;rw[hL]at hd;rw[hh]at hF;dsimp only[Option.map]at hF;rw[hx]at hF;dsimp only[bkV,Bk.val,aav,Option.isSome]at hF;have HUS:=hE0 (fun W=>abS W (xo:Int) xs true (by omega) h16);have eL:xs-16=L:=by omega
 rw[eL]at HUS;have hL14:L<=16384:=by omega
 have HF:=hE0 hF;clear h hh hF hx hpx hat hu hi eL hd hL;by_cases hal:L<a
 · have g1:decide (L<a)=true:=decide_eq_true (by omega);go_enter Tryz.func131,Tryz.ntmps131
   exact ag4
 · have g1:decide (L<a)=false:=decide_eq_false (by omega);obtain⟨m,hm⟩:=nmE (L-a);have em:(L:Int)-(a:Int)=(m:Int):=by omega
   have g2:decide (m<n)=true:=decide_eq_true (by omega);have hm14:m<=16384:=by omega
   clear hm;go_enter Tryz.func131,Tryz.ntmps131
   go_wp2_with fail
   refine HF.out.mono ?_;rintro e w2 ⟨rfl,hb⟩;obtain⟨w3,hw3⟩:=nmE (w2.alloc (.cells #[.int .i64 (xo:Int), .int .i64 (xs:Int), .bool true] 112));have n3:=anE hw3;have HB3:Hid (Below w.heap.size w w3):=(show Below _ _ _ by rw[<-hw3];exact hb.alloc hb.size _);obtain⟨⟨d0,d1,d2⟩,_⟩:=aad n3;have hlt3:=aac n3;have HW3:=hE0 hw3;have HN3:=hE0 n3;clear hb HF hw3 n3;go_wp2_with (first | (rw[HW3.out]) | fail)
   refine(HUS.out w3).mono ?_;rintro e w4 ⟨rfl,hb4⟩;have n4:=Loc.below hb4 _ _ HN3.out;have HB4:=hE0 (HB3.out.trans (hb4.mono HB3.out.size));clear hb4 d0 d1 d2 HB3 hlt3;obtain⟨⟨d0,d1,d2⟩,_⟩:=aad n4;have hlt4:=aac n4;clear n4 HN3 HW3;go_wp2_with fail
   refine(HUS.out w4).mono ?_;rintro e w5 ⟨rfl,hb5⟩;have HB5:=hE0 (HB4.out.trans (hb5.mono HB4.out.size));clear hb5 d0 d1 d2 HB4 hlt4;go_wp2
   go_ret2
   exact⟨rfl,HB5.out⟩
theorem akA (h:PH w q g base cap A c bs H) (p a n:Nat) (hp:p<18446744073709551616) (hn:n<18446744073709551616){i L x:Nat}(hh:H.handleB p=some i) (hL:(H.ds.getD i acc).2.length=L) (hf:a+n<=L) (hx:base+p+a=x):
 Calls Tryz.prog 131 #[.pointer (some ⟨q,0,none⟩), .int .u64 (p:Int), .int .u64 (a:Int), .int .u64 (n:Int)] w fun e w'=>e= .returned (.tuple #[.int .u64 (x:Int), .nilIface])/\Below w.heap.size w w':=by
 have hF:=adi h p hp;obtain⟨xo,xs,hbk,hpx,h184,h32,hle,hi,hat,hd,h16,hu⟩:=h.blk hh;rw[hL]at hd;rw[hh]at hF;dsimp only[Option.map]at hF;rw[hbk]at hF;dsimp only[bkV,Bk.val,aav,Option.isSome]at hF;have HUS:=hE0 (fun W=>abS W (xo:Int) xs true (by omega) h16);have eL:xs-16=L:=by omega
 rw[eL]at HUS;have hL14:L<=16384:=by omega
 have HF:=hE0 hF;have H0:=hE0 h;have hb62:=h.b62;have hlen:=h.len;have hp14:p<=16384:=by omega
 clear h hh hF hbk hpx hat hu hi eL hd hL h184 h32 hle hlen;have g1:decide (L<a)=false:=decide_eq_false (by omega);obtain⟨m,hm⟩:=nmE (L-a);have em:(L:Int)-(a:Int)=(m:Int):=by omega
 have g2:decide (m<n)=false:=decide_eq_false (by omega);have hm14:m<=16384:=by omega
 have ha14:a<=16384:=by omega
 obtain⟨y,hy⟩:=nmE (base+p);have ey:(base:Int)+(p:Int)=(y:Int):=by omega
 have ex:(y:Int)+(a:Int)=(x:Int):=by omega
 have hy63:y<=4611686018427404288:=by omega
 have hx63:x<=4611686018427420672:=by omega
 clear hm hf hy hx;go_enter Tryz.func131,Tryz.ntmps131
 go_wp2_with fail
 refine HF.out.mono ?_;rintro e w2 ⟨rfl,hb⟩;obtain⟨w3,hw3⟩:=nmE (w2.alloc (.cells #[.int .i64 (xo:Int), .int .i64 (xs:Int), .bool true] 112));have n3:=anE hw3;have HB3:Hid (Below w.heap.size w w3):=(show Below _ _ _ by rw[<-hw3];exact hb.alloc hb.size _);obtain⟨⟨d0,d1,d2⟩,_⟩:=aad n3;have hlt3:=aac n3;have HW3:=hE0 hw3;have HN3:=hE0 n3;clear hb HF hw3 n3;go_wp2_with (first | (rw[HW3.out]) | fail)
 refine(HUS.out w3).mono ?_;rintro e w4 ⟨rfl,hb4⟩;have n4:=Loc.below hb4 _ _ HN3.out;have HB4:=hE0 (HB3.out.trans (hb4.mono HB3.out.size));clear hb4 d0 d1 d2 HB3 hlt3;obtain⟨⟨d0,d1,d2⟩,_⟩:=aad n4;have hlt4:=aac n4;clear n4 HN3 HW3;go_wp2_with fail
 refine(HUS.out w4).mono ?_;rintro e w5 ⟨rfl,hb5⟩;have hb5':=HB4.out.trans (hb5.mono HB4.out.size);have h5:=H0.out.below hb5';have k0:=h5.c0;have hlt5:=h5.lt;have HBS:=hE0 (acj h5.ar);have HB5:=hE0 hb5';clear hb5 d0 d1 d2 HB4 hlt4 hb5' h5 H0;go_wp2_with fail
 refine HBS.out.mono ?_;rintro e w6 ⟨rfl,rfl⟩;go_wp2
 go_ret2
 exact⟨rfl,HB5.out⟩
theorem asr (ho:w.heap[q]?=some (.cells #[.pointer (some ⟨g,0,none⟩)] 132 (0,0))) (ha:Ar w 195 g base cap A c bs) (hbase:base<=4611686018427387904) (hl:bs.length<=16384) (o s f p:Nat) (v:UInt8){u:Bool}(hg:aa8 bs (o:Int)=some ⟨o,s,u⟩) (hs:16<=s) (hos:o+s<=bs.length) (hf:s-16<=f) (hp:o+8=p):
 Calls Tryz.prog 130 #[.pointer (some ⟨q,0,none⟩), .int .i64 (o:Int), .int .u64 (f:Int), .int .u8 (v.toNat:Int)] w fun e w'=>e= .returned (.int .u64 (p:Int))/\Below w.heap.size w w':=by
 have hG:=alu w g base cap c A bs (o:Int) _ ha hbase hl (by omega) hg;dsimp only[aaE,bkV,Bk.val,aav,Option.isSome]at hG;have HUS:=hE0 (fun W=>abS W (o:Int) s u (by omega) (by omega));obtain⟨L,hL⟩:=nmE (s-16);rw[hL]at HUS hf;have g1:decide (f<L)=false:=decide_eq_false (by omega);have ep:(o:Int)+8=(p:Int):=by omega
 have hp14:p<=16384:=by omega
 have ho14:o<=16384:=by omega
 have k0:w.cell? ⟨q,0,none⟩=some (.pointer (some ⟨g,0,none⟩)):=by rw[cell_of_row w q 0 _ _ (0,0) ho];rfl
 have hlq:=aac ho;have HG:=hE0 hG;clear hG hg ha ho hL hf hp hos hs;go_enter Tryz.func130,Tryz.ntmps130
 go_wp2_with fail
 refine HG.out.mono ?_;rintro e w2 ⟨rfl,hb⟩;obtain⟨w3,hw3⟩:=nmE (w2.alloc (.cells #[.int .i64 (o:Int), .int .i64 (s:Int), .bool u] 112));have n3:=anE hw3;have HB3:Hid (Below w.heap.size w w3):=(show Below _ _ _ by rw[<-hw3];exact hb.alloc hb.size _);obtain⟨⟨d0,d1,d2⟩,_⟩:=aad n3;have hlt3:=aac n3;have HW3:=hE0 hw3;clear hb HG hw3 n3 k0;go_wp2_with (first | (rw[HW3.out]) | fail)
 refine(HUS.out w3).mono ?_;rintro e w4 ⟨rfl,hb4⟩;have HB4:=hE0 (HB3.out.trans (hb4.mono HB3.out.size));clear hb4 d0 d1 d2 HB3 hlt3;go_wp2
 go_ret
 exact⟨rfl,HB4.out⟩
theorem akB (ho:w.heap[q]?=some (.cells #[.pointer (some ⟨g,0,none⟩)] 132 (0,0))) (ha:Ar w 195 g base cap A c bs) (hbase:base<=4611686018427387904) (hl:bs.length<=16384) (o s f p:Nat) (v:UInt8){u:Bool}(hg:aa8 bs (o:Int)=some ⟨o,s,u⟩) (hs:16<=s) (hos:o+s<=bs.length) (hf:f<s-16) (hp:o+8=p):
 Calls Tryz.prog 130 #[.pointer (some ⟨q,0,none⟩), .int .i64 (o:Int), .int .u64 (f:Int), .int .u8 (v.toNat:Int)] w fun e w'=>e= .returned (.int .u64 (p:Int))/\Became 195 g base cap A (lay bs (p+f) (List.replicate (s-16-f) v)) w w':=by
 have hG:=alu w g base cap c A bs (o:Int) _ ha hbase hl (by omega) hg;dsimp only[aaE,bkV,Bk.val,aav,Option.isSome]at hG;have HUS:=hE0 (fun W=>abS W (o:Int) s u (by omega) (by omega));obtain⟨L,hL⟩:=nmE (s-16);rw[hL]at HUS hf ⊢;obtain⟨m,hm⟩:=nmE (L-f);rw[hm];have g1:decide (f<L)=true:=decide_eq_true (by omega);have ep:(o:Int)+8=(p:Int):=by omega
 have hp14:p<=16384:=by omega
 have ho14:o<=16384:=by omega
 have hf14:f<=16384:=by omega
 have hL14:L<=16384:=by omega
 have em:(L:Int)-(f:Int)=(m:Int):=by omega
 have hm14:m<=16384:=by omega
 obtain⟨y,hy⟩:=nmE (base+p);obtain⟨x,hx⟩:=nmE (y+f);have ey:(base:Int)+(p:Int)=(y:Int):=by omega
 have ex:(y:Int)+(f:Int)=(x:Int):=by omega
 have hy63:y<=4611686018427404288:=by omega
 have hx63:x<=4611686018427420672:=by omega
 have HFL:=hE0 (fun W c' A' (a':Ar W 195 g base cap A' c' bs)=>aoK a' (by omega) x m (p+f) v (by omega) (by omega) (by omega) (by omega));have k0:w.cell? ⟨q,0,none⟩=some (.pointer (some ⟨g,0,none⟩)):=by rw[cell_of_row w q 0 _ _ (0,0) ho];rfl
 have hlq:=aac ho;have HG:=hE0 hG;have HA:=hE0 ha;have HO:=hE0 ho;clear hG hg ha ho hL hf hp hos hs hm hy hx;go_enter Tryz.func130,Tryz.ntmps130
 go_wp2_with fail
 refine HG.out.mono ?_;rintro e w2 ⟨rfl,hb⟩;obtain⟨w3,hw3⟩:=nmE (w2.alloc (.cells #[.int .i64 (o:Int), .int .i64 (s:Int), .bool u] 112));have n3:=anE hw3;have HB3:Hid (Below w.heap.size w w3):=(show Below _ _ _ by rw[<-hw3];exact hb.alloc hb.size _);obtain⟨⟨d0,d1,d2⟩,_⟩:=aad n3;have hlt3:=aac n3;have HW3:=hE0 hw3;clear hb HG hw3 n3 k0;go_wp2_with (first | (rw[HW3.out]) | fail)
 refine(HUS.out w3).mono ?_;rintro e w4 ⟨rfl,hb4⟩;have hb4':=HB3.out.trans (hb4.mono HB3.out.size);obtain⟨wd,hwd⟩:=nmE w4.drew;have hbd:Below w.heap.size w wd:=by rw[<-hwd];exact hb4'.drew
 have had:=HA.out.below hbd;have k0:wd.cell? ⟨q,0,none⟩=some (.pointer (some ⟨g,0,none⟩)):=by rw[cell_of_row wd q 0 _ _ (0,0) ((hbd.block q (aae HO.out)).trans HO.out)];rfl
 have hlq4:q<wd.heap.size:=Nat.lt_of_lt_of_le (aae HO.out) hbd.size;have HBS:=hE0 (acj had);have HF4:=hE0 (HFL.out wd c A had);have HBD:=hE0 hbd;have HWD:=hE0 hwd;clear hb4 d0 d1 d2 HB3 hlt3 hb4' had hbd hwd HA HO HFL;go_wp2_with fail
 refine aao wd.heap.size [([0,1,2,3,4,5,6,7,9,11,13,14,15,16],8)] [10,12] [17] (by kernel_rfl) (by kernel_rfl) (by kernel_rfl) (fun _ _ _ _ _ h=>h) ?_;rw[HWD.out];have q0:=tfE k0 hlq4;refine tail_cons (l:= ?seg1) ?hseg1 ?_
 case hseg1=>simp only[pick,lE1,lE2,lE3];rfl
 repeat (go_big_quiet_step (fail))
 refine wpQuiet_nil ?_;clear q0 k0;refine aar (vs:= #[.pointer (some ⟨g,0,none⟩)]) Tryz.call56 rfl rfl rfl (R:=fun r w'=>r= .int .u64 (base:Int)/\w'=wd) (HBS.out.mono ?_) wd.heap.size (Nat.le_refl _) ?_
 · rintro e w' ⟨rfl,rfl⟩;exact⟨_,rfl,Below.refl _ _,rfl,rfl⟩
 rintro r w5 _ ⟨rfl,rfl⟩;refine aaH (l:= ?la2) (t:= ?tl2) ?hla2 ?htl2 ?_
 case hla2=>simp only[pick,lE1,lE2,lE3];rfl
 case htl2=>simp only[pick,lE1,lE2,lE3];rfl
 simp only[Act.put,lE4,lE5,lE6];repeat (go_big_quiet_step (fail))
 refine wpQuiet_nil ?_;clear HBS;go_wp2_with fail
 refine HF4.out.mono ?_;rintro e w6 ⟨rfl,hbe⟩;have HE:=hE0 (hbe.after HBD.out);clear hbe HF4;go_wp2
 go_ret
 exact⟨rfl,HE.out⟩
end
def aju (k:Int):Value:=if k=0 then .nilIface else .iface 130 (.int .i64 k)
theorem avm:aju 1= .iface 130 (.int .i64 1):=rfl
def PTurn (g base cap:Nat) (A:Option Addr) (H':Hp) (w w':World):Prop:=∃out,Became 195 g base cap A out w w'/\RtD out H'
def ag5 (g base cap:Nat) (A:Option Addr) (r:(Nat × Int) × Hp) (w:World) (e:Ending) (w':World):Prop:=
 e= .returned (.tuple #[.int .u64 (r.1.1:Int),aju r.1.2])/\PTurn g base cap A r.2 w w'
def Hp.freeP (H:Hp) (p:Nat):Int × Hp:=match H.handleB p with
 | none=>(4,H)
 | some i=>(0,H.give i)
section
variable {w w':World} {q g base cap c:Nat} {A:Option Addr} {bs out:List UInt8} {H H':Hp}
theorem PH.stay (h:PH w q g base cap A c bs H) (hb:Below w.heap.size w w'):PTurn g base cap A H w w':=⟨bs,abt h.ar hb,h.rd⟩
theorem PTurn.ph (h:PH w q g base cap A c bs H) (ht:PTurn g base cap A H' w w') (hc:H'.cap=cap):∃A' c' out,PH w' q g base cap A' c' out H'/\Tch (foot g A) w w'/\(A'=A\/∀a,A'=some a->w.heap.size<=a.block):=by
 obtain⟨out,hb,hr⟩:=ht;obtain⟨A',c',h1,h2,h3⟩:=h.became hb hr hc;exact⟨A',c',out,h1,h2,h3⟩
theorem as8{H:Hp}(h:Rt bs H) (hc:H.cap<=16384){y:Bk}(hy:y∈H.blks):aa8 bs (y.off:Int)=some y:=(h.md hc).ls.st.at_ _ hy
theorem ass{n:Nat}{x:UInt8}(hs:acn n=none):H.get n x=((0,5),H):=by unfold Hp.get;rw[hs]
theorem ast{n s:Nat}{x:UInt8}(hs:acn n=some s) (ht:(H.take s).1=none):H.get n x=((0,5),H):=by unfold Hp.get;rw[hs];dsimp only;rw[ht]
theorem asu{n s o i:Nat}{x:UInt8}(hs:acn n=some s) (ht:(H.take s).1=some o) (hi:atB (o:Int) (H.take s).2.blks=some i):H.get n x=((o+8,0),((H.take s).2.wipe i).fill i x):=by unfold Hp.get;rw[hs];dsimp only;rw[ht];dsimp only;rw[hi]
theorem asv (h:PH w q g base cap A c bs H) (n:Nat) (hn:n<18446744073709551616) (v:UInt8) (hT:∀s w1,acn n=some s->Below w.heap.size w w1->Calls Tryz.prog 188 #[.pointer (some ⟨g,0,none⟩), .int .i64 (s:Int)] w1 fun e w'=>aca g base cap A bs H (H.take s) w1 e w')
 (hG:∀s o out,acn n=some s->(H.take s).1=some o->Rt out (H.take s).2->Held H bs (H.take s).2 out->∃i y,atB (o:Int) (H.take s).2.blks=some i/\(H.take s).2.blks[i]?=some y/\y.off=o/\y.used=true/\s<=y.size/\y.off+y.size<=out.length/\RtD (lay out (o+8) (List.replicate (y.size-16) v)) (((H.take s).2.wipe i).fill i v)):
 Calls Tryz.prog 124 #[.pointer (some ⟨q,0,none⟩), .int .u64 (n:Int), .int .u8 (v.toNat:Int)] w fun e w'=>ag5 g base cap A (H.get n v) w e w':=by
 have hN:=auS w n hn
 cases hs:acn n with
 | none=>
  rw[hs]at hN;dsimp only[anl]at hN;have HN:=hE0 hN;have HG:=hE0 (ass (H:=H) (x:=v) hs);have H0:=hE0 h;clear h hN hs hT hG;go_enter Tryz.func124,Tryz.ntmps124
  go_wp2_with fail
  refine HN.out.mono ?_;rintro e w2 ⟨rfl,hb⟩;have HT:=hE0 (H0.out.stay hb);clear hb HN H0;go_wp2
  go_ret2
  rw[HG.out];exact⟨rfl,HT.out⟩
 | some s=>
  have hsz:=ac3 hs;have hss:=(aab _).1 hsz;rw[hs]at hN;dsimp only[anl]at hN;have HN:=hE0 hN;have hK:∀w1,Below w.heap.size w w1->Calls Tryz.prog 188 #[.pointer (some ⟨g,0,none⟩), .int .i64 (s:Int)] w1 fun e w'=>aca g base cap A bs H (H.take s) w1 e w':=fun w1 hb=>hT s w1 hs hb;clear hT
  cases ht:(H.take s).1 with
  | none=>
   unfold aca at hK;rw[ht]at hK;dsimp only[aav]at hK;have HK:=hE0 hK;have HG:=hE0 (ast (H:=H) (x:=v) hs ht);have H0:=hE0 h;have k0:∀w1,Below w.heap.size w w1->w1.cell? ⟨q,0,none⟩=some (.pointer (some ⟨g,0,none⟩)):=fun w1 hb=>(h.below hb).c0;have K0:=hE0 k0;have hlq:=h.lt;clear h hN hs hK ht k0 hsz hG;go_enter Tryz.func124,Tryz.ntmps124
   go_wp2_with fail
   refine HN.out.mono ?_;rintro e w2 ⟨rfl,hb⟩;have k2:=K0.out w2 hb;have hlq2:=Nat.lt_of_lt_of_le hlq hb.size;have HK2:=hE0 (HK.out w2 hb);have HB2:=hE0 hb;clear hb HN HK K0;go_wp2_with fail
   refine HK2.out.mono ?_;rintro e w3 ⟨rfl,hb3⟩;have HT:=hE0 (H0.out.stay (HB2.out.trans (hb3.mono HB2.out.size)));clear hb3 H0 HB2 HK2 k2;go_wp2
   go_ret2
   rw[HG.out];exact⟨rfl,HT.out⟩
  | some o=>
   unfold aca at hK;rw[ht]at hK;dsimp only[aav]at hK;have hcap2:(H.take s).2.cap=cap:=take_cap.trans h.cp;have hGOT:=fun out h1 hh=>hG s o out hs ht h1 hh;have HGS:=hE0 (fun i hi=>asu (H:=H) (x:=v) (i:=i) hs ht hi);obtain⟨H1,hH1⟩:=nmE ((H.take s).2);rw[hH1]at hK hGOT hcap2 HGS;have HGOT:=hE0 hGOT;have HK:=hE0 hK;have H0:=hE0 h;have k0:∀w1,Below w.heap.size w w1->w1.cell? ⟨q,0,none⟩=some (.pointer (some ⟨g,0,none⟩)):=fun w1 hb=>(h.below hb).c0;have K0:=hE0 k0;have hlq:=h.lt;have HC2:=hE0 hcap2;clear h hN hs hK ht k0 hH1 hGOT hcap2 hsz hG;go_enter Tryz.func124,Tryz.ntmps124
   go_wp2_with fail
   refine HN.out.mono ?_;rintro e w2 ⟨rfl,hb⟩;have k2:=K0.out w2 hb;have hlq2:=Nat.lt_of_lt_of_le hlq hb.size;have HK2:=hE0 (HK.out w2 hb);have HB2:=hE0 hb;clear hb HN HK K0;go_wp2_with fail
   refine HK2.out.mono ?_;rintro e w3 ⟨rfl,out,hbe,hr1,hh1⟩;obtain⟨i,y,hi,hy,hyo,hyu,hys,hyl,hrd⟩:=HGOT.out out hr1 hh1;obtain⟨A3,c3,a3,t3,m3⟩:=hbe.after HB2.out;have ho3:=(t3.block q H0.out.lt H0.out.ap).trans H0.out.obj;have hout:out.length<=16384:=(hr1.bound (by rw[HC2.out];exact H0.out.c16)).1;have hgb:=as8 hr1 (by rw[HC2.out];exact H0.out.c16) (List.mem_of_getElem? hy);obtain⟨yo,ys,yu⟩:=y;dsimp only at hyo hyu hys hyl hrd hgb;subst hyo;have hf:=akB ho3 a3 H0.out.b62 hout yo ys 0 (yo+8) v hgb (by omega) (by omega) (by omega) rfl;rw[Nat.add_zero,Nat.sub_zero,show((0:Nat):Int)=0 from rfl]at hf;have HF:=hE0 hf;have HRD:=hE0 hrd;have HGI:=hE0 (HGS.out i hi);have HTR:=hE0 (fun b4 w4 (k:Became 195 g base cap A3 b4 w3 w4)=>Became.trans a3 t3 m3 k);clear hbe hr1 hh1 hi hy hyu hyl hrd a3 t3 m3 ho3 hgb hf HGOT HGS HK2 HB2 k2 hlq2;go_wp2_with fail
   refine HF.out.mono ?_;rintro e w4 ⟨rfl,hb4⟩;have HT:=hE0 (HTR.out _ _ hb4);clear hb4 HF HTR;go_wp2
   go_ret2
   rw[HGI.out];exact⟨rfl,_,HT.out,HRD.out⟩
theorem akC (h:PH w q g base cap A c bs H) (n:Nat) (hn:n<18446744073709551616) (v:UInt8):
 Calls Tryz.prog 124 #[.pointer (some ⟨q,0,none⟩), .int .u64 (n:Int), .int .u8 (v.toNat:Int)] w fun e w'=>ag5 g base cap A (H.get n v) w e w':=
 asv h n hn v (fun s w1 hsn hb=>by
  have hsz:=ac3 hsn;have:=(aub w1 g base cap c A bs H (s:Int) (h.ar.below hb) h.b62 h.c16 h.cp h.rd.rt ⟨by have:=(aab _).1 hsz;omega,by have:=(aab _).1 hsz;omega⟩).2 hsz;rw[Int.toNat_natCast]at this;exact this) fun s o out hsn ht h1 hh=>h.rd.got (ac3 hsn) ht h1 hh v
theorem an9 (n:Nat) (hK:Calls Tryz.prog 124 #[.pointer (some ⟨q,0,none⟩), .int .u64 (n:Int), .int .u8 165] w fun e w'=>ag5 g base cap A (H.get n 165) w e w'):
 Calls Tryz.prog 61 #[.pointer (some ⟨q,0,none⟩), .int .u64 (n:Int)] w fun e w'=>ag5 g base cap A (H.get n 165) w e w':=by
 have HK:=hE0 hK;clear hK;go_enter Tryz.func61,Tryz.ntmps61
 go_wp2_with fail
 refine HK.out.mono ?_;rintro e w2 ⟨rfl,ht⟩;have HT:=hE0 ht;clear ht HK;go_wp2
 go_ret2
 exact⟨rfl,HT.out⟩
theorem al4 (h:PH w q g base cap A c bs H) (n:Nat) (hn:n<18446744073709551616):
 Calls Tryz.prog 61 #[.pointer (some ⟨q,0,none⟩), .int .u64 (n:Int)] w fun e w'=>ag5 g base cap A (H.get n 165) w e w':=
 an9 n (akC h n hn 165)
theorem aqs (h:PH w q g base cap A c bs H) (p:Nat) (hp:p<18446744073709551616):
 Calls Tryz.prog 67 #[.pointer (some ⟨q,0,none⟩), .int .u64 (p:Int)] w fun e w'=>e= .returned (aju (H.freeP p).1)/\PTurn g base cap A (H.freeP p).2 w w':=by
 unfold Hp.freeP;have hF:=adi h p hp
 cases hh:H.handleB p with
 | none=>
  rw[hh]at hF;dsimp only[bkV,aav,Option.map,Option.isSome]at hF;have HF:=hE0 hF;have H0:=hE0 h;clear h hF hh;go_enter Tryz.func67,Tryz.ntmps67
  go_wp2_with fail
  refine HF.out.mono ?_;rintro e w2 ⟨rfl,hb⟩;have HT:=hE0 (H0.out.stay (hb.alloc hb.size (.cells #[.int .i64 0, .int .i64 0, .bool false] 112)));clear hb HF H0;go_wp2
  go_ret
  exact⟨rfl,HT.out⟩
 | some i=>
  obtain⟨xo,xs,hbk,hpx,h184,h32,hle,hi,hat,hd,h16,hu⟩:=h.blk hh;rw[hh]at hF;dsimp only[Option.map]at hF;rw[hbk]at hF;dsimp only[bkV,Bk.val,aav,Option.isSome]at hF;have hg:H.giveO (xo:Int)=some (H.give i):=by unfold Hp.giveO;rw[hu];rfl
  have hl:=h.len;have hK:∀w1,Below w.heap.size w w1->Calls Tryz.prog 127 #[.pointer (some ⟨g,0,none⟩), .int .i64 (xo:Int)] w1 fun e w'=>ac1 3 g base cap A bs H (some (H.give i)) w1 e w':=fun w1 hb=>by
   have:=avf w1 g base cap c A bs H (xo:Int) (h.ar.below hb) h.b62 h.c16 h.cp h.rd.rt ⟨by omega,by omega⟩;rw[hg]at this;exact this
  dsimp only[ac1,aav]at hK;have HFR:=hE0 (fun out h' hh=>h.rd.freed (i:=i) (out:=out) hi h' hh);have HK:=hE0 hK;have HF:=hE0 hF;have H0:=hE0 h;clear h hF hh hK hbk hpx hat hd hu hi hg;go_enter Tryz.func67,Tryz.ntmps67
  go_wp2_with fail
  refine HF.out.mono ?_;rintro e w2 ⟨rfl,hb⟩;obtain⟨w3,hw3⟩:=nmE (w2.alloc (.cells #[.int .i64 (xo:Int), .int .i64 (xs:Int), .bool true] 112));obtain⟨wd,hwd⟩:=nmE w3.drew;have n3:wd.heap[w2.heap.size]?=some (.cells #[.int .i64 (xo:Int), .int .i64 (xs:Int), .bool true] 112 (0,0)):=by rw[<-hwd,<-hw3];exact heap_alloc_new w2 _
  have hbd:Below w.heap.size w wd:=by rw[<-hwd,<-hw3];exact(hb.alloc hb.size _).drew
  have k0:=(H0.out.below hbd).c0;have hlq:=(H0.out.below hbd).lt;obtain⟨⟨d0,d1,d2⟩,_⟩:=aad n3;have hlt3:=aac n3;have HK3:=hE0 (HK.out wd hbd);have HBD:=hE0 hbd;have HW3:=hE0 hw3;have HWD:=hE0 hwd;clear hb HF hw3 n3 hwd hbd HK;go_wp2_with (first | (rw[HW3.out]) | fail)
  refine aao wd.heap.size [] [0,1,2,3,4,5] [6,7] (by kernel_rfl) (by kernel_rfl) (by kernel_rfl) (fun _ _ _ _ _ h=>h) ?_;rw[HWD.out];have q0:=tfE k0 hlq;have q1:=tfE d0 hlt3;refine aaH (l:= ?la2) (t:= ?tl2) ?hla2 ?htl2 ?_
  case hla2=>simp only[pick,lE1,lE2,lE3];rfl
  case htl2=>simp only[pick,lE1,lE2,lE3];rfl
  repeat (go_big_quiet_step (fail))
  refine wpQuiet_nil ?_;clear q0 q1 k0 d0 d1 d2;go_wp2_with fail
  refine HK3.out.mono ?_;rintro e w4 ⟨rfl,out,hbe,hr,hh⟩;have HT:Hid (PTurn g base cap A (H.give i) w w4):=⟨out,hbe.after HBD.out,HFR.out out hr hh⟩;clear hbe hr hh HK3 HFR;go_wp2
  go_ret
  exact⟨rfl,HT.out⟩
end
section
theorem al5 (a:Nat) (ha:a<18446744073709551616):bits .and .u64 (a:Int) 4294967295=((a%4294967296:Nat):Int):=by
 have h:=bits_and_u64_nat a 4294967295 ha (by omega);rw[show a&&&4294967295=a%4294967296 from Nat.and_two_pow_sub_one_eq_mod a 32]at h;exact h
theorem auh (a:Nat):(a:Int)/4294967296=((a/4294967296:Nat):Int):=by omega
theorem aui (a b:Nat):(a:Int)*(b:Int)=((a*b:Nat):Int):=(Int.natCast_mul a b).symm
theorem auj (a b:Nat):(a:Int)+(b:Int)=((a+b:Nat):Int):=(Int.natCast_add a b).symm
theorem afP (a:Nat) (ha:a<18446744073709551616):IntKind.u64.wrap (a:Int)=(a:Int):=by rw[IntKind.wrap_u64];omega
theorem auk (a:Nat):IntKind.u64.wrap (a:Int)=((a%18446744073709551616:Nat):Int):=by rw[IntKind.wrap_u64];omega
theorem aqt (w:World) (x y:Nat) (hx:x<18446744073709551616) (hy:y<18446744073709551616):
 Calls Tryz.prog 126 #[.int .u64 (x:Int), .int .u64 (y:Int)] w fun e w'=>e= .returned (.tuple #[.int .u64 ((x*y/18446744073709551616:Nat):Int), .int .u64 ((x*y%18446744073709551616:Nat):Int)])/\w=w':=by
 obtain⟨bd,bt,bw,hhi⟩:=Lib.mul64_hi x y hx hy;have ba:=Lib.half_mul_le (a:=x/4294967296) (b:=y/4294967296) (by omega) (by omega);have bb:=Lib.half_mul_le (a:=x/4294967296) (b:=y%4294967296) (by omega) (by omega);have bc:=Lib.half_mul_le (a:=x%4294967296) (b:=y/4294967296) (by omega) (by omega);have ba':x/4294967296*(y/4294967296)<18446744073709551616:=by omega
 have bb':x/4294967296*(y%4294967296)<18446744073709551616:=by omega
 have bc':x%4294967296*(y/4294967296)<18446744073709551616:=by omega
 have bh1:x/4294967296*(y/4294967296)+(x/4294967296*(y%4294967296)+x%4294967296*(y%4294967296)/4294967296)/4294967296<18446744073709551616:=by omega
 have bh:x/4294967296*(y/4294967296)+(x/4294967296*(y%4294967296)+x%4294967296*(y%4294967296)/4294967296)/4294967296+((x/4294967296*(y%4294967296)+x%4294967296*(y%4294967296)/4294967296)%4294967296+x%4294967296*(y/4294967296))/4294967296<18446744073709551616:=by omega
 go_enter Tryz.func126,Tryz.ntmps126
 go_wp2
 simp only[al5 x hx,al5 y hy,auh,aui,auj,afP _ bd,afP _ bb',afP _ bt,al5 _ bt,afP _ bc',afP _ bw,afP _ ba',afP _ bh1,afP _ bh,auk (x*y)];rw[hhi];go_ret2
 exact⟨rfl,rfl⟩
end
section
variable {w w':World} {q g base cap c:Nat} {A:Option Addr} {bs out:List UInt8} {H H':Hp}
theorem akD (h:PH w q g base cap A c bs H) (n m:Nat) (hn:n<18446744073709551616) (hm:m<18446744073709551616):
 Calls Tryz.prog 66 #[.pointer (some ⟨q,0,none⟩), .int .u64 (n:Int), .int .u64 (m:Int)] w fun e w'=>ag5 g base cap A (H.calloc n m) w e w':=by
 have hM:=aqt w n m hn hm;obtain⟨k,hk⟩:=nmE (n*m);obtain⟨z,hz⟩:=nmE (k/18446744073709551616);obtain⟨l,hl⟩:=nmE (k%18446744073709551616);rw[hk,hz,hl]at hM;have HM:=hE0 hM;by_cases hbig:18446744073709551615<k
 · have e:H.calloc n m=((0,5),H):=by unfold Hp.calloc;rw[hk,if_pos hbig]
   have hz0:z≠0:=by omega
   have g1:((z:Int) !=0)=true:=by rw[bne_iff_ne];omega
   have HE:=hE0 e;have HT:=hE0 (h.stay (Below.refl _ _));clear h hM hk hz hl e;go_enter Tryz.func66,Tryz.ntmps66
   go_wp2_with fail
   refine HM.out.mono ?_;rintro e w2 ⟨rfl,rfl⟩;go_wp2
   go_ret2
   rw[HE.out];exact⟨rfl,HT.out⟩
 · have e:H.calloc n m=H.get k 0:=by unfold Hp.calloc;rw[hk,if_neg hbig]
   obtain rfl:z=0:=by omega
   obtain rfl:l=k:=by omega
   have HE:=hE0 e;have HK:Hid (Calls Tryz.prog 124 #[.pointer (some ⟨q,0,none⟩), .int .u64 (l:Int), .int .u8 0] w fun e w'=>ag5 g base cap A (H.get l 0) w e w'):=akC h l (by omega) 0;clear h hM hk hz hl e;go_enter Tryz.func66,Tryz.ntmps66
   go_wp2_with fail
   refine HM.out.mono ?_;rintro e w2 ⟨rfl,rfl⟩;go_wp2_with fail
   refine HK.out.mono ?_;rintro e w2 ⟨rfl,ht⟩;have HT:=hE0 ht;clear ht HK HM;go_wp2
   go_ret2
   rw[HE.out];exact⟨rfl,HT.out⟩
def Hp.usableP (H:Hp) (p:Nat):Nat × Int:=match H.handleB p with
 | none=>(0,4)
 | some i=>((H.ds.getD i acc).2.length,0)
theorem acx (h:PH w q g base cap A c bs H) (p:Nat) (hp:p<18446744073709551616):
 Calls Tryz.prog 62 #[.pointer (some ⟨q,0,none⟩), .int .u64 (p:Int)] w fun e w'=>e= .returned (.tuple #[.int .u64 ((H.usableP p).1:Int),aju (H.usableP p).2])/\Below w.heap.size w w':=by
 unfold Hp.usableP;have hF:=adi h p hp
 cases hh:H.handleB p with
 | none=>
  rw[hh]at hF;dsimp only[bkV,aav,Option.map,Option.isSome]at hF;have HF:=hE0 hF;clear h hF hh;go_enter Tryz.func62,Tryz.ntmps62
  go_wp2_with fail
  refine HF.out.mono ?_;rintro e w2 ⟨rfl,hb⟩;have HT:=hE0 (hb.alloc hb.size (.cells #[.int .i64 0, .int .i64 0, .bool false] 112));clear hb HF;go_wp2
  go_ret2
  exact⟨rfl,HT.out⟩
 | some i=>
  obtain⟨xo,xs,hbk,hpx,h184,h32,hle,hi,hat,hd,h16,hu⟩:=h.blk hh;rw[hh]at hF;dsimp only[Option.map]at hF;rw[hbk]at hF;dsimp only[bkV,Bk.val,aav,Option.isSome]at hF ⊢;have HUS:=hE0 (fun W=>abS W (xo:Int) xs true (by omega) h16);obtain⟨L,hL⟩:=nmE ((H.ds.getD i acc).2.length);rw[hL]at hd ⊢;have eL:xs-16=L:=by omega
  rw[eL]at HUS;have hL14:L<=16384:=by omega
  have HF:=hE0 hF;clear h hF hh hbk hpx hat hd hu hi hL eL;go_enter Tryz.func62,Tryz.ntmps62
  exact ag4
end
section
variable {w:World}
theorem ag6 (w:World):Calls Tryz.prog 71 #[.nilIface] w fun e w'=>e= .returned (.int .i64 0)/\Below w.heap.size w w':=by
 have HA:=hE0 (fun t W=>avi t W);go_enter Tryz.func71,Tryz.ntmps71
 go_wp2_with fail
 refine(HA.out _ _).mono ?_;rintro e w2 ⟨rfl,rfl⟩;go_wp2
 go_ret
 exact⟨rfl,(Below.refl _ _).alloc (Nat.le_refl _) _⟩
theorem ET.lt (h:ET w):0<w.heap.size:=by
 unfold ET at h;rcases Nat.eq_zero_or_pos w.heap.size with h0 | h1
 · simp[World.cell?,h0]at h
 · exact h1
theorem ET.keep{w':World}(h:ET w) (hb:w'.heap[0]?=w.heap[0]?):ET w':=(World.cell?_of_block (a:=⟨0,0,none⟩) hb).trans h
theorem ET.below{w':World}(h:ET w) (hb:Below w.heap.size w w'):ET w':=h.keep (hb.block 0 h.lt)
theorem ag7 (h:ET w) (k:Int):Calls Tryz.prog 71 #[.iface 130 (.int .i64 k)] w fun e w'=>e= .returned (.int .i64 k)/\Below w.heap.size w w':=by
 obtain⟨w1,hw1⟩:=nmE (w.alloc (.cells #[.int .i64 0] 130));have hb1:=abE hw1;have n1:=anE hw1;have c1:w1.cell? ⟨w.heap.size,0,none⟩=some (.int .i64 0):=by rw[cell_of_row w1 w.heap.size 0 _ _ (0,0) n1];rfl
 have f1:=frozen_of_row w1 w.heap.size 0 _ _ n1;have HA:=hE0 (avl k ⟨w.heap.size,0,none⟩ (.int .i64 0) w1 (h.below hb1) c1 f1);have HN1:=hE0 n1;have HW1:=hE0 hw1;have HB1:=hE0 hb1;clear h hb1 n1 c1 f1 hw1;go_enter Tryz.func71,Tryz.ntmps71
 go_wp2_with (first | (rw[HW1.out]) | fail)
 refine HA.out.mono ?_;rintro e w2 ⟨rfl,hw2⟩;have hs1:=HB1.out.size;have hlt1:=aae HN1.out;obtain⟨wa,hwa⟩:=nmE (((((w1.alloc (.cells #[.pointer (some ⟨w.heap.size,0,none⟩)] 217)).alloc (.cells #[.pointer (some ⟨1,217,none⟩), .pointer (some ⟨w1.heap.size,0,none⟩), .int .u64 150] 267)).alloc (.cells #[.pointer (some ⟨1,217,none⟩), .pointer (some ⟨w1.heap.size,0,none⟩), .int .u64 150] 267)).alloc (.cells #[.int .i64 k] 130)));have hba:Below w1.heap.size w1 wa:=by
  rw[<-hwa];have b1:=(Below.refl w1.heap.size w1).alloc (Nat.le_refl _) (.cells #[.pointer (some ⟨w.heap.size,0,none⟩)] 217);have b2:=b1.alloc b1.size (.cells #[.pointer (some ⟨1,217,none⟩), .pointer (some ⟨w1.heap.size,0,none⟩), .int .u64 150] 267);have b3:=b2.alloc b2.size (.cells #[.pointer (some ⟨1,217,none⟩), .pointer (some ⟨w1.heap.size,0,none⟩), .int .u64 150] 267);exact b3.alloc b3.size _
 rw[hwa]at hw2;have na:=(hba.block _ hlt1).trans HN1.out;have n2:w2.heap[w.heap.size]?=some (.cells #[.int .i64 k] 130 (0,0)):=by rw[hw2,heap_setCell_same wa w.heap.size 0 _ _ (.int .i64 k) na];rfl
 have c2:w2.cell? ⟨w.heap.size,0,none⟩=some (.int .i64 k):=by rw[cell_of_row w2 w.heap.size 0 _ _ (0,0) n2];rfl
 have HB2:Hid (Below w.heap.size w w2):=(show Below _ _ _ by rw[hw2];exact(HB1.out.trans (hba.mono hs1)).setCell (Nat.le_refl _) _);have hlt2:=aae n2;clear hw2 hwa hba na n2 hs1 hlt1 HA HN1 HW1 HB1;go_wp2
 go_ret
 exact⟨rfl,HB2.out⟩
theorem acV (h:ET w) (k:Int):Calls Tryz.prog 71 #[aju k] w fun e w'=>e= .returned (.int .i64 k)/\Below w.heap.size w w':=by
 unfold aju;split
 · rename_i h0;subst h0;exact ag6 w
 · exact ag7 h k
end
section
variable {w w':World} {q g base cap c:Nat} {A:Option Addr} {bs out:List UInt8} {H H':Hp}
theorem Hp.Ok.one_ (h:H.Ok):H.One:=fun a b x y ha hb e=>by
 have hpw:=List.pairwise_iff_getElem.1 (adX _ _ _ h.tl);have e1:H.blks[a]'(aau ha)=x:=by have:=List.getElem?_eq_getElem (aau ha);rw[ha]at this;exact(Option.some.inj this).symm
 have e2:H.blks[b]'(aau hb)=y:=by have:=List.getElem?_eq_getElem (aau hb);rw[hb]at this;exact(Option.some.inj this).symm
 rcases Nat.lt_trichotomy a b with h' | h' | h'
 · exact absurd (by rw[e1,e2];exact e) (hpw a b (aau ha) (aau hb) h')
 · exact h'
 · exact absurd (by rw[e1,e2];exact e.symm) (hpw b a (aau hb) (aau ha) h')
def aqu (out:List UInt8) (o s f:Nat) (v:UInt8):List UInt8:=if f<s-16 then lay out (o+8+f) (List.replicate (s-16-f) v) else out
theorem RtD.rezFill (h:RtD bs H) (hc:H.cap<=16384){s xo xs i0:Nat}(hs:aaG (s:Int)=true) (hat:H.At i0 ⟨xo,xs,true⟩ (H.ds.getD i0 acc)) (he:(H.resize (xo:Int) s).1.2=0) (h1:Rt out (H.resize (xo:Int) s).2) (hh:Held H bs (H.resize (xo:Int) s).2 out) (hm:ai9 H bs (xo:Int) (H.resize (xo:Int) s).2 out (H.resize (xo:Int) s).1.1) (v:UInt8):
 ∃i y,atB ((H.resize (xo:Int) s).1.1:Int) (H.resize (xo:Int) s).2.blks=some i/\(H.resize (xo:Int) s).2.blks[i]?=some y/\y.off=(H.resize (xo:Int) s).1.1/\s<=y.size/\y.off+y.size<=out.length/\RtD (aqu out y.off y.size (xs-16) v) ((H.resize (xo:Int) s).2.fill i v):=by
 have hok:=h.rt.ok hc h.dl;obtain⟨i,y,j,x0,d,e1,e2,e3,e4,e5,e6,e7,e8,e9,e10,e11,e12⟩:=h.resized hok (hok.take hc hs).one_ hs he h1 hh hm v;obtain rfl:j=i0:=h.rt.one _ _ _ _ e7.1 hat.1 (by dsimp only;omega);obtain rfl:x0=⟨xo,xs,true⟩:=Option.some.inj (e7.1.symm.trans hat.1);dsimp only at e10;have ss:=(aab _).1 hs;refine⟨i,y,e1,e2,e3,e5,e6,?_⟩;unfold aqu;split
 · rename_i hf;have hll:(List.replicate (y.size-16-(xs-16)) v).length=y.size-16-(xs-16):=List.length_replicate;refine e12 _ (ad8 (x:=y) _ _ (by omega) (by omega) (by omega)) (fun k hk=> ?_);rw[ai6 _ _ _ _ hk];by_cases hkd:k<d.2.length
   · rw[ajb out _ _ (by omega) _ (by omega),e11 k hkd (by omega),List.getElem?_eq_getElem hkd,List.getD_eq_getElem?_getD,List.getElem?_eq_getElem hkd];rfl
   · have e:=agU out (y.off+8+(xs-16)) (List.replicate (y.size-16-(xs-16)) v) (by omega) (k-(xs-16)) (by omega);rw[show y.off+8+(xs-16)+(k-(xs-16))=y.off+8+k by omega]at e;rw[e,List.getElem?_replicate,if_pos (by omega),List.getD_eq_getElem?_getD,List.getElem?_eq_none (by omega)];rfl
 · rename_i hf;refine e12 _ (anV _ _) (fun k hk=> ?_);rw[ai6 _ _ _ _ hk,e11 k (by omega) (by omega),List.getD_eq_getElem?_getD,List.getElem?_eq_getElem (show k<d.2.length by omega)];rfl
theorem akE{p n:Nat}(hh:H.handleB p=none):H.realloc p n=((0,4),H):=by unfold Hp.realloc;rw[hh]
theorem akF{p n i:Nat}(hh:H.handleB p=some i) (hs:acn n=none):H.realloc p n=((0,5),H):=by unfold Hp.realloc;rw[hh];dsimp only;rw[hs]
theorem al6{p n i s:Nat}(hh:H.handleB p=some i) (hs:acn n=some s) (he:(H.resize ((p:Int)-8) s).1.2≠0):H.realloc p n=((0,(H.resize ((p:Int)-8) s).1.2),H):=by
 unfold Hp.realloc;rw[hh];dsimp only;rw[hs];dsimp only;rw[if_neg he,(aeO H _ s he).2.1]
theorem aoa{p n i j s:Nat}(hh:H.handleB p=some i) (hs:acn n=some s) (he:(H.resize ((p:Int)-8) s).1.2=0) (hj:atB ((H.resize ((p:Int)-8) s).1.1:Int) (H.resize ((p:Int)-8) s).2.blks=some j):H.realloc p n=(((H.resize ((p:Int)-8) s).1.1+8,0),(H.resize ((p:Int)-8) s).2.fill j 165):=by
 unfold Hp.realloc;rw[hh];dsimp only;rw[hs];dsimp only;rw[if_pos he,hj]
theorem aqv (ho:w.heap[q]?=some (.cells #[.pointer (some ⟨g,0,none⟩)] 132 (0,0))) (ha:Ar w 195 g base cap A c bs) (hbase:base<=4611686018427387904) (hl:bs.length<=16384) (o s f p:Nat) (v:UInt8){u:Bool}(hg:aa8 bs (o:Int)=some ⟨o,s,u⟩) (hs:16<=s) (hos:o+s<=bs.length) (hp:o+8=p):
 Calls Tryz.prog 130 #[.pointer (some ⟨q,0,none⟩), .int .i64 (o:Int), .int .u64 (f:Int), .int .u8 (v.toNat:Int)] w fun e w'=>e= .returned (.int .u64 (p:Int))/\Became 195 g base cap A (aqu bs o s f v) w w':=by
 unfold aqu;by_cases hf:f<s-16
 · rw[if_pos hf,hp];exact akB ho ha hbase hl o s f p v hg hs hos hf hp
 · rw[if_neg hf];refine(asr ho ha hbase hl o s f p v hg hs hos (by omega) hp).mono ?_;rintro e w2 ⟨rfl,hb⟩;exact⟨rfl,abt ha hb⟩
theorem ajn (h:PH w q g base cap A c bs H) (p n:Nat) (hp:p<18446744073709551616) (hn:n<18446744073709551616):
 Calls Tryz.prog 68 #[.pointer (some ⟨q,0,none⟩), .int .u64 (p:Int), .int .u64 (n:Int)] w fun e w'=>ag5 g base cap A (H.realloc p n) w e w':=by
 have hF:=adi h p hp;have HND:=hE0 (fun W=>auS W n hn)
 cases hh:H.handleB p with
 | none=>
  rw[hh]at hF;dsimp only[bkV,aav,Option.map,Option.isSome]at hF;have HF:=hE0 hF;have HE:=hE0 (akE (n:=n) hh);have H0:=hE0 h;clear h hF hh HND;go_enter Tryz.func68,Tryz.ntmps68
  go_wp2_with fail
  refine HF.out.mono ?_;rintro e w2 ⟨rfl,hb⟩;have HT:=hE0 (H0.out.stay (hb.alloc hb.size (.cells #[.int .i64 0, .int .i64 0, .bool false] 112)));clear hb HF H0;go_wp2
  go_ret2
  rw[HE.out];exact⟨rfl,HT.out⟩
 | some i=>
  obtain⟨xo,xs,hbk,hpx,h184,h32,hle,hi,hat,hd,h16,hu⟩:=h.blk hh;have hl:=h.len;rw[hh]at hF;dsimp only[Option.map]at hF;rw[hbk]at hF;dsimp only[bkV,Bk.val,aav,Option.isSome]at hF;have HF:=hE0 hF
  cases hs:acn n with
  | none=>
   have HE:=hE0 (akF hh hs);rw[hs]at HND;dsimp only[anl]at HND;have H0:=hE0 h;clear h hF hh hbk hpx hat hd hu hi hs;go_enter Tryz.func68,Tryz.ntmps68
   go_wp2_with fail
   refine HF.out.mono ?_;rintro e w2 ⟨rfl,hb⟩;obtain⟨w3,hw3⟩:=nmE (w2.alloc (.cells #[.int .i64 (xo:Int), .int .i64 (xs:Int), .bool true] 112));have HB3:Hid (Below w.heap.size w w3):=(show Below _ _ _ by rw[<-hw3];exact hb.alloc hb.size _);have HW3:=hE0 hw3;clear hb HF hw3;go_wp2_with (first | (rw[HW3.out]) | fail)
   refine(HND.out w3).mono ?_;rintro e w4 ⟨rfl,hb4⟩;have HT:=hE0 (H0.out.stay (HB3.out.trans (hb4.mono HB3.out.size)));clear hb4 HB3 H0 HND;go_wp2
   go_ret2
   rw[HE.out];exact⟨rfl,HT.out⟩
  | some s=>
   have hsz:=ac3 hs;have hss:=(aab _).1 hsz;rw[hs]at HND;dsimp only[anl]at HND;have hp8:(p:Int)-8=(xo:Int):=by omega
   have hK:∀w1,Below w.heap.size w w1->Calls Tryz.prog 129 #[.pointer (some ⟨g,0,none⟩), .int .i64 (xo:Int), .int .i64 (s:Int)] w1 fun e w'=>RezTold g base cap A bs H (xo:Int) (H.resize (xo:Int) s) w1 e w':=fun w1 hb=>by
    have:=(aug w1 g base cap c A bs H (xo:Int) (s:Int) (h.ar.below hb) h.b62 h.c16 h.cp h.rd.rt ⟨by omega,by omega⟩ ⟨by omega,by omega⟩).2 hsz;rw[Int.toNat_natCast]at this;exact this
   by_cases herr:(H.resize (xo:Int) s).1.2=0
   · have hRF:=fun out h1 hh2 hm=>h.rd.rezFill (out:=out) (by rw[h.cp];exact h.c16) hsz hat herr h1 hh2 hm 165;have hRO:=fun j hj=>aoa (j:=j) hh hs (by rw[hp8];exact herr) (by rw[hp8];exact hj);rw[hp8]at hRO;have hcap2:(H.resize (xo:Int) s).2.cap=cap:=resize_cap.trans h.cp;have hK2:∀w1,Below w.heap.size w w1->Calls Tryz.prog 129 #[.pointer (some ⟨g,0,none⟩), .int .i64 (xo:Int), .int .i64 (s:Int)] w1 fun e w'=>e= .returned (.tuple #[.int .i64 ((H.resize (xo:Int) s).1.1:Int), .nilIface])/\∃out,Became 195 g base cap A out w1 w'/\Rt out (H.resize (xo:Int) s).2/\Held H bs (H.resize (xo:Int) s).2 out/\ai9 H bs (xo:Int) (H.resize (xo:Int) s).2 out (H.resize (xo:Int) s).1.1:=fun w1 hb=>(hK w1 hb).mono fun e w2 hr=>hr.1 herr;obtain⟨r,hr⟩:=nmE (H.resize (xo:Int) s);rw[hr]at hRF hRO hK2 hcap2;obtain⟨⟨ro,re⟩,H2⟩:=r;dsimp only at hRF hRO hK2 hcap2;have HRF:=hE0 hRF;have HRO:=hE0 hRO;have HC2:=hE0 hcap2;have HK:=hE0 hK2;have H0:=hE0 h;have HUS:=hE0 (fun W=>abS W (xo:Int) xs true (by omega) h16);obtain⟨f,hf⟩:=nmE (xs-16);rw[hf]at HUS HRF;have hf14:f<=16384:=by omega
     clear h hF hh hbk hpx hat hd hu hi hs hRF hRO hcap2 hK hK2 herr hr hp8 hsz hf;go_enter Tryz.func68,Tryz.ntmps68
     go_wp2_with fail
     refine HF.out.mono ?_;rintro e w2 ⟨rfl,hb⟩;obtain⟨w3,hw3⟩:=nmE (w2.alloc (.cells #[.int .i64 (xo:Int), .int .i64 (xs:Int), .bool true] 112));have n3:=anE hw3;have HB3:Hid (Below w.heap.size w w3):=(show Below _ _ _ by rw[<-hw3];exact hb.alloc hb.size _);have HW3:=hE0 hw3;have HN3:=hE0 n3;clear hb HF hw3 n3;go_wp2_with (first | (rw[HW3.out]) | fail)
     refine(HND.out w3).mono ?_;rintro e w4 ⟨rfl,hb4⟩;have hb4':=HB3.out.trans (hb4.mono HB3.out.size);obtain⟨wd,hwd⟩:=nmE w4.drew;have hbd:Below w.heap.size w wd:=by rw[<-hwd];exact hb4'.drew
     have n4:wd.heap[w2.heap.size]?=some (.cells #[.int .i64 (xo:Int), .int .i64 (xs:Int), .bool true] 112 (0,0)):=by rw[<-hwd];exact Loc.below hb4 _ _ HN3.out
     have hp4:=H0.out.below hbd;have k0:=hp4.c0;have hlq:=hp4.lt;have hnq:=hp4.ap;have hnb:=ajf hp4.ar n4;obtain⟨⟨d0,d1,d2⟩,_⟩:=aad n4;have hlt4:=aac n4;have HK4:=hE0 (HK.out wd hbd);have HBD:=hE0 hbd;have HWD:=hE0 hwd;have HN4:=hE0 n4;have HP4:=hE0 hp4;have HNB:=hE0 hnb;have HNQ:=hE0 hnq;clear hb4 hb4' hwd hbd hp4 HK HND HN3 HW3 HB3 n4 hnb hnq;go_wp2_with fail
     refine abk (foot g A) [([0,1,2,3,4,5,6],7)] [8,9,10,11,12] [] (by kernel_rfl) (by kernel_rfl) (by kernel_rfl) (fun _ _ _ _ _ h=>h) ?_;rw[HWD.out];have q0:∀z:LaterS (foot g A) wd,z.val.cell? ⟨q,0,none⟩=some (.pointer (some ⟨g,0,none⟩)):=fun z=>z.ext.cell k0 HNQ.out;have q1:∀z:LaterS (foot g A) wd,z.val.cell? ⟨w2.heap.size,0,none⟩=some (.int .i64 (xo:Int)):=fun z=>z.ext.cell d0 HNB.out;refine ab4 (l:= ?seg1) ?hseg1 ?_
     case hseg1=>simp only[pick,lE1,lE2,lE3];rfl
     repeat (go_big_quiet_step (fail))
     refine wpQuiet_nil ?_;clear q0 q1 k0 d0 d1 d2;refine ack (vs:= #[.pointer (some ⟨g,0,none⟩), .int .i64 (xo:Int), .int .i64 (s:Int)]) Tryz.call129 rfl rfl rfl (R:=fun r w'=>r= .tuple #[.int .i64 (ro:Int), .nilIface]/\∃out,Became 195 g base cap A out wd w'/\Rt out H2/\Held H bs H2 out/\ai9 H bs (xo:Int) H2 out ro) (HK4.out.mono ?_) ?_
     · rintro e w' ⟨rfl,out,hB,hR⟩;have hB':=hB;obtain⟨_,_,_,ht,_⟩:=hB';exact⟨_,rfl,ht,rfl,out,hB,hR⟩
     rintro r w5 _ ⟨rfl,out,hbe,hr1,hh1,hm1⟩;obtain⟨j,y,hj,hy,hyo,hys,hyl,hrd⟩:=HRF.out out hr1 hh1 hm1;obtain⟨A5,c5,a5,t5,m5⟩:=hbe;have n5:=(t5.block _ hlt4 HNB.out).trans HN4.out;have ho5:=(t5.block q HP4.out.lt HNQ.out).trans HP4.out.obj;have hout:out.length<=16384:=(hr1.bound (by rw[HC2.out];exact H0.out.c16)).1;have hgb:=as8 hr1 (by rw[HC2.out];exact H0.out.c16) (List.mem_of_getElem? hy);have HTR:=hE0 (fun w6 (hb6:Below w5.heap.size w5 w6) (b4:List UInt8) w7 (k:Became 195 g base cap A5 b4 w6 w7)=>(Became.trans a5 t5 m5 (k.after hb6)).after HBD.out);obtain⟨yo,ys,yu⟩:=y;dsimp only at hyo hys hyl hrd hgb;subst hyo;have hyo14:yo<=16384:=by omega
     obtain⟨p2,hp2⟩:=nmE (yo+8);have HFI:=hE0 (fun w6 (hb6:Below w5.heap.size w5 w6)=>aqv (w:=w6) ((hb6.block q (aae ho5)).trans ho5) (a5.below hb6) H0.out.b62 hout yo ys f p2 165 hgb (by omega) (by omega) hp2);have HRD:=hE0 hrd;have hgi:=HRO.out j hj;rw[hp2]at hgi;have HGI:=hE0 hgi;obtain⟨⟨d0,d1,d2⟩,_⟩:=aad n5;have hlt5:=aac n5;refine⟨foot g A,fun _ _ h=>h,?_⟩;refine ado (l:= ?la4) (t:= []) ?hla4 ?htl4 ?_
     case hla4=>simp only[pick,lE1,lE2,lE3];rfl
     case htl4=>rfl
     simp only[Act.put,lE4,lE5,lE6];repeat (go_big_quiet_step (fail))
     refine wpQuiet_nil ?_;clear hgi hp2 hr1 hh1 hm1 hj hy hrd hgb t5 m5 a5 n5 ho5 HRF HRO HK4 HN4 HP4;go_wp2_with fail
     refine(HUS.out w5).mono ?_;rintro e w6 ⟨rfl,hb6⟩;have HF6:Hid (Calls Tryz.prog 130 #[.pointer (some ⟨q,0,none⟩), .int .i64 (yo:Int), .int .u64 (f:Int), .int .u8 165] w6 fun e w'=>e= .returned (.int .u64 (p2:Int))/\Became 195 g base cap A5 (aqu out yo ys f 165) w6 w'):=HFI.out w6 hb6;have HT6:=hE0 (HTR.out w6 hb6);clear hb6 d0 d1 d2 hlt5 HFI HTR;go_wp2_with fail
     refine HF6.out.mono ?_;rintro e w7 ⟨rfl,hb7⟩;have HT:=hE0 (HT6.out _ w7 hb7);clear hb7 HF6 HT6;go_wp2
     go_ret2
     rw[HGI.out];exact⟨rfl,_,HT.out,HRD.out⟩
   · have hRB:=al6 hh hs (by rw[hp8];exact herr);rw[hp8]at hRB;have hz:=(aeO H _ s herr).2.2;have hK2:∀w1,Below w.heap.size w w1->Calls Tryz.prog 129 #[.pointer (some ⟨g,0,none⟩), .int .i64 (xo:Int), .int .i64 (s:Int)] w1 fun e w'=>e= .returned (.tuple #[.int .i64 0, .iface 130 (.int .i64 (H.resize (xo:Int) s).1.2)])/\Below w1.heap.size w1 w':=fun w1 hb=>(hK w1 hb).mono fun e w2 hr=>hr.2 herr;obtain⟨ek,hek⟩:=nmE ((H.resize (xo:Int) s).1.2);rw[hek]at hRB hz hK2;have HRB:=hE0 hRB;have HK:=hE0 hK2;have H0:=hE0 h;have HEN:Hid (aju ek= .iface 130 (.int .i64 ek)):=(show aju ek=_ by rcases hz with rfl | rfl<;>rfl);clear h hF hh hbk hpx hat hd hu hi hs hK hK2 herr hek hp8 hsz hRB hz;go_enter Tryz.func68,Tryz.ntmps68
     go_wp2_with fail
     refine HF.out.mono ?_;rintro e w2 ⟨rfl,hb⟩;obtain⟨w3,hw3⟩:=nmE (w2.alloc (.cells #[.int .i64 (xo:Int), .int .i64 (xs:Int), .bool true] 112));have n3:=anE hw3;have HB3:Hid (Below w.heap.size w w3):=(show Below _ _ _ by rw[<-hw3];exact hb.alloc hb.size _);have HW3:=hE0 hw3;have HN3:=hE0 n3;clear hb HF hw3 n3;go_wp2_with (first | (rw[HW3.out]) | fail)
     refine(HND.out w3).mono ?_;rintro e w4 ⟨rfl,hb4⟩;have hb4':=HB3.out.trans (hb4.mono HB3.out.size);obtain⟨wd,hwd⟩:=nmE w4.drew;have hbd:Below w.heap.size w wd:=by rw[<-hwd];exact hb4'.drew
     have n4:wd.heap[w2.heap.size]?=some (.cells #[.int .i64 (xo:Int), .int .i64 (xs:Int), .bool true] 112 (0,0)):=by rw[<-hwd];exact Loc.below hb4 _ _ HN3.out
     have hp4:=H0.out.below hbd;have k0:=hp4.c0;have hnq:=hp4.ap;have hnb:=ajf hp4.ar n4;obtain⟨⟨d0,d1,d2⟩,_⟩:=aad n4;have HK4:=hE0 (HK.out wd hbd);have HBD:=hE0 hbd;have HWD:=hE0 hwd;have HNB:=hE0 hnb;have HNQ:=hE0 hnq;clear hb4 hb4' hwd hbd hp4 HK HND HN3 HW3 HB3 n4 hnb hnq;go_wp2_with fail
     refine abk (foot g A) [([0,1,2,3,4,5,6],7)] [8,9,10,11,12] [] (by kernel_rfl) (by kernel_rfl) (by kernel_rfl) (fun _ _ _ _ _ h=>h) ?_;rw[HWD.out];have q0:∀z:LaterS (foot g A) wd,z.val.cell? ⟨q,0,none⟩=some (.pointer (some ⟨g,0,none⟩)):=fun z=>z.ext.cell k0 HNQ.out;have q1:∀z:LaterS (foot g A) wd,z.val.cell? ⟨w2.heap.size,0,none⟩=some (.int .i64 (xo:Int)):=fun z=>z.ext.cell d0 HNB.out;refine ab4 (l:= ?seg2) ?hseg2 ?_
     case hseg2=>simp only[pick,lE1,lE2,lE3];rfl
     repeat (go_big_quiet_step (fail))
     refine wpQuiet_nil ?_;clear q0 q1 k0 d0 d1 d2;refine ack (vs:= #[.pointer (some ⟨g,0,none⟩), .int .i64 (xo:Int), .int .i64 (s:Int)]) Tryz.call129 rfl rfl rfl (R:=fun r w'=>r= .tuple #[.int .i64 0, .iface 130 (.int .i64 ek)]/\Below wd.heap.size wd w') (HK4.out.mono ?_) ?_
     · rintro e w' ⟨rfl,hb⟩;exact⟨_,rfl,Tch.of_below hb,rfl,hb⟩
     rintro r w5 _ ⟨rfl,hb5⟩;have HT:=hE0 (H0.out.stay (HBD.out.trans (hb5.mono HBD.out.size)));refine⟨foot g A,fun _ _ h=>h,?_⟩;refine ado (l:= ?la5) (t:= []) ?hla5 ?htl5 ?_
     case hla5=>simp only[pick,lE1,lE2,lE3];rfl
     case htl5=>rfl
     simp only[Act.put,lE4,lE5,lE6];repeat (go_big_quiet_step (fail))
     refine wpQuiet_nil ?_;clear hb5 HK4 H0;go_wp2
     go_ret2
     rw[HRB.out];exact⟨by rw[HEN.out];rfl,HT.out⟩
end
def Hp.readP (H:Hp) (p a n:Nat):List UInt8 × Int:=match H.handleB p with
 | none=>([],4)
 | some i=>if (H.ds.getD i acc).2.length<a+n then ([],2) else (((H.ds.getD i acc).2.drop a).take n,0)
def Hp.writeP (H:Hp) (p a:Nat) (b:List UInt8):Int × Hp:=match H.handleB p with
 | none=>(4,H)
 | some i=>if (H.ds.getD i acc).2.length<a+b.length then (2,H) else (0,H.dset i ((H.ds.getD i acc).1,lay (H.ds.getD i acc).2 a b))
def PBytes (r:List UInt8 × Int) (w:World) (e:Ending) (w':World):Prop:=
 ∃A' c',e= .returned (.tuple #[.slice A' r.1.length c',aju r.2])/\w'.ownsRow w.heap.size 5 1 (.slice A' r.1.length c') r.1.length (r.1.map bv)/\Below w.heap.size w w'
section
variable {w w':World} {q g base cap c:Nat} {A:Option Addr} {bs out:List UInt8} {H H':Hp}
theorem PBytes.none_{k:Int}(hb:Below w.heap.size w w'):PBytes ([],k) w (.returned (.tuple #[.slice none 0 0,aju k])) w':=⟨none,0,rfl,World.ownsRow_nil _ _ _ _,hb⟩
theorem akG{w:World}{B B' n:Nat}{t:TypeId}{v:Value}{l:List Value}(h:w.ownsRow B t 1 v n l) (hB:B'<=B):w.ownsRow B' t 1 v n l:=
 ⟨h.1,h.2.imp id fun⟨g',cap',cur,a,b,c⟩=>⟨g',cap',cur,a,Nat.le_trans hB b,c⟩⟩
theorem PH.part (h:PH w q g base cap A c bs H){i xo xs a n:Nat}(hat:H.At i ⟨xo,xs,true⟩ (H.ds.getD i acc)) (hf:a+n<=(H.ds.getD i acc).2.length):(bs.drop (xo+8+a)).take n=((H.ds.getD i acc).2.drop a).take n:=by
 obtain⟨h1,h2⟩:=h.rd.ho i _ _ hat rfl;refine List.ext_getElem? fun k=> ?_;by_cases hk:k<n
 · rw[List.getElem?_take_of_lt hk,List.getElem?_take_of_lt hk,List.getElem?_drop,List.getElem?_drop];have:=h2 (a+k) (by omega);dsimp only at this;rw[<-this];congr 1;omega
 · rw[List.getElem?_eq_none (by rw[List.length_take];omega),List.getElem?_eq_none (by rw[List.length_take];omega)]
theorem aqw (h:PH w q g base cap A c bs H) (p a n:Nat) (hp:p<18446744073709551616) (ha:a<18446744073709551616) (hn:n<18446744073709551616):
 Calls Tryz.prog 69 #[.pointer (some ⟨q,0,none⟩), .int .u64 (p:Int), .int .u64 (a:Int), .int .u64 (n:Int)] w fun e w'=>PBytes (H.readP p a n) w e w':=by
 unfold Hp.readP
 cases hh:H.handleB p with
 | none=>
  dsimp only;have HF:=hE0 (ag3 h p a n hp hh);clear h hh;go_enter Tryz.func69,Tryz.ntmps69
  go_wp2_with fail
  refine HF.out.mono ?_;rintro e w2 ⟨rfl,hb⟩;have HT:=hE0 hb;clear hb HF;go_wp2
  go_ret2
  exact PBytes.none_ HT.out
 | some i=>
  dsimp only;obtain⟨L,hL⟩:=nmE ((H.ds.getD i acc).2.length);by_cases hf:L<a+n
  · rw[if_pos (by omega)];have HF:=hE0 (aii h p a n hp ha hn hh hL hf);clear h hh hL;go_enter Tryz.func69,Tryz.ntmps69
    go_wp2_with fail
    refine HF.out.mono ?_;rintro e w2 ⟨rfl,hb⟩;have HT:=hE0 hb;clear hb HF;go_wp2
    go_ret2
    exact PBytes.none_ HT.out
  · rw[if_neg (by omega)];obtain⟨xo,xs,hbk,hpx,h184,h32,hle,hi,hat,hd,h16,hu⟩:=h.blk hh;have hl:=h.len;have hpart:=h.part (a:=a) (n:=n) hat (by omega);obtain⟨x,hx⟩:=nmE (base+p+a);have HF:=hE0 (akA h p a n hp hn hh hL (by omega) hx);have hb62:=h.b62;obtain⟨ys,hys⟩:=nmE (((H.ds.getD i acc).2.drop a).take n);have HLD:∀W,Below w.heap.size w W->Calls Tryz.prog 96 #[.pointer (some ⟨g,0,none⟩), .int .u64 (x:Int), .int .u64 (n:Int)] W fun e w'=>arp ys W e w':=fun W hb=>by
     have:=aoJ (h.ar.below hb) (by omega) x n (xo+8+a) (by omega) (by omega) (by omega) (by omega);rw[hpart,hys]at this;exact this
    rw[hys];have HLD:=hE0 HLD;have H0:=hE0 h;clear h hh hL hf hbk hpx hat hd hu hi hpart hys hx hl h184 h32 hle h16 hb62;go_enter Tryz.func69,Tryz.ntmps69
    go_wp2_with fail
    refine HF.out.mono ?_;rintro e w2 ⟨rfl,hb⟩;have k0:=(H0.out.below hb).c0;have hlq:=(H0.out.below hb).lt;have HL2:=hE0 (HLD.out w2 hb);have HB:=hE0 hb;clear hb HF H0 HLD;go_wp2_with fail
    refine HL2.out.mono ?_;rintro e w3 ⟨A',c',rfl,ho,hb3⟩;have HT:Hid (PBytes (ys,0) w (.returned (.tuple #[.slice A' ys.length c',aju 0])) w3):=⟨A',c',rfl,akG ho HB.out.size,HB.out.trans (hb3.mono HB.out.size)⟩;clear ho hb3 HL2 HB k0;go_wp2
    go_ret2
    exact HT.out
theorem aob (h:PH w q g base cap A c bs H) (p a:Nat) (b:List UInt8) (B:Option Addr) (k:Nat) (hr:Rd w w.heap.size B b.length b) (hp:p<18446744073709551616) (ha:a<18446744073709551616) (hbl:b.length<=1000000):
 Calls Tryz.prog 70 #[.pointer (some ⟨q,0,none⟩), .int .u64 (p:Int), .int .u64 (a:Int), .slice B b.length k] w fun e w'=>e= .returned (aju (H.writeP p a b).1)/\PTurn g base cap A (H.writeP p a b).2 w w':=by
 unfold Hp.writeP
 cases hh:H.handleB p with
 | none=>
  dsimp only;have hF:=ag3 h p a b.length hp hh;obtain⟨n,hn⟩:=nmE b.length;rw[hn]at hF hbl ⊢;have HF:=hE0 hF;have H0:=hE0 h;clear h hh hr hF;go_enter Tryz.func70,Tryz.ntmps70
  go_wp2_with fail
  refine HF.out.mono ?_;rintro e w2 ⟨rfl,hb⟩;have HT:=hE0 (H0.out.stay hb);clear hb HF H0;go_wp2
  go_ret
  exact⟨rfl,HT.out⟩
 | some i=>
  dsimp only;obtain⟨L,hL⟩:=nmE ((H.ds.getD i acc).2.length);by_cases hf:L<a+b.length
  · rw[if_pos (by omega)];have hF:=aii h p a b.length hp ha (by omega) hh hL hf;obtain⟨n,hn⟩:=nmE b.length;rw[hn]at hF hbl ⊢;have HF:=hE0 hF;have H0:=hE0 h;clear h hh hr hF hL;go_enter Tryz.func70,Tryz.ntmps70
    go_wp2_with fail
    refine HF.out.mono ?_;rintro e w2 ⟨rfl,hb⟩;have HT:=hE0 (H0.out.stay hb);clear hb HF H0;go_wp2
    go_ret
    exact⟨rfl,HT.out⟩
  · rw[if_neg (by omega)];obtain⟨xo,xs,hbk,hpx,h184,h32,hle,hi,hat,hd,h16,hu⟩:=h.blk hh;have hl:=h.len;obtain⟨x,hx⟩:=nmE (base+p+a);have hF:=akA h p a b.length hp (by omega) hh hL (by omega) hx;have hb62:=h.b62;have HWR:=hE0 (h.rd.wrote hat rfl (H.ds.getD i acc).1 a b (by omega));have HST:∀W,Below w.heap.size w W->Calls Tryz.prog 132 #[.pointer (some ⟨g,0,none⟩), .int .u64 (x:Int), .slice B b.length k] W fun e w'=>e= .returned .nilIface/\Became 195 g base cap A (lay bs (xo+8+a) b) W w':=fun W hb=>
     aiC (h.ar.below hb) (by omega) x (xo+8+a) B k b w.heap.size (hr.below hb) (by omega) (by omega) (by omega) (by omega)
    obtain⟨n,hn⟩:=nmE b.length;rw[hn]at hF hbl HST ⊢;have HST:=hE0 HST;have HF:=hE0 hF;have H0:=hE0 h;clear h hh hL hf hbk hpx hat hd hu hi hx hl h184 h32 hle h16 hb62 hr hF hn;go_enter Tryz.func70,Tryz.ntmps70
    go_wp2_with fail
    refine HF.out.mono ?_;rintro e w2 ⟨rfl,hb⟩;have k0:=(H0.out.below hb).c0;have hlq:=(H0.out.below hb).lt;have HL2:=hE0 (HST.out w2 hb);have HB:=hE0 hb;clear hb HF H0 HST;go_wp2_with fail
    refine HL2.out.mono ?_;rintro e w3 ⟨rfl,hbe⟩;have HT:Hid (PTurn g base cap A (H.dset i ((H.ds.getD i acc).1,lay (H.ds.getD i acc).2 a b)) w w3):=⟨_,hbe.after HB.out,HWR.out⟩;clear hbe HL2 HB HWR k0;go_wp2
    go_ret
    exact⟨rfl,HT.out⟩
end
def stV (s:St5):Value:= .agg #[.int .i64 (s.used:Int), .int .i64 (s.free:Int), .int .i64 (s.bytes:Int), .int .i64 (s.len:Int), .int .i64 (s.cap:Int)]
def aqx (a b c d e:Nat):Array Value:= #[.int .i64 (a:Int), .int .i64 (b:Int), .int .i64 (c:Int), .int .i64 (d:Int), .int .i64 (e:Int)]
theorem aoc (l:List Bk) (x:Bk):abu (l++ [x])=if x.used=true then ((abu l).1+1,(abu l).2.1,(abu l).2.2+(x.size-16)) else ((abu l).1,(abu l).2.1+1,(abu l).2.2):=by
 induction l with
 | nil=>simp[abu]
 | cons y r ih=>
  rw[List.cons_append];unfold abu;rw[ih];by_cases hx:x.used=true<;>by_cases hy:y.used=true<;>simp[hx,hy]<;>omega
theorem amW (l:List Bk):(abu l).1<=l.length/\(abu l).2.1<=l.length/\(abu l).2.2<=abd l:=by
 induction l with
 | nil=>simp[abu,abd]
 | cons y r ih=>
  unfold abu;rw[List.length_cons];simp only[abd];split<;>dsimp only<;>omega
theorem afQ (l:List Bk) (j:Nat):abd (l.take j)<=abd l:=by
 have:=aeY (l.take j) (l.drop j);rw[List.take_append_drop]at this;omega
theorem adD{w:World}{g:Nat}{t:TypeId}{a b c d e:Value}(h:w.heap[g]?=some (.cells #[a,b,c,d,e] t (0,0))):
 (w.cell? ⟨g,0,none⟩=some a/\w.cell? ⟨g,1,none⟩=some b/\w.cell? ⟨g,2,none⟩=some c/\w.cell? ⟨g,3,none⟩=some d/\w.cell? ⟨g,4,none⟩=some e)/\
 (w.frozen? ⟨g,0,none⟩=false/\w.frozen? ⟨g,1,none⟩=false/\w.frozen? ⟨g,2,none⟩=false/\w.frozen? ⟨g,3,none⟩=false/\w.frozen? ⟨g,4,none⟩=false):=by
 refine⟨⟨?_,?_,?_,?_,?_⟩,frozen_of_row w g 0 _ _ h,frozen_of_row w g 1 _ _ h,frozen_of_row w g 2 _ _ h,frozen_of_row w g 3 _ _ h,frozen_of_row w g 4 _ _ h⟩
 · rw[cell_of_row w g 0 _ _ (0,0) h];rfl
 · rw[cell_of_row w g 1 _ _ (0,0) h];rfl
 · rw[cell_of_row w g 2 _ _ (0,0) h];rfl
 · rw[cell_of_row w g 3 _ _ (0,0) h];rfl
 · rw[cell_of_row w g 4 _ _ (0,0) h];rfl
theorem aqy{w:World}{g:Nat}{t:TypeId}{a b c d e:Value}(h:w.heap[g]?=some (.cells #[a,b,c,d,e] t (0,0))) (x0 x1 x2 x3 x4:Value):
 (((((w.setCell ⟨g,0,none⟩ x0).setCell ⟨g,1,none⟩ x1).setCell ⟨g,2,none⟩ x2).setCell ⟨g,3,none⟩ x3).setCell ⟨g,4,none⟩ x4).heap[g]?=some (.cells #[x0,x1,x2,x3,x4] t (0,0)):=by
 have h1:=heap_setCell_same w g 0 _ _ x0 h;have h2:=heap_setCell_same _ g 1 _ _ x1 h1;have h3:=heap_setCell_same _ g 2 _ _ x2 h2;have h4:=heap_setCell_same _ g 3 _ _ x3 h3;have h5:=heap_setCell_same _ g 4 _ _ x4 h4;rw[h5];rfl
theorem ag8 (ρ:Operand->Value) (o:Oper) (ho:o.op= .alloc 48) (w:World):
 (execOp ρ o).run Tryz.prog w= .ok (.value (.pointer (some ⟨w.heap.size,0,none⟩))) (w.alloc (.cells #[.int .i64 0, .int .i64 0, .int .i64 0, .int .i64 0, .int .i64 0] 48)):=by
 unfold execOp;simp only[ho];simp[go_sem]
theorem aul{fn:Func}{R:Ending->World->Prop}{a:Act}{w:World}{p:Tmp}{g:Nat}{x0 x1 x2 x3 x4:Int}(hres:fn.results= #[.cell p 48]) (hp:a.tmps.getD p undef= .pointer (some ⟨g,0,none⟩)) (hd:a.defers= [])
 (hg:w.heap[g]?=some (.cells #[.int .i64 x0, .int .i64 x1, .int .i64 x2, .int .i64 x3, .int .i64 x4] 48 (0,0))) (hR:R (.returned (.agg #[.int .i64 x0, .int .i64 x1, .int .i64 x2, .int .i64 x3, .int .i64 x4])) w):bodyPost Tryz.prog fn R .ret a w:=by
 refine bodyPost_ret (v:= .agg #[.int .i64 x0, .int .i64 x1, .int .i64 x2, .int .i64 x3, .int .i64 x4]) ?_ hd hR;exact results_cell_row hres _ _ g _ _ _ _ hp hg rfl rfl rfl
section
variable {w w':World} {q g base cap c:Nat} {A:Option Addr} {bs out:List UInt8} {H H':Hp}
theorem al7 (h:PH w q g base cap A c bs H):
 Calls Tryz.prog 52 #[.pointer (some ⟨q,0,none⟩)] w fun e w'=>e= .returned (stV H.stats)/\Below w.heap.size w w':=by
 have hl:=h.len;have hst:H.stats=⟨(abu H.blks).1,(abu H.blks).2.1,(abu H.blks).2.2,bs.length,cap⟩:=by unfold Hp.stats;rw[h.rd.rt.lenE,h.cp]
 rw[hst];have hsum:184+abd H.blks=bs.length:=h.rd.rt.lenE;have hbd:=(h.rd.rt.bound (by rw[h.cp];exact h.c16)).2;have hwk:=h.rd.rt.walk;have hc16:=h.c16;have hb62:=h.b62;have hn512:=((h.rd.rt.ok (by rw[h.cp];exact h.c16) h.rd.dl)).n;obtain⟨l,hl0⟩:=nmE H.blks;rw[hl0]at hsum hbd hwk hn512 ⊢;obtain⟨n,hn⟩:=nmE bs.length;rw[hn]at hl hsum hbd ⊢;obtain⟨z1,hz1⟩:=nmE ((abu l).1);obtain⟨z2,hz2⟩:=nmE ((abu l).2.1);obtain⟨z3,hz3⟩:=nmE ((abu l).2.2);rw[hz1,hz2,hz3];have HZ:=hE0 (show(abu l).1=z1/\(abu l).2.1=z2/\(abu l).2.2=z3 from⟨hz1,hz2,hz3⟩);clear hz1 hz2 hz3;obtain⟨w1,hw1⟩:=nmE (w.alloc (.cells #[.int .i64 0, .int .i64 0, .int .i64 0, .int .i64 0, .int .i64 0] 48));obtain⟨wd,hwd⟩:=nmE w1.drew;have hbd1:Below w.heap.size w wd:=by rw[<-hwd,<-hw1];exact((Below.refl _ _).alloc (Nat.le_refl _) _).drew
 have n1:wd.heap[w.heap.size]?=some (.cells #[.int .i64 0, .int .i64 0, .int .i64 0, .int .i64 0, .int .i64 0] 48 (0,0)):=by rw[<-hwd,<-hw1];exact heap_alloc_new w _
 have h1:=h.below hbd1;have k0:=h1.c0;have hlq:=h1.lt;have hLN:=abO h1.ar;have hCP:=ak3 h1.ar;rw[hn]at hLN;have HLN:=hE0 hLN;have HNL:=hE0 hn;have HCP:=hE0 hCP;have HBD:=hE0 hbd;have HB1:=hE0 hbd1;have HN1:=hE0 n1;have HW1:=hE0 hw1;have HWD:=hE0 hwd;have H1:=hE0 h1;have HWK:=hE0 hwk;clear h hst hbd hw1 hwd hbd1 n1 h1 hLN hCP hn hwk hl0;go_enter Tryz.func52,Tryz.ntmps52
 go_wp2_with (first | (rw[HW1.out]) | fail)
 refine Code.wp_mono (Q:=fun ex a' w'=>ex= .normal/\∃p,wd.heap.size<=p/\Below wd.heap.size wd w'/\w'.heap[p]?=some (.cells (aqx 0 0 0 n cap) 48 (0,0))/\a'={tmps:= #[.pointer (some ⟨q,0,none⟩),undef, .pointer (some ⟨w.heap.size,0,none⟩), .pointer (some ⟨p,0,none⟩),undef,undef,undef,undef, .pointer (some ⟨q,0,none⟩), .pointer (some ⟨q,0,none⟩), .pointer (some ⟨q,0,none⟩), .pointer (some ⟨g,0,none⟩), .int .i64 (n:Int), .pointer (some ⟨q,0,none⟩), .pointer (some ⟨q,0,none⟩), .pointer (some ⟨q,0,none⟩), .pointer (some ⟨g,0,none⟩), .int .i64 (cap:Int), .agg #[.int .i64 0, .int .i64 0, .int .i64 0, .int .i64 (n:Int), .int .i64 (cap:Int)],undef,undef,undef,undef,undef,undef,undef,undef,undef,undef,undef,undef,undef,undef,undef,undef,undef,undef,undef,undef,undef,undef,undef,undef,undef,undef,undef,undef,undef,undef,undef,undef,undef],defers:= []}) ?cont ?reg
 case reg=>
  refine aaD wd.heap.size (.two [0,1,2,3,5,6,7,8] 4 (.two [] 9 (.one [10] 11 (.fin [])) 11 (.one [] 9 (.fin [10]))) 11 (.one [] 4 (.one [] 9 (.fin [10])))) [12] (by kernel_rfl) (by kernel_rfl) (by kernel_rfl) (fun _ _ _ _ _ h=>absurd h.1 (by nofun)) ?_;rw[HWD.out];have q0:=tfE k0 hlq;refine abL (l:= ?seg1) ?hseg1 ?_
  case hseg1=>simp only[pick,lE1,lE2,lE3];rfl
  repeat (go_big_quiet_step (fail))
  refine wpQuiet_nil ?_;clear q0 k0;refine⟨?wayA,?wayC⟩
  case wayA=>
   refine aar (vs:= #[.pointer (some ⟨g,0,none⟩)]) Tryz.call97 rfl rfl rfl (R:=fun r w'=>r= .int .i64 (n:Int)/\w'=wd) (HLN.out.mono ?_) wd.heap.size (Nat.le_refl _) ?_
   · rintro e w' ⟨rfl,rfl⟩;exact⟨_,rfl,Below.refl _ _,rfl,rfl⟩
   rintro r w2 _ ⟨rfl,rfl⟩;refine abL (l:= []) rfl (wpQuiet_nil ?_);simp only[Act.put,lE4,lE5,lE6];refine⟨?wayB,?wayD⟩
   case wayB=>
    refine aar (vs:= #[.pointer (some ⟨g,0,none⟩)]) Tryz.call57 rfl rfl rfl (R:=fun r w'=>r= .int .i64 (cap:Int)/\w'=w2) (HCP.out.mono ?_) w2.heap.size (Nat.le_refl _) ?_
    · rintro e w' ⟨rfl,rfl⟩;exact⟨_,rfl,Below.refl _ _,rfl,rfl⟩
    rintro r w3 _ ⟨rfl,rfl⟩;refine aax (l:= ?seg2) ?hseg2 ?_
    case hseg2=>simp only[pick,lE1,lE2,lE3];rfl
    simp only[Act.put,lE4,lE5,lE6];repeat (go_big_quiet_step (fail))
    refine wpQuiet_nil ?_;refine aas (some 3) rfl rfl rfl (ag8 _ _ rfl w3) ((Below.refl _ _).alloc (Nat.le_refl _) _) ⟨w3.heap.size,Nat.le_refl _,?_⟩;simp only[Act.put,lE4,lE5,lE6];refine aaW (l:= []) (t:= ?tl2) rfl ?htl2 (wpQuiet_nil ?_)
    case htl2=>simp only[pick,lE1,lE2,lE3];rfl
    go_wp2
    exact⟨w3.heap.size,Nat.le_refl _,(Below.refl _ _).alloc (Nat.le_refl _) _,heap_alloc_new w3 _,rfl⟩
   case wayD=>
    refine aas (some 3) rfl rfl rfl (ag8 _ _ rfl w2) ((Below.refl _ _).alloc (Nat.le_refl _) _) ⟨w2.heap.size,Nat.le_refl _,?_⟩;simp only[Act.put,lE4,lE5,lE6];obtain⟨w3,hw3⟩:=nmE (w2.alloc (.cells #[.int .i64 0, .int .i64 0, .int .i64 0, .int .i64 0, .int .i64 0] 48));have hb3:=abE hw3;have n3:=anE hw3;rw[hw3];have hC3:=ak3 (H1.out.below hb3).ar;refine aax (l:= []) rfl (wpQuiet_nil ?_);refine aar (vs:= #[.pointer (some ⟨g,0,none⟩)]) Tryz.call57 rfl rfl rfl (R:=fun r w'=>r= .int .i64 (cap:Int)/\w'=w3) (hC3.mono ?_) w2.heap.size (Nat.le_refl _) ?_
    · rintro e w' ⟨rfl,rfl⟩;exact⟨_,rfl,Below.refl _ _,rfl,rfl⟩
    rintro r w4 _ ⟨rfl,rfl⟩;refine aaW (l:= ?la3) (t:= ?tl3) ?hla3 ?htl3 ?_
    case hla3=>simp only[pick,lE1,lE2,lE3];rfl
    case htl3=>simp only[pick,lE1,lE2,lE3];rfl
    simp only[Act.put,lE4,lE5,lE6];repeat (go_big_quiet_step (fail))
    refine wpQuiet_nil ?_;obtain⟨⟨c0,c1,c2,c3,c4⟩,f0,f1,f2,f3,f4⟩:=adD n3;have hlt3:=aae n3;have HB3:=hE0 hb3;have HN3:=hE0 n3;clear hw3 hb3 n3 hC3;go_wp2
    exact⟨w2.heap.size,Nat.le_refl _,((((HB3.out.setCell (Nat.le_refl _) _).setCell (Nat.le_refl _) _).setCell (Nat.le_refl _) _).setCell (Nat.le_refl _) _).setCell (Nat.le_refl _) _,aqy HN3.out _ _ _ _ _,rfl⟩
  case wayC=>
   refine aas (some 3) rfl rfl rfl (ag8 _ _ rfl wd) ((Below.refl _ _).alloc (Nat.le_refl _) _) ⟨wd.heap.size,Nat.le_refl _,?_⟩;simp only[Act.put,lE4,lE5,lE6];obtain⟨w3,hw3⟩:=nmE (wd.alloc (.cells #[.int .i64 0, .int .i64 0, .int .i64 0, .int .i64 0, .int .i64 0] 48));have hb3:=abE hw3;have n3:=anE hw3;rw[hw3];have hC3:=ak3 (H1.out.below hb3).ar;have hL3:=abO (H1.out.below hb3).ar;rw[HNL.out]at hL3;refine aax (l:= []) rfl (wpQuiet_nil ?_);refine aar (vs:= #[.pointer (some ⟨g,0,none⟩)]) Tryz.call97 rfl rfl rfl (R:=fun r w'=>r= .int .i64 (n:Int)/\w'=w3) (hL3.mono ?_) wd.heap.size (Nat.le_refl _) ?_
   · rintro e w' ⟨rfl,rfl⟩;exact⟨_,rfl,Below.refl _ _,rfl,rfl⟩
   rintro r w4 _ ⟨rfl,rfl⟩;refine aax (l:= []) rfl (wpQuiet_nil ?_);simp only[Act.put,lE4,lE5,lE6];refine aar (vs:= #[.pointer (some ⟨g,0,none⟩)]) Tryz.call57 rfl rfl rfl (R:=fun r w'=>r= .int .i64 (cap:Int)/\w'=w4) (hC3.mono ?_) wd.heap.size (Nat.le_refl _) ?_
   · rintro e w' ⟨rfl,rfl⟩;exact⟨_,rfl,Below.refl _ _,rfl,rfl⟩
   rintro r w5 _ ⟨rfl,rfl⟩;refine aaW (l:= ?la4) (t:= ?tl4) ?hla4 ?htl4 ?_
   case hla4=>simp only[pick,lE1,lE2,lE3];rfl
   case htl4=>simp only[pick,lE1,lE2,lE3];rfl
   simp only[Act.put,lE4,lE5,lE6];repeat (go_big_quiet_step (fail))
   refine wpQuiet_nil ?_;obtain⟨⟨c0,c1,c2,c3,c4⟩,f0,f1,f2,f3,f4⟩:=adD n3;have hlt3:=aae n3;have HB3:=hE0 hb3;have HN3:=hE0 n3;clear hw3 hb3 n3 hC3 hL3;go_wp2
   exact⟨wd.heap.size,Nat.le_refl _,((((HB3.out.setCell (Nat.le_refl _) _).setCell (Nat.le_refl _) _).setCell (Nat.le_refl _) _).setCell (Nat.le_refl _) _).setCell (Nat.le_refl _) _,aqy HN3.out _ _ _ _ _,rfl⟩
 case cont=>
  rintro ex a' w2 ⟨rfl,p,hp,hb2,n2,rfl⟩;have hb02:=HB1.out.trans (hb2.mono HB1.out.size);have h2:=H1.out.below hb2;have k2:=h2.c0;have hlq2:=h2.lt;have hW:=alv w2 g base cap c A bs _ h2.ar hb62 (by rw[HNL.out];exact hl) HWK.out;dsimp only[ac0,Option.isSome,Option.getD,aav]at hW;have HW:=hE0 hW;have HB2:=hE0 hb02;have HN2:=hE0 n2;have HNR:=hE0 ((hb2.block w.heap.size (aae HN1.out)).trans HN1.out);have HPW:=hE0 (show p≠w.heap.size from fun e=>by have:=aae HN1.out;omega);have HPG:=hE0 (show w.heap.size<=p from Nat.le_trans HB1.out.size hp);have hpl2:=aae n2;clear h2 hW hb02 n2 hb2 hp HB1 HN1 HLN HCP H1 HW1 HWD hlq k0;go_wp2_with fail
  refine HW.out.mono ?_;rintro e w3 ⟨A3,c3,rfl,ho3,hb3⟩;have hcl:l.length<=c3/\c3<=9223372036854775807:=by
   rcases ho3.2 with⟨h',h0⟩ | ⟨_,_,_,h',_,_,h1,h2,_⟩
   · injection h' with _ _ e;rw[h0,e];omega
   · injection h' with _ _ e;unfold maxLen at h2;omega
  have HRB:Hid (∀a,A3=some a->w2.heap.size<=a.block):=fun a e=>by subst e;exact(ho3.lt a.block rfl).1
  have HR:=hE0 (BkRd.of_own ho3);have HN3:=hE0 ((hb3.block p hpl2).trans HN2.out);have HNR3:=hE0 ((hb3.block w.heap.size (aae HNR.out)).trans HNR.out);have HB3:=hE0 (HB2.out.trans (hb3.mono HB2.out.size));have hpl3:=Nat.lt_of_lt_of_le hpl2 hb3.size;clear ho3 hb3 HW HN2 HNR HB2 k2;go_wp2
  go_loopw [29] (fun t wr=>∃j:Nat,t= .int .i64 (j:Int)/\j<=l.length/\Tch (fun k=>k=p) w3 wr/\wr.heap[p]?=some (.cells (aqx (abu (l.take j)).1 (abu (l.take j)).2.1 (abu (l.take j)).2.2 n cap) 48 (0,0))) (fun t _=>l.length-(intOf t).toNat)
  case atStart=>exact⟨0,rfl,Nat.zero_le _,Tch.refl _ _,by rw[List.take_zero];exact HN3.out⟩
  case round=>
   obtain⟨j,rfl,hj,ht,hr⟩:=hrel;have hle:=amW (l.take j);have hsb:=afQ l j;have hlt0:(l.take j).length<=512:=by rw[List.length_take];omega
   have nR:=(ht.block w.heap.size (aae HNR3.out) (Ne.symm HPW.out)).trans HNR3.out;have hfin:Below w.heap.size w wr:=HB3.out.trans (ht.below (fun k hk=>by rw[hk];exact HPG.out) HB3.out.size);by_cases hlt:j<l.length
   · obtain⟨x,hx⟩:∃x,l[j]?=some x:=⟨l[j],List.getElem?_eq_getElem hlt⟩;have htk:l.take (j+1)=l.take j++ [x]:=by
      rw[List.take_add_one,hx];rfl
     have hsn:=aoc (l.take j) x;rw[<-htk]at hsn;have hsz:=HBD.out x (List.mem_of_getElem? hx);have hle2:=amW (l.take (j+1));have hsb2:=afQ l (j+1);obtain⟨b2,q2,rfl,hbb,hcl2⟩:=HR.out (by omega);have hb2p:¬(fun k=>k=p) b2:=fun e=>by
      have e:b2=p:=e;have:=HRB.out _ rfl;dsimp only at this;omega
     obtain⟨p0,p1,p2⟩:=hcl2 j x hx;have r0:=ht.cell p0 hb2p;have r1:=ht.cell p1 hb2p;have r2:=ht.cell p2 hb2p;obtain⟨xo,xs,xu⟩:=x;dsimp only at p0 p1 p2 r0 r1 r2 hsz hsn;obtain⟨s1,hs1⟩:=nmE ((abu (l.take j)).1);obtain⟨s2,hs2⟩:=nmE ((abu (l.take j)).2.1);obtain⟨s3,hs3⟩:=nmE ((abu (l.take j)).2.2);rw[hs1,hs2,hs3]at hr hle hsn;have hS:Hid (s1<=512/\s2<=512/\s3<=16384):=(show _ from⟨by omega,by omega,by omega⟩);obtain⟨hs1',hs2',hs3'⟩:=hS.out;obtain⟨w4,hw4⟩:=nmE (wr.alloc (.cells #[.int .i64 (xo:Int), .int .i64 (xs:Int), .bool xu] 112));have hb4:=abE hw4;have n4:=anE hw4;have r4:=(hb4.block p (aae hr)).trans hr;have T4:=hE0 (ht.trans (Tch.of_below (S:=fun k=>k=p) hb4) (fun _ _ h=>h));obtain⟨⟨d0,d1,d2⟩,_⟩:=aad n4;have hlt4:=aac n4;have hltp:=aac r4;obtain⟨⟨v0,v1,v2,v3,v4⟩,f0,f1,f2,f3,f4⟩:=adD r4;have HW4:=hE0 hw4;have HR4:=hE0 r4;have HN4:=hE0 n4;have HPN:=hE0 (show wr.heap.size≠p from fun e=>by have:=aae hr;omega)
     cases xu with
     | true=>
      rw[if_pos rfl]at hsn;have HUS:=hE0 (fun W=>abS W (xo:Int) xs true (by omega) (by omega));obtain⟨L,hL⟩:=nmE (xs-16);rw[hL]at HUS hsn;have hL14:L<=16384:=by omega
      obtain⟨s5,hs5⟩:=nmE (s1+1);obtain⟨s6,hs6⟩:=nmE (s3+L);have e5:(s1:Int)+1=(s5:Int):=by omega
      have e6:(s3:Int)+(L:Int)=(s6:Int):=by omega
      rw[hs5,hs6]at hsn;have HSN:=hE0 hsn;have hs5':s5<=513:=by omega
      have hs6':s6<=32768:=by omega
      obtain⟨w5,hw5⟩:=nmE (w4.setCell ⟨p,0,none⟩ (.int .i64 (s5:Int)));obtain⟨we,hwe⟩:=nmE w5.drew;have r5:we.heap[p]?=some (.cells (aqx s5 s2 s3 n cap) 48 (0,0)):=by
       rw[<-hwe,<-hw5];exact heap_setCell_same w4 p 0 _ _ (.int .i64 (s5:Int)) r4
      have n5:we.heap[wr.heap.size]?=some (.cells #[.int .i64 (xo:Int), .int .i64 (xs:Int), .bool true] 112 (0,0)):=by
       rw[<-hwe,<-hw5];exact(Below.heap_setCell w4 ⟨p,0,none⟩ _ wr.heap.size HPN.out).trans n4
      have T5:Tch (fun k=>k=p) w3 we:=by
       rw[<-hwe,<-hw5];exact(T4.out.trans (Tch.set (S:=fun k=>k=p) w4 ⟨p,0,none⟩ _ rfl) (fun _ _ h=>h)).drew
      have HW5:=hE0 hw5;have HWE:=hE0 hwe;have HR5:=hE0 r5;have HT5:=hE0 T5;have hlt5:=aac n5;have hltp5:=aac r5;obtain⟨⟨e0,e1,e2⟩,_⟩:=aad n5;obtain⟨⟨u0,u1,u2,u3,u4⟩,_⟩:=adD r5;clear hx htk hsn hsz hcl2 p0 p1 p2 ht hr hs1 hs2 hs3 hle hsb hlt0 hle2 hsb2 nR hfin hw4 hb4 n4 r4 hL hS hw5 hwe r5 n5 T5 T4 HR4 HN4 hs5 hs6;go_wp2_with (first | (rw[HW4.out]) | (rw[HW5.out]) | fail)
      refine aao we.heap.size [([0,1,2],3)] [4,5,6] [7] (by kernel_rfl) (by kernel_rfl) (by kernel_rfl) (fun _ _ _ _ _ h=>h) ?_;rw[HWE.out];have q0:=tfE u2 hltp5;have q1:=tfE e0 hlt5;have q2:=tfE e1 hlt5;have q3:=tfE e2 hlt5;refine tail_cons (l:= ?seg5) ?hseg5 ?_
      case hseg5=>simp only[pick,lE1,lE2,lE3];rfl
      repeat (go_big_quiet_step (fail))
      refine wpQuiet_nil ?_;clear q0 q1 q2 q3 u0 u1 u2 u3 u4 e0 e1 e2 v0 v1 v2 v3 v4 f0 f1 f2 f3 f4 d0 d1 d2 hlt4 hltp;refine aar (vs:= #[.agg #[.int .i64 (xo:Int), .int .i64 (xs:Int), .bool true]]) Tryz.call110 rfl rfl rfl (R:=fun r w'=>r= .int .u64 (L:Int)/\Below we.heap.size we w') ((HUS.out we).mono ?_) we.heap.size (Nat.le_refl _) ?_
      · rintro e w' ⟨rfl,hb⟩;exact⟨_,rfl,hb,rfl,hb⟩
      rintro r w6 _ ⟨rfl,hb6⟩;have r6:=(hb6.block p hltp5).trans HR5.out;obtain⟨⟨u0,u1,u2,u3,u4⟩,f0,f1,f2,f3,f4⟩:=adD r6;have hlt6:=aac r6;have HFN:Hid (Tch (fun k=>k=p) w3 (w6.setCell ⟨p,2,none⟩ (.int .i64 (s6:Int)))/\(w6.setCell ⟨p,2,none⟩ (.int .i64 (s6:Int))).heap[p]?=some (.cells (aqx s5 s2 s6 n cap) 48 (0,0))):=
       ⟨(HT5.out.trans (Tch.of_below (S:=fun k=>k=p) hb6) (fun _ _ h=>h)).trans (Tch.set (S:=fun k=>k=p) w6 ⟨p,2,none⟩ _ rfl) (fun _ _ h=>h),heap_setCell_same w6 p 2 _ _ (.int .i64 (s6:Int)) r6⟩
      clear hb6 r6;refine aaH (l:= ?la6) (t:= ?tl6) ?hla6 ?htl6 ?_
      case hla6=>simp only[pick,lE1,lE2,lE3];rfl
      case htl6=>simp only[pick,lE1,lE2,lE3];rfl
      simp only[Act.put,lE4,lE5,lE6];repeat (go_big_quiet_step (fail))
      refine wpQuiet_nil ?_;go_wp2
      go_roundw
      case rel=>exact⟨j+1,by go_num,by omega,HFN.out.1,by rw[HSN.out];exact HFN.out.2⟩
      case measure=>simp only[intOf];omega
     | false=>
      rw[if_neg (by decide)]at hsn;obtain⟨s5,hs5⟩:=nmE (s2+1);have e5:(s2:Int)+1=(s5:Int):=by omega
      rw[hs5]at hsn;have HSN:=hE0 hsn;have hs5':s5<=513:=by omega
      have HFN:Hid (Tch (fun k=>k=p) w3 (w4.setCell ⟨p,1,none⟩ (.int .i64 (s5:Int)))/\(w4.setCell ⟨p,1,none⟩ (.int .i64 (s5:Int))).heap[p]?=some (.cells (aqx s1 s5 s3 n cap) 48 (0,0))):=
       ⟨T4.out.trans (Tch.set (S:=fun k=>k=p) w4 ⟨p,1,none⟩ _ rfl) (fun _ _ h=>h),heap_setCell_same w4 p 1 _ _ (.int .i64 (s5:Int)) r4⟩
      clear hx htk hsn hsz hcl2 p0 p1 p2 ht hr hs1 hs2 hs3 hle hsb hlt0 hle2 hsb2 nR hfin hw4 hb4 n4 r4 hS hs5 T4 HR4 HN4;go_wp2_with (first | (rw[HW4.out]) | fail)
      go_roundw
      case rel=>exact⟨j+1,by go_num,by omega,HFN.out.1,by rw[HSN.out];exact HFN.out.2⟩
      case measure=>simp only[intOf];omega
   · have htl:l.take j=l:=List.take_of_length_le (by omega);rw[htl,HZ.out.1,HZ.out.2.1,HZ.out.2.2]at hr;obtain⟨⟨v0,v1,v2,v3,v4⟩,_⟩:=adD hr;obtain⟨⟨c0,c1,c2,c3',c4⟩,f0,f1,f2,f3,f4⟩:=adD nR;have hltr:=aac nR;have hltp:=aac hr;have NR:=hE0 nR;have HF:=hE0 hfin;clear hr hle hsb hlt0 ht nR hfin htl;go_wp2
     (try simp only[Exit.inBlock,Exit.then])
     refine aul (g:=w.heap.size) (x0:=(z1:Int)) (x1:=(z2:Int)) (x2:=(z3:Int)) (x3:=(n:Int)) (x4:=(cap:Int)) Tryz.results52 ?_ ?_ (aqy NR.out _ _ _ _ _) ?_
     · rfl
     · rfl
     · exact⟨rfl,((((HF.out.setCell (Nat.le_refl _) _).setCell (Nat.le_refl _) _).setCell (Nat.le_refl _) _).setCell (Nat.le_refl _) _).setCell (Nat.le_refl _) _⟩
end
end Go.Proofs.YtncadccbepjekaaGreatDoor
