/- Texts of mine, joined. -/
import Derived.WalkKit
import Derived.LaidEql
import Derived.Stop.Asserts
import Derived.RowKitTokens
import Derived.Test.YtnicenfdlfffpaaGreatDoorM7
set_option maxRecDepth 100000
set_option maxHeartbeats 4000000
namespace Go.Proofs.YtnicenfdlfffpaaGreatDoor
open Go.RowKit
def RezTold (g base cap : Nat) (A : Option Addr) (bs : List UInt8) (H : Hp) (o : Int) (r : (Nat × Int) × Hp) (w : World) (e : Ending) (w' : World) : Prop :=
 (r.1.2 = 0 -> e = .returned (.tuple #[.int .i64 (r.1.1 : Int), aaz true 0]) /\ ∃ out, Became 79 g base cap A out w w' /\ Rt out r.2 /\ Held H bs r.2 out /\ agK H bs o r.2 out r.1.1) /\
 (r.1.2 ≠ 0 -> e = .returned (.tuple #[.int .i64 0, aaz false r.1.2]) /\ Below w.heap.size w w')
def ao1 : Prop := ∀ (w : World) (g base cap c : Nat) (A : Option Addr) (bs : List UInt8) (H : Hp) (o s : Int), Ar w 79 g base cap A c bs -> base <= 4611686018427387904 -> cap <= 16384 -> H.cap = cap -> Rt bs H -> (-9223372036854775808 <= o /\ o <= 9223372036854775807) -> (-9223372036854775808 <= s /\ s <= 9223372036854775807) ->
 (aaG s = false -> Calls Tryz.prog 59 #[.pointer (some ⟨g, 0, none⟩), .int .i64 o, .int .i64 s] w fun e w' => e = .returned (.tuple #[.int .i64 0, aaz false 1]) /\ Below w.heap.size w w') /\
 (aaG s = true -> Calls Tryz.prog 59 #[.pointer (some ⟨g, 0, none⟩), .int .i64 o, .int .i64 s] w fun e w' => RezTold g base cap A bs H o (H.resize o s.toNat) w e w')
section
variable {w w1 : World} {g base cap c : Nat} {A : Option Addr} {bs b1 b2 : List UInt8}
theorem af2 (o : Int) :
 Calls Tryz.prog 123 #[.int .i64 o, .nilIface] w fun e w' => e = .returned (.tuple #[.int .i64 o, .nilIface]) /\ w' = w := by
 go_enter Tryz.func123, Tryz.ntmps123
 go_wp2
 go_ret2
 exact ⟨rfl, rfl⟩
theorem af3 (h : Ar w 79 g base cap A c bs) (hb : base <= 4611686018427387904) (o : Nat) (ho : o <= 16384) :
 Calls Tryz.prog 137 #[.pointer (some ⟨g, 0, none⟩), .int .i64 (o : Int)] w fun e w' => e = .returned (.int .u64 ((base + o + 8 : Nat) : Int)) /\ w = w' := by
 have HB := hE0 (acu h); have e1 : IntKind.u64.wrap (o : Int) = (o : Int) := IntWalk.u64_in _ (by omega); have e2 : IntKind.u64.wrap ((base : Int) + (o : Int)) = (base : Int) + (o : Int) := IntWalk.u64_in _ (by omega); have e3 : IntKind.u64.wrap ((base : Int) + (o : Int) + 8) = (base : Int) + (o : Int) + 8 := IntWalk.u64_in _ (by omega); clear h; go_enter Tryz.func137, Tryz.ntmps137
 go_wp2_with fail
 with_reducible refine HB.out.mono ?_
 rintro e w' ⟨rfl, rfl⟩; go_wp2
 go_ret
 exact ⟨by push_cast; rfl, rfl⟩
theorem aiK (h : Ar w 79 g base cap A c bs) (hb : base <= 4611686018427387904) (hl : bs.length <= 16384) (xo xs : Nat) (hxo : xo <= 16384) (hxs : xs <= 16384) (hy : abt bs ((xo : Int) + (xs : Int)) = none) :
 Calls Tryz.prog 121 #[.pointer (some ⟨g, 0, none⟩), .agg #[.int .i64 (xo : Int), .int .i64 (xs : Int), .bool true]] w fun e w' => e = .returned (frV 0 none) /\ Below w.heap.size w w' := by
 obtain ⟨w0, hw0⟩ := nmE (w.alloc (.cells #[.int .i64 (xo : Int), .int .i64 (xs : Int), .bool true] 81)); have hb0 := abE hw0; have n0 := anE hw0; have z0 : w0.heap.size = w.heap.size + 1 := by rw [<- hw0]; simp only [World.alloc, Array.size_push]
 obtain ⟨w1, hw1⟩ := nmE (w0.alloc (.cells #[.int .i64 0, .int .i64 0, .bool false] 81)); have hb1 : Below w.heap.size w w1 := by rw [<- hw1]; exact hb0.alloc hb0.size _
 have hn1 : w1.heap[w.heap.size + 1]? = some (.cells #[.int .i64 0, .int .i64 0, .bool false] 81 (0, 0)) := by rw [<- hw1, <- z0]; exact heap_alloc_new w0 _
 have n1 : w1.heap[w.heap.size]? = some (.cells #[.int .i64 (xo : Int), .int .i64 (xs : Int), .bool true] 81 (0, 0)) := by rw [<- hw1]; exact (heap_alloc_old _ _ (aab n0)).trans n0
 have h1 := h.below hb1; have hG := ahq w1 g base cap c A bs ((xo : Int) + (xs : Int)) _ h1 hb hl ⟨by omega, by omega⟩ hy; dsimp only [aaL, bkV, Bk.val, Option.isSome, aaz] at hG; have HG := hE0 hG; have HW0 := hE0 hw0; have HW1 := hE0 hw1; have HB1 := hE0 hb1; have HN1 := hE0 hn1; obtain ⟨⟨d0, d1, d2⟩, _⟩ := aad n1; have hlt1 := aaa n1; clear hG hy hw0 hw1 hb0 hb1 n0 n1 hn1 h1 h z0; go_enter Tryz.func121, Tryz.ntmps121
 go_wp2_with (first | (rw [HW0.out, HW1.out]) | fail)
 clear d0 d1 d2 hlt1
 with_reducible refine HG.out.mono ?_
 rintro e w2 ⟨rfl, hb2⟩; have hn2 := (hb2.block _ (aab HN1.out)).trans HN1.out; have HB2 := hE0 (HB1.out.trans (hb2.mono HB1.out.size)); have HN2 := hE0 hn2; clear hb2 hn2 HG; obtain ⟨⟨c0, c1, c2⟩, f0, f1, f2⟩ := aad HN2.out; have hlt := aaa HN2.out; go_wp2
 (try simp only [Exit.inBlock, Exit.then])
 refine acA (g := w.heap.size + 1) (o := 0) (s := 0) (b := false) Tryz.results121 ?_ ?_ ((heap_alloc_old _ _ (aab (aaC HN2.out _ _ _))).trans (aaC HN2.out _ _ _)) ?_
 · rfl
 · rfl
 · refine ⟨rfl, Below.alloc (((HB2.out.setCell ?_ _).setCell ?_ _).setCell ?_ _) ?_ _⟩
   · exact Nat.le_succ _
   · exact Nat.le_succ _
   · exact Nat.le_succ _
   · simp only [World.setCell]; have h9 := HB2.out.size; simpa using h9
theorem aiL (h : Ar w 79 g base cap A c bs) (hb : base <= 4611686018427387904) (hl : bs.length <= 16384) (xo xs : Nat) (hxo : xo <= 16384) (hxs : xs <= 16384) (yo ys : Nat) (hy : abt bs ((xo : Int) + (xs : Int)) = some ⟨yo, ys, true⟩) :
 Calls Tryz.prog 121 #[.pointer (some ⟨g, 0, none⟩), .agg #[.int .i64 (xo : Int), .int .i64 (xs : Int), .bool true]] w fun e w' => e = .returned (frV 0 none) /\ Below w.heap.size w w' := by
 obtain ⟨w0, hw0⟩ := nmE (w.alloc (.cells #[.int .i64 (xo : Int), .int .i64 (xs : Int), .bool true] 81)); have hb0 := abE hw0; have n0 := anE hw0; have z0 : w0.heap.size = w.heap.size + 1 := by rw [<- hw0]; simp only [World.alloc, Array.size_push]
 obtain ⟨w1, hw1⟩ := nmE (w0.alloc (.cells #[.int .i64 0, .int .i64 0, .bool false] 81)); have hb1 : Below w.heap.size w w1 := by rw [<- hw1]; exact hb0.alloc hb0.size _
 have hn1 : w1.heap[w.heap.size + 1]? = some (.cells #[.int .i64 0, .int .i64 0, .bool false] 81 (0, 0)) := by rw [<- hw1, <- z0]; exact heap_alloc_new w0 _
 have n1 : w1.heap[w.heap.size]? = some (.cells #[.int .i64 (xo : Int), .int .i64 (xs : Int), .bool true] 81 (0, 0)) := by rw [<- hw1]; exact (heap_alloc_old _ _ (aab n0)).trans n0
 have h1 := h.below hb1; have hG := ahq w1 g base cap c A bs ((xo : Int) + (xs : Int)) _ h1 hb hl ⟨by omega, by omega⟩ hy; dsimp only [aaL, bkV, Bk.val, Option.isSome, aaz] at hG; have HG := hE0 hG; have HW0 := hE0 hw0; have HW1 := hE0 hw1; have HB1 := hE0 hb1; have HN1 := hE0 hn1; obtain ⟨⟨d0, d1, d2⟩, _⟩ := aad n1; have hlt1 := aaa n1; clear hG hy hw0 hw1 hb0 hb1 n0 n1 hn1 h1 h z0; go_enter Tryz.func121, Tryz.ntmps121
 go_wp2_with (first | (rw [HW0.out, HW1.out]) | fail)
 clear d0 d1 d2 hlt1
 with_reducible refine HG.out.mono ?_
 rintro e w2 ⟨rfl, hb2⟩; have hn2 := (hb2.block _ (aab HN1.out)).trans HN1.out; have HB2 := hE0 (HB1.out.trans (hb2.mono HB1.out.size)); have HN2 := hE0 hn2; clear hb2 hn2 HG; obtain ⟨⟨c0, c1, c2⟩, f0, f1, f2⟩ := aad HN2.out; have hlt := aaa HN2.out; go_wp2
 (try simp only [Exit.inBlock, Exit.then])
 refine acA (g := w.heap.size + 1) (o := 0) (s := 0) (b := false) Tryz.results121 ?_ ?_ ((heap_alloc_old _ _ (aab (aaC HN2.out _ _ _))).trans (aaC HN2.out _ _ _)) ?_
 · rfl
 · rfl
 · refine ⟨rfl, Below.alloc (((HB2.out.setCell ?_ _).setCell ?_ _).setCell ?_ _) ?_ _⟩
   · exact Nat.le_succ _
   · exact Nat.le_succ _
   · exact Nat.le_succ _
   · simp only [World.setCell]; have h9 := HB2.out.size; simpa using h9
theorem aiM (h : Ar w 79 g base cap A c bs) (hb : base <= 4611686018427387904) (hl : bs.length <= 16384) (xo xs : Nat) (hxo : xo <= 16384) (hxs : xs <= 16384) (yo ys : Nat) (hy : abt bs ((xo : Int) + (xs : Int)) = some ⟨yo, ys, false⟩) :
 Calls Tryz.prog 121 #[.pointer (some ⟨g, 0, none⟩), .agg #[.int .i64 (xo : Int), .int .i64 (xs : Int), .bool true]] w fun e w' => e = .returned (frV 0 (some ⟨yo, ys, false⟩)) /\ Below w.heap.size w w' := by
 obtain ⟨w0, hw0⟩ := nmE (w.alloc (.cells #[.int .i64 (xo : Int), .int .i64 (xs : Int), .bool true] 81)); have hb0 := abE hw0; have n0 := anE hw0; have z0 : w0.heap.size = w.heap.size + 1 := by rw [<- hw0]; simp only [World.alloc, Array.size_push]
 obtain ⟨w1, hw1⟩ := nmE (w0.alloc (.cells #[.int .i64 0, .int .i64 0, .bool false] 81)); have hb1 : Below w.heap.size w w1 := by rw [<- hw1]; exact hb0.alloc hb0.size _
 have hn1 : w1.heap[w.heap.size + 1]? = some (.cells #[.int .i64 0, .int .i64 0, .bool false] 81 (0, 0)) := by rw [<- hw1, <- z0]; exact heap_alloc_new w0 _
 have n1 : w1.heap[w.heap.size]? = some (.cells #[.int .i64 (xo : Int), .int .i64 (xs : Int), .bool true] 81 (0, 0)) := by rw [<- hw1]; exact (heap_alloc_old _ _ (aab n0)).trans n0
 have h1 := h.below hb1; have hG := ahq w1 g base cap c A bs ((xo : Int) + (xs : Int)) _ h1 hb hl ⟨by omega, by omega⟩ hy; dsimp only [aaL, bkV, Bk.val, Option.isSome, aaz] at hG; have HG := hE0 hG; have HW0 := hE0 hw0; have HW1 := hE0 hw1; have HB1 := hE0 hb1; have HN1 := hE0 hn1; obtain ⟨⟨d0, d1, d2⟩, _⟩ := aad n1; have hlt1 := aaa n1; clear hG hy hw0 hw1 hb0 hb1 n0 n1 hn1 h1 h z0; go_enter Tryz.func121, Tryz.ntmps121
 go_wp2_with (first | (rw [HW0.out, HW1.out]) | fail)
 clear d0 d1 d2 hlt1
 with_reducible refine HG.out.mono ?_
 rintro e w2 ⟨rfl, hb2⟩; have hn2 := (hb2.block _ (aab HN1.out)).trans HN1.out; have HB2 := hE0 (HB1.out.trans (hb2.mono HB1.out.size)); have HN2 := hE0 hn2; clear hb2 hn2 HG; obtain ⟨⟨c0, c1, c2⟩, f0, f1, f2⟩ := aad HN2.out; have hlt := aaa HN2.out; go_wp2
 (try simp only [Exit.inBlock, Exit.then])
 refine acA (g := w.heap.size + 1) (o := (yo : Int)) (s := (ys : Int)) (b := false) Tryz.results121 ?_ ?_ ((heap_alloc_old _ _ (aab (aaC HN2.out _ _ _))).trans (aaC HN2.out _ _ _)) ?_
 · rfl
 · rfl
 · refine ⟨rfl, Below.alloc (((HB2.out.setCell ?_ _).setCell ?_ _).setCell ?_ _) ?_ _⟩
   · exact Nat.le_succ _
   · exact Nat.le_succ _
   · exact Nat.le_succ _
   · simp only [World.setCell]; have h9 := HB2.out.size; simpa using h9
theorem adK (h : Ar w 79 g base cap A c bs) (hb : base <= 4611686018427387904) (hl : bs.length <= 16384) (xo xs : Nat) (hxo : xo <= 16384) (hxs : xs <= 16384) (y : Option Bk) (hy : frO (abt bs ((xo : Int) + (xs : Int))) = y) :
 Calls Tryz.prog 121 #[.pointer (some ⟨g, 0, none⟩), .agg #[.int .i64 (xo : Int), .int .i64 (xs : Int), .bool true]] w fun e w' => e = .returned (frV 0 y) /\ Below w.heap.size w w' := by
 subst hy
 cases hg : abt bs ((xo : Int) + (xs : Int)) with
 | none => exact aiK h hb hl xo xs hxo hxs hg
 | some x =>
  obtain ⟨yo, ys, yu⟩ := x
  cases yu with
  | true => exact aiL h hb hl xo xs hxo hxs yo ys hg
  | false => exact aiM h hb hl xo xs hxo hxs yo ys hg
theorem ao2 (h : Became 79 g base cap A b1 w w1) (hb : base <= 4611686018427387904) (hl : b1.length <= 16384) (o : Nat) (ho : o <= 16384) (hy : adR b1 (o : Int) = some b2) :
 Calls Tryz.prog 134 #[.pointer (some ⟨g, 0, none⟩), .int .i64 (o : Int)] w1 fun e w2 => e = .returned .nilIface /\ Became 79 g base cap A b2 w w2 /\ Loc w1 w2 := by
 obtain ⟨A', c', a, tc, k⟩ := h; refine (apz w1 g base cap c' A' b1 (o : Int) _ a hb hl (by omega) hy).mono ?_; rintro e w2 ⟨h1, h2⟩; have h2' := h2; obtain ⟨_, _, _, ht, _⟩ := h2'; exact ⟨h1, Became.trans a tc k h2, Loc.tch a ht⟩
end
section
variable {w w1 : World} {g base cap c : Nat} {A : Option Addr} {bs b1 b2 : List UInt8}
theorem alJ (h : Became 79 g base cap A bs w w1) (hb : base <= 4611686018427387904) (hl : bs.length <= 16384) (xo xs n : Nat) (ho : xo <= 16384) (hn : n <= 16384) (hy : adM bs (xo : Int) (n : Int) true = some b2) :
 Calls Tryz.prog 122 #[.pointer (some ⟨g, 0, none⟩), .agg #[.int .i64 (xo : Int), .int .i64 (xs : Int), .bool true], .agg #[.int .i64 0, .int .i64 0, .bool false], .int .i64 (n : Int)] w1 fun e w2 => e = .returned (.tuple #[]) /\ Became 79 g base cap A b2 w w2 := by
 obtain ⟨w0, hw0⟩ := nmE (w1.alloc (.cells #[.int .i64 (xo : Int), .int .i64 (xs : Int), .bool true] 81)); have B0 := abm h (.cells #[.int .i64 (xo : Int), .int .i64 (xs : Int), .bool true] 81); rw [hw0] at B0; have n0 := anE hw0; have z0 : w0.heap.size = w1.heap.size + 1 := by rw [<- hw0]; simp only [World.alloc, Array.size_push]
 obtain ⟨w2, hw2⟩ := nmE (w0.alloc (.cells #[.int .i64 0, .int .i64 0, .bool false] 81)); have B2 := abm B0 (.cells #[.int .i64 0, .int .i64 0, .bool false] 81); rw [hw2] at B2; have m2 : w2.heap[w1.heap.size + 1]? = some (.cells #[.int .i64 0, .int .i64 0, .bool false] 81 (0, 0)) := by rw [<- hw2, <- z0]; exact heap_alloc_new w0 _
 have n2 : w2.heap[w1.heap.size]? = some (.cells #[.int .i64 (xo : Int), .int .i64 (xs : Int), .bool true] 81 (0, 0)) := by rw [<- hw2]; exact (heap_alloc_old _ _ (aab n0)).trans n0
 have HS := hE0 (af1 B2 hb hl xo n true ho hn hy); have HW0 := hE0 hw0; have HW2 := hE0 hw2; obtain ⟨⟨d0, d1, d2⟩, _⟩ := aad n2; have hlt1 := aaa n2; obtain ⟨⟨c0, c1, c2⟩, _⟩ := aad m2; have hlt2 := aaa m2; clear hw0 hw2 B0 B2 n0 n2 m2 z0 hy h; go_enter Tryz.func122, Tryz.ntmps122
 go_wp2_with (first | (rw [HW0.out, HW2.out]) | fail)
 refine HS.out.mono ?_; rintro e w3 ⟨rfl, hB3, _⟩; have HB3 := hE0 hB3; clear hB3 HS d0 d1 d2 c0 c1 c2 hlt1 hlt2; go_wp2
 go_end0
 exact ⟨rfl, HB3.out⟩
theorem alK (h : Became 79 g base cap A bs w w1) (hb : base <= 4611686018427387904) (hl : bs.length <= 16384) (xo xs yo ys n : Nat) (ho : xo <= 16384) (hyo : yo <= 16384) (hys : (0 : Int) < (ys : Int)) (hn : n <= 16384) (hl1 : b1.length <= 16384) (ht : adR bs (yo : Int) = some b1) (hy : adM b1 (xo : Int) (n : Int) true = some b2) :
 Calls Tryz.prog 122 #[.pointer (some ⟨g, 0, none⟩), .agg #[.int .i64 (xo : Int), .int .i64 (xs : Int), .bool true], .agg #[.int .i64 (yo : Int), .int .i64 (ys : Int), .bool false], .int .i64 (n : Int)] w1 fun e w2 => e = .returned (.tuple #[]) /\ Became 79 g base cap A b2 w w2 := by
 obtain ⟨w0, hw0⟩ := nmE (w1.alloc (.cells #[.int .i64 (xo : Int), .int .i64 (xs : Int), .bool true] 81)); have B0 := abm h (.cells #[.int .i64 (xo : Int), .int .i64 (xs : Int), .bool true] 81); rw [hw0] at B0; have n0 := anE hw0; have z0 : w0.heap.size = w1.heap.size + 1 := by rw [<- hw0]; simp only [World.alloc, Array.size_push]
 obtain ⟨w2, hw2⟩ := nmE (w0.alloc (.cells #[.int .i64 (yo : Int), .int .i64 (ys : Int), .bool false] 81)); have B2 := abm B0 (.cells #[.int .i64 (yo : Int), .int .i64 (ys : Int), .bool false] 81); rw [hw2] at B2; have m2 : w2.heap[w1.heap.size + 1]? = some (.cells #[.int .i64 (yo : Int), .int .i64 (ys : Int), .bool false] 81 (0, 0)) := by rw [<- hw2, <- z0]; exact heap_alloc_new w0 _
 have n2 : w2.heap[w1.heap.size]? = some (.cells #[.int .i64 (xo : Int), .int .i64 (xs : Int), .bool true] 81 (0, 0)) := by rw [<- hw2]; exact (heap_alloc_old _ _ (aab n0)).trans n0
 have HT := hE0 (ao2 B2 hb hl yo hyo ht); have HS := hE0 (fun w3 (B3 : Became 79 g base cap A b1 w w3) => af1 B3 hb hl1 xo n true ho hn hy); have HW0 := hE0 hw0; have HW2 := hE0 hw2; have HN2 := hE0 n2; obtain ⟨⟨d0, d1, d2⟩, _⟩ := aad n2; have hlt1 := aaa n2; obtain ⟨⟨c0, c1, c2⟩, _⟩ := aad m2; have hlt2 := aaa m2; clear hw0 hw2 B0 B2 n0 n2 m2 z0 hy ht h; go_enter Tryz.func122, Tryz.ntmps122
 go_wp2_with (first | (rw [HW0.out, HW2.out]) | fail)
 refine HT.out.mono ?_; clear d0 d1 d2 c0 c1 c2 hlt1 hlt2; rintro e w3 ⟨rfl, hB3, hL3⟩; have n3 := hL3 _ _ HN2.out; have HS3 := hE0 (HS.out w3 hB3); obtain ⟨⟨d0, d1, d2⟩, _⟩ := aad n3; have hlt1 := aaa n3; clear hB3 hL3 n3 HT HS HN2; go_wp2_with fail
 refine HS3.out.mono ?_; clear d0 d1 d2 hlt1; rintro e w4 ⟨rfl, hB4, _⟩; have HB4 := hE0 hB4; clear hB4 HS3; go_wp2
 go_end0
 exact ⟨rfl, HB4.out⟩
theorem ajE (h : Became 79 g base cap A bs w w1) (hb : base <= 4611686018427387904) (hl : bs.length <= 16384) (xo xs n : Nat) (y : Option Bk) (ho : xo <= 16384) (hs : ∀ z, y = some z -> 0 < z.size /\ z.off <= 16384) (hn : n <= 16384) (hl1 : b1.length <= 16384) (ht : alu bs y = some b1) (hy : adM b1 (xo : Int) (n : Int) true = some b2) :
 Calls Tryz.prog 122 #[.pointer (some ⟨g, 0, none⟩), .agg #[.int .i64 (xo : Int), .int .i64 (xs : Int), .bool true], frV 0 y, .int .i64 (n : Int)] w1 fun e w2 => e = .returned (.tuple #[]) /\ Became 79 g base cap A b2 w w2 := by
 cases y with
 | none =>
  injection ht with ht; subst ht; exact alJ h hb hl xo xs n ho hn hy
 | some z =>
  have hz := hs z rfl; exact alK h hb hl xo xs z.off z.size n ho hz.2 (by omega) hn hl1 ht hy
end
theorem Held.moved {H H' : Hp} {bs out : List UInt8} {o : Int} {p : Nat} (h : Held H bs H' out) (hp : (p : Int) = o) : agK H bs o H' out p := by
 intro x hx hu hxo y hy hyu hyp i i1 i2 i3; have e : x.off = p := by omega
 have := h x hx hu y hy hyu (by omega) (x.off + i) (by omega) (by omega) (by omega); rw [e] at this ⊢; exact this
theorem Held.self (H : Hp) (bs : List UInt8) : Held H bs H bs := fun _ _ _ _ _ _ _ _ _ _ _ => rfl
theorem aiN {H : Hp} {p o : Int} : (H.moveD p o).lists = H.lists := by unfold Hp.moveD; split <;> rfl
section
variable {bs : List UInt8} {H : Hp}
theorem Rt.moveD {p o : Int} (h : Rt bs H) : Rt bs (H.moveD p o) := ⟨by rw [acD]; exact h.walk, fun c hc => by rw [aiN]; exact h.all_ c hc, h.chk, by rw [moveD_cap]; exact h.len⟩
theorem Rt.moved (h : Rt bs H) {s i q : Nat} (hs : aaG (s : Int) = true) {o : Int} (hi : aaK H.blks o = some i) {xo xs : Nat} (hx : aag H.blks i = ⟨xo, xs, true⟩) (hlt : xs < s) (hq : (H.take s).1 = some q) {bs1 : List UInt8} (h1 : Rt bs1 (H.take s).2) (hh1 : Held H bs (H.take s).2 bs1) :
 q + 8 + (xs - 16) <= bs1.length /\ xo + 8 + (xs - 16) <= bs1.length /\ 32 <= xs /\ Rt (lay bs1 (q + 8) ((bs1.drop (xo + 8)).take (xs - 16))) ((H.take s).2.moveD (q : Int) o) /\ (∃ j, aaK ((H.take s).2.moveD (q : Int) o).blks o = some j) /\
  ∀ H' out, Held ((H.take s).2.moveD (q : Int) o) (lay bs1 (q + 8) ((bs1.drop (xo + 8)).take (xs - 16))) H' out -> Held H bs H' out /\ agK H bs o H' out q := by
 obtain ⟨i1, i2, i3⟩ := adZ hi; have hxm : (⟨xo, xs, true⟩ : Bk) ∈ H.blks := by rw [<- hx]; exact List.mem_of_getElem? (aax i1)
 rw [hx] at i2; dsimp only at i2; have ht : abU 184 H.blks (Go.Proofs.YtnicenfdlfffpaaGreatDoor.lenB H.blks) := by rw [h.lenE]; exact (aaq h.walk).2.1
 have tm : ∀ z ∈ H.blks, z.used = true -> z ∈ (H.take s).2.blks := fun z hz hu => agG ht hs (fun j hj => by obtain ⟨a, _, c⟩ := h.found hs hj; exact ⟨a, c⟩) hz hu; obtain ⟨y, n1, n2, n3, n4, n5, n6⟩ := h.what hs hq; have ht1 := (aaq h1.walk).2.1; obtain ⟨y1, y2, y3, _⟩ := (aai _ _ _ ht1).2 y n1; obtain ⟨x1, x2, x3, _⟩ := (aai _ _ _ ht1).2 _ (tm _ hxm rfl); dsimp only at x1 x2 x3; have sx := (aac _).1 x3; have hap := n6 _ hxm rfl; dsimp only at hap; obtain ⟨cs, hcs⟩ := nmE ((bs1.drop (xo + 8)).take (xs - 16)); have hcl : cs.length = xs - 16 := by rw [<- hcs, List.length_take, List.length_drop]; omega
 rw [hcs]; have ag : afS bs1 (lay bs1 (q + 8) cs) y := aef (x := y) (q + 8) cs (by omega) (by omega) (by omega); have hR2 : Rt (lay bs1 (q + 8) cs) (H.take s).2 := h1.fill n1 n3 ag; refine ⟨by omega, by omega, by omega, hR2.moveD, ?_, fun H' out hH => ⟨?_, ?_⟩⟩
 · rw [acD]; obtain ⟨j, hj⟩ := List.mem_iff_getElem?.1 (tm _ hxm rfl); have := agP ht1 hj i2 rfl
   cases hu : aaK (H.take s).2.blks o with
   | none => rw [hu] at this; cases this
   | some k => exact ⟨k, rfl⟩
 · intro z hz hzu v hv hvu e k k1 k2 k3; have a := hH z (by rw [acD]; exact tm z hz hzu) hzu v hv hvu e k k1 k2 k3; have b := ag.2 k (by have := n6 z hz hzu; omega); have d := hh1 z hz hzu z (tm z hz hzu) hzu rfl k k1 k2 k2; rw [a, b, d]
 · intro x' hx' hxu' hxo' v hv hvu hvp k k1 k2 k3; obtain rfl : x' = ⟨xo, xs, true⟩ := by
    have sz := (aac _).1 ((aai _ _ _ ht).2 x' hx').2.2.1; rcases aa9 _ _ _ ht x' hx' _ hxm with e | e | e
    · exact e
    · dsimp only at e; omega
    · dsimp only at e; omega
   dsimp only at k2 ⊢; have a := hH y (by rw [acD]; exact n1) n3 v hv hvu (by omega) (q + k) (by omega) (by omega) (by omega); have b := ahz bs1 (q + 8) cs (by omega) (k - 8) (by omega); rw [show q + 8 + (k - 8) = q + k by omega] at b; have d : cs[k - 8]? = bs1[xo + k]? := by
    rw [<- hcs, List.getElem?_take_of_lt (by omega), List.getElem?_drop, show xo + 8 + (k - 8) = xo + k by omega]
   have f := hh1 _ hxm rfl _ (tm _ hxm rfl) rfl rfl (xo + k) (by dsimp only; omega) (by dsimp only; omega) (by dsimp only; omega); rw [a, b, d, f]
theorem Rt.wideHeld (h : Rt bs H) {A B1 : List Bk} {n : Option Bk} {xo xs t : Nat} (hb : H.blks = A ++ ⟨xo, xs, true⟩ :: (n.toList ++ B1)) (hf : ∀ y, n = some y -> y.used = false) (hxt : xs <= t) {b2 : List UInt8} {H' : Hp} (hb' : H'.blks = A ++ ⟨xo, t, true⟩ :: B1)
 (h1 : ∀ z ∈ H.blks, z.used = true -> z.off ≠ xo -> ∀ i, Pay z i -> b2[i]? = bs[i]?) (h2 : ∀ i, Pay ⟨xo, xs, true⟩ i -> b2[i]? = bs[i]?) {H'' : Hp} {out : List UInt8} (hH : Held H' b2 H'' out) : Held H bs H'' out := by
 intro z hz hzu v hv hvu e k k1 k2 k3; have ht : abU 184 H.blks (Go.Proofs.YtnicenfdlfffpaaGreatDoor.lenB H.blks) := by rw [h.lenE]; exact (aaq h.walk).2.1
 have hxm : (⟨xo, xs, true⟩ : Bk) ∈ H.blks := by rw [hb]; simp
 by_cases hzo : z.off = xo
 · obtain rfl : z = ⟨xo, xs, true⟩ := by
    have sz := (aac _).1 ((aai _ _ _ ht).2 z hz).2.2.1; have sx := (aac _).1 ((aai _ _ _ ht).2 _ hxm).2.2.1; dsimp only at sx; rcases aa9 _ _ _ ht z hz _ hxm with e | e | e
    · exact e
    · dsimp only at e; omega
    · dsimp only at e; omega
   dsimp only at k1 k2 e; rw [hH ⟨xo, t, true⟩ (by rw [hb']; simp) rfl v hv hvu e k k1 (by dsimp only; omega) k3, h2 k ⟨k1, k2⟩]
 · have hm : z ∈ H'.blks := by
    rw [hb]  at hz; rw [hb']; rcases List.mem_append.1 hz with hz | hz
    · simp [hz]
    · rcases List.mem_cons.1 hz with rfl | hz
      · exact absurd rfl hzo
      · rcases List.mem_append.1 hz with hz | hz
        · have := hf z (by simpa using hz); rw [hzu] at this; cases this
        · simp [hz]
   rw [hH z hm hzu v hv hvu e k k1 k2 k3, h1 z hz hzu hzo k ⟨k1, k2⟩]
end
section
variable {w : World} {g base cap c : Nat} {A : Option Addr} {bs : List UInt8} {H : Hp}
theorem ao3 (h : Ar w 79 g base cap A c bs) (hbase : base <= 4611686018427387904) (hcap : cap <= 16384) (hc : H.cap = cap) (hR : Rt bs H) (xo xs s : Nat) (hs : aaG (s : Int) = true) (hq : (H.take s).1 = none) :
 Calls Tryz.prog 124 #[.pointer (some ⟨g, 0, none⟩), .agg #[.int .i64 (xo : Int), .int .i64 (xs : Int), .bool true], .int .i64 (s : Int)] w fun e w' => e = .returned (.tuple #[.int .i64 0, aaz false 5]) /\ Below w.heap.size w w' := by
 have ss := (aac _).1 hs; obtain ⟨w0, hw0⟩ := nmE (w.alloc (.cells #[.int .i64 (xo : Int), .int .i64 (xs : Int), .bool true] 81)); have hb0 := abE hw0; have hT := (aoX w0 g base cap c A bs H (s : Int) (h.below hb0) hbase hcap hc hR ⟨by omega, by omega⟩).2 hs; rw [Int.toNat_natCast] at hT; unfold acz at hT; rw [hq] at hT; dsimp only [aaz] at hT ⊢; have HT := hE0 hT; have HW0 := hE0 hw0; have HB0 := hE0 hb0; clear hT hw0 hb0 h hR hq hs; go_enter Tryz.func124, Tryz.ntmps124
 go_wp2_with (first | (rw [HW0.out]) | fail)
 refine HT.out.mono ?_; rintro e w2 ⟨rfl, hb2⟩; have HB2 := hE0 (HB0.out.trans (hb2.mono HB0.out.size)); clear hb2 HT; go_wp2
 go_ret2
 exact ⟨rfl, HB2.out⟩
theorem anh (h : Ar w 79 g base cap A c bs) (hbase : base <= 4611686018427387904) (hcap : cap <= 16384) (hc : H.cap = cap) (hR : Rt bs H) {xo xs s i q : Nat} (hs : aaG (s : Int) = true) (hi : aaK H.blks (xo : Int) = some i) (hx : aag H.blks i = ⟨xo, xs, true⟩) (hlt : xs < s) (hq : (H.take s).1 = some q) :
 Calls Tryz.prog 124 #[.pointer (some ⟨g, 0, none⟩), .agg #[.int .i64 (xo : Int), .int .i64 (xs : Int), .bool true], .int .i64 (s : Int)] w fun e w' => e = .returned (.tuple #[.int .i64 (q : Int), aaz true 5]) /\ ∃ out, Became 79 g base cap A out w w' /\
  Rt out ((((H.take s).2.moveD (q : Int) (xo : Int)).giveO (xo : Int)).getD ((H.take s).2.moveD (q : Int) (xo : Int))) /\ Held H bs ((((H.take s).2.moveD (q : Int) (xo : Int)).giveO (xo : Int)).getD ((H.take s).2.moveD (q : Int) (xo : Int))) out /\
  agK H bs (xo : Int) ((((H.take s).2.moveD (q : Int) (xo : Int)).giveO (xo : Int)).getD ((H.take s).2.moveD (q : Int) (xo : Int))) out q := by
 have ss := (aac _).1 hs; obtain ⟨w0, hw0⟩ := nmE (w.alloc (.cells #[.int .i64 (xo : Int), .int .i64 (xs : Int), .bool true] 81)); have hb0 := abE hw0; have n0 := anE hw0; have h0 := h.below hb0; have hT := (aoX w0 g base cap c A bs H (s : Int) h0 hbase hcap hc hR ⟨by omega, by omega⟩).2 hs; rw [Int.toNat_natCast] at hT; unfold acz at hT; rw [hq] at hT; have hcap2 : (H.take s).2.cap = cap := take_cap.trans hc; have HM := hE0 (fun bs1 (h1 : Rt bs1 (H.take s).2) hh1 => hR.moved hs hi hx hlt hq h1 hh1); have HBD := hE0 (fun bs1 (h1 : Rt bs1 (H.take s).2) => h1.bound (by omega)); obtain ⟨H1, hH1⟩ := nmE ((H.take s).2); rw [hH1] at hT HM HBD hcap2 ⊢; have hcap3 : (H1.moveD (q : Int) (xo : Int)).cap = cap := moveD_cap.trans hcap2; obtain ⟨H2, hH2⟩ := nmE (H1.moveD (q : Int) (xo : Int)); rw [hH2] at HM hcap3 ⊢; dsimp only [aaz] at hT ⊢; have HT := hE0 hT; have HW0 := hE0 hw0; have HB0 := hE0 hb0; have HN0 := hE0 n0; have HA0 := hE0 h0; clear hT hw0 hb0 n0 h0 h hR hq hs hi hx hlt hH1 hH2 hc hcap2; go_enter Tryz.func124, Tryz.ntmps124
 go_wp2_with (first | (rw [HW0.out]) | fail)
 refine HT.out.mono ?_; rintro e w2 ⟨rfl, bs1, hB2, hR1, hh1⟩; obtain ⟨l1, l2, l3, hR2, ⟨j, hj⟩, hfin⟩ := HM.out bs1 hR1 hh1; have hbl := (HBD.out bs1 hR1).1; obtain ⟨bs2, hbs2⟩ := nmE (lay bs1 (q + 8) ((bs1.drop (xo + 8)).take (xs - 16))); rw [hbs2] at hR2 hfin; have hg : H2.giveO (xo : Int) = some (H2.give j) := by unfold Hp.giveO; rw [hj]; rfl
 have HGV := hE0 (show (H2.giveO (xo : Int)).getD H2 = H2.give j by rw [hg]; rfl); obtain ⟨A2, c2, a2, t2, k2⟩ := hB2; have n2 := Loc.tch HA0.out t2 _ _ HN0.out; obtain ⟨v1, hv1⟩ : ∃ v1 : Int, ((base + q + 8 : Nat) : Int) = v1 := ⟨_, rfl⟩; obtain ⟨v2, hv2⟩ : ∃ v2 : Int, ((base + xo + 8 : Nat) : Int) = v2 := ⟨_, rfl⟩; have H1 := hE0 (af3 a2.drew hbase q (by omega)); have H2' := hE0 (af3 a2.drew hbase xo (by omega)); have HC := hE0 (aof a2.drew (by omega) (base + q + 8) (base + xo + 8) (xs - 16) (q + 8) (xo + 8) (by omega) (by omega) (by omega) (by omega) (by omega) (by omega) (by omega) (by omega) (by omega)); rw [hbs2] at HC; rw [hv1] at H1 HC; rw [hv2] at H2' HC; have e16 : ((xs - 16 : Nat) : Int) = (xs : Int) - 16 := by omega
 rw [e16] at HC; have ew : IntKind.u64.wrap ((xs : Int) - 16) = (xs : Int) - 16 := IntWalk.u64_in _ (by omega); obtain ⟨⟨d0, d1, d2⟩, _⟩ := aad n2; have hlt2 := aaa n2; have HN2 := hE0 n2; have HGK := hE0 (fun w3 c3 A3 (a3 : Ar w3 79 g base cap A3 c3 bs2) => apQ w3 g base cap c3 A3 bs2 H2 (xo : Int) a3 hbase hcap hcap3 hR2 ⟨by omega, by omega⟩); rw [hg] at HGK; dsimp only [acO, aaz] at HGK; have HTR := hE0 (fun b3 w4 (k : Became 79 g base cap A2 b3 w2 w4) => Became.trans a2 t2 k2 k); have HFIN := hE0 hfin; clear hfin hR2 hj hg hR1 hh1 HM HBD HT HA0 HN0 n2 t2 k2 hbs2 hv1 hv2; go_wp2_with fail
 refine aaf w2.heap.size [([0, 1, 2, 4, 5, 6, 8, 9, 10, 11], 3), ([], 7)] [] [12] (by kernel_rfl) (by kernel_rfl) (by kernel_rfl) (fun _ _ _ _ _ h => h) ?_; have q0 : ∀ z : LaterB w2.heap.size w2.drew, z.val.cell? ⟨w.heap.size, 0, none⟩ = some (.int .i64 (xo : Int)) := fun z => (z.ext.cell (p := ⟨w.heap.size, 0, none⟩) hlt2).trans d0; have q1 : ∀ z : LaterB w2.heap.size w2.drew, z.val.cell? ⟨w.heap.size, 1, none⟩ = some (.int .i64 (xs : Int)) := fun z => (z.ext.cell (p := ⟨w.heap.size, 1, none⟩) hlt2).trans d1; refine aaj (l := ?seg1) ?hseg1 ?_
 case hseg1 => simp only [pick, lE1, lE2, lE3]; rfl
 repeat (go_big_quiet_step (fail))
 refine wpQuiet_nil ?_; clear q0 q1; refine aam (vs := #[.pointer (some ⟨g, 0, none⟩), .int .i64 (q : Int)]) Tryz.call137 rfl rfl rfl (R := fun r w' => r = .int .u64 v1 /\ w' = w2.drew) (H1.out.mono ?_) w2.heap.size (Nat.le_refl _) ?_
 · rintro e w' ⟨rfl, rfl⟩; exact ⟨_, rfl, Below.refl _ _, rfl, rfl⟩
 rintro r w3 _ ⟨rfl, rfl⟩; refine aaj (l := []) rfl ?_; refine wpQuiet_nil ?_; refine aam (vs := #[.pointer (some ⟨g, 0, none⟩), .int .i64 (xo : Int)]) Tryz.call137 rfl rfl rfl (R := fun r w' => r = .int .u64 v2 /\ w' = w2.drew) (H2'.out.mono ?_) w2.heap.size (Nat.le_refl _) ?_
 · rintro e w' ⟨rfl, rfl⟩; exact ⟨_, rfl, Below.refl _ _, rfl, rfl⟩
 rintro r w3 _ ⟨rfl, rfl⟩; refine aap (l := []) (t := ?tl1) rfl ?htl1 ?_
 case htl1 => simp only [pick, lE1, lE2, lE3]; rfl
 refine wpQuiet_nil ?_; simp only [Act.put, lE4, lE5, lE6]; clear d0 d1 d2 hlt2 H1 H2'; go_wp2_with fail
 refine HC.out.mono ?_; rintro e w3 ⟨rfl, hB3⟩; have hB3' := hB3; obtain ⟨A3, c3, a3, t3, k3⟩ := hB3'; have n3 := Loc.tch a2.drew t3 _ _ HN2.out; have HG := hE0 (HGK.out w3 c3 A3 a3); have HTR3 := hE0 (fun b3 w4 (k : Became 79 g base cap A3 b3 w3 w4) => HTR.out b3 w4 (Became.of_drew (Became.trans a3 t3 k3 k))); obtain ⟨⟨d0, d1, d2⟩, _⟩ := aad n3; have hlt3 := aaa n3; clear hB3 HGK HTR n3 a3 t3 k3 HC HN2 a2; go_wp2_with fail
 refine HG.out.mono ?_; clear d0 d1 d2 hlt3; rintro e w4 ⟨rfl, out, hB4, hR4, hh4⟩; have hBo := HTR3.out out w4 hB4; have HBo := hE0 (hBo.after HB0.out); have HR4 := hE0 hR4; have HF4 := hE0 (HFIN.out _ _ hh4); have HS := hE0 (af2 (w := w4) (q : Int)); clear hB4 hBo hR4 hh4 HG HTR3 HFIN HB0; go_wp2_with fail
 refine HS.out.mono ?_; rintro e w5 ⟨rfl, rfl⟩; clear HS; go_wp2
 go_ret2
 refine ⟨rfl, out, HBo.out, ?_⟩; rw [HGV.out]; exact ⟨HR4.out, HF4.out.1, HF4.out.2⟩
end
theorem ani {l : List Bk} {e : Nat} (ht : abU 184 l e) {i : Nat} {x : Bk} {o : Int} (hx : l[i]? = some x) (ho : (x.off : Int) = o) (hu : x.used = true) : aaK l o = some i := by
 have h := agP ht hx ho hu
 cases hk : aaK l o with
 | none => rw [hk] at h; cases h
 | some k =>
  obtain ⟨k1, k2, k3⟩ := adZ hk; rw [hk, Option.map_some] at h; injection h with h; have hkx := aax k1; rw [h] at hkx; have hpw := List.pairwise_iff_getElem.1 (aeq _ _ _ ht); have hi1 := aa5 hx; have e1 : l[i] = x := by rw [List.getElem?_eq_getElem hi1] at hx; exact Option.some.inj hx
  have e2 : l[k] = x := by rw [List.getElem?_eq_getElem k1] at hkx; exact Option.some.inj hkx
  rcases Nat.lt_trichotomy k i with h' | h' | h'
  · exact absurd (by rw [e1, e2]) (hpw k i k1 hi1 h')
  · rw [h']
  · exact absurd (by rw [e1, e2]) (hpw i k hi1 k1 h')
section
variable {bs : List UInt8} {H : Hp} {A1 B1 : List Bk} {p n : Option Bk} {xo xs z : Nat}
theorem Rt.widened (h : Rt bs H) (hc : H.cap <= 16384) (hb : H.blks = (A1 ++ p.toList) ++ ⟨xo, xs, true⟩ :: (n.toList ++ B1)) (hN : aiz A1 p n B1) (hz : (n.map Bk.size).getD 0 = z) :
 ∃ b1 b2, alu bs n = some b1 /\ adM b1 (xo : Int) ((xs + z : Nat) : Int) true = some b2 /\ b1.length = bs.length /\ Rt b2 (H.widen (A1 ++ p.toList).length) /\ aaK (H.widen (A1 ++ p.toList).length).blks (xo : Int) = some (A1 ++ p.toList).length /\
  aag (H.widen (A1 ++ p.toList).length).blks (A1 ++ p.toList).length = ⟨xo, xs + z, true⟩ /\ ∀ H'' out, Held (H.widen (A1 ++ p.toList).length) b2 H'' out -> Held H bs H'' out := by
 obtain ⟨w1, w2, w3, w4⟩ := agN hb hN.nf hN.nu; rw [hz] at w1 w3; obtain ⟨A, hA⟩ := nmE (A1 ++ p.toList); rw [hA] at hb w1 w2 w3 w4 ⊢; obtain ⟨hl, hbd⟩ := h.bound hc; have ht : abU 184 H.blks bs.length := (aaq h.walk).2.1; have htm := (aai _ _ _ ht).2; have hxm : (⟨xo, xs, true⟩ : Bk) ∈ H.blks := by rw [hb]; simp
 have sx := (aac _).1 (htm _ hxm).2.2.1; have hx8 := (htm _ hxm).2.1; dsimp only at sx hx8; have hsz : aaG ((xs + z : Nat) : Int) = true := by
  rw [aac]
  cases n with
  | none => simp at hz; omega
  | some m =>
   have hmm : m ∈ H.blks := by rw [hb]; simp
   have sm := (aac _).1 (htm _ hmm).2.2.1; have hm8 := htm _ hmm; have hz : m.size = z := hz; rw [hb, aaS] at ht; obtain ⟨_, _, _, t3⟩ := ht; obtain ⟨t4, _⟩ := t3; dsimp only at t4; omega
 obtain ⟨b1, e1, e2, l1, l2, hRt, hP1, hP2⟩ := h.wide hc (n0 := 0) (t := xs + z) hb hN.nf (by rw [hz]; omega) (.inl rfl) hsz (by have := h.len; omega); rw [List.replicate_zero, List.append_nil] at e1; have hR2 := hRt (H.widen A.length) w1 w2 widen_cap; obtain ⟨b2, hb2⟩ := nmE (abJ b1 ⟨xo, xs + z, true⟩); rw [hb2] at e2 hR2 hP1 hP2 l2; have hat : (H.widen A.length).blks[A.length]? = some ⟨xo, xs + z, true⟩ := by rw [w1]; simp
 exact ⟨b1, b2, e1, e2, by omega, hR2, ani (aaq hR2.walk).2.1 hat rfl rfl, abo hat, fun H'' out hH => h.wideHeld hb hN.nf (by omega) w1 hP1 hP2 hH⟩
theorem Rt.grown (h : Rt bs H) (hc : H.cap <= 16384) (hb : H.blks = (A1 ++ p.toList) ++ ⟨xo, xs, true⟩ :: (n.toList ++ B1)) (hN : aiz A1 p n B1) (hz : (n.map Bk.size).getD 0 = z) {s : Nat} (hs : aaG (s : Int) = true) (hlt : xs + z < s) (hend : xo + (xs + z) = bs.length) (hcap : bs.length + (s - (xs + z)) <= H.cap) :
 ∃ b1 b2, alu (bs ++ List.replicate (s - (xs + z)) 0) n = some b1 /\ adM b1 (xo : Int) (s : Int) true = some b2 /\ b1.length = bs.length + (s - (xs + z)) /\ Rt b2 ((H.widen (A1 ++ p.toList).length).size (A1 ++ p.toList).length s) /\ Held H bs ((H.widen (A1 ++ p.toList).length).size (A1 ++ p.toList).length s) b2 := by
 obtain ⟨w1, w2, w3, w4⟩ := agN hb hN.nf hN.nu; rw [hz] at w1 w3; obtain ⟨A, hA⟩ := nmE (A1 ++ p.toList); rw [hA] at hb w1 w2 w3 w4 ⊢; have ht : abU 184 H.blks bs.length := (aaq h.walk).2.1; have hB1 : B1 = [] := by
  rw [hb, aaS] at ht; obtain ⟨_, t1, _, t3⟩ := ht; dsimp only at t1; rw [aaS] at t3; have hzn : abh n.toList = z := by rw [<- hz]; cases n <;> simp [abh]
  rw [hzn] at t3; have t4 := t3.2; dsimp only at t4
  cases B1 with
  | nil => rfl
  | cons y r =>
   have := (aai _ _ _ t4).2 y (by simp); have sy := (aac _).1 this.2.2.1; omega
 obtain ⟨b1, e1, e2, l1, l2, hRt, hP1, hP2⟩ := h.wide hc (n0 := s - (xs + z)) (t := s) hb hN.nf (by rw [hz]; omega) (.inr hB1) hs hcap; have hat : (H.widen A.length).blks[A.length]? = some ⟨xo, xs + z, true⟩ := by rw [w1]; simp
 have hb' : ((H.widen A.length).size A.length s).blks = A ++ ⟨xo, s, true⟩ :: B1 := by
  show (H.widen A.length).blks.set A.length { aag (H.widen A.length).blks A.length with size := s } = _; rw [abo hat, w1, List.set_append_right _ _ (Nat.le_refl _), Nat.sub_self]; rfl
 have hR2 := hRt ((H.widen A.length).size A.length s) hb' w2 widen_cap; exact ⟨b1, _, e1, e2, by omega, hR2, h.wideHeld hb hN.nf (by omega) hb' hP1 hP2 (Held.self _ _)⟩
end
section
variable {w : World} {g base cap c : Nat} {A : Option Addr} {bs : List UInt8} {H : Hp} {A1 B1 : List Bk} {p n : Option Bk} {xo xs z s : Nat}
theorem aiO (h : Ar w 79 g base cap A c bs) (hbase : base <= 4611686018427387904) (hcap : cap <= 16384) (hc : H.cap = cap) (hR : Rt bs H) (hb : H.blks = (A1 ++ p.toList) ++ ⟨xo, xs, true⟩ :: (n.toList ++ B1)) (hN : aiz A1 p n B1) (hz : (n.map Bk.size).getD 0 = z) (hs : aaG (s : Int) = true) (hle : s <= xs + z) :
 Calls Tryz.prog 90 #[.pointer (some ⟨g, 0, none⟩), .agg #[.int .i64 (xo : Int), .int .i64 (xs : Int), .bool true], .int .i64 (s : Int)] w fun e w' => e = .returned (.tuple #[.int .i64 (xo : Int), aaz true 0]) /\
  ∃ out, Became 79 g base cap A out w w' /\ Rt out ((H.widen (A1 ++ p.toList).length).cut (A1 ++ p.toList).length s) /\ Held H bs ((H.widen (A1 ++ p.toList).length).cut (A1 ++ p.toList).length s) out := by
 have ss := (aac _).1 hs; obtain ⟨hl, hbd⟩ := hR.bound (by omega); have hx := hbd ⟨xo, xs, true⟩ (by rw [hb]; simp); dsimp only at hx; have hn : ∀ y, n = some y -> 0 < y.size /\ y.off <= 16384 := fun y hy => by have := hbd y (by rw [hb, hy]; simp); omega
 have hzl : xs + z <= 16384 := by
  cases n with
  | none => simp at hz; omega
  | some m =>
   have hz : m.size = z := hz; have hM := hR.md (by omega); have ht := hM.tl; rw [hb, aaS] at ht; obtain ⟨_, t1, _, t3⟩ := ht; obtain ⟨t4, _⟩ := t3; have := hbd m (by rw [hb]; simp); dsimp only at t1 t4; omega
 have hy := (hR.md (by omega)).behind hb hN; dsimp only at hy; obtain ⟨b1, b2, e1, e2, l1, hR2, hu2, hk2, hH2⟩ := hR.widened (by omega) hb hN hz; have l2 : b2.length <= 16384 := (hR2.bound (by rw [widen_cap]; omega)).1; obtain ⟨i, hi⟩ := nmE ((A1 ++ p.toList).length); rw [hi] at hR2 hu2 hk2 hH2 ⊢; obtain ⟨H2, hH⟩ := nmE (H.widen i); have hcap2 : H2.cap = cap := by rw [<- hH]; exact widen_cap.trans hc
 rw [hH] at hR2 hu2 hk2 hH2 ⊢; have htr : H2.trimO (xo : Int) s = some (H2.cut i s) := by
  unfold Hp.trimO; rw [hu2]; dsimp only; rw [hk2]; dsimp only; rw [if_neg (by omega)]
 obtain ⟨w0, hw0⟩ := nmE (w.alloc (.cells #[.int .i64 (xo : Int), .int .i64 (xs : Int), .bool true] 81)); have hb0 := abE hw0; have n0 := anE hw0; have hF := adK (h.below hb0) hbase hl xo xs (by omega) (by omega) n hy; have ef := aeE 0 n; rw [hz] at ef; obtain ⟨fo, hfo⟩ : ∃ fo : Int, (n.map fun z => (z.off : Int)).getD 0 = fo := ⟨_, rfl⟩; rw [hfo] at ef; rw [ef] at hF; have HJ := hE0 (fun w2 (hb2 : Below w.heap.size w w2) => ajE (w := w2) (w1 := w2) ⟨A, c, h.below hb2, Tch.refl _ _, .inl rfl⟩ hbase hl xo xs (xs + z) n (by omega) hn hzl (by omega) e1 e2); rw [ef] at HJ; have ez : ((xs + z : Nat) : Int) = (xs : Int) + (z : Int) := by omega
 rw [ez] at HJ; have HTK := hE0 (fun w3 c3 A3 (a3 : Ar w3 79 g base cap A3 c3 b2) => (apR w3 g base cap c3 A3 b2 H2 (xo : Int) (s : Int) a3 hbase hcap hcap2 hR2 ⟨by omega, by omega⟩ ⟨by omega, by omega⟩).2 hs); rw [Int.toNat_natCast, htr] at HTK; dsimp only [acO, aaz] at HTK; have HF := hE0 hF; have HA := hE0 h; have HW0 := hE0 hw0; have HB0 := hE0 hb0; have HN0 := hE0 n0; have HFIN := hE0 hH2; have g1 : ((s : Int) <= (xs : Int) + (z : Int)) := by omega
 obtain ⟨⟨d0, d1, d2⟩, _⟩ := aad n0; have hlt0 := aaa n0; dsimp only [aaz]; clear hF hw0 hb0 n0 h hR hb hN hz hy hn hbd hs hle e1 e2 l1 hR2 hu2 hk2 hH2 hi hH hcap2 htr ef hfo ez hc; go_enter Tryz.func90, Tryz.ntmps90
 go_wp2_with (first | (rw [HW0.out]) | fail)
 refine HF.out.mono ?_; clear d0 d1 d2 hlt0; rintro e w1 ⟨rfl, hb1⟩; have n1 := Loc.below hb1 _ _ HN0.out; obtain ⟨w2, hw2⟩ := nmE (w1.alloc (.cells #[.int .i64 fo, .int .i64 (z : Int), .bool false] 81)); have m2 := anE hw2; have n2 : w2.heap[w.heap.size]? = some (.cells #[.int .i64 (xo : Int), .int .i64 (xs : Int), .bool true] 81 (0, 0)) := by rw [<- hw2]; exact (heap_alloc_old _ _ (aab n1)).trans n1
 have hb01 := HB0.out.trans (hb1.mono HB0.out.size); have hb2 : Below w.heap.size w w2 := by rw [<- hw2]; exact hb01.alloc hb01.size _
 have HJ2 := hE0 (HJ.out w2 hb2); obtain ⟨⟨d0, d1, d2⟩, _⟩ := aad n2; have hlt2 := aaa n2; obtain ⟨⟨c0, c1, c2⟩, _⟩ := aad m2; have hlt3 := aaa m2; have HW2 := hE0 hw2; have HN2 := hE0 n2; have HB2 := hE0 hb2; clear hb1 n1 hw2 m2 n2 hb01 hb2 HF HJ HN0; go_wp2_with (first | (rw [HW2.out]) | fail)
 refine HJ2.out.mono ?_; clear d0 d1 d2 hlt2 c0 c1 c2 hlt3; rintro e w3 ⟨rfl, hB3⟩; obtain ⟨A3, c3, a3, t3, k3⟩ := hB3; have n3 := Loc.tch (HA.out.below HB2.out) t3 _ _ HN2.out; have hnf := agO a3 n3; have HT3 := hE0 (HTK.out w3.drew c3 A3 a3.drew); have HTR := hE0 (fun b4 w4 (k : Became 79 g base cap A3 b4 w3.drew w4) => (Became.trans a3 t3 k3 (Became.of_drew k)).after HB2.out); obtain ⟨⟨d0, d1, d2⟩, _⟩ := aad n3; have hlt3 := aaa n3; have HNF := hE0 hnf; clear a3 t3 k3 n3 hnf HJ2 HTK HN2 HB2 HA; go_wp2_with fail
 refine abv (abg g A3) [([0, 1, 2, 3, 4, 5], 6), ([], 7)] [8, 9, 10, 11] [] (by kernel_rfl) (by kernel_rfl) (by kernel_rfl) (fun _ _ _ _ _ h => h) ?_; have q0 : ∀ z : LaterS (abg g A3) w3.drew, z.val.cell? ⟨w.heap.size, 0, none⟩ = some (.int .i64 (xo : Int)) := fun z => z.ext.cell d0 HNF.out; clear d0 d1 d2; refine ab4 (l := ?seg1) ?hseg1 ?_
 case hseg1 => simp only [pick, lE1, lE2, lE3]; rfl
 repeat (go_big_quiet_step (fail))
 refine wpQuiet_nil ?_; clear q0; refine acj (vs := #[.pointer (some ⟨g, 0, none⟩), .int .i64 (xo : Int), .int .i64 (s : Int)]) Tryz.call88 rfl rfl rfl (R := fun r w' => r = .nilIface /\ ∃ out, Became 79 g base cap A3 out w3.drew w' /\ Rt out (H2.cut i s) /\ Held H2 b2 (H2.cut i s) out) (HT3.out.mono ?_) ?_
 · rintro e w' ⟨rfl, out, hB, hR, hH⟩; have hB' := hB; obtain ⟨_, _, _, ht, _⟩ := hB'; exact ⟨_, rfl, ht, rfl, out, hB, hR, hH⟩
 rintro r w4 _ ⟨rfl, out, hB4, hR4, hH4⟩; have HB4 := hE0 (HTR.out out w4 hB4); have HR4 := hE0 hR4; have HH4 := hE0 (HFIN.out _ _ hH4); clear hB4 hR4 hH4 HT3 HTR HFIN; refine ⟨abg g A3, fun _ _ h => h, ?_⟩; refine ab4 (l := []) rfl ?_; refine wpQuiet_nil ?_; refine acj (vs := #[.int .i64 (xo : Int), .nilIface]) Tryz.call123 rfl rfl rfl (R := fun r w' => r = .tuple #[.int .i64 (xo : Int), .nilIface] /\ w' = w4) ((af2 (w := w4) (xo : Int)).mono ?_) ?_
 · rintro e w' ⟨rfl, rfl⟩; exact ⟨_, rfl, Tch.refl _ _, rfl, rfl⟩
 rintro r w5 _ ⟨rfl, rfl⟩; refine ⟨abg g A3, fun _ _ h => h, ?_⟩; refine ac4 (l := ?la4) (t := []) ?hla4 ?htl4 ?_
 case hla4 => simp only [pick, lE1, lE2, lE3]; rfl
 case htl4 => rfl
 simp only [Act.put, lE4, lE5, lE6]; repeat (go_big_quiet_step (fail))
 refine wpQuiet_nil ?_; go_wp2
 go_ret2
 exact ⟨rfl, out, HB4.out, HR4.out, HH4.out⟩
end
section
variable {P : Program} {ops : Array Oper} {Q : Exit -> Act -> World -> Prop}
theorem anj {i : Nat} {S : Nat -> Prop} {o : Oper} {a : Act} {w : World} {K : (Nat -> Prop) -> Act -> World -> Prop} (d : Option Tmp) (ho : ops[i]? = some o) (hd : o.dst = d) (hw : Region.wanted o (yielded ops a.tmps) = false) (hk : K S (a.put d undef) w) :
 wpOp P ops Q i (fun a'' w'' => Tch S w w'' /\ ∃ S' : Nat -> Prop, (∀ k, k < w.heap.size -> S' k -> S k) /\ K S' a'' w'') a w := by
 subst hd; unfold wpOp; simp only [ho]; rw [if_neg (by rw [hw]; decide)]; exact ⟨Tch.refl _ _, S, fun _ _ h => h, hk⟩
end
def aiP (H : Hp) (o : Int) (s : Nat) : (Nat × Int) × Hp := match (H.take s).1 with
 | none => ((0, 5), H)
 | some p => ((p, 0), (((H.take s).2.moveD (p : Int) o).giveO o).getD ((H.take s).2.moveD (p : Int) o))
section
variable {w w1 w' : World} {g base cap c : Nat} {A : Option Addr} {bs : List UInt8} {H : Hp} {o : Int} {r : (Nat × Int) × Hp} {e : Ending}
theorem RezTold.after (h : RezTold g base cap A bs H o r w1 e w') (hb : Below w.heap.size w w1) : RezTold g base cap A bs H o r w e w' := by
 refine ⟨fun hr => ?_, fun hr => ?_⟩
 · obtain ⟨h1, out, h2, h3⟩ := h.1 hr; exact ⟨h1, out, h2.after hb, h3⟩
 · obtain ⟨h1, h2⟩ := h.2 hr; exact ⟨h1, hb.trans (h2.mono hb.size)⟩
theorem RezTold.shape (h : RezTold g base cap A bs H o r w e w') : ∃ (v : Int) (x : Value), e = .returned (.tuple #[.int .i64 v, x]) := by
 by_cases hr : r.1.2 = 0
 · exact ⟨_, _, (h.1 hr).1⟩
 · exact ⟨_, _, (h.2 hr).1⟩
theorem RezTold.yes {p : Nat} {H' : Hp} {out : List UInt8} (hb : Became 79 g base cap A out w w') (h1 : Rt out H') (h2 : Held H bs H' out) (h3 : agK H bs o H' out p) : RezTold g base cap A bs H o ((p, 0), H') w (.returned (.tuple #[.int .i64 (p : Int), aaz true 0])) w' :=
 ⟨fun _ => ⟨rfl, out, hb, h1, h2, h3⟩, fun hr => absurd rfl hr⟩
theorem RezTold.no {k : Int} (hk : k ≠ 0) (hb : Below w.heap.size w w') : RezTold g base cap A bs H o ((0, k), H) w (.returned (.tuple #[.int .i64 0, aaz false k])) w' :=
 ⟨fun hr => absurd hr hk, fun _ => ⟨rfl, hb⟩⟩
theorem ajF (h : Ar w 79 g base cap A c bs) (hbase : base <= 4611686018427387904) (hcap : cap <= 16384) (hc : H.cap = cap) (hR : Rt bs H) {xo xs s i : Nat} (hs : aaG (s : Int) = true) (hi : aaK H.blks (xo : Int) = some i) (hx : aag H.blks i = ⟨xo, xs, true⟩) (hlt : xs < s) :
 Calls Tryz.prog 124 #[.pointer (some ⟨g, 0, none⟩), .agg #[.int .i64 (xo : Int), .int .i64 (xs : Int), .bool true], .int .i64 (s : Int)] w fun e w' => RezTold g base cap A bs H (xo : Int) (aiP H (xo : Int) s) w e w' := by
 unfold aiP
 cases hq : (H.take s).1 with
 | none =>
  refine (ao3 h hbase hcap hc hR xo xs s hs hq).mono ?_; rintro e w' ⟨rfl, hb⟩; exact RezTold.no (by decide) hb
 | some q =>
  refine (anh h hbase hcap hc hR hs hi hx hlt hq).mono ?_; rintro e w' ⟨rfl, out, hb, h1, h2, h3⟩; exact RezTold.yes hb h1 h2 h3
end
section
variable {w : World} {g base cap c : Nat} {A : Option Addr} {bs : List UInt8} {H : Hp} {A1 B1 : List Bk} {p n : Option Bk} {xo xs z s : Nat}
theorem agT (h : Ar w 79 g base cap A c bs) (hbase : base <= 4611686018427387904) (hcap : cap <= 16384) (hc : H.cap = cap) (hR : Rt bs H) (hb : H.blks = (A1 ++ p.toList) ++ ⟨xo, xs, true⟩ :: (n.toList ++ B1)) (hN : aiz A1 p n B1) (hz : (n.map Bk.size).getD 0 = z) (hs : aaG (s : Int) = true) (hle : xs + z < s) (hend : xo + (xs + z) = bs.length) (hroom : bs.length + (s - (xs + z)) <= cap) :
 Calls Tryz.prog 90 #[.pointer (some ⟨g, 0, none⟩), .agg #[.int .i64 (xo : Int), .int .i64 (xs : Int), .bool true], .int .i64 (s : Int)] w fun e w' => e = .returned (.tuple #[.int .i64 (xo : Int), aaz true 0]) /\
  ∃ out, Became 79 g base cap A out w w' /\ Rt out ((H.widen (A1 ++ p.toList).length).size (A1 ++ p.toList).length s) /\ Held H bs ((H.widen (A1 ++ p.toList).length).size (A1 ++ p.toList).length s) out := by
 have ss := (aac _).1 hs; obtain ⟨hl, hbd⟩ := hR.bound (by omega); have hx := hbd ⟨xo, xs, true⟩ (by rw [hb]; simp); dsimp only at hx; have hn : ∀ y, n = some y -> 0 < y.size /\ y.off <= 16384 := fun y hy => by have := hbd y (by rw [hb, hy]; simp); omega
 have hzl : xs + z <= 16384 := by omega
 have hy := (hR.md (by omega)).behind hb hN; dsimp only at hy; have ef := aeE 0 n; rw [hz] at ef; obtain ⟨fo, hfo⟩ : ∃ fo : Int, (n.map fun z => (z.off : Int)).getD 0 = fo := ⟨_, rfl⟩; rw [hfo] at ef; obtain ⟨b1, b2, e1, e2, l1, hR2, hH2⟩ := hR.grown (by omega) hb hN hz hs hle hend (by omega); obtain ⟨bz, hbz⟩ := nmE (bs ++ List.replicate (s - (xs + z)) 0); have hbzl : bz.length <= 16384 := by rw [<- hbz, List.length_append, List.length_replicate]; omega
 have HG := hE0 (fun w2 c2 A2 (a2 : Ar w2 79 g base cap A2 c2 bs) => ah8 a2 (s - (xs + z)) (by omega) hcap hroom); rw [hbz] at HG e1; have ez : ((s - (xs + z) : Nat) : Int) = (s : Int) - ((xs : Int) + (z : Int)) := by omega
 rw [ez] at HG; have HJ := hE0 (fun w4 c4 A4 (a4 : Ar w4 79 g base cap A4 c4 bz) => ajE (w := w4) (w1 := w4) ⟨A4, c4, a4, Tch.refl _ _, .inl rfl⟩ hbase hbzl xo xs s n (by omega) hn (by omega) (by omega) e1 e2); rw [ef] at HJ; have HR2 := hE0 hR2; have HH2 := hE0 hH2; have k1 : ((xo : Int) + ((xs : Int) + (z : Int)) == (bs.length : Int)) = true := by rw [beq_iff_eq]; omega
 obtain ⟨w0, hw0⟩ := nmE (w.alloc (.cells #[.int .i64 (xo : Int), .int .i64 (xs : Int), .bool true] 81)); have hb0 := abE hw0; have n0 := anE hw0; have hF := adK (h.below hb0) hbase hl xo xs (by omega) (by omega) n hy; rw [ef] at hF; have HF := hE0 hF; have HA := hE0 h; have HW0 := hE0 hw0; have HB0 := hE0 hb0; have HN0 := hE0 n0; have g1 : ((xs : Int) + (z : Int) < (s : Int)) := by omega
 obtain ⟨⟨d0, d1, d2⟩, _⟩ := aad n0; have hlt0 := aaa n0; dsimp only [aaz]; clear hF hw0 hb0 n0 h hR hb hN hz hy hn hbd hs hle ef hfo hc e1 e2 l1 hR2 hH2 hbz ez hend; go_enter Tryz.func90, Tryz.ntmps90
 go_wp2_with (first | (rw [HW0.out]) | fail)
 refine HF.out.mono ?_; clear d0 d1 d2 hlt0; rintro e w1 ⟨rfl, hb1⟩; have n1 := Loc.below hb1 _ _ HN0.out; obtain ⟨w2, hw2⟩ := nmE (w1.alloc (.cells #[.int .i64 fo, .int .i64 (z : Int), .bool false] 81)); have m2 := anE hw2; have n2 : w2.heap[w.heap.size]? = some (.cells #[.int .i64 (xo : Int), .int .i64 (xs : Int), .bool true] 81 (0, 0)) := by rw [<- hw2]; exact (heap_alloc_old _ _ (aab n1)).trans n1
 have hb01 := HB0.out.trans (hb1.mono HB0.out.size); have hb2 : Below w.heap.size w w2 := by rw [<- hw2]; exact hb01.alloc hb01.size _
 obtain ⟨⟨d0, d1, d2⟩, _⟩ := aad n2; have hlt2 := aaa n2; obtain ⟨⟨c0, c1, c2⟩, _⟩ := aad m2; have hlt3 := aaa m2; have a2 := HA.out.below hb2; have HNF := hE0 (agO a2 n2); have HL := hE0 (abX a2.drew); have HA2 := hE0 a2; have HW2 := hE0 hw2; have HN2 := hE0 n2; have HM2 := hE0 m2; have HB2 := hE0 hb2; clear hb1 n1 hw2 m2 n2 hb01 hb2 HF HN0 a2 HA HB0; go_wp2_with (first | (rw [HW2.out]) | fail)
 clear c0 c1 c2 hlt3 d1 d2; refine abv (abg g A) [([0, 1, 2, 3, 4], 5), ([6, 7, 8, 9, 10, 11], 12)] [13, 14] [] (by kernel_rfl) (by kernel_rfl) (by kernel_rfl) (fun _ _ _ _ _ h => h) ?_; have q0 : ∀ z : LaterS (abg g A) w2.drew, z.val.cell? ⟨w.heap.size, 0, none⟩ = some (.int .i64 (xo : Int)) := fun z => z.ext.cell d0 HNF.out; clear d0; refine ab4 (l := ?seg1) ?hseg1 ?_
 case hseg1 => simp only [pick, lE1, lE2, lE3]; rfl
 repeat (go_big_quiet_step (fail))
 refine wpQuiet_nil ?_; clear q0; refine acj (vs := #[.pointer (some ⟨g, 0, none⟩)]) Tryz.call16 rfl rfl rfl (R := fun r w' => r = .int .i64 (bs.length : Int) /\ w' = w2.drew) (HL.out.mono ?_) ?_
 · rintro e w' ⟨rfl, rfl⟩; exact ⟨_, rfl, Tch.refl _ _, rfl, rfl⟩
 rintro r w3 _ ⟨rfl, rfl⟩; refine ⟨abg g A, fun _ _ h => h, ?_⟩; clear HL; refine ab4 (l := ?seg2) ?hseg2 ?_
 case hseg2 => simp only [pick, lE1, lE2, lE3]; rfl
 simp only [Act.put, lE4, lE5, lE6]; repeat (go_big_quiet_step (fail))
 refine wpQuiet_nil ?_; refine acj (vs := #[.pointer (some ⟨g, 0, none⟩), .int .i64 ((s : Int) - ((xs : Int) + (z : Int)))]) Tryz.call28 rfl rfl rfl (R := fun r w' => r = .nilIface /\ Became 79 g base cap A bz w2.drew w') ((HG.out w2.drew c A HA2.out.drew).mono ?_) ?_
 · rintro e w' ⟨rfl, hB⟩; have hB' := hB; obtain ⟨_, _, _, ht, _⟩ := hB'; exact ⟨_, rfl, ht, rfl, hB⟩
 rintro r w4 _ ⟨rfl, hB4⟩; refine ⟨abg g A, fun _ _ h => h, ?_⟩; clear k1; refine ac4 (l := ?la4) (t := []) ?hla4 ?htl4 ?_
 case hla4 => simp only [pick, lE1, lE2, lE3]; rfl
 case htl4 => rfl
 simp only [Act.put, lE4, lE5, lE6]; repeat (go_big_quiet_step (fail))
 refine wpQuiet_nil ?_; obtain ⟨A4, c4, a4, t4, k4⟩ := hB4; have n4 := Loc.tch HA2.out.drew t4 _ _ HN2.out; have m4 := Loc.tch HA2.out.drew t4 _ _ HM2.out; have HJ4 := hE0 (HJ.out w4 c4 A4 a4); have HTR := hE0 (fun b5 w5 (k : Became 79 g base cap A4 b5 w4 w5) => (Became.of_drew (Became.trans a4 t4 k4 k)).after HB2.out); have HA4 := hE0 a4; have HN4 := hE0 n4; obtain ⟨⟨d0, d1, d2⟩, _⟩ := aad n4; have hlt2 := aaa n4; obtain ⟨⟨c0, c1, c2⟩, _⟩ := aad m4; have hlt3 := aaa m4; clear a4 t4 k4 n4 m4 HJ HG HN2 HM2 HB2; go_wp2_with fail
 refine HJ4.out.mono ?_; clear d0 d1 d2 hlt2 c0 c1 c2 hlt3; rintro e w5 ⟨rfl, hB5⟩; have HB5 := hE0 (HTR.out b2 w5 hB5); obtain ⟨A5, c5, a5, t5, k5⟩ := hB5; have n5 := Loc.tch HA4.out t5 _ _ HN4.out; obtain ⟨⟨d0, d1, d2⟩, _⟩ := aad n5; have hlt2 := aaa n5; clear a5 t5 k5 n5 HJ4 HTR HA4 HN4; go_wp2
 go_ret2
 exact ⟨rfl, b2, HB5.out, HR2.out, HH2.out⟩
theorem afB (h : Ar w 79 g base cap A c bs) (hbase : base <= 4611686018427387904) (hcap : cap <= 16384) (hc : H.cap = cap) (hR : Rt bs H) (hb : H.blks = (A1 ++ p.toList) ++ ⟨xo, xs, true⟩ :: (n.toList ++ B1)) (hN : aiz A1 p n B1) (hz : (n.map Bk.size).getD 0 = z) (hs : aaG (s : Int) = true) (hle : xs + z < s) {i : Nat} (hi : aaK H.blks (xo : Int) = some i) (hx0 : aag H.blks i = ⟨xo, xs, true⟩) (hend : xo + (xs + z) ≠ bs.length) :
 Calls Tryz.prog 90 #[.pointer (some ⟨g, 0, none⟩), .agg #[.int .i64 (xo : Int), .int .i64 (xs : Int), .bool true], .int .i64 (s : Int)] w fun e w' => RezTold g base cap A bs H (xo : Int) (aiP H (xo : Int) s) w e w' := by
 have ss := (aac _).1 hs; obtain ⟨hl, hbd⟩ := hR.bound (by omega); have hx := hbd ⟨xo, xs, true⟩ (by rw [hb]; simp); dsimp only at hx; have hn : ∀ y, n = some y -> 0 < y.size /\ y.off <= 16384 := fun y hy => by have := hbd y (by rw [hb, hy]; simp); omega
 have hzl : xs + z <= 16384 := by omega
 have hy := (hR.md (by omega)).behind hb hN; dsimp only at hy; have ef := aeE 0 n; rw [hz] at ef; obtain ⟨fo, hfo⟩ : ∃ fo : Int, (n.map fun z => (z.off : Int)).getD 0 = fo := ⟨_, rfl⟩; rw [hfo] at ef; have HMV := hE0 (fun w2 (hb2 : Below w.heap.size w w2) => ajF (h.below hb2) hbase hcap hc hR hs hi hx0 (by omega)); obtain ⟨mr, hmr⟩ := nmE (aiP H (xo : Int) s); rw [hmr] at HMV ⊢; have k1 : ((xo : Int) + ((xs : Int) + (z : Int)) == (bs.length : Int)) = false := by rw [beq_eq_false_iff_ne]; omega
 obtain ⟨w0, hw0⟩ := nmE (w.alloc (.cells #[.int .i64 (xo : Int), .int .i64 (xs : Int), .bool true] 81)); have hb0 := abE hw0; have n0 := anE hw0; have hF := adK (h.below hb0) hbase hl xo xs (by omega) (by omega) n hy; rw [ef] at hF; have HF := hE0 hF; have HA := hE0 h; have HW0 := hE0 hw0; have HB0 := hE0 hb0; have HN0 := hE0 n0; have g1 : ((xs : Int) + (z : Int) < (s : Int)) := by omega
 obtain ⟨⟨d0, d1, d2⟩, _⟩ := aad n0; have hlt0 := aaa n0; clear hF hw0 hb0 n0 h hR hb hN hz hy hn hbd hs hle ef hfo hc hend hi hx0 hmr; go_enter Tryz.func90, Tryz.ntmps90
 go_wp2_with (first | (rw [HW0.out]) | fail)
 refine HF.out.mono ?_; clear d0 d1 d2 hlt0; rintro e w1 ⟨rfl, hb1⟩; have n1 := Loc.below hb1 _ _ HN0.out; obtain ⟨w2, hw2⟩ := nmE (w1.alloc (.cells #[.int .i64 fo, .int .i64 (z : Int), .bool false] 81)); have m2 := anE hw2; have n2 : w2.heap[w.heap.size]? = some (.cells #[.int .i64 (xo : Int), .int .i64 (xs : Int), .bool true] 81 (0, 0)) := by rw [<- hw2]; exact (heap_alloc_old _ _ (aab n1)).trans n1
 have hb01 := HB0.out.trans (hb1.mono HB0.out.size); have hb2 : Below w.heap.size w w2 := by rw [<- hw2]; exact hb01.alloc hb01.size _
 obtain ⟨⟨d0, d1, d2⟩, _⟩ := aad n2; have hlt2 := aaa n2; obtain ⟨⟨c0, c1, c2⟩, _⟩ := aad m2; have hlt3 := aaa m2; have a2 := HA.out.below hb2; have HNF := hE0 (agO a2 n2); have HL := hE0 (abX a2.drew); have HA2 := hE0 a2; have HW2 := hE0 hw2; have HN2 := hE0 n2; have HM2 := hE0 m2; have HB2 := hE0 hb2; clear hb1 n1 hw2 m2 n2 hb01 hb2 HF HN0 a2 HA HB0; go_wp2_with (first | (rw [HW2.out]) | fail)
 clear c0 c1 c2 hlt3 d1 d2; refine abv (abg g A) [([0, 1, 2, 3, 4], 5), ([6, 7, 8, 9, 10, 11], 12)] [13, 14] [] (by kernel_rfl) (by kernel_rfl) (by kernel_rfl) (fun _ _ _ _ _ h => h) ?_; have q0 : ∀ z : LaterS (abg g A) w2.drew, z.val.cell? ⟨w.heap.size, 0, none⟩ = some (.int .i64 (xo : Int)) := fun z => z.ext.cell d0 HNF.out; clear d0; refine ab4 (l := ?seg1) ?hseg1 ?_
 case hseg1 => simp only [pick, lE1, lE2, lE3]; rfl
 repeat (go_big_quiet_step (fail))
 refine wpQuiet_nil ?_; clear q0; refine acj (vs := #[.pointer (some ⟨g, 0, none⟩)]) Tryz.call16 rfl rfl rfl (R := fun r w' => r = .int .i64 (bs.length : Int) /\ w' = w2.drew) (HL.out.mono ?_) ?_
 · rintro e w' ⟨rfl, rfl⟩; exact ⟨_, rfl, Tch.refl _ _, rfl, rfl⟩
 rintro r w3 _ ⟨rfl, rfl⟩; refine ⟨abg g A, fun _ _ h => h, ?_⟩; clear HL; refine ab4 (l := ?seg2) ?hseg2 ?_
 case hseg2 => simp only [pick, lE1, lE2, lE3]; rfl
 simp only [Act.put, lE4, lE5, lE6]; repeat (go_big_quiet_step (fail))
 refine wpQuiet_nil ?_; refine anj (some 48) rfl rfl rfl ?_; clear k1; refine ac4 (l := ?la4) (t := []) ?hla4 ?htl4 ?_
 case hla4 => simp only [pick, lE1, lE2, lE3]; rfl
 case htl4 => rfl
 simp only [Act.put, lE4, lE5, lE6]; repeat (go_big_quiet_step (fail))
 refine wpQuiet_nil ?_; obtain ⟨w3, hw3⟩ := nmE w2.drew; have hb3 : Below w.heap.size w w3 := by rw [<- hw3]; exact HB2.out.drew
 have n3 : w3.heap[w.heap.size]? = some (.cells #[.int .i64 (xo : Int), .int .i64 (xs : Int), .bool true] 81 (0, 0)) := by rw [<- hw3]; exact HN2.out
 rw [hw3]; have HMV3 := hE0 (HMV.out w3 hb3); have HB3 := hE0 hb3; obtain ⟨⟨d0, d1, d2⟩, _⟩ := aad n3; have hlt2 := aaa n3; clear n3 hb3 HMV HN2 HM2 HB2 HA2 hw3 HW2; go_wp2_with fail
 refine HMV3.out.mono ?_; clear d0 d1 d2 hlt2; rintro e w4 hT; obtain ⟨v, x, rfl⟩ := hT.shape; have HT := hE0 (hT.after HB3.out); clear hT HMV3 HB3; go_wp2
 go_ret2
 exact HT.out
theorem afC (h : Ar w 79 g base cap A c bs) (hbase : base <= 4611686018427387904) (hcap : cap <= 16384) (hc : H.cap = cap) (hR : Rt bs H) (hb : H.blks = (A1 ++ p.toList) ++ ⟨xo, xs, true⟩ :: (n.toList ++ B1)) (hN : aiz A1 p n B1) (hz : (n.map Bk.size).getD 0 = z) (hs : aaG (s : Int) = true) (hle : xs + z < s) {i : Nat} (hi : aaK H.blks (xo : Int) = some i) (hx0 : aag H.blks i = ⟨xo, xs, true⟩) (hend : xo + (xs + z) = bs.length) (hroom : cap < bs.length + (s - (xs + z))) :
 Calls Tryz.prog 90 #[.pointer (some ⟨g, 0, none⟩), .agg #[.int .i64 (xo : Int), .int .i64 (xs : Int), .bool true], .int .i64 (s : Int)] w fun e w' => RezTold g base cap A bs H (xo : Int) (aiP H (xo : Int) s) w e w' := by
 have ss := (aac _).1 hs; obtain ⟨hl, hbd⟩ := hR.bound (by omega); have hx := hbd ⟨xo, xs, true⟩ (by rw [hb]; simp); dsimp only at hx; have hn : ∀ y, n = some y -> 0 < y.size /\ y.off <= 16384 := fun y hy => by have := hbd y (by rw [hb, hy]; simp); omega
 have hzl : xs + z <= 16384 := by omega
 have hy := (hR.md (by omega)).behind hb hN; dsimp only at hy; have ef := aeE 0 n; rw [hz] at ef; obtain ⟨fo, hfo⟩ : ∃ fo : Int, (n.map fun z => (z.off : Int)).getD 0 = fo := ⟨_, rfl⟩; rw [hfo] at ef; have HMV := hE0 (fun w2 (hb2 : Below w.heap.size w w2) => ajF (h.below hb2) hbase hcap hc hR hs hi hx0 (by omega)); obtain ⟨mr, hmr⟩ := nmE (aiP H (xo : Int) s); rw [hmr] at HMV ⊢; have hlc : bs.length <= cap := by have := hR.len; omega
 have HG := hE0 (fun w2 c2 A2 (a2 : Ar w2 79 g base cap A2 c2 bs) => ahb a2 (s - (xs + z)) hlc hcap hroom); have ez : ((s - (xs + z) : Nat) : Int) = (s : Int) - ((xs : Int) + (z : Int)) := by omega
 rw [ez] at HG; have k1 : ((xo : Int) + ((xs : Int) + (z : Int)) == (bs.length : Int)) = true := by rw [beq_iff_eq]; omega
 obtain ⟨w0, hw0⟩ := nmE (w.alloc (.cells #[.int .i64 (xo : Int), .int .i64 (xs : Int), .bool true] 81)); have hb0 := abE hw0; have n0 := anE hw0; have hF := adK (h.below hb0) hbase hl xo xs (by omega) (by omega) n hy; rw [ef] at hF; have HF := hE0 hF; have HA := hE0 h; have HW0 := hE0 hw0; have HB0 := hE0 hb0; have HN0 := hE0 n0; have g1 : ((xs : Int) + (z : Int) < (s : Int)) := by omega
 obtain ⟨⟨d0, d1, d2⟩, _⟩ := aad n0; have hlt0 := aaa n0; clear hF hw0 hb0 n0 h hR hb hN hz hy hn hbd hs hle ef hfo hc hend hi hx0 hmr ez hroom; go_enter Tryz.func90, Tryz.ntmps90
 go_wp2_with (first | (rw [HW0.out]) | fail)
 refine HF.out.mono ?_; clear d0 d1 d2 hlt0; rintro e w1 ⟨rfl, hb1⟩; have n1 := Loc.below hb1 _ _ HN0.out; obtain ⟨w2, hw2⟩ := nmE (w1.alloc (.cells #[.int .i64 fo, .int .i64 (z : Int), .bool false] 81)); have m2 := anE hw2; have n2 : w2.heap[w.heap.size]? = some (.cells #[.int .i64 (xo : Int), .int .i64 (xs : Int), .bool true] 81 (0, 0)) := by rw [<- hw2]; exact (heap_alloc_old _ _ (aab n1)).trans n1
 have hb01 := HB0.out.trans (hb1.mono HB0.out.size); have hb2 : Below w.heap.size w w2 := by rw [<- hw2]; exact hb01.alloc hb01.size _
 obtain ⟨⟨d0, d1, d2⟩, _⟩ := aad n2; have hlt2 := aaa n2; obtain ⟨⟨c0, c1, c2⟩, _⟩ := aad m2; have hlt3 := aaa m2; have a2 := HA.out.below hb2; have HNF := hE0 (agO a2 n2); have HL := hE0 (abX a2.drew); have HA2 := hE0 a2; have HW2 := hE0 hw2; have HN2 := hE0 n2; have HM2 := hE0 m2; have HB2 := hE0 hb2; clear hb1 n1 hw2 m2 n2 hb01 hb2 HF HN0 a2 HA HB0; go_wp2_with (first | (rw [HW2.out]) | fail)
 clear c0 c1 c2 hlt3 d1 d2; refine abv (abg g A) [([0, 1, 2, 3, 4], 5), ([6, 7, 8, 9, 10, 11], 12)] [13, 14] [] (by kernel_rfl) (by kernel_rfl) (by kernel_rfl) (fun _ _ _ _ _ h => h) ?_; have q0 : ∀ z : LaterS (abg g A) w2.drew, z.val.cell? ⟨w.heap.size, 0, none⟩ = some (.int .i64 (xo : Int)) := fun z => z.ext.cell d0 HNF.out; clear d0; refine ab4 (l := ?seg1) ?hseg1 ?_
 case hseg1 => simp only [pick, lE1, lE2, lE3]; rfl
 repeat (go_big_quiet_step (fail))
 refine wpQuiet_nil ?_; clear q0; refine acj (vs := #[.pointer (some ⟨g, 0, none⟩)]) Tryz.call16 rfl rfl rfl (R := fun r w' => r = .int .i64 (bs.length : Int) /\ w' = w2.drew) (HL.out.mono ?_) ?_
 · rintro e w' ⟨rfl, rfl⟩; exact ⟨_, rfl, Tch.refl _ _, rfl, rfl⟩
 rintro r w3 _ ⟨rfl, rfl⟩; refine ⟨abg g A, fun _ _ h => h, ?_⟩; clear HL; refine ab4 (l := ?seg2) ?hseg2 ?_
 case hseg2 => simp only [pick, lE1, lE2, lE3]; rfl
 simp only [Act.put, lE4, lE5, lE6]; repeat (go_big_quiet_step (fail))
 refine wpQuiet_nil ?_; refine acj (vs := #[.pointer (some ⟨g, 0, none⟩), .int .i64 ((s : Int) - ((xs : Int) + (z : Int)))]) Tryz.call28 rfl rfl rfl (R := fun r w' => r = .iface 67 (.int .i64 5) /\ ∃ k, w' = w2.drew.drewN k) ((HG.out w2.drew c A HA2.out.drew).mono ?_) ?_
 · rintro e w' ⟨rfl, k, rfl⟩; exact ⟨_, rfl, Tch.of_below (S := abg g A) ⟨rfl, rfl, rfl, Nat.le_refl _, fun _ _ => rfl⟩, rfl, k, rfl⟩
 rintro r w4 _ ⟨rfl, k, rfl⟩; refine ⟨abg g A, fun _ _ h => h, ?_⟩; clear k1; refine ac4 (l := ?la4) (t := []) ?hla4 ?htl4 ?_
 case hla4 => simp only [pick, lE1, lE2, lE3]; rfl
 case htl4 => rfl
 simp only [Act.put, lE4, lE5, lE6]; repeat (go_big_quiet_step (fail))
 refine wpQuiet_nil ?_; obtain ⟨w3, hw3⟩ := nmE (w2.drew.drewN k); have hb3 : Below w.heap.size w w3 := by
  rw [<- hw3]; have hd := HB2.out.drew; exact ⟨hd.os, hd.tape, hd.output, hd.size, hd.block⟩
 have n3 : w3.heap[w.heap.size]? = some (.cells #[.int .i64 (xo : Int), .int .i64 (xs : Int), .bool true] 81 (0, 0)) := by rw [<- hw3]; exact HN2.out
 rw [hw3]; have HMV3 := hE0 (HMV.out w3 hb3); have HB3 := hE0 hb3; obtain ⟨⟨d0, d1, d2⟩, _⟩ := aad n3; have hlt2 := aaa n3; clear n3 hb3 HMV HN2 HM2 HB2 HA2 hw3 HW2 HG; go_wp2_with fail
 refine HMV3.out.mono ?_; clear d0 d1 d2 hlt2; rintro e w4 hT; obtain ⟨v, x, rfl⟩ := hT.shape; have HT := hE0 (hT.after HB3.out); clear hT HMV3 HB3; go_wp2
 go_ret2
 exact HT.out
end
section
variable {w : World} {g base cap c : Nat} {A : Option Addr} {bs : List UInt8} {H : Hp} {xo xs s i : Nat}
theorem aiQ (h : Ar w 79 g base cap A c bs) (hbase : base <= 4611686018427387904) (hcap : cap <= 16384) (hc : H.cap = cap) (hR : Rt bs H) (hs : aaG (s : Int) = true) (hi : aaK H.blks (xo : Int) = some i) (hx : aag H.blks i = ⟨xo, xs, true⟩) (hlt : xs < s) :
 Calls Tryz.prog 90 #[.pointer (some ⟨g, 0, none⟩), .agg #[.int .i64 (xo : Int), .int .i64 (xs : Int), .bool true], .int .i64 (s : Int)] w fun e w' => RezTold g base cap A bs H (xo : Int) (H.resize (xo : Int) s) w e w' := by
 obtain ⟨i1, i2, i3⟩ := adZ hi; obtain ⟨m1, m2⟩ := aei i1; obtain ⟨A1, p, n, B1, eA, eB, hN⟩ := aiA (H.blks.take i) (H.blks.drop (i + 1)); rw [hx] at m1; have hb : H.blks = (A1 ++ p.toList) ++ ⟨xo, xs, true⟩ :: (n.toList ++ B1) := by rw [<- eA, <- eB]; exact m1
 have hlen : (A1 ++ p.toList).length = i := by rw [<- eA]; exact m2
 obtain ⟨z, hz⟩ := nmE ((n.map Bk.size).getD 0); obtain ⟨_, _, w3, _⟩ := agN hb hN.nf hN.nu; rw [hlen, hz] at w3; have hlE := hR.lenE; have hle := hR.len; have er : H.resize (xo : Int) s = if s <= xs + z then ((xo, 0), (H.widen i).cut i s) else if abp H i s = true then ((xo, 0), (H.widen i).size i s) else aiP H (xo : Int) s := by
  unfold Hp.resize; rw [hi]; dsimp only; rw [hx, w3]; dsimp only; rw [if_neg (by omega)]; rfl
 rw [er]; by_cases h1 : s <= xs + z
 · rw [if_pos h1]; have k := aiO h hbase hcap hc hR hb hN hz hs h1; rw [hlen] at k; refine k.mono ?_; rintro e w' ⟨rfl, out, k1, k2, k3⟩; exact RezTold.yes k1 k2 k3 (k3.moved rfl)
 · rw [if_neg h1]; by_cases h2 : xo + (xs + z) = bs.length
   · by_cases h3 : bs.length + (s - (xs + z)) <= cap
     · have hg : abp H i s = true := by
        unfold abp; rw [hx, w3, hlE, Bool.and_eq_true, decide_eq_true_eq, decide_eq_true_eq]; exact ⟨h2, by omega⟩
       rw [if_pos hg]; have k := agT h hbase hcap hc hR hb hN hz hs (by omega) h2 h3; rw [hlen] at k; refine k.mono ?_; rintro e w' ⟨rfl, out, k1, k2, k3⟩; exact RezTold.yes k1 k2 k3 (k3.moved rfl)
     · have hg : ¬ abp H i s = true := by
        unfold abp; rw [hx, w3, hlE, Bool.and_eq_true, decide_eq_true_eq, decide_eq_true_eq]; rintro ⟨_, h4⟩; omega
       rw [if_neg hg]; exact afC h hbase hcap hc hR hb hN hz hs (by omega) hi hx h2 (by omega)
   · have hg : ¬ abp H i s = true := by
      unfold abp; rw [hx, w3, hlE, Bool.and_eq_true, decide_eq_true_eq, decide_eq_true_eq]; rintro ⟨h4, _⟩; exact h2 h4
     rw [if_neg hg]; exact afB h hbase hcap hc hR hb hN hz hs (by omega) hi hx h2
end
theorem ao4 : ao1 := by
 intro w g base cap c A bs H o s h hbase hcap hc hR ho hsr; have hT := apR w g base cap c A bs H o s h hbase hcap hc hR ho hsr; constructor
 · intro hs; have HT := hE0 (hT.1 hs); dsimp only [aaz] at HT ⊢; clear hT hs h hR; go_enter Tryz.func59, Tryz.ntmps59
   go_wp2_with fail
   refine HT.out.mono ?_; rintro e w1 ⟨rfl, hb1⟩; have HB1 := hE0 hb1; have HI := hE0 (aqv w1); clear hb1 HT; go_wp2_with fail
   refine HI.out.mono ?_; rintro e w2 ⟨rfl, rfl⟩; clear HI; go_wp2
   go_ret2
   exact ⟨rfl, HB1.out⟩
 · intro hs; have hq := (aac _).1 hs; obtain ⟨n, rfl⟩ : ∃ n : Nat, s = (n : Int) := ⟨s.toNat, by omega⟩; rw [Int.toNat_natCast]; have hT := hT.2 hs; rw [Int.toNat_natCast] at hT; have HUK := hE0 (fun w1 (hB : Below w.heap.size w w1) => am6 w1 g base cap c A bs H o (h.below hB) hbase hcap hc hR ho)
   cases hi : aaK H.blks o with
   | none =>
    have e1 : H.trimO o n = none := by unfold Hp.trimO; rw [hi]
    have e2 : H.resize o n = ((0, 3), H) := by unfold Hp.resize; rw [hi]
    rw [e1] at hT; rw [e2]; rw [hi] at HUK; dsimp only [acO, aaL, bkV, Bk.val, Option.isSome, aaz, Option.map] at HUK hT; have HT := hE0 hT; clear hT hs h hR e1 e2 hi; go_enter Tryz.func59, Tryz.ntmps59
    go_wp2_with fail
    refine HT.out.mono ?_; rintro e w1 ⟨rfl, hb1⟩; have HB1 := hE0 hb1; have HI := hE0 (apS w1); have HU := hE0 (HUK.out w1 hb1); clear hb1 HT HUK; go_wp2_with fail
    refine HI.out.mono ?_; rintro e w2 ⟨rfl, rfl⟩; clear HI; go_wp2_with fail
    refine HU.out.mono ?_; rintro e w3 ⟨rfl, hb3⟩; have hb3' := HB1.out.trans (hb3.mono HB1.out.size); have HB3 := hE0 (hb3'.alloc hb3'.size (.cells #[.int .i64 0, .int .i64 0, .bool false] 81)); clear hb3 hb3' HU HB1; go_wp2
    go_ret2
    exact RezTold.no (by decide) HB3.out
   | some i =>
    obtain ⟨i1, i2, i3⟩ := adZ hi; obtain ⟨x, hx⟩ := nmE (aag H.blks i); obtain ⟨xo, xs, xu⟩ := x; rw [hx] at i2 i3; dsimp only at i2 i3; subst i3; subst i2; have hxb := (hR.bound (by omega)).2 _ (List.mem_of_getElem? (aax i1)); rw [hx] at hxb; dsimp only at hxb; have hbl := (hR.bound (by omega)).1; by_cases hle : n <= xs
    · have e1 : H.trimO (xo : Int) n = some (H.cut i n) := by
       unfold Hp.trimO; rw [hi]; dsimp only; rw [hx]; dsimp only; rw [if_neg (by omega)]
      have e2 : H.resize (xo : Int) n = ((xo, 0), H.cut i n) := by
       unfold Hp.resize; rw [hi]; dsimp only; rw [hx]; dsimp only; rw [if_pos hle]
      rw [e1] at hT; rw [e2]; dsimp only [acO, aaz] at hT; have HT := hE0 hT; clear hT hs h hR e1 e2 hi HUK; go_enter Tryz.func59, Tryz.ntmps59
      go_wp2_with fail
      refine HT.out.mono ?_; rintro e w1 ⟨rfl, out, hB, hR1, hH1⟩; have HF := hE0 (RezTold.yes (o := (xo : Int)) hB hR1 hH1 (hH1.moved rfl)); clear hB hR1 hH1 HT; go_wp2
      go_ret2
      exact HF.out
    · have e1 : H.trimO (xo : Int) n = none := by
       unfold Hp.trimO; rw [hi]; dsimp only; rw [hx]; dsimp only; rw [if_pos (by omega)]
      have HE := hE0 (fun w1 (hB : Below w.heap.size w w1) => aiQ (h.below hB) hbase hcap hc hR hs hi hx (by omega)); obtain ⟨rr, hrr⟩ := nmE (H.resize (xo : Int) n); rw [hrr] at HE ⊢; rw [e1] at hT; rw [hi, Option.map_some, hx] at HUK; dsimp only [acO, aaL, bkV, Bk.val, Option.isSome, aaz] at HUK hT; have HT := hE0 hT; clear hT hs h hR e1 hi hrr; go_enter Tryz.func59, Tryz.ntmps59
      go_wp2_with fail
      refine HT.out.mono ?_; rintro e w1 ⟨rfl, hb1⟩; have HB1 := hE0 hb1; have HI := hE0 (apS w1); have HU := hE0 (HUK.out w1 hb1); clear hb1 HT HUK; go_wp2_with fail
      refine HI.out.mono ?_; rintro e w2 ⟨rfl, rfl⟩; clear HI; go_wp2_with fail
      refine HU.out.mono ?_; rintro e w3 ⟨rfl, hb3⟩; have hb3' := HB1.out.trans (hb3.mono HB1.out.size); obtain ⟨w4, hw4⟩ := nmE (w3.alloc (.cells #[.int .i64 (xo : Int), .int .i64 (xs : Int), .bool true] 81)); have hb4 : Below w.heap.size w w4 := by rw [<- hw4]; exact hb3'.alloc hb3'.size _
      have n4 := anE hw4; have HE4 := hE0 (HE.out w4 hb4); have HB4 := hE0 hb4; have HW4 := hE0 hw4; obtain ⟨⟨d0, d1, d2⟩, _⟩ := aad n4; have hlt4 := aaa n4; clear hb3 hb3' HU HB1 HE hb4 hw4 n4; go_wp2_with (first | (rw [HW4.out]) | fail)
      refine HE4.out.mono ?_; clear d0 d1 d2 hlt4; rintro e w5 hT; obtain ⟨v, x, rfl⟩ := hT.shape; have HT := hE0 (hT.after HB4.out); clear hT HE4 HB4; go_wp2
      go_ret2
      exact HT.out
section
variable {F : Nat -> Prop} {w w' : World} {p gl : Nat} {H : Hp} {Vb Vd : Value} {cs : List Value}
theorem adf (h : Hm F w p H Vb Vd gl cs) (hn : H.blks.length <= 100000) (q : Nat) (hq : q < 18446744073709551616) (x : Option Nat) (hx : H.handleB q = x) :
 Calls Tryz.prog 36 #[.pointer (some ⟨p, 0, none⟩), .int .u64 (q : Int)] w fun e w' => e = .returned (.int .i64 (ixV x)) /\ w = w' := by
 unfold Hp.handleB at hx; by_cases h1 : q < 8
 · rw [if_pos (.inl h1)] at hx; subst hx; have g1 : decide ((q : Int) < 8) = true := decide_eq_true (by omega); clear h; go_enter Tryz.func36, Tryz.ntmps36
   go_wp2
   go_ret
   exact ⟨rfl, rfl⟩
 · have g1 : decide ((q : Int) < 8) = false := decide_eq_false (by omega); by_cases h2 : 20000 < q
   · rw [if_pos (.inr h2)] at hx; subst hx; have g2 : decide ((20000 : Int) < (q : Int)) = true := decide_eq_true (by omega); clear h; go_enter Tryz.func36, Tryz.ntmps36
     go_wp2
     go_ret
     exact ⟨rfl, rfl⟩
   · have g2 : decide ((20000 : Int) < (q : Int)) = false := decide_eq_false (by omega); rw [if_neg (by omega)] at hx; have HU := hE0 (abq h hn ((q : Int) - 8) (by omega) x hx); have hq2 : q <= 20000 := by omega
     have hq3 : 8 <= q := by omega
     clear h hx; go_enter Tryz.func36, Tryz.ntmps36
     go_wp2_with fail
     refine HU.out.mono ?_; rintro e w2 ⟨rfl, rfl⟩; go_wp2
     go_ret
     exact ⟨rfl, rfl⟩
theorem Hm.gset (h : Hm F w p H Vb Vd gl cs) (g2 : Nat) (hrow : w.heap[g2]? = some (.cells (List.replicate 22 (Value.slice none 0 0)).toArray 86 (0, 0))) :
 Hm (fun k => F k \/ k = g2) (w.setCell ⟨p, 3, none⟩ (.slice (some ⟨g2, 0, none⟩) 22 22)) p { H with lists := fun _ => [] } Vb Vd g2 (List.replicate 22 (.slice none 0 0)) := by
 have hk := amD w p 3 (.slice (some ⟨g2, 0, none⟩) 22 22); have hg : g2 ≠ p := fun e => by
  have h1 := h.obj; rw [<- e, hrow] at h1; injection h1 with h1; injection h1 with _ h1 _; exact absurd h1 (by decide)
 refine ⟨?_, aaD h.ob (fun k e => hk k (abz h.ob h.obj (by decide) k e)), aaD h.od (fun k e => hk k (abz h.od h.obj (by decide) k e)), (hk g2 hg).trans hrow, List.length_replicate, fun d hd => ⟨.slice none 0 0, by rw [List.getElem?_replicate, if_pos hd], World.ownsRow_nil _ _ _ _⟩, .inl h.fp, .inr rfl, fun k e => .inl (h.fb k e), fun k e => .inl (h.fd k e), fun d v k hd hv e => ?_, h.sl⟩
 · have := heap_setCell_same w p 3 _ _ (.slice (some ⟨g2, 0, none⟩) 22 22) h.obj; rw [this]; rfl
 · rw [List.getElem?_replicate, if_pos hd] at hv; injection hv with hv; subst hv
   cases e
theorem ank (h : Hm F w p H Vb Vd gl cs) (hok : H.Ok) :
 Calls Tryz.prog 20 #[.pointer (some ⟨p, 0, none⟩)] w fun e w' => e = .returned (.tuple #[]) /\ HT F w p H.rebuild w' := by
 obtain ⟨c22, h22⟩ : ∃ c22 : List Value, List.replicate 22 (Value.slice none 0 0) = c22 := ⟨_, rfl⟩; have HMS : ∀ W : World, (Instr.makeSlice 56 (.int .i64 22) (.int .i64 22)).run Tryz.prog W = .ok (.slice (some ⟨W.heap.size, 0, none⟩) 22 22) (W.alloc (.cells c22.toArray 86)) := fun W => by rw [<- h22]; exact anS W
 obtain ⟨wg, hwg⟩ := nmE (w.alloc (.cells c22.toArray 86)); have b1 := abE hwg; have n1 := anE hwg; have hg := h.below b1; have q3 := hg.c3; have f3 := hg.thaw 3; have hs := hg.gset w.heap.size (by rw [h22]; exact n1); obtain ⟨w1, hw1⟩ := nmE (wg.setCell ⟨p, 3, none⟩ (.slice (some ⟨w.heap.size, 0, none⟩) 22 22)); rw [hw1, h22] at hs; have hz : Hz F w p (fun k => F k \/ k = w.heap.size) w1 (aeg H 0) Vb Vd w.heap.size c22 := by
  refine ⟨hs, (Tch.of_below (S := F) b1).trans (by rw [<- hw1]; exact Tch.set wg ⟨p, 3, none⟩ _ h.fp) (fun _ _ h => h), fun k hk => ?_⟩; rcases hk with hk | hk
  · exact .inl hk
  · exact .inr (by omega)
 have hn512 := hok.n; have HZ0 := hE0 hz; have HWG := hE0 hwg; have HW1 := hE0 hw1; have HOK := hE0 hok; obtain ⟨n, hn⟩ := nmE H.blks.length; rw [hn] at hn512; have HN := hE0 hn; have HRB : Hid (H.rebuild = aeg H n) := (show _ = _ by unfold Hp.rebuild; rw [hn]); clear h hok h22 hwg b1 n1 hg hs hw1 hz hn; go_enter Tryz.func20, Tryz.ntmps20
 go_wp2_with (first | (rw [HWG.out]) | (rw [HW1.out]) | fail)
 clear q3 f3 HMS HWG HW1; go_loopw [2] (fun i wr => ∃ (j : Nat) (F' : Nat -> Prop) (Vb Vd : Value) (gl : Nat) (cs : List Value), i = .int .i64 (j : Int) /\ j <= n /\ Hz F w p F' wr (aeg H j) Vb Vd gl cs) (fun i _ => n - (intOf i).toNat)
 case atStart => exact ⟨0, _, _, _, _, _, rfl, Nat.zero_le _, HZ0.out⟩
 case round =>
  obtain ⟨j, F', Vb, Vd, gl, cs, rfl, hj, hz⟩ := hrel; clear HZ0; obtain ⟨e1, e2, _⟩ := acY H j; have hfw := agH H j; have k1 := hz.hm.c1; obtain ⟨A, c, hV⟩ := aa0 hz.hm.ob; rw [hV] at k1 hz; have hlen : (aeg H j).blks.length = n := by rw [e1]; exact HN.out
  rw [hlen] at k1 hz; by_cases hlt : j < n
  · obtain ⟨b1, c1, hb, _, hnc, _⟩ := aav hz.hm.ob (by omega); injection hb with e3 _ e5; subst e3 e5; have d2 := (hz.hm.at_n hlen hlt).2.2; rw [e1] at d2; have hji : (j : Int) < (n : Int) := by omega
    have HZ := hE0 hz; have HE1 := hE0 e1; have HFW := hE0 hfw; have HLEN := hE0 hlen
    cases hu : (aag H.blks j).used with
    | true =>
     rw [hu] at d2; have HR : Hid (aeg H (j + 1) = aeg H j) := (show _ = _ by
      show (if (aag H.blks j).used = true then aeg H j else (aeg H j).in_ j) = _; rw [if_pos hu])
     clear hz e1 e2 hfw hlen hV hu; go_wp2
     go_roundw
     case rel => exact ⟨j + 1, _, _, _, _, _, by go_num, by omega, by rw [HR.out]; exact HZ.out⟩
     case measure => simp only [intOf]; omega
    | false =>
     rw [hu] at d2; have HR : Hid (aeg H (j + 1) = (aeg H j).in_ j) := (show _ = _ by
      show (if (aag H.blks j).used = true then aeg H j else (aeg H j).in_ j) = _; rw [if_neg (by rw [hu]; decide)])
     clear hz e1 e2 hfw hlen hV hu; go_wp2_with fail
     refine (acS HZ.out.hm j (by rw [HLEN.out]; exact hlt) (by rw [HE1.out]; exact HOK.out.sz (by rw [HN.out]; exact hlt)) (fun d hd => Nat.le_trans (HFW.out d hd) (by omega))).mono ?_; rintro e w2 ⟨rfl, ht⟩; obtain ⟨F2, Vb2, Vd2, gl2, cs2, z2⟩ := HZ.out.step ht; have Z2 := hE0 z2; clear z2 ht HZ k1 d2; go_wp2
     go_roundw
     case rel => exact ⟨j + 1, _, _, _, _, _, by go_num, by omega, by rw [HR.out]; exact Z2.out⟩
     case measure => simp only [intOf]; omega
  · obtain rfl : n = j := by omega
    have HTO := hE0 hz.fin; clear hz; go_wp2
    go_end0
    exact ⟨rfl, by rw [HRB.out]; exact HTO.out⟩
end
structure Hd (F G : Nat -> Prop) (w : World) (p : Nat) (H : Hp) : Prop where
 hm : HM F w p H
 dat : ∀ d ∈ H.ds, (d.1 = .slice none 0 0 /\ d.2 = []) \/ ∃ b c, d.1 = .slice (some ⟨b, 0, none⟩) d.2.length c /\ G b /\ w.ownsRow 0 5 1 d.1 d.2.length (d.2.map bv)
 sep : H.ds.Pairwise fun a b => ∀ k, a.1.ownBlock = some k -> b.1.ownBlock ≠ some k
 gf : ∀ k, G k -> ¬ F k
 gl : ∀ k, G k -> k < w.heap.size
 fl : ∀ k, F k -> k < w.heap.size
def Ht (F G : Nat -> Prop) (w : World) (p : Nat) (H' : Hp) (w' : World) : Prop := ∃ F' G', Hd F' G' w' p H' /\ Tch (fun k => F k \/ G k) w w' /\ ∀ k, F' k \/ G' k -> (F k \/ G k) \/ w.heap.size <= k
section
variable {F G : Nat -> Prop} {w w' w2 : World} {p : Nat} {H H' H2 : Hp}
theorem Hd.below (h : Hd F G w p H) (hb : Below w.heap.size w w') : Hd F G w' p H :=
 ⟨h.hm.below hb, fun d hd => (h.dat d hd).imp id fun ⟨b, c, e, g, o⟩ => ⟨b, c, e, g, aay o hb⟩, h.sep, h.gf, fun k hk => Nat.lt_of_lt_of_le (h.gl k hk) hb.size, fun k hk => Nat.lt_of_lt_of_le (h.fl k hk) hb.size⟩
theorem Hd.tch {S : Nat -> Prop} (h : Hd F G w p H) (ht : Tch S w w') (hf : ∀ k, F k -> ¬ S k) (hg : ∀ k, G k -> ¬ S k) : Hd F G w' p H :=
 ⟨h.hm.tch ht hf, fun d hd => (h.dat d hd).imp id fun ⟨b, c, e, g, o⟩ => ⟨b, c, e, g, aaD o fun k hk => by
  rw [e] at hk; injection hk with hk; have hk : b = k := hk; subst hk; exact ht.block b (h.gl b g) (hg b g)⟩, h.sep, h.gf, fun k hk => Nat.lt_of_lt_of_le (h.gl k hk) ht.size, fun k hk => Nat.lt_of_lt_of_le (h.fl k hk) ht.size⟩
theorem Hd.turn (h : Hd F G w p H) (ht : HT F w p H' w') (hds : ∀ d ∈ H'.ds, d ∈ H.ds \/ d = aaR) (hsep : H'.ds.Pairwise fun a b => ∀ k, a.1.ownBlock = some k -> b.1.ownBlock ≠ some k) :
 ∃ F', Hd F' G w' p H' /\ Tch F w w' /\ ∀ k, F' k -> F k \/ w.heap.size <= k := by
 obtain ⟨F1, h1, t1, f1⟩ := ht; obtain ⟨Vb, Vd, gl, cs, hmm⟩ := h1; refine ⟨_, ⟨⟨Vb, Vd, gl, cs, hmm.tight⟩, fun d hd => ?_, hsep, fun k hk hf => ?_, fun k hk => Nat.lt_of_lt_of_le (h.gl k hk) t1.size, fun k hk => hmm.feet_lt hk⟩, t1, fun k hk => f1 k (hmm.feetF hk)⟩
 · rcases hds d hd with hd | rfl
   · refine (h.dat d hd).imp id fun ⟨b, c, e, g, o⟩ => ⟨b, c, e, g, aaD o fun k hk => ?_⟩; rw [e] at hk; injection hk with hk; have hk : b = k := hk; subst hk; exact t1.block b (h.gl b g) (h.gf b g)
   · exact .inl ⟨rfl, rfl⟩
 · rcases f1 k (hmm.feetF hf) with h' | h'
   · exact h.gf k hk h'
   · have := h.gl k hk; omega
theorem Ht.of (h : Hd F G w p H) (hb : Below w.heap.size w w') : Ht F G w p H w' := ⟨F, G, h.below hb, Tch.of_below hb, fun _ hk => .inl hk⟩
theorem Hd.ht (h : Hd F G w p H) (ht : HT F w p H' w') (hds : ∀ d ∈ H'.ds, d ∈ H.ds \/ d = aaR) (hsep : H'.ds.Pairwise fun a b => ∀ k, a.1.ownBlock = some k -> b.1.ownBlock ≠ some k) : Ht F G w p H' w' := by
 obtain ⟨F', h1, t1, f1⟩ := h.turn ht hds hsep; refine ⟨F', G, h1, ⟨t1.os, t1.tape, t1.output, t1.size, fun k hk hn => t1.block k hk (fun hf => hn (.inl hf))⟩, fun k hk => ?_⟩; rcases hk with hk | hk
 · rcases f1 k hk with h' | h'
   · exact .inl (.inl h')
   · exact .inr h'
 · exact .inl (.inr hk)
theorem ao5 {ds : List Dt} {i : Nat} {y : Dt} (h : ds.Pairwise fun a b => ∀ k, a.1.ownBlock = some k -> b.1.ownBlock ≠ some k) (hy : ∀ d ∈ ds, ∀ k, y.1.ownBlock = some k -> d.1.ownBlock ≠ some k) : (ds.set i y).Pairwise fun a b => ∀ k, a.1.ownBlock = some k -> b.1.ownBlock ≠ some k := by
 rw [List.pairwise_iff_getElem] at h ⊢; intro m n hm hn hmn k; rw [List.length_set] at hm hn; rw [List.getElem_set, List.getElem_set]; by_cases e1 : i = m
 · rw [if_pos e1, if_neg (by omega)]; exact fun hk => hy _ (List.getElem_mem _) k hk
 · rw [if_neg e1]; by_cases e2 : i = n
   · rw [if_pos e2]; exact fun hk hk2 => hy _ (List.getElem_mem hm) k hk2 hk
   · rw [if_neg e2]; exact h m n hm hn hmn k
theorem Hd.dset (h : Hd F G w p H) (hlen : w.heap.size <= w'.heap.size) {i b c : Nat} (l : List UInt8) (hb : w.heap.size <= b) (hown : w'.ownsRow 0 5 1 (.slice (some ⟨b, 0, none⟩) l.length c) l.length (l.map bv))
 (hbel : Below w.heap.size w w') (Vb Vd : Value) (gl : Nat) (cs : List Value) (hm : Hm F w' p H Vb Vd gl cs) (bd cd : Nat) (hV : Vd = .slice (some ⟨bd, 0, none⟩) H.ds.length cd) :
 Ht F G w p (H.dset i (.slice (some ⟨b, 0, none⟩) l.length c, l)) (w'.setCell ⟨bd, i, none⟩ (.slice (some ⟨b, 0, none⟩) l.length c)) := by
 have hFbd : F bd := hm.fd bd (by rw [hV]; rfl); have hd := h.below hbel; have h2 := hm.dcell (i := i) hV (.slice (some ⟨b, 0, none⟩) l.length c, l) ⟨_, _, _, rfl⟩; have hbl : b < w'.heap.size := (hown.lt b rfl).2; have hne : ∀ k, k ≠ bd -> (w'.setCell ⟨bd, i, none⟩ (.slice (some ⟨b, 0, none⟩) l.length c)).heap[k]? = w'.heap[k]? := fun k hk => Below.heap_setCell w' ⟨bd, i, none⟩ _ k hk; have hsz : (w'.setCell ⟨bd, i, none⟩ (.slice (some ⟨b, 0, none⟩) l.length c)).heap.size = w'.heap.size := by simp [World.setCell]
 refine ⟨F, fun k => G k \/ k = b, ⟨⟨_, _, _, _, h2⟩, fun d hdm => ?_, ?_, fun k hk hf => ?_, fun k hk => ?_, fun k hk => ?_⟩, ?_, fun k hk => ?_⟩
 · rcases List.mem_or_eq_of_mem_set hdm with hdm | rfl
   · refine (hd.dat d hdm).imp id fun ⟨b', c', e, g, o⟩ => ⟨b', c', e, .inl g, aaD o fun k hk => ?_⟩; rw [e] at hk; injection hk with hk; have hk : b' = k := hk; subst hk; exact hne _ (fun e => h.gf _ g (e ▸ hFbd))
   · refine .inr ⟨b, c, rfl, .inr rfl, aaD hown fun k hk => ?_⟩; injection hk with hk; have hk : b = k := hk; subst hk; exact hne _ (fun e => by have := h.fl bd hFbd; omega)
 · refine ao5 h.sep fun d hdm k hk hk2 => ?_; injection hk with hk; have hk : b = k := hk; subst hk; rcases h.dat d hdm with ⟨e, _⟩ | ⟨b', c', e, g, _⟩
   · rw [e] at hk2; cases hk2
   · rw [e] at hk2; injection hk2 with hk2; have hk2 : b' = b := hk2; subst hk2; have := h.gl b' g; omega
 · rcases hk with hk | rfl
   · exact h.gf k hk hf
   · have := h.fl k hf; omega
 · rw [hsz]; rcases hk with hk | rfl
   · exact Nat.lt_of_lt_of_le (h.gl k hk) hlen
   · exact hbl
 · rw [hsz]; exact Nat.lt_of_lt_of_le (h.fl k hk) hlen
 · exact (Tch.of_below (S := fun k => F k \/ G k) hbel).trans (Tch.set w' ⟨bd, i, none⟩ _ (.inl hFbd)) (fun _ _ h => h)
 · rcases hk with hk | hk | rfl
   · exact .inl (.inl hk)
   · exact .inl (.inr hk)
   · exact .inr hb
end
section
variable {F G : Nat -> Prop} {w w' w2 : World} {p : Nat} {H H' H2 : Hp}
theorem alL {l : List UInt8} {k : Nat} {u : UInt8} (h : l[k]? = some u) : l.take (k + 1) = l.take k ++ [u] := by
 rw [List.take_add_one, h]; rfl
theorem ahM (h : Hd F G w p H) (hok : H.Ok) (i : Nat) (hi : i < H.blks.length) (x : UInt8) :
 Calls Tryz.prog 66 #[.pointer (some ⟨p, 0, none⟩), .int .i64 (i : Int), .int .u8 (x.toNat : Int)] w fun e w' => e = .returned (.tuple #[]) /\ ∃ V, Ht F G w p (H.dset i (V, afd (H.ds.getD i aaR).2 ((aag H.blks i).size - 16) x)) w' := by
 obtain ⟨Vb, Vd, gl, cs, hmm⟩ := h.hm; obtain ⟨b1, c1, rfl, _, hnc1, _⟩ := aav hmm.ob (by omega); obtain ⟨b2, c2, rfl, _, hnc2, _⟩ := aav hmm.od (by rw [hok.dl]; omega); have hn512 := hok.n; have hsz := (aac _).1 (hok.sz hi); have q1 := hmm.c1; have d1 := (hmm.at_n rfl hi).2.1; have hdl := hok.dl; have q2 := hmm.c2; have hod := hmm.od; obtain ⟨dv, k2, k3⟩ := aaW hod (j := i) (by omega); obtain ⟨dd, hdd⟩ := nmE (H.ds.getD i aaR); have hddm : dd ∈ H.ds /\ dv = dd.1 := by
  rw [List.getElem?_map] at k3; rw [List.getD_eq_getElem?_getD] at hdd
  cases h' : H.ds[i]? with
  | none => rw [h'] at k3; cases k3
  | some y =>
   rw [h'] at k3 hdd; injection k3 with k3; have hdd : y = dd := hdd; subst hdd; exact ⟨List.mem_of_getElem? h', k3.symm⟩
 obtain ⟨hddm, rfl⟩ := hddm; rw [hdd]; have hdat := h.dat dd hddm; obtain ⟨V, D⟩ := dd; dsimp only at hdat k2 ⊢; have hrd : ∃ A c, V = .slice A D.length c /\ ∀ k u, D[k]? = some u -> ∃ b, A = some ⟨b, 0, none⟩ /\ b < w.heap.size /\ w.cell? ⟨b, k, none⟩ = some (.int .u8 (u.toNat : Int)) := by
  rcases hdat with ⟨rfl, rfl⟩ | ⟨b, c, rfl, hg, ho⟩
  · exact ⟨none, 0, rfl, fun k u hu => by simp at hu⟩
  · refine ⟨some ⟨b, 0, none⟩, c, rfl, fun k u hu => ⟨b, rfl, h.gl b hg, ?_⟩⟩; have hk := aa5 hu; have h1 := ho.cellAt k (by omega); rw [List.getElem?_map, hu] at h1; exact h1
 obtain ⟨A, c, rfl, hcell⟩ := hrd; obtain ⟨xs, hxs⟩ := nmE ((aag H.blks i).size); rw [hxs] at d1 hsz ⊢; obtain ⟨n, hn⟩ := nmE (xs - 16); have hn1 : (xs : Int) - 16 = (n : Int) := by omega
 rw [hn]; obtain ⟨dl, hdlen⟩ := nmE D.length; rw [hdlen] at k2; obtain ⟨R, hR⟩ := nmE (afd D n x); have hRl : R.length = n := by rw [<- hR]; exact ahA _ _ _
 have hRa : ∀ k, k < n -> R[k]? = some (D.getD k x) := fun k hk => by rw [<- hR]; exact agI _ _ _ _ hk
 rw [hR]; have hn16 : 16 <= n := by omega
 have hnle : n <= 16384 := by omega
 have hplt := hmm.lt; have hb2l : b2 < w.heap.size := own_lt hod rfl; obtain ⟨m, hm⟩ := nmE H.blks.length; rw [hdl, hm] at q2; rw [hm] at q1; have him : (i : Int) < (m : Int) := by omega
 have HH := hE0 h; have HM := hE0 hmm; have HRL := hE0 hRl; have HRA := hE0 hRa; have HCE := hE0 hcell; have HDL := hE0 hdlen; obtain ⟨B5, hB5⟩ := nmE w.heap.size; have HB5 := hE0 hB5; have HCS : Hid (∀ W, Below B5 w W -> W.cell? ⟨p, 2, none⟩ = some (.slice (some ⟨b2, 0, none⟩) m c2) /\ W.cell? ⟨b2, i, none⟩ = some (.slice A dl c)) := fun W h' => ⟨(h'.cell (p := ⟨p, _, none⟩) (by rw [<- hB5]; exact hplt)).trans q2, (h'.cell (p := ⟨b2, _, none⟩) (by rw [<- hB5]; exact hb2l)).trans k2⟩; clear h hmm hok hdat hddm hdd hod k3 hcell hRl hRa hR hB5 hxs hn hm hdlen hdl hsz hnc1 q2 k2; go_enter Tryz.func66, Tryz.ntmps66
 go_wp2
 go_loopw [7, 8] (fun q i wr => ∃ k : Nat, i = .int .i64 (k : Int) /\ k <= n /\ wr.ownsRow B5 5 1 q k ((R.take k).map bv) /\ Below B5 w wr) (fun _ i _ => n - (intOf i).toNat)
 case atStart => exact ⟨0, rfl, Nat.zero_le _, by rw [List.take_zero]; exact World.ownsRow_nil _ _ _ _, Below.refl _ _⟩
 case round =>
  obtain ⟨k, rfl, hk, hown, hb9⟩ := hrel; obtain ⟨A9, c9, rfl⟩ := aa0 hown; have hBw : B5 <= wr.heap.size := by have := hb9.size; have := HB5.out; omega
  obtain ⟨e1, e2⟩ := HCS.out wr hb9; by_cases hlt : k < n
  · have hki : (k : Int) < (n : Int) := by omega
    have hra := HRA.out k hlt; have hnx := alL hra; obtain ⟨u, hu⟩ := nmE (D.getD k x); rw [hu] at hnx; obtain ⟨w6, hw6⟩ := nmE (wr.alloc (.cells #[.int .u8 (u.toNat : Int)] 5)); have b6 := abE hw6; have f6 : Fill w6 wr.heap.size 5 [u] := by rw [<- hw6]; exact heap_alloc_new wr _
    have own6 := aay hown b6; have RD := hE0 f6.reads; have h6B : B5 <= w6.heap.size := Nat.le_trans hBw b6.size; have OWN6 := hE0 own6; have HB6 := hE0 (hb9.trans (b6.mono hBw)); have HW6 := hE0 hw6; have HNX := hE0 hnx; by_cases hkd : k < dl
    · have hkd2 : (k : Int) < (dl : Int) := by omega
      have hDk : D[k]? = some u := by
       rw [List.getD_eq_getElem?_getD, List.getElem?_eq_getElem (by rw [HDL.out]; exact hkd)] at hu; rw [List.getElem?_eq_getElem (by rw [HDL.out]; exact hkd)]; exact congrArg some hu
      obtain ⟨b, rfl, hbw, hce⟩ := HCE.out k u hDk; have e3 := (hb9.cell (p := ⟨b, k, none⟩) (by rw [<- HB5.out]; exact hbw)).trans hce; clear hown hb9 hra hnx hu hw6 b6 f6 own6 hDk hce; go_wp2_with (first
       | (rw [HW6.out])
       | (at_builtin; go_must (refine adl rfl _ _ 36 5 rfl Tryz.underlying36 aeA B5 _ k (R.take k) rfl OWN6.out _ (some ⟨wr.heap.size, 0, none⟩) 1 1 [u] rfl RD.out (fun e => by cases e) (by omega) h6B ?_); intro x7 w7 own7 hb7 gr7;
          have HB7 : Hid (Below B5 w w7) := HB6.out.trans hb7; have OWN7 := hE0 own7; clear own7 gr7 hb7)
       | fail)
      go_roundw
      case rel => exact ⟨k + 1, by go_num, by omega, by rw [HNX.out]; exact OWN7.out, HB7.out⟩
      case measure => simp only [intOf]; omega
    · have hkd2 : (dl : Int) <= (k : Int) := by omega
      have hux : u = x := by
       rw [List.getD_eq_getElem?_getD, List.getElem?_eq_none (by rw [HDL.out]; omega)] at hu; exact hu.symm
      subst hux; clear hown hb9 hra hnx hu hw6 b6 f6 own6; go_wp2_with (first
       | (rw [HW6.out])
       | (at_builtin; go_must (refine adl rfl _ _ 36 5 rfl Tryz.underlying36 aeA B5 _ k (R.take k) rfl OWN6.out _ (some ⟨wr.heap.size, 0, none⟩) 1 1 [u] rfl RD.out (fun e => by cases e) (by omega) h6B ?_); intro x7 w7 own7 hb7 gr7;
          have HB7 : Hid (Below B5 w w7) := HB6.out.trans hb7; have OWN7 := hE0 own7; clear own7 gr7 hb7)
       | fail)
      go_roundw
      case rel => exact ⟨k + 1, by go_num, by omega, by rw [HNX.out]; exact OWN7.out, HB7.out⟩
      case measure => simp only [intOf]; omega
  · obtain rfl : n = k := by omega
    rw [List.take_of_length_le (Nat.le_of_eq HRL.out)] at hown; obtain ⟨b9, c9', hV, _⟩ := aav (aaI hown (Nat.zero_le _)) (by omega); injection hV with e3 _ e5; subst e3 e5; have hbel : Below w.heap.size w wr := by rw [HB5.out]; exact hb9
    have hown' := aaI hown (Nat.zero_le _); have hto := HH.out.dset (i := i) (b := b9) (c := c9) hbel.size R (by rw [HB5.out]; exact (hown.lt b9 rfl).1) (by rw [HRL.out]; exact hown') hbel _ _ _ _ (HM.out.below hbel) b2 c2 rfl; rw [HRL.out] at hto; have HTO := hE0 hto; have f2 := aas (HM.out.below hbel).od i; clear hown hb9 hbel hown' hto; go_wp2
    go_end0
    exact ⟨rfl, _, HTO.out⟩
end
def apm (F G : Nat -> Prop) (w : World) (p : Nat) (r : (Nat × Int) × Hp) (e : Ending) (w' : World) : Prop :=
 e = .returned (.tuple #[.int .u64 (r.1.1 : Int), .int .i64 r.1.2]) /\ ∃ H', Ht F G w p H' w' /\ H'.str = r.2.str
section
variable {F G : Nat -> Prop} {w w' : World} {p : Nat} {H : Hp}
theorem Ht.more {F1 G1 : Nat -> Prop} {w1 w2 : World} {H2 : Hp} (t : Tch (fun k => F k \/ G k) w w1) (f : ∀ k, F1 k \/ G1 k -> (F k \/ G k) \/ w.heap.size <= k) (k : Ht F1 G1 w1 p H2 w2) : Ht F G w p H2 w2 := by
 obtain ⟨F2, G2, h2, t2, f2⟩ := k; refine ⟨F2, G2, h2, t.trans t2 (fun i hi hk => ?_), fun k hk => ?_⟩
 · rcases f i hk with h' | h'
   · exact h'
   · omega
 · rcases f2 k hk with h' | h'
   · exact f k h'
   · exact .inr (Nat.le_trans t.size h')
theorem Ht.up {F1 : Nat -> Prop} {w1 w2 : World} {H2 : Hp} (t1 : Tch F w w1) (f1 : ∀ k, F1 k -> F k \/ w.heap.size <= k) (k : Ht F1 G w1 p H2 w2) : Ht F G w p H2 w2 := by
 refine Ht.more (F1 := F1) (G1 := G) ⟨t1.os, t1.tape, t1.output, t1.size, fun k hk hn => t1.block k hk (fun hf => hn (.inl hf))⟩ (fun k hk => ?_) k; rcases hk with hk | hk
 · rcases f1 k hk with h' | h'
   · exact .inl (.inl h')
   · exact .inr h'
 · exact .inl (.inr hk)
theorem agU (h : Hd F G w p H) (hok : H.Ok) (N : Nat) (hf : H.Few N) (hN : N <= 40000) (hL : H.Listed) (hc16 : H.cap <= 16384) (n : Nat) (hn : n < 18446744073709551616) (x : UInt8)
 (hat : ∀ s o, abW n = some s -> (H.take s).1 = some o -> ∃ i, atB (o : Int) (H.take s).2.blks = some i) :
 Calls Tryz.prog 34 #[.pointer (some ⟨p, 0, none⟩), .int .u64 (n : Int), .int .u8 (x.toNat : Int)] w fun e w' => apm F G w p (H.get n x) e w' := by
 have HND := hE0 (fun W => ahf (w := W) n hn)
 cases hs : abW n with
 | none =>
  have e : H.get n x = ((0, 5), H) := by unfold Hp.get; rw [hs]
  have HE := hE0 e; have HS := hE0 hs; have H0 : Hid (Ht F G w p H w) := Ht.of h (Below.refl _ _); clear h hok hf hL hat e hs hn; go_enter Tryz.func34, Tryz.ntmps34
  go_wp2_with fail
  refine (HND.out _).mono ?_; rintro e w2 ⟨rfl, rfl⟩; rw [HS.out]; dsimp only [ad6]; go_wp2
  go_ret2
  exact ⟨by rw [HE.out]; rfl, H, H0.out, by rw [HE.out]⟩
 | some s =>
  have hsz := ach hs; have hss := (aac _).1 hsz; obtain ⟨Vb, Vd, gl, cs, hmm⟩ := h.hm; have HTK := hE0 (ab8 hmm hok N hf (by omega) hL s hsz (by omega)); have HS := hE0 hs
  cases ht : (H.take s).1 with
  | none =>
   have e : H.get n x = ((0, 5), H) := by unfold Hp.get; rw [hs]; dsimp only; rw [ht]
   have HE := hE0 e; have HTN := hE0 ht; have H0 := hE0 h; clear h hok hf hL hat e hs hn hmm ht hsz hss; go_enter Tryz.func34, Tryz.ntmps34
   go_wp2_with fail
   refine (HND.out _).mono ?_; rintro e w2 ⟨rfl, rfl⟩; rw [HS.out]; dsimp only [ad6]; go_wp2_with fail
   refine HTK.out.mono ?_; rintro e w3 ⟨rfl, ht⟩; rw [acn HTN.out] at ht; rw [HTN.out]; dsimp only [ag6, Option.isSome, Option.getD]; have hto := H0.out.ht ht (fun d hd => .inl hd) H0.out.sep; have HTO := hE0 hto; clear ht hto HTK H0; go_wp2
   go_ret2
   exact ⟨by rw [HE.out]; rfl, H, HTO.out, by rw [HE.out]⟩
  | some o =>
   obtain ⟨i, hi⟩ := hat s o hs ht; have hok1 := hok.take hc16 hsz; obtain ⟨hib, hio⟩ := abs hi; have ho16 : o <= 16384 := by
    have h1 := (aai _ _ _ (hok1.at_ hib).2.2).1; have h2 := hok1.le; omega
   have e : H.get n x = ((o + 8, 0), ((H.take s).2.wipe i).fill i x) := by unfold Hp.get; rw [hs]; dsimp only; rw [ht]; dsimp only; rw [hi]
   have hds := alm (H := H) (s := s); have hn1 := hok1.n; obtain ⟨H1, hH1⟩ := nmE ((H.take s).2); rw [hH1] at e hds hok1 hi hib hn1; have HE := hE0 e; have HTN := hE0 ht; have H0 := hE0 h; have HH1 := hE0 hH1; have HDS := hE0 hds; have HOK1 := hE0 hok1; have HI := hE0 hi; have HIB := hE0 hib; have hi512 : i < 512 := by omega
   clear h hok hf hL hat e hs hn hmm ht hsz hss hds hok1 hH1 hi hio hib; go_enter Tryz.func34, Tryz.ntmps34
   go_wp2_with fail
   refine (HND.out _).mono ?_; rintro e w2 ⟨rfl, rfl⟩; rw [HS.out]; dsimp only [ad6]; go_wp2_with fail
   refine HTK.out.mono ?_; rintro e w3 ⟨rfl, ht⟩; rw [HH1.out] at ht; rw [HTN.out]; dsimp only [ag6, Option.isSome, Option.getD]; obtain ⟨F1, h1, t1, f1⟩ := H0.out.turn ht HDS.out.1 (HDS.out.2 H0.out.sep); obtain ⟨Vb1, Vd1, gl1, cs1, hm1⟩ := h1.hm; have HAT := hE0 (acc hm1 (by omega) (o : Int) (by omega) _ HI.out); obtain ⟨b2, c2, rfl, _, hnc2, _⟩ := aav hm1.od (by rw [HOK1.out.dl]; have := HIB.out; omega); have hdl := HOK1.out.dl; obtain ⟨m, hm⟩ := nmE H1.blks.length; have k2 := hm1.c2; rw [hdl, hm] at k2; have hod := hm1.od; obtain ⟨_, k4, _⟩ := aaW hod (j := i) (by rw [hdl]; exact HIB.out); have f2 := aas hod i; have hw := hm1.wipeM (i := i) rfl; obtain ⟨w4, hw4⟩ := nmE (w3.setCell ⟨b2, i, none⟩ (.slice none 0 0)); rw [hw4] at hw; have ht4 : HT F1 w3 p (H1.wipe i) w4 := ⟨F1, ⟨_, _, _, _, hw⟩, by rw [<- hw4]; exact Tch.set w3 ⟨b2, i, none⟩ _ (hm1.fd b2 rfl), fun _ hk => .inl hk⟩; have hds4 : DsS H1.ds (H1.wipe i).ds := DsS.setNil _ _; obtain ⟨F4, h4, t4, f4⟩ := h1.turn ht4 hds4.1 (hds4.2 h1.sep); have HFU := hE0 (ahM h4 (HOK1.out.wipe (i := i)) i HIB.out x); have hmi : (i : Int) < (m : Int) := by have := HIB.out; omega
   have T1 := hE0 t1; have F1' := hE0 f1; have T4 := hE0 t4; have F4' := hE0 f4; have HW4 := hE0 hw4; clear h1 hm1 hod hw ht4 hds4 h4 ht hdl hm hw4 t1 f1 t4 f4 HTK; go_wp2_with fail
   refine HAT.out.mono ?_; rintro e w5 ⟨rfl, rfl⟩; dsimp only [ixV]; go_wp2_with (first | (rw [HW4.out]) | fail)
   refine HFU.out.mono ?_; rintro e w6 ⟨rfl, V, ht⟩; have hto := Ht.up T1.out F1'.out (Ht.up T4.out F4'.out ht); have HTO := hE0 hto; clear ht hto HFU HAT k2 k4 f2; go_wp2
   go_ret2
   exact ⟨by rw [HE.out]; rfl, _, HTO.out, by rw [HE.out]; dsimp only; rw [agJ, ajw]⟩
theorem aiR (h : Hd F G w p H) (hok : H.Ok) (N : Nat) (hf : H.Few N) (hN : N <= 40000) (hL : H.Listed) (hc16 : H.cap <= 16384) (n m : Nat) (hn : n < 18446744073709551616)
 (hat : ∀ (s o : Nat), aaG (s : Int) = true -> (H.take s).1 = some o -> ∃ i, atB (o : Int) (H.take s).2.blks = some i) :
 Calls Tryz.prog 35 #[.pointer (some ⟨p, 0, none⟩), .int .u64 (n : Int), .int .u64 (m : Int)] w fun e w' => apm F G w p (H.calloc n m) e w' := by
 rcases Nat.eq_zero_or_pos n with h0 | h0
 · subst h0; have e : H.calloc 0 m = H.get 0 0 := by unfold Hp.calloc; rw [Nat.zero_mul, if_neg (by omega)]
   have HG := hE0 (agU h hok N hf hN hL hc16 0 (by omega) 0 (fun s o h1 => hat s o (ach h1))); have HE := hE0 e; clear h hok hf hL hat e; go_enter Tryz.func35, Tryz.ntmps35
   go_wp2_with fail
   refine HG.out.mono ?_; rintro e w2 ⟨rfl, H', ht, hs⟩; have HTO := hE0 ht; have HS := hE0 hs; clear ht hs HG; go_wp2
   go_ret2
   exact ⟨by rw [HE.out]; rfl, H', HTO.out, by rw [HE.out]; exact HS.out⟩
 · have hn0 : 0 < (n : Int) := by omega
   obtain ⟨q, hq⟩ := nmE (18446744073709551615 / n); have hqi : (18446744073709551615 : Int) / (n : Int) = (q : Int) := by rw [<- hq]; rfl
   have hqt : (18446744073709551615 : Int).tdiv (n : Int) = (q : Int) := by rw [Int.tdiv_eq_ediv_of_nonneg (by omega)]; exact hqi
   have hql : q < 18446744073709551616 := by rw [<- hq]; exact Nat.lt_of_le_of_lt (Nat.div_le_self _ _) (by omega)
   have hiff : q < m ↔ 18446744073709551615 < n * m := by
    rw [<- hq, Nat.div_lt_iff_lt_mul h0, Nat.mul_comm]
   by_cases hb : 18446744073709551615 < n * m
   · have e : H.calloc n m = ((0, 5), H) := by unfold Hp.calloc; rw [if_pos hb]
     have g1 : decide ((q : Int) < (m : Int)) = true := decide_eq_true (by have := hiff.2 hb; omega); have g1' : decide (q < m) = true := decide_eq_true (hiff.2 hb); have HE := hE0 e; have H0 : Hid (Ht F G w p H w) := Ht.of h (Below.refl _ _); have g0 : decide ((0 : Int) < (n : Int)) = true := decide_eq_true hn0; clear h hok hf hL hat e hb hiff hq; go_enter Tryz.func35, Tryz.ntmps35
     go_wp2
     go_ret2
     exact ⟨by rw [HE.out]; rfl, H, H0.out, by rw [HE.out]⟩
   · have e : H.calloc n m = H.get (n * m) 0 := by unfold Hp.calloc; rw [if_neg hb]
     have g1 : decide ((q : Int) < (m : Int)) = false := decide_eq_false (by have := fun h => hb (hiff.1 h); omega); have g1' : decide (q < m) = false := decide_eq_false (fun h => hb (hiff.1 h)); have g0 : decide ((0 : Int) < (n : Int)) = true := decide_eq_true hn0; obtain ⟨k, hk⟩ := nmE (n * m); have hki : (n : Int) * (m : Int) = (k : Int) := by rw [<- hk]; exact (Int.natCast_mul n m).symm
     rw [hk] at hb e; have hk64 : k < 18446744073709551616 := by omega
     have HG := hE0 (agU h hok N hf hN hL hc16 k hk64 0 (fun s o h1 => hat s o (ach h1))); have HE := hE0 e; clear h hok hf hL hat e hb hiff hq hk; go_enter Tryz.func35, Tryz.ntmps35
     go_wp2_with fail
     refine HG.out.mono ?_; rintro e w2 ⟨rfl, H', ht, hs⟩; have HTO := hE0 ht; have HS := hE0 hs; clear ht hs HG; go_wp2
     go_ret2
     exact ⟨by rw [HE.out]; rfl, H', HTO.out, by rw [HE.out]; exact HS.out⟩
end
section
variable {F G : Nat -> Prop} {w w' : World} {p : Nat} {H : Hp}
theorem ahN (h : Hd F G w p H) (hok : H.Ok) (N : Nat) (hf : H.Few N) (hN : N <= 40000) (hL : H.Listed) (hc16 : H.cap <= 16384) (q n : Nat) (hq : q < 18446744073709551616) (hn : n < 18446744073709551616)
 (hmv : ∀ i, H.handleB q = some i -> ∀ s, abW n = some s -> ∀ o, (H.take s).1 = some o -> ∃ iq io, atB (o : Int) (H.take s).2.blks = some iq /\ atB ((q : Int) - 8) (H.take s).2.blks = some io /\ aaK (H.take s).2.blks ((q : Int) - 8) = some io)
 (hat : ∀ i, H.handleB q = some i -> ∀ s, abW n = some s -> (H.resize ((q : Int) - 8) s).1.2 = 0 -> (H.resize ((q : Int) - 8) s).2.Ok /\ ∃ i, atB ((H.resize ((q : Int) - 8) s).1.1 : Int) (H.resize ((q : Int) - 8) s).2.blks = some i) :
 Calls Tryz.prog 38 #[.pointer (some ⟨p, 0, none⟩), .int .u64 (q : Int), .int .u64 (n : Int)] w fun e w' => apm F G w p (H.realloc q n) e w' := by
 have HND := hE0 (fun W => ahf (w := W) n hn); have hn512 := hok.n; obtain ⟨Vb, Vd, gl, cs, hmm⟩ := h.hm; have HH := hE0 (adf hmm (by omega) q hq _ rfl)
 cases hh : H.handleB q with
 | none =>
  have e : H.realloc q n = ((0, 4), H) := by unfold Hp.realloc; rw [hh]
  have HE := hE0 e; have HHN := hE0 hh; have H0 : Hid (Ht F G w p H w) := Ht.of h (Below.refl _ _); clear h hok hf hL hmv hat e hh hmm hn512; go_enter Tryz.func38, Tryz.ntmps38
  go_wp2_with fail
  refine HH.out.mono ?_; rintro e w2 ⟨rfl, rfl⟩; rw [HHN.out]; dsimp only [ixV]; go_wp2
  go_ret2
  exact ⟨by rw [HE.out]; rfl, H, H0.out, by rw [HE.out]⟩
 | some j =>
  obtain ⟨hq8, hq2, hus⟩ := abO hh; have hj : j < 512 := by have := (abe hus).1; omega
  have HHN := hE0 hh
  cases hs : abW n with
  | none =>
   have e : H.realloc q n = ((0, 5), H) := by unfold Hp.realloc; rw [hh]; dsimp only; rw [hs]
   have HE := hE0 e; have HS := hE0 hs; have H0 : Hid (Ht F G w p H w) := Ht.of h (Below.refl _ _); clear h hok hf hL hmv hat e hh hmm hn512 hs hus; go_enter Tryz.func38, Tryz.ntmps38
   go_wp2_with fail
   refine HH.out.mono ?_; rintro e w2 ⟨rfl, rfl⟩; rw [HHN.out]; dsimp only [ixV]; go_wp2_with fail
   refine (HND.out _).mono ?_; rintro e w2 ⟨rfl, rfl⟩; rw [HS.out]; dsimp only [ad6]; go_wp2
   go_ret2
   exact ⟨by rw [HE.out]; rfl, H, H0.out, by rw [HE.out]⟩
  | some s =>
   have hsz := ach hs; have hss := (aac _).1 hsz; have hmv1 := hmv _ hh s hs; have HRZ := hE0 (ang hmm hok N hf hN s hsz hc16 hL ((q : Int) - 8) (by omega) (fun i o _ ho => by obtain ⟨a, b, c, d, _⟩ := hmv1 o ho; exact ⟨a, b, c, d⟩)); have HDS := hE0 (aln (H := H) (s := s) (o := (q : Int) - 8) hmv1); have HS := hE0 hs; have H0 := hE0 h; by_cases herr : (H.resize ((q : Int) - 8) s).1.2 = 0
   · obtain ⟨hok2, i, hi⟩ := hat _ hh s hs herr; have e : H.realloc q n = (((H.resize ((q : Int) - 8) s).1.1 + 8, 0), (H.resize ((q : Int) - 8) s).2.fill i 165) := by unfold Hp.realloc; rw [hh]; dsimp only; rw [hs]; dsimp only; rw [if_pos herr, hi]
     obtain ⟨hib, hio⟩ := abs hi; have hn2 := hok2.n; have ho16 : (H.resize ((q : Int) - 8) s).1.1 <= 16384 := by
      have h1 := (aai _ _ _ (hok2.at_ hib).2.2).1; have h2 := hok2.le; omega
     have HE := hE0 e; have HER := hE0 herr; obtain ⟨o, hO⟩ := nmE ((H.resize ((q : Int) - 8) s).1.1); rw [hO] at hi ho16; have HO := hE0 hO; have HI := hE0 hi; have HIB := hE0 hib; have HOK2 := hE0 hok2; have hi512 : i < 512 := by omega
     clear h hok hf hL hmv hmv1 hat e hh hmm hn512 hs hus hok2 hi hib hio herr hO hsz hss; go_enter Tryz.func38, Tryz.ntmps38
     go_wp2_with fail
     refine HH.out.mono ?_; rintro e w2 ⟨rfl, rfl⟩; rw [HHN.out]; dsimp only [ixV]; go_wp2_with fail
     refine (HND.out _).mono ?_; rintro e w2 ⟨rfl, rfl⟩; rw [HS.out]; dsimp only [ad6]; go_wp2_with fail
     refine HRZ.out.mono ?_; rintro e w3 ⟨rfl, ht⟩; rw [HER.out, HO.out]; obtain ⟨F1, h1, t1, f1⟩ := H0.out.turn ht HDS.out.1 (HDS.out.2 H0.out.sep); obtain ⟨Vb1, Vd1, gl1, cs1, hm1⟩ := h1.hm; have HAT := hE0 (acc hm1 (by omega) (o : Int) (by omega) _ HI.out); have HFU := hE0 (ahM h1 HOK2.out i HIB.out 165); have T1 := hE0 t1; have F1' := hE0 f1; clear ht h1 hm1 t1 f1 HRZ; go_wp2_with fail
     refine HAT.out.mono ?_; rintro e w5 ⟨rfl, rfl⟩; dsimp only [ixV]; go_wp2_with fail
     refine HFU.out.mono ?_; rintro e w6 ⟨rfl, V, ht⟩; have hto := Ht.up T1.out F1'.out ht; have HTO := hE0 hto; clear ht hto HFU HAT; go_wp2
     go_ret2
     exact ⟨by rw [HE.out, HO.out]; rfl, _, HTO.out, by rw [HE.out]; dsimp only; rw [agJ, ajw]⟩
   · obtain ⟨z1, z2, z3⟩ := adY H _ s herr; have e : H.realloc q n = ((0, (H.resize ((q : Int) - 8) s).1.2), H) := by unfold Hp.realloc; rw [hh]; dsimp only; rw [hs]; dsimp only; rw [if_neg herr, z2]
     obtain ⟨ek, hek⟩ := nmE ((H.resize ((q : Int) - 8) s).1.2); rw [hek] at e z3; have HE := hE0 e; have HEK := hE0 hek; have HZ1 := hE0 z1; have HZ2 := hE0 z2; clear h hok hf hL hmv hmv1 hat e hh hmm hn512 hs hus herr hek z1 z2 hsz hss; rcases z3 with rfl | rfl; all_goals
      go_enter Tryz.func38, Tryz.ntmps38
      go_wp2_with fail
      refine HH.out.mono ?_; rintro e w2 ⟨rfl, rfl⟩; rw [HHN.out]; dsimp only [ixV]; go_wp2_with fail
      refine (HND.out _).mono ?_; rintro e w2 ⟨rfl, rfl⟩; rw [HS.out]; dsimp only [ad6]; go_wp2_with fail
      refine HRZ.out.mono ?_; rintro e w3 ⟨rfl, ht⟩; rw [HEK.out, HZ1.out]; rw [HZ2.out] at ht; have hto := H0.out.ht ht (fun d hd => .inl hd) H0.out.sep; have HTO := hE0 hto; clear ht hto HRZ H0; go_wp2
      go_ret2
      exact ⟨by rw [HE.out]; rfl, H, HTO.out, by rw [HE.out]⟩
end
open Go.RowKit Go.Extern.Stop Go.Stop Go.Extern
def ETV : Value := .iface 163 (.agg #[.pointer (some ⟨1, 27, none⟩)])
def ET (w : World) : Prop := w.cell? ⟨0, 0, none⟩ = some (.iface 163 (.agg #[.pointer (some ⟨1, 27, none⟩)]))
theorem apV (t : Value) (w : World) :
 Calls Tryz.prog 62 #[.nilIface, t] w fun e w' => e = .returned (.bool false) /\ w' = w := by
 go_enter Tryz.func62, Tryz.ntmps62
 go_wp2
 go_ret
 exact ⟨rfl, rfl⟩
theorem aiS (t : Addr) (w : World) : (ReflectliteValue.unpack (.iface 106 (.pointer (some t)))).run Tryz.prog w
 = .ok (.agg #[.pointer (some ⟨1, 106, none⟩), .pointer (some ⟨w.heap.size, 0, none⟩), .int .u64 150]) (w.alloc (.cells #[.pointer (some t)] 106)) := by kernel_rfl
theorem anl (a : Addr) (w : World) : (ReflectliteValue.methodAny (ReflectliteValue.valueError "reflectlite.Value.Type" 0) (fun t _ _ _ => ReflectliteType.toType t) #[.agg #[.pointer (some ⟨1, 106, none⟩), .pointer (some a), .int .u64 150]]).run Tryz.prog w
 = .ok (.iface 163 (.agg #[.pointer (some ⟨1, 106, none⟩)])) w := by kernel_rfl
theorem agV (h : Value) (w : World) : (Go.method 318 163 (.agg #[h]) "Kind").run Tryz.prog w = .ok (158, h) w := by kernel_rfl
theorem anm (w : World) : ((ReflectliteType.abiMethod fun t => (fun a : Nat => Value.int IntKind.u8 (a : Int)) <$> Rtype.kind t) #[.pointer (some ⟨1, 106, none⟩)]).run Tryz.prog w = .ok (.int .u8 22) w := by kernel_rfl
theorem ann (w : World) : ((ReflectliteType.abiMethod fun t => (fun a : Nat => Value.int IntKind.u8 (a : Int)) <$> Rtype.kind t) #[.pointer (some ⟨1, 67, none⟩)]).run Tryz.prog w = .ok (.int .u8 2) w := by kernel_rfl
theorem an0 (z : Sem Value) (f : TypeId -> Addr -> Nat -> Nat -> Sem Value) (v : Value) :
 ReflectliteValue.method z f #[v] = (do match <- ReflectliteValue.parts v with | none => z | some (t, a, fl) => f t a fl (fl % 32)) := rfl
theorem ahO (a : Addr) (w : World) : (ReflectliteValue.parts (.agg #[.pointer (some ⟨1, 106, none⟩), .pointer (some a), .int .u64 150])).run Tryz.prog w = .ok (some (106, a, 150)) w := by kernel_rfl
theorem alM (a p : Addr) (W : World) (ha : W.cell? a = some (.pointer (some p))) :
 (ReflectliteValue.method (ReflectliteValue.valueError "reflectlite.Value.IsNil" 0) ReflectliteValue.isNil #[.agg #[.pointer (some ⟨1, 106, none⟩), .pointer (some a), .int .u64 150]]).run Tryz.prog W = .ok (.bool false) W := by
 rw [an0]; simp only [Sem.run_bind, ahO, Result.andThen]; simp [ReflectliteValue.isNil, loadVar, isAgg, underlying, Tryz.underlying106, ha, Result.andThen]
theorem agW (h : Value) (w : World) : (Go.method 318 163 (.agg #[h]) "Elem").run Tryz.prog w = .ok (168, .agg #[h]) w := by kernel_rfl
theorem ad0 (h : Value) (w : World) : (Go.method 318 163 (.agg #[h]) "Implements").run Tryz.prog w = .ok (169, .agg #[h]) w := by kernel_rfl
theorem adv (h : Value) (w : World) : (Go.method 318 163 (.agg #[h]) "AssignableTo").run Tryz.prog w = .ok (166, .agg #[h]) w := by kernel_rfl
theorem ano (w : World) : (ReflectliteType.method ReflectliteType.elem #[.agg #[.pointer (some ⟨1, 106, none⟩)]]).run Tryz.prog w = .ok (.iface 163 (.agg #[.pointer (some ⟨1, 67, none⟩)])) w := by kernel_rfl
theorem anp (w : World) : (ReflectliteType.relation "Implements" ReflectliteType.implements_ #[.agg #[.pointer (some ⟨1, 67, none⟩)], .iface 163 (.agg #[.pointer (some ⟨1, 27, none⟩)])]).run Tryz.prog w = .ok (.bool true) w := by kernel_rfl
theorem aj8 (v : Value) (w : World) : (ReflectliteType.typeOf #[.iface 67 v]).run Tryz.prog w = .ok (.iface 163 (.agg #[.pointer (some ⟨1, 67, none⟩)])) w := by kernel_rfl
theorem aj9 (w : World) : (ReflectliteType.relation "AssignableTo" ReflectliteType.assignableTo #[.agg #[.pointer (some ⟨1, 67, none⟩)], .iface 163 (.agg #[.pointer (some ⟨1, 67, none⟩)])]).run Tryz.prog w = .ok (.bool true) w := by kernel_rfl
theorem aiT (k : Int) (w : World) : (ReflectliteValue.unpack (.iface 67 (.int .i64 k))).run Tryz.prog w
 = .ok (.agg #[.pointer (some ⟨1, 67, none⟩), .pointer (some ⟨w.heap.size, 0, none⟩), .int .u64 130]) (w.alloc (.cells #[.int .i64 k] 67)) := by kernel_rfl
theorem aka (w : World) : (Rtype.elem? 106).run Tryz.prog w = .ok (some 67) w := by kernel_rfl
theorem apW (p : Addr) (w : World) : (ReflectliteValue.mk 67 p ReflectliteValue.flagAddr).run Tryz.prog w = .ok (.agg #[.pointer (some ⟨1, 67, none⟩), .pointer (some p), .int .u64 386]) w := by kernel_rfl
theorem alN (a p : Addr) (W : World) (ha : W.cell? a = some (.pointer (some p))) :
 (ReflectliteValue.method (ReflectliteValue.valueError "reflectlite.Value.Elem" 0) ReflectliteValue.elem #[.agg #[.pointer (some ⟨1, 106, none⟩), .pointer (some a), .int .u64 150]]).run Tryz.prog W
  = .ok (.agg #[.pointer (some ⟨1, 67, none⟩), .pointer (some p), .int .u64 386]) W := by
 rw [an0]; simp only [Sem.run_bind, ahO, Result.andThen]; simp [ReflectliteValue.elem, loadVar, isAgg, underlying, Tryz.underlying106, ha, Result.andThen, aka, apW]
theorem apX (v x : Value) : ReflectliteValue.set #[v, x] = (do
 let (some (dst, a, fl), some (src, b, _)) := (<- ReflectliteValue.parts v, <- ReflectliteValue.parts x)
  | unsupported (.noEntry "extern/(internal/reflectlite.Value).Set.zeroValue")
 if fl / ReflectliteValue.flagAddr % 2 == 0 then unsupported (.noEntry "extern/(internal/reflectlite.Value).Set.unaddressable")
 let val <- loadVar src b
 if <- Rtype.directlyAssignable dst src then storeVar dst a val
 else if <- Rtype.implements dst src then
  if (<- Rtype.kind src) == 20 then
   match val with
   | .nilIface => unsupported (.noEntry "extern/reflectlite: a nil value of one interface type handed on as a value of another")
   | _ => storeVar dst a val
  else storeVar dst a (.iface src val)
 else panicString ("reflectlite.Set: value of type " ++ (<- Rtype.spelt src) ++ " is not assignable to type " ++ (<- Rtype.spelt dst))
 pure (.tuple #[])) := rfl
theorem akb (a : Addr) (w : World) : (ReflectliteValue.parts (.agg #[.pointer (some ⟨1, 67, none⟩), .pointer (some a), .int .u64 386])).run Tryz.prog w = .ok (some (67, a, 386)) w := by kernel_rfl
theorem alO (a : Addr) (w : World) : (ReflectliteValue.parts (.agg #[.pointer (some ⟨1, 67, none⟩), .pointer (some a), .int .u64 130])).run Tryz.prog w = .ok (some (67, a, 130)) w := by kernel_rfl
theorem akc (w : World) : (Rtype.directlyAssignable 67 67).run Tryz.prog w = .ok true w := by kernel_rfl
theorem ao6 (ta b : Addr) (k : Int) (old : Value) (W : World) (hb : W.cell? b = some (.int .i64 k)) (ht : W.cell? ta = some old) (hf : W.frozen? ta = false) :
 (ReflectliteValue.set #[.agg #[.pointer (some ⟨1, 67, none⟩), .pointer (some ta), .int .u64 386], .agg #[.pointer (some ⟨1, 67, none⟩), .pointer (some b), .int .u64 130]]).run Tryz.prog W
  = .ok (.tuple #[]) (W.setCell ta (.int .i64 k)) := by
 rw [apX]; simp only [Sem.run_bind, akb, alO, Result.andThen]; simp [ReflectliteValue.flagAddr, loadVar, isAgg, underlying, Tryz.underlying67, hb, Result.andThen, akc, storeVar, Value.cells, storeCells, Addr.add]; rw [run_store Tryz.prog W ta _ _ (by rfl)]; simp [ht, hf]
theorem apY (k : Int) (t : Addr) (old : Value) (w : World) (hg : ET w) (ht0 : w.cell? t = some old) (hf0 : w.frozen? t = false) :
 Calls Tryz.prog 62 #[.iface 67 (.int .i64 k), .iface 106 (.pointer (some t))] w fun ev w' => ev = .returned (.bool true) /\ w' = ((((w.alloc (.cells #[.pointer (some t)] 106)).alloc (.cells #[.pointer (some ⟨1, 106, none⟩), .pointer (some ⟨w.heap.size, 0, none⟩), .int .u64 150] 134)).alloc (.cells #[.pointer (some ⟨1, 106, none⟩), .pointer (some ⟨w.heap.size, 0, none⟩), .int .u64 150] 134)).alloc (.cells #[.int .i64 k] 67)).setCell t (.int .i64 k) := by
 unfold ET at hg; have h6 := @run_callFunc_extern Tryz.prog 92 _ (fun args => ReflectliteValue.unpack (args.getD 0 (.tuple #[]))) Tryz.func92 (by kernel_rfl) (by kernel_rfl) (by kernel_rfl) (by kernel_rfl); have h7 := @run_callFunc_extern Tryz.prog 93 _ (ReflectliteValue.methodAny (ReflectliteValue.valueError "reflectlite.Value.Type" 0) (fun t _ _ _ => ReflectliteType.toType t)) Tryz.func93 (by kernel_rfl) (by kernel_rfl) (by kernel_rfl) (by kernel_rfl); have h8 := @run_callFunc_extern Tryz.prog 94 _ (ReflectliteValue.method (ReflectliteValue.valueError "reflectlite.Value.IsNil" 0) ReflectliteValue.isNil) Tryz.func94 (by kernel_rfl) (by kernel_rfl) (by kernel_rfl) (by kernel_rfl); have h27 := @run_callFunc_extern Tryz.prog 158 _ (ReflectliteType.abiMethod fun t => do pure (.int .u8 (<- Rtype.kind t))) Tryz.func158 (by kernel_rfl) (by kernel_rfl) (by kernel_rfl) (by kernel_rfl); have h37 := @run_callFunc_extern Tryz.prog 168 _ (ReflectliteType.method ReflectliteType.elem) Tryz.func168 (by kernel_rfl) (by kernel_rfl) (by kernel_rfl) (by kernel_rfl); have h38 := @run_callFunc_extern Tryz.prog 169 _ (ReflectliteType.relation "Implements" ReflectliteType.implements_) Tryz.func169 (by kernel_rfl) (by kernel_rfl) (by kernel_rfl) (by kernel_rfl); have h10 := @run_callFunc_extern Tryz.prog 119 _ ReflectliteType.typeOf Tryz.func119 (by kernel_rfl) (by kernel_rfl) (by kernel_rfl) (by kernel_rfl); have h35 := @run_callFunc_extern Tryz.prog 166 _ (ReflectliteType.relation "AssignableTo" ReflectliteType.assignableTo) Tryz.func166 (by kernel_rfl) (by kernel_rfl) (by kernel_rfl) (by kernel_rfl); have h11 := @run_callFunc_extern Tryz.prog 125 _ (ReflectliteValue.method (ReflectliteValue.valueError "reflectlite.Value.Elem" 0) ReflectliteValue.elem) Tryz.func125 (by kernel_rfl) (by kernel_rfl) (by kernel_rfl) (by kernel_rfl); have h12 := @run_callFunc_extern Tryz.prog 126 _ ReflectliteValue.set Tryz.func126 (by kernel_rfl) (by kernel_rfl) (by kernel_rfl) (by kernel_rfl); have tO := aj8; have mA := adv; have a25 := aj9; have v25 := aiT; have f6 := aiS; have f7 := anl; have mK := agV; have mE := agW; have mI := ad0; have k27 := anm; have k25 := ann; have e27 := ano; have i25 := anp; have n8 := alM ⟨w.heap.size, 0, none⟩ t ((w.alloc (.cells #[.pointer (some t)] 106)).alloc (.cells #[.pointer (some ⟨1, 106, none⟩), .pointer (some ⟨w.heap.size, 0, none⟩), .int .u64 150] 134)) (by simp); have hlt : 0 < w.heap.size := by
  rcases Nat.eq_zero_or_pos w.heap.size with h0 | h
  · simp [World.cell?, h0] at hg
  · exact h
 have hg2 : ((w.alloc (.cells #[.pointer (some t)] 106)).alloc (.cells #[.pointer (some ⟨1, 106, none⟩), .pointer (some ⟨w.heap.size, 0, none⟩), .int .u64 150] 134)).cell? ⟨0, 0, none⟩ = some (.iface 163 (.agg #[.pointer (some ⟨1, 27, none⟩)])) := by
  rw [World.cell?_alloc_lt _ _ ⟨0, 0, none⟩ (by simp), World.cell?_alloc_lt _ _ ⟨0, 0, none⟩ hlt]; exact hg
 have htl : t.block < w.heap.size := by
  rcases Nat.lt_or_ge t.block w.heap.size with h | h
  · exact h
  · simp [World.cell?, Array.getElem?_eq_none h] at ht0
 have el := alN ⟨w.heap.size, 0, none⟩ t (((w.alloc (.cells #[.pointer (some t)] 106)).alloc (.cells #[.pointer (some ⟨1, 106, none⟩), .pointer (some ⟨w.heap.size, 0, none⟩), .int .u64 150] 134)).alloc (.cells #[.pointer (some ⟨1, 106, none⟩), .pointer (some ⟨w.heap.size, 0, none⟩), .int .u64 150] 134)) (by rw [World.cell?_alloc_lt _ _ ⟨w.heap.size, 0, none⟩ (by simp; omega)]; simp); have st := ao6 t ⟨w.heap.size + 1 + 1 + 1, 0, none⟩ k old ((((w.alloc (.cells #[.pointer (some t)] 106)).alloc (.cells #[.pointer (some ⟨1, 106, none⟩), .pointer (some ⟨w.heap.size, 0, none⟩), .int .u64 150] 134)).alloc (.cells #[.pointer (some ⟨1, 106, none⟩), .pointer (some ⟨w.heap.size, 0, none⟩), .int .u64 150] 134)).alloc (.cells #[.int .i64 k] 67))
  (by rw [World.cell?_alloc_at _ _ _ _ (by simp)]; rfl)
  (by rw [World.cell?_alloc_lt _ _ t (by simp; omega), World.cell?_alloc_lt _ _ t (by simp; omega), World.cell?_alloc_lt _ _ t (by simp; omega), World.cell?_alloc_lt _ _ t htl]; exact ht0)
  (by rw [World.frozen?_alloc_old _ _ t (by simp; omega), World.frozen?_alloc_old _ _ t (by simp; omega), World.frozen?_alloc_old _ _ t (by simp; omega), World.frozen?_alloc_old _ _ t (Nat.ne_of_lt htl)]; exact hf0)
 go_enter Tryz.func62, Tryz.ntmps62
 go_wp2
 refine wp_loop_rounds 1 ?_; rw [rounds_succ]; go_wp2
 go_ret
 exact ⟨rfl, rfl⟩
structure PH (w : World) (q g base cap : Nat) (A : Option Addr) (c : Nat) (bs : List UInt8) (H : Hp) : Prop where
 obj : w.heap[q]? = some (.cells #[.pointer (some ⟨g, 0, none⟩)] 69 (0, 0))
 ar : Ar w 79 g base cap A c bs
 rd : RtD bs H
 cp : H.cap = cap
 c16 : cap <= 16384
 b62 : base <= 4611686018427387904
section
variable {w w' : World} {q g base cap c : Nat} {A : Option Addr} {bs out : List UInt8} {H H' : Hp}
theorem PH.lt (h : PH w q g base cap A c bs H) : q < w.heap.size := aab h.obj
theorem PH.c0 (h : PH w q g base cap A c bs H) : w.cell? ⟨q, 0, none⟩ = some (.pointer (some ⟨g, 0, none⟩)) := by rw [cell_of_row w q 0 _ _ (0, 0) h.obj]; rfl
theorem PH.ap (h : PH w q g base cap A c bs H) : ¬ abg g A q := by
 rintro (rfl | ⟨a, ea, rfl⟩)
 · have h1 := h.ar.obj; rw [h.obj] at h1; injection h1 with h1; injection h1 with _ h2 _; exact absurd h2 (by decide)
 · obtain ⟨h', e, cur, hg, _⟩ := h.ar.row ea; subst e; rw [h.obj] at hg; injection hg with hg; injection hg with _ h2 _; exact absurd h2 (by decide)
theorem PH.below (h : PH w q g base cap A c bs H) (hb : Below w.heap.size w w') : PH w' q g base cap A c bs H :=
 ⟨(hb.block q h.lt).trans h.obj, h.ar.below hb, h.rd, h.cp, h.c16, h.b62⟩
theorem PH.len (h : PH w q g base cap A c bs H) : bs.length <= 16384 := (h.rd.rt.bound (by rw [h.cp]; exact h.c16)).1
theorem PH.became (h : PH w q g base cap A c bs H) (hb : Became 79 g base cap A out w w') (rd : RtD out H') (hc : H'.cap = cap) :
 ∃ A' c', PH w' q g base cap A' c' out H' /\ Tch (abg g A) w w' /\ (A' = A \/ ∀ a, A' = some a -> w.heap.size <= a.block) := by
 obtain ⟨A', c', a, t, k⟩ := hb; exact ⟨A', c', ⟨(t.block q h.lt h.ap).trans h.obj, a, rd, hc, h.c16, h.b62⟩, t, k⟩
theorem ab0 (w : World) (o : Int) (s : Nat) (u : Bool) (h1 : 16 <= s) (h2 : s <= 16384) :
 Calls Tryz.prog 53 #[.agg #[.int .i64 o, .int .i64 (s : Int), .bool u]] w fun e w' => e = .returned (.int .u64 ((s - 16 : Nat) : Int)) /\ Below w.heap.size w w' := by
 have e : ((s - 16 : Nat) : Int) = (s : Int) - 16 := by omega
 rw [e]; have ew : IntKind.u64.wrap ((s : Int) - 16) = (s : Int) - 16 := IntWalk.u64_in _ (by omega); clear e; go_enter Tryz.func53, Tryz.ntmps53
 go_wp2
 go_ret
 exact ⟨rfl, (Below.refl _ _).alloc (Nat.le_refl _) _⟩
theorem alP (h : PH w q g base cap A c bs H) {p : Nat} (p8 : 8 <= p) (pl : p <= bs.length) : H.handleB p = aaK H.blks ((p : Int) - 8) := by
 have := h.len; unfold Hp.handleB; rw [if_neg (by omega)]
theorem akd (h : PH w q g base cap A c bs H) {p : Nat} (pl : bs.length < p) : H.handleB p = none := by
 unfold Hp.handleB; split
 · rfl
 · refine ahJ fun i x hx hh => ?_; have := (h.rd.rt.bound (by rw [h.cp]; exact h.c16)).2 x (List.mem_of_getElem? hx); omega
theorem acK (h : PH w q g base cap A c bs H) (p : Nat) (hp : p < 18446744073709551616) :
 Calls Tryz.prog 52 #[.pointer (some ⟨q, 0, none⟩), .int .u64 (p : Int)] w fun e w' => e = .returned (.tuple #[bkV ((H.handleB p).map (aag H.blks)), aaz (H.handleB p).isSome 4]) /\ Below w.heap.size w w' := by
 obtain ⟨w1, hw1⟩ := nmE (w.alloc (.cells #[.int .i64 0, .int .i64 0, .bool false] 81)); have hb1 := abE hw1; have n1 := anE hw1; have h1 := h.below hb1; have hl := h.len; obtain ⟨⟨c0, c1, c2⟩, f0, f1, f2⟩ := aad n1; have hlt1 := aaa n1; have HW1 := hE0 hw1; have HB1 := hE0 hb1; have HN1 := hE0 n1; have k0 := h1.c0; have HL := hE0 (abX h1.ar); by_cases p8 : p < 8
 · have e : H.handleB p = none := by unfold Hp.handleB; rw [if_pos (.inl p8)]
   rw [e]; dsimp only [bkV, aaz, Option.map, Option.isSome]; have g1 : decide ((p : Int) < 8) = true := decide_eq_true (by omega); clear e h h1 hw1 hb1 n1 k0 HL; go_enter Tryz.func52, Tryz.ntmps52
   go_wp2_with (first | (rw [HW1.out]) | fail)
   (try simp only [Exit.inBlock, Exit.then])
   refine abM (x := .iface 67 (.int .i64 4)) (g := w.heap.size) (o := 0) (s := 0) (b := false) Tryz.results52 ?_ ?_ ?_ (aaC HN1.out _ _ _) ?_
   · rfl
   · rfl
   · rfl
   · exact ⟨rfl, ((HB1.out.setCell (Nat.le_refl _) _).setCell (Nat.le_refl _) _).setCell (Nat.le_refl _) _⟩
 · have g1 : decide ((p : Int) < 8) = false := decide_eq_false (by omega); obtain ⟨n, hn⟩ := nmE bs.length; rw [hn] at HL hl; by_cases pl : n < p
   · have e := akd h (p := p) (by omega); rw [e]; dsimp only [bkV, aaz, Option.map, Option.isSome]; have g2 : decide ((n : Int) < (p : Int)) = true := decide_eq_true (by omega); clear e h h1 hw1 hb1 n1; go_enter Tryz.func52, Tryz.ntmps52
     go_wp2_with (first | (rw [HW1.out]) | fail)
     refine HL.out.mono ?_; rintro e w2 ⟨rfl, rfl⟩; go_wp2
     (try simp only [Exit.inBlock, Exit.then])
     refine abM (x := .iface 67 (.int .i64 4)) (g := w.heap.size) (o := 0) (s := 0) (b := false) Tryz.results52 ?_ ?_ ?_ (aaC HN1.out _ _ _) ?_
     · rfl
     · rfl
     · rfl
     · exact ⟨rfl, ((HB1.out.setCell (Nat.le_refl _) _).setCell (Nat.le_refl _) _).setCell (Nat.le_refl _) _⟩
   · have g2 : decide ((n : Int) < (p : Int)) = false := decide_eq_false (by omega); have e := alP h (p := p) (by omega) (by omega); rw [e]; obtain ⟨pz, hpz⟩ : ∃ pz : Int, (p : Int) - 8 = pz := ⟨_, rfl⟩; have hU := am6 w1 g base cap c A bs H pz h1.ar h.b62 h.c16 h.cp h.rd.rt (by omega); rw [hpz]; have ewp : IntKind.i64.wrap pz = pz := IntWalk.i64_in _ (by omega)
     cases hi : aaK H.blks pz with
     | none =>
      rw [hi] at hU; dsimp only [aaL, bkV, aaz, Option.map, Option.isSome] at hU ⊢; have HU := hE0 hU; clear e h h1 hw1 hb1 n1 hU hi; go_enter Tryz.func52, Tryz.ntmps52
      go_wp2_with (first | (rw [HW1.out]) | fail)
      refine HL.out.mono ?_; rintro e w2 ⟨rfl, rfl⟩; go_wp2_with fail
      refine HU.out.mono ?_; rintro e w2 ⟨rfl, hb2⟩; have n2 := (hb2.block w.heap.size (aab HN1.out)).trans HN1.out; have n3 : (w2.alloc (.cells #[.int .i64 0, .int .i64 0, .bool false] 81)).heap[w.heap.size]? = some (.cells #[.int .i64 0, .int .i64 0, .bool false] 81 (0, 0)) := (heap_alloc_old _ _ (aab n2)).trans n2; have hb12 := HB1.out.trans (hb2.mono HB1.out.size); have hb3 : Below w.heap.size w (w2.alloc (.cells #[.int .i64 0, .int .i64 0, .bool false] 81)) := hb12.alloc hb12.size _; clear c0 c1 c2 f0 f1 f2 hlt1 k0; obtain ⟨⟨c0, c1, c2⟩, f0, f1, f2⟩ := aad n3; have hlt3 := aaa n3; have HB3 := hE0 hb3; have HN3 := hE0 n3; clear hb3 n3 n2 hb12 hb2 HU HL HN1 HB1 HW1; go_wp2
      (try simp only [Exit.inBlock, Exit.then])
      refine abM (x := .iface 67 (.int .i64 4)) (g := w.heap.size) (o := 0) (s := 0) (b := false) Tryz.results52 ?_ ?_ ?_ (aaC HN3.out _ _ _) ?_
      · rfl
      · rfl
      · rfl
      · exact ⟨rfl, ((HB3.out.setCell (Nat.le_refl _) _).setCell (Nat.le_refl _) _).setCell (Nat.le_refl _) _⟩
     | some i =>
      rw [hi] at hU; obtain ⟨x, hx⟩ := nmE (aag H.blks i); dsimp only [aaL, Option.map] at hU ⊢; rw [hx] at hU ⊢; obtain ⟨xo, xs, xu⟩ := x; dsimp only [bkV, Bk.val, aaz, Option.isSome] at hU ⊢; have HU := hE0 hU; clear e h h1 hw1 hb1 n1 hU hi hx; go_enter Tryz.func52, Tryz.ntmps52
      go_wp2_with (first | (rw [HW1.out]) | fail)
      refine HL.out.mono ?_; rintro e w2 ⟨rfl, rfl⟩; go_wp2_with fail
      refine HU.out.mono ?_; rintro e w2 ⟨rfl, hb2⟩; have n2 := (hb2.block w.heap.size (aab HN1.out)).trans HN1.out; obtain ⟨w3, hw3⟩ := nmE (w2.alloc (.cells #[.int .i64 (xo : Int), .int .i64 (xs : Int), .bool xu] 81)); have n3 : w3.heap[w.heap.size]? = some (.cells #[.int .i64 0, .int .i64 0, .bool false] 81 (0, 0)) := by rw [<- hw3]; exact (heap_alloc_old _ _ (aab n2)).trans n2
      have m3 := anE hw3; have hb12 := HB1.out.trans (hb2.mono HB1.out.size); have hb3 : Below w.heap.size w w3 := by rw [<- hw3]; exact hb12.alloc hb12.size _
      have HNEQ := hE0 (show w2.heap.size ≠ w.heap.size from fun e => by have := aab n2; omega); clear c0 c1 c2 f0 f1 f2 hlt1 k0; obtain ⟨⟨c0, c1, c2⟩, f0, f1, f2⟩ := aad n3; obtain ⟨⟨d0, d1, d2⟩, _⟩ := aad m3; have hlt3 := aaa n3; have hlt4 := aaa m3; have HW3 := hE0 hw3; have HB3 := hE0 hb3; have HN3 := hE0 n3; clear hw3 hb3 n3 n2 hb12 hb2 HU HL HN1 HB1 HW1 m3; go_wp2_with (first | (rw [HW3.out]) | fail)
      (try simp only [Exit.inBlock, Exit.then])
      refine abM (x := .nilIface) (g := w.heap.size) (o := (xo : Int)) (s := (xs : Int)) (b := xu) Tryz.results52 ?_ ?_ ?_ (aaC HN3.out _ _ _) ?_
      · rfl
      · rfl
      · rfl
      · exact ⟨rfl, ((HB3.out.setCell (Nat.le_refl _) _).setCell (Nat.le_refl _) _).setCell (Nat.le_refl _) _⟩
end
section
variable {w w' : World} {q g base cap c : Nat} {A : Option Addr} {bs out : List UInt8} {H H' : Hp}
theorem PH.blk (h : PH w q g base cap A c bs H) {p i : Nat} (hh : H.handleB p = some i) :
 ∃ xo xs, aag H.blks i = ⟨xo, xs, true⟩ /\ p = xo + 8 /\ 184 <= xo /\ 32 <= xs /\ xo + xs <= bs.length /\ i < H.blks.length /\ H.At i ⟨xo, xs, true⟩ (H.ds.getD i aaR) /\ (H.ds.getD i aaR).2.length + 16 = xs /\ xs <= 16384 /\ aaK H.blks (xo : Int) = some i := by
 obtain ⟨p8, _, hu⟩ := abO hh; obtain ⟨h1, h2, h3⟩ := adZ hu; have hb := (h.rd.rt.bound (by rw [h.cp]; exact h.c16)).2 _ (List.mem_of_getElem? (aax h1)); have hl := h.len; have hdl : H.ds.length = H.blks.length := h.rd.dl; have hat : H.At i (aag H.blks i) (H.ds.getD i aaR) := ⟨aax h1, by rw [List.getD_eq_getElem?_getD, List.getElem?_eq_getElem (by omega)]; rfl⟩; have hd := (h.rd.ho i _ _ hat h3).1; obtain ⟨x, hx⟩ := nmE (aag H.blks i); rw [hx] at h2 h3 hb hat hd ⊢; obtain ⟨xo, xs, xu⟩ := x; dsimp only at h2 h3 hb hat hd; subst h3; have hxo : (p : Int) - 8 = (xo : Int) := by omega
 rw [hxo] at hu; exact ⟨xo, xs, rfl, by omega, by omega, by omega, by omega, h1, hat, hd, by omega, hu⟩
theorem afm (h : PH w q g base cap A c bs H) (p a n : Nat) (hp : p < 18446744073709551616) (hh : H.handleB p = none) :
 Calls Tryz.prog 54 #[.pointer (some ⟨q, 0, none⟩), .int .u64 (p : Int), .int .u64 (a : Int), .int .u64 (n : Int)] w fun e w' => e = .returned (.tuple #[.int .u64 0, .iface 67 (.int .i64 4)]) /\ Below w.heap.size w w' := by
 have hF := acK h p hp; rw [hh] at hF; dsimp only [bkV, aaz, Option.map, Option.isSome] at hF; have HF := hE0 hF; clear h hh hF; go_enter Tryz.func54, Tryz.ntmps54
 go_wp2_with fail
 refine HF.out.mono ?_; rintro e w2 ⟨rfl, hb⟩; have HB := hE0 (hb.alloc hb.size (.cells #[.int .i64 0, .int .i64 0, .bool false] 81)); clear hb HF; go_wp2
 go_ret2
 exact ⟨rfl, HB.out⟩
theorem af4 (h : PH w q g base cap A c bs H) (p a n : Nat) (hp : p < 18446744073709551616) (ha : a < 18446744073709551616) (hn : n < 18446744073709551616) {i L : Nat} (hh : H.handleB p = some i) (hL : (H.ds.getD i aaR).2.length = L) (hf : L < a + n) :
 Calls Tryz.prog 54 #[.pointer (some ⟨q, 0, none⟩), .int .u64 (p : Int), .int .u64 (a : Int), .int .u64 (n : Int)] w fun e w' => e = .returned (.tuple #[.int .u64 0, .iface 67 (.int .i64 2)]) /\ Below w.heap.size w w' := by
 have hF := acK h p hp; obtain ⟨xo, xs, hx, hpx, h184, h32, hle, hi, hat, hd, h16, hu⟩ := h.blk hh; rw [hL] at hd; rw [hh] at hF; dsimp only [Option.map] at hF; rw [hx] at hF; dsimp only [bkV, Bk.val, aaz, Option.isSome] at hF; have HUS := hE0 (fun W => ab0 W (xo : Int) xs true (by omega) h16); have eL : xs - 16 = L := by omega
 rw [eL] at HUS; have hL14 : L <= 16384 := by omega
 have HF := hE0 hF; clear h hh hF hx hpx hat hu hi eL hd hL; by_cases hal : L < a
 · have g1 : decide (L < a) = true := decide_eq_true (by omega); go_enter Tryz.func54, Tryz.ntmps54
   go_wp2_with fail
   refine HF.out.mono ?_; rintro e w2 ⟨rfl, hb⟩; obtain ⟨w3, hw3⟩ := nmE (w2.alloc (.cells #[.int .i64 (xo : Int), .int .i64 (xs : Int), .bool true] 81)); have n3 := anE hw3; have HB3 : Hid (Below w.heap.size w w3) := (show Below _ _ _ by rw [<- hw3]; exact hb.alloc hb.size _); obtain ⟨⟨d0, d1, d2⟩, _⟩ := aad n3; have hlt3 := aaa n3; have HW3 := hE0 hw3; clear hb HF hw3 n3; go_wp2_with (first | (rw [HW3.out]) | fail)
   refine (HUS.out w3).mono ?_; rintro e w4 ⟨rfl, hb4⟩; have HB4 := hE0 (HB3.out.trans (hb4.mono HB3.out.size)); clear hb4 d0 d1 d2 HB3; go_wp2
   go_ret2
   exact ⟨rfl, HB4.out⟩
 · have g1 : decide (L < a) = false := decide_eq_false (by omega); obtain ⟨m, hm⟩ := nmE (L - a); have em : (L : Int) - (a : Int) = (m : Int) := by omega
   have g2 : decide (m < n) = true := decide_eq_true (by omega); have hm14 : m <= 16384 := by omega
   clear hm; go_enter Tryz.func54, Tryz.ntmps54
   go_wp2_with fail
   refine HF.out.mono ?_; rintro e w2 ⟨rfl, hb⟩; obtain ⟨w3, hw3⟩ := nmE (w2.alloc (.cells #[.int .i64 (xo : Int), .int .i64 (xs : Int), .bool true] 81)); have n3 := anE hw3; have HB3 : Hid (Below w.heap.size w w3) := (show Below _ _ _ by rw [<- hw3]; exact hb.alloc hb.size _); obtain ⟨⟨d0, d1, d2⟩, _⟩ := aad n3; have hlt3 := aaa n3; have HW3 := hE0 hw3; have HN3 := hE0 n3; clear hb HF hw3 n3; go_wp2_with (first | (rw [HW3.out]) | fail)
   refine (HUS.out w3).mono ?_; rintro e w4 ⟨rfl, hb4⟩; have n4 := Loc.below hb4 _ _ HN3.out; have HB4 := hE0 (HB3.out.trans (hb4.mono HB3.out.size)); clear hb4 d0 d1 d2 HB3 hlt3; obtain ⟨⟨d0, d1, d2⟩, _⟩ := aad n4; have hlt4 := aaa n4; clear n4 HN3 HW3; go_wp2_with fail
   refine (HUS.out w4).mono ?_; rintro e w5 ⟨rfl, hb5⟩; have HB5 := hE0 (HB4.out.trans (hb5.mono HB4.out.size)); clear hb5 d0 d1 d2 HB4 hlt4; go_wp2
   go_ret2
   exact ⟨rfl, HB5.out⟩
theorem ahP (h : PH w q g base cap A c bs H) (p a n : Nat) (hp : p < 18446744073709551616) (hn : n < 18446744073709551616) {i L x : Nat} (hh : H.handleB p = some i) (hL : (H.ds.getD i aaR).2.length = L) (hf : a + n <= L) (hx : base + p + a = x) :
 Calls Tryz.prog 54 #[.pointer (some ⟨q, 0, none⟩), .int .u64 (p : Int), .int .u64 (a : Int), .int .u64 (n : Int)] w fun e w' => e = .returned (.tuple #[.int .u64 (x : Int), .nilIface]) /\ Below w.heap.size w w' := by
 have hF := acK h p hp; obtain ⟨xo, xs, hbk, hpx, h184, h32, hle, hi, hat, hd, h16, hu⟩ := h.blk hh; rw [hL] at hd; rw [hh] at hF; dsimp only [Option.map] at hF; rw [hbk] at hF; dsimp only [bkV, Bk.val, aaz, Option.isSome] at hF; have HUS := hE0 (fun W => ab0 W (xo : Int) xs true (by omega) h16); have eL : xs - 16 = L := by omega
 rw [eL] at HUS; have hL14 : L <= 16384 := by omega
 have HF := hE0 hF; have H0 := hE0 h; have hb62 := h.b62; have hlen := h.len; have hp14 : p <= 16384 := by omega
 clear h hh hF hbk hpx hat hu hi eL hd hL h184 h32 hle hlen; have g1 : decide (L < a) = false := decide_eq_false (by omega); obtain ⟨m, hm⟩ := nmE (L - a); have em : (L : Int) - (a : Int) = (m : Int) := by omega
 have g2 : decide (m < n) = false := decide_eq_false (by omega); have hm14 : m <= 16384 := by omega
 have ha14 : a <= 16384 := by omega
 obtain ⟨y, hy⟩ := nmE (base + p); have ey : (base : Int) + (p : Int) = (y : Int) := by omega
 have ex : (y : Int) + (a : Int) = (x : Int) := by omega
 have hy63 : y <= 4611686018427404288 := by omega
 have hx63 : x <= 4611686018427420672 := by omega
 clear hm hf hy hx; go_enter Tryz.func54, Tryz.ntmps54
 go_wp2_with fail
 refine HF.out.mono ?_; rintro e w2 ⟨rfl, hb⟩; obtain ⟨w3, hw3⟩ := nmE (w2.alloc (.cells #[.int .i64 (xo : Int), .int .i64 (xs : Int), .bool true] 81)); have n3 := anE hw3; have HB3 : Hid (Below w.heap.size w w3) := (show Below _ _ _ by rw [<- hw3]; exact hb.alloc hb.size _); obtain ⟨⟨d0, d1, d2⟩, _⟩ := aad n3; have hlt3 := aaa n3; have HW3 := hE0 hw3; have HN3 := hE0 n3; clear hb HF hw3 n3; go_wp2_with (first | (rw [HW3.out]) | fail)
 refine (HUS.out w3).mono ?_; rintro e w4 ⟨rfl, hb4⟩; have n4 := Loc.below hb4 _ _ HN3.out; have HB4 := hE0 (HB3.out.trans (hb4.mono HB3.out.size)); clear hb4 d0 d1 d2 HB3 hlt3; obtain ⟨⟨d0, d1, d2⟩, _⟩ := aad n4; have hlt4 := aaa n4; clear n4 HN3 HW3; go_wp2_with fail
 refine (HUS.out w4).mono ?_; rintro e w5 ⟨rfl, hb5⟩; have hb5' := HB4.out.trans (hb5.mono HB4.out.size); have h5 := H0.out.below hb5'; have k0 := h5.c0; have hlt5 := h5.lt; have HBS := hE0 (acu h5.ar); have HB5 := hE0 hb5'; clear hb5 d0 d1 d2 HB4 hlt4 hb5' h5 H0; go_wp2_with fail
 refine HBS.out.mono ?_; rintro e w6 ⟨rfl, rfl⟩; go_wp2
 go_ret2
 exact ⟨rfl, HB5.out⟩
theorem anq (ho : w.heap[q]? = some (.cells #[.pointer (some ⟨g, 0, none⟩)] 69 (0, 0))) (ha : Ar w 79 g base cap A c bs) (hbase : base <= 4611686018427387904) (hl : bs.length <= 16384) (o s f p : Nat) (v : UInt8) {u : Bool} (hg : abt bs (o : Int) = some ⟨o, s, u⟩) (hs : 16 <= s) (hos : o + s <= bs.length) (hf : s - 16 <= f) (hp : o + 8 = p) :
 Calls Tryz.prog 60 #[.pointer (some ⟨q, 0, none⟩), .int .i64 (o : Int), .int .u64 (f : Int), .int .u8 (v.toNat : Int)] w fun e w' => e = .returned (.int .u64 (p : Int)) /\ Below w.heap.size w w' := by
 have hG := ahq w g base cap c A bs (o : Int) _ ha hbase hl (by omega) hg; dsimp only [aaL, bkV, Bk.val, aaz, Option.isSome] at hG; have HUS := hE0 (fun W => ab0 W (o : Int) s u (by omega) (by omega)); obtain ⟨L, hL⟩ := nmE (s - 16); rw [hL] at HUS hf; have g1 : decide (f < L) = false := decide_eq_false (by omega); have ep : (o : Int) + 8 = (p : Int) := by omega
 have hp14 : p <= 16384 := by omega
 have ho14 : o <= 16384 := by omega
 have k0 : w.cell? ⟨q, 0, none⟩ = some (.pointer (some ⟨g, 0, none⟩)) := by rw [cell_of_row w q 0 _ _ (0, 0) ho]; rfl
 have hlq := aaa ho; have HG := hE0 hG; clear hG hg ha ho hL hf hp hos hs; go_enter Tryz.func60, Tryz.ntmps60
 go_wp2_with fail
 refine HG.out.mono ?_; rintro e w2 ⟨rfl, hb⟩; obtain ⟨w3, hw3⟩ := nmE (w2.alloc (.cells #[.int .i64 (o : Int), .int .i64 (s : Int), .bool u] 81)); have n3 := anE hw3; have HB3 : Hid (Below w.heap.size w w3) := (show Below _ _ _ by rw [<- hw3]; exact hb.alloc hb.size _); obtain ⟨⟨d0, d1, d2⟩, _⟩ := aad n3; have hlt3 := aaa n3; have HW3 := hE0 hw3; clear hb HG hw3 n3 k0; go_wp2_with (first | (rw [HW3.out]) | fail)
 refine (HUS.out w3).mono ?_; rintro e w4 ⟨rfl, hb4⟩; have HB4 := hE0 (HB3.out.trans (hb4.mono HB3.out.size)); clear hb4 d0 d1 d2 HB3 hlt3; go_wp2
 go_ret
 exact ⟨rfl, HB4.out⟩
theorem ahQ (ho : w.heap[q]? = some (.cells #[.pointer (some ⟨g, 0, none⟩)] 69 (0, 0))) (ha : Ar w 79 g base cap A c bs) (hbase : base <= 4611686018427387904) (hl : bs.length <= 16384) (o s f p : Nat) (v : UInt8) {u : Bool} (hg : abt bs (o : Int) = some ⟨o, s, u⟩) (hs : 16 <= s) (hos : o + s <= bs.length) (hf : f < s - 16) (hp : o + 8 = p) :
 Calls Tryz.prog 60 #[.pointer (some ⟨q, 0, none⟩), .int .i64 (o : Int), .int .u64 (f : Int), .int .u8 (v.toNat : Int)] w fun e w' => e = .returned (.int .u64 (p : Int)) /\ Became 79 g base cap A (lay bs (p + f) (List.replicate (s - 16 - f) v)) w w' := by
 have hG := ahq w g base cap c A bs (o : Int) _ ha hbase hl (by omega) hg; dsimp only [aaL, bkV, Bk.val, aaz, Option.isSome] at hG; have HUS := hE0 (fun W => ab0 W (o : Int) s u (by omega) (by omega)); obtain ⟨L, hL⟩ := nmE (s - 16); rw [hL] at HUS hf ⊢; obtain ⟨m, hm⟩ := nmE (L - f); rw [hm]; have g1 : decide (f < L) = true := decide_eq_true (by omega); have ep : (o : Int) + 8 = (p : Int) := by omega
 have hp14 : p <= 16384 := by omega
 have ho14 : o <= 16384 := by omega
 have hf14 : f <= 16384 := by omega
 have hL14 : L <= 16384 := by omega
 have em : (L : Int) - (f : Int) = (m : Int) := by omega
 have hm14 : m <= 16384 := by omega
 obtain ⟨y, hy⟩ := nmE (base + p); obtain ⟨x, hx⟩ := nmE (y + f); have ey : (base : Int) + (p : Int) = (y : Int) := by omega
 have ex : (y : Int) + (f : Int) = (x : Int) := by omega
 have hy63 : y <= 4611686018427404288 := by omega
 have hx63 : x <= 4611686018427420672 := by omega
 have HFL := hE0 (fun W c' A' (a' : Ar W 79 g base cap A' c' bs) => akC a' (by omega) x m (p + f) v (by omega) (by omega) (by omega) (by omega)); have k0 : w.cell? ⟨q, 0, none⟩ = some (.pointer (some ⟨g, 0, none⟩)) := by rw [cell_of_row w q 0 _ _ (0, 0) ho]; rfl
 have hlq := aaa ho; have HG := hE0 hG; have HA := hE0 ha; have HO := hE0 ho; clear hG hg ha ho hL hf hp hos hs hm hy hx; go_enter Tryz.func60, Tryz.ntmps60
 go_wp2_with fail
 refine HG.out.mono ?_; rintro e w2 ⟨rfl, hb⟩; obtain ⟨w3, hw3⟩ := nmE (w2.alloc (.cells #[.int .i64 (o : Int), .int .i64 (s : Int), .bool u] 81)); have n3 := anE hw3; have HB3 : Hid (Below w.heap.size w w3) := (show Below _ _ _ by rw [<- hw3]; exact hb.alloc hb.size _); obtain ⟨⟨d0, d1, d2⟩, _⟩ := aad n3; have hlt3 := aaa n3; have HW3 := hE0 hw3; clear hb HG hw3 n3 k0; go_wp2_with (first | (rw [HW3.out]) | fail)
 refine (HUS.out w3).mono ?_; rintro e w4 ⟨rfl, hb4⟩; have hb4' := HB3.out.trans (hb4.mono HB3.out.size); obtain ⟨wd, hwd⟩ := nmE w4.drew; have hbd : Below w.heap.size w wd := by rw [<- hwd]; exact hb4'.drew
 have had := HA.out.below hbd; have k0 : wd.cell? ⟨q, 0, none⟩ = some (.pointer (some ⟨g, 0, none⟩)) := by rw [cell_of_row wd q 0 _ _ (0, 0) ((hbd.block q (aab HO.out)).trans HO.out)]; rfl
 have hlq4 : q < wd.heap.size := Nat.lt_of_lt_of_le (aab HO.out) hbd.size; have HBS := hE0 (acu had); have HF4 := hE0 (HFL.out wd c A had); have HBD := hE0 hbd; have HWD := hE0 hwd; clear hb4 d0 d1 d2 HB3 hlt3 hb4' had hbd hwd HA HO HFL; go_wp2_with fail
 refine aaf wd.heap.size [([0, 1, 2, 3, 4, 5, 6, 7, 9, 11, 13, 14, 15, 16], 8)] [10, 12] [17] (by kernel_rfl) (by kernel_rfl) (by kernel_rfl) (fun _ _ _ _ _ h => h) ?_; rw [HWD.out]; have q0 := tfE k0 hlq4; refine aaj (l := ?seg1) ?hseg1 ?_
 case hseg1 => simp only [pick, lE1, lE2, lE3]; rfl
 repeat (go_big_quiet_step (fail))
 refine wpQuiet_nil ?_; clear q0 k0; refine aam (vs := #[.pointer (some ⟨g, 0, none⟩)]) Tryz.call15 rfl rfl rfl (R := fun r w' => r = .int .u64 (base : Int) /\ w' = wd) (HBS.out.mono ?_) wd.heap.size (Nat.le_refl _) ?_
 · rintro e w' ⟨rfl, rfl⟩; exact ⟨_, rfl, Below.refl _ _, rfl, rfl⟩
 rintro r w5 _ ⟨rfl, rfl⟩; refine aap (l := ?la2) (t := ?tl2) ?hla2 ?htl2 ?_
 case hla2 => simp only [pick, lE1, lE2, lE3]; rfl
 case htl2 => simp only [pick, lE1, lE2, lE3]; rfl
 simp only [Act.put, lE4, lE5, lE6]; repeat (go_big_quiet_step (fail))
 refine wpQuiet_nil ?_; clear HBS; go_wp2_with fail
 refine HF4.out.mono ?_; rintro e w6 ⟨rfl, hbe⟩; have HE := hE0 (hbe.after HBD.out); clear hbe HF4; go_wp2
 go_ret
 exact ⟨rfl, HE.out⟩
end
end Go.Proofs.YtnicenfdlfffpaaGreatDoor
