/- Proved: for every input the law ImageBack returns true, and each argument reads afterwards as it read before (Rows.ImageBackSaid). Conditions: none beyond the statement's own.
   The walk is made of the contracts in the texts that are imported. -/
import Derived.Test.YtlhahibdddcpfaaRows
import Derived.Test.YtlhahibdddcpfaaLaw15d
import Derived.Test.YtlhahibdddcpfaaOpenI
import Derived.WalkKit
import Derived.ProofKit
import Derived.OpenShut
import Derived.ShutString
import Derived.ChangeOld
import Derived.Below
namespace Go.Proofs.Ytlhahibdddcpfaa.imageBack
open Go.ChangeShapes Go.WideShapes Go.ChangeAt Go.RowKit

theorem own : ownKnob Try.prog.godebug = none := by kernel_rfl
theorem laidOut : laidOutB Try.prog = true := by kernel_rfl

/-- The walk. -/
theorem walk (w : World) (a0 : Int) (w0 : -9223372036854775808 ≤ a0 ∧ a0 ≤ 9223372036854775807) (a1 : Option Addr) (cap1 : Nat) (l1 : List RkB) (r1 : RkRd w w.heap.size a1 l1) (m1 : l1.length ≤ maxLen) (a2 : Option Addr) (cap2 : Nat) (l2 : List (List UInt8)) (r2 : DtRd w w.heap.size a2 l2) (m2 : l2.length ≤ maxLen) (a3 : Option Addr) (cap3 : Nat) (b3 : List UInt8) (r3 : Rd w w.heap.size a3 b3.length b3) (c3 : b3.length ≤ cap3) (m3 : cap3 ≤ maxLen) (_n3 : a3 = none → cap3 = 0) (a4 : Int) (w4 : -9223372036854775808 ≤ a4 ∧ a4 ≤ 9223372036854775807) (a5 : Int) (w5 : 0 ≤ a5 ∧ a5 ≤ 4294967295) (a6 : Int) (w6 : -9223372036854775808 ≤ a6 ∧ a6 ≤ 9223372036854775807) :
    Calls Try.prog 5 #[.int .i64 a0, .slice a1 l1.length cap1, .slice a2 l2.length cap2, .slice a3 b3.length cap3, .int .i64 a4, .int .u32 a5, .int .i64 a6] w fun e w' => e = .returned (.bool true) ∧ Below w.heap.size w w' := by
  unfold maxLen at m3
  obtain ⟨v, rfl⟩ : ∃ v : Nat, a5 = (v : Int) := ⟨a5.toNat, by omega⟩
  cases hf : fewI l1 l2 with
  | false => exact ib_few w a0 w0 a1 cap1 l1 r1 m1 a2 cap2 l2 r2 m2 a3 cap3 b3 r3 c3 (by omega) a4 w4 v (by omega) a6 w6 hf
  | true =>
    by_cases hl : 30000 < b3.length
    · exact ib_long w a0 w0 a1 cap1 l1 r1 m1 a2 cap2 l2 r2 m2 a3 cap3 b3 r3 c3 (by omega) a4 w4 v (by omega) a6 w6 hf hl
    · by_cases hg : ∃ N l d, Good b3 N l d
      · obtain ⟨N, l, d, hg⟩ := hg
        exact ib_good w a0 w0 a1 cap1 l1 r1 m1 a2 cap2 l2 r2 m2 a3 cap3 b3 r3 c3 (by omega) a4 w4 v (by omega) a6 w6 hf (by omega) N l d hg
      · exact ib_bad w a0 w0 a1 cap1 l1 r1 m1 a2 cap2 l2 r2 m2 a3 cap3 b3 r3 c3 (by omega) a4 w4 v (by omega) a6 w6 hf (by omega) (fun N l d h => hg ⟨N, l, d, h⟩)

set_option maxRecDepth 100000 in
theorem lifted (os : Os) (started : os.Started) (H : Type) (enc : TypeId × Value → H) :
    ReturnsInHanded {} Try.checked os 5 .any (Rows.imageBackSpec.pre6 enc Try.prog Try.f5 Rows.imageBackRow.domain false) (Rows.imageBackSpec.post enc Try.prog Try.f5 false true false false) := by
  refine returnsInHanded_of_change (C := Try.checked) own started (by kernel_rfl) Try.func5
    (ChangeSpec.witness6 (enc := enc) (C := Try.checked) false ⟨#[], #[.int .i64 0, .slice none 0 0, .slice none 0 0, .slice none 0 0, .int .i64 0, .int .u32 0, .int .i64 0], []⟩ 8 (by kernel_rfl) (by kernel_rfl) (by kernel_rfl) (by kernel_rfl)) ?_
  intro W base args ds gs before hval0 hW hcnd _
  have hval : ∀ (j : Nat) t v, Try.f5.params[j]? = some t → args[j]? = some v → Value.okWide Try.prog W .any base t v := hval0
  have hW' := hW
  obtain ⟨p, q, hA0, hV, rfl, hfz, hnd⟩ := hW
  have hA : DataW.TrodAll enc Try.prog W 0 (fun _ => true) true Try.f5.params.toList args.toList ds p := hA0
  rw [Try.params5] at hA hval
  obtain ⟨v0, vs0, d0, ds0, p0, q0, hargs, rfl, rfl, h0, z0⟩ := trodAll_cons hA
  obtain ⟨v1, vs1, d1, ds1, p1, q1, rfl, rfl, rfl, h1, z1⟩ := trodAll_cons z0
  obtain ⟨v2, vs2, d2, ds2, p2, q2, rfl, rfl, rfl, h2, z2⟩ := trodAll_cons z1
  obtain ⟨v3, vs3, d3, ds3, p3, q3, rfl, rfl, rfl, h3, z3⟩ := trodAll_cons z2
  obtain ⟨v4, vs4, d4, ds4, p4, q4, rfl, rfl, rfl, h4, z4⟩ := trodAll_cons z3
  obtain ⟨v5, vs5, d5, ds5, p5, q5, rfl, rfl, rfl, h5, z5⟩ := trodAll_cons z4
  obtain ⟨v6, vs6, d6, ds6, p6, q6, rfl, rfl, rfl, h6, z6⟩ := trodAll_cons z5
  obtain ⟨rfl, rfl, rfl⟩ := trodAll_nil z6
  obtain rfl : args = #[v0, v1, v2, v3, v4, v5, v6] := by cases args; simp_all
  obtain ⟨rfl, rfl⟩ := trodVars_none hV
  obtain ⟨a0, rfl, rfl, rfl, w0⟩ := open_int Try.underlying3 (hval 0 3 v0 rfl rfl) h0
  obtain ⟨a1, len1, cap1, rfl⟩ := okWide_slice Try.underlying22 (hval 1 22 v1 rfl rfl)
  have kk1_ := h1
  have lt1 : ∀ x ∈ p1, x.block < W.heap.size := by obtain ⟨m, hm⟩ := kk1_; exact DataW.trod_lt m _ _ _ hm
  obtain ⟨a2, len2, cap2, rfl⟩ := okWide_slice Try.underlying23 (hval 2 23 v2 rfl rfl)
  have kk2_ := h2
  have lt2 : ∀ x ∈ p2, x.block < W.heap.size := by obtain ⟨m, hm⟩ := kk2_; exact DataW.trod_lt m _ _ _ hm
  obtain ⟨a3, len3, cap3, rfl⟩ := okWide_slice Try.underlying31 (hval 3 31 v3 rfl rfl)
  have kk3_ := h3
  have lt3 : ∀ x ∈ p3, x.block < W.heap.size := by obtain ⟨m, hm⟩ := kk3_; exact DataW.trod_lt m _ _ _ hm
  obtain ⟨a4, rfl, rfl, rfl, w4⟩ := open_int Try.underlying3 (hval 4 3 v4 rfl rfl) h4
  obtain ⟨a5, rfl, rfl, rfl, w5⟩ := open_int Try.underlying46 (hval 5 46 v5 rfl rfl) h5
  obtain ⟨a6, rfl, rfl, rfl, w6⟩ := open_int Try.underlying3 (hval 6 3 v6 rfl rfl) h6
  obtain ⟨b3, r3, c3, m3, n3⟩ : ∃ bs : List UInt8, Rd W W.heap.size a3 len3 bs ∧ len3 ≤ cap3 ∧ cap3 ≤ maxLen ∧ (a3 = none → cap3 = 0) := by
    obtain ⟨fuel, hf⟩ := h3
    exact open_byt hf
  obtain rfl : b3.length = len3 := r3.1
  obtain ⟨l1, kl1, r1, m1⟩ := (show ∃ l, l.length = len1 ∧ RkRd W W.heap.size a1 l ∧ len1 ≤ maxLen by
    obtain ⟨fuel, hf⟩ := h1
    exact open_rks hf)
  subst kl1
  obtain ⟨l2, kl2, r2, m2⟩ := (show ∃ l, l.length = len2 ∧ DtRd W W.heap.size a2 l ∧ len2 ≤ maxLen by
    obtain ⟨fuel, hf⟩ := h2
    exact open_dts hf)
  subst kl2
  clear hA0 hval0
  refine (walk W a0 (by have := bounds_i64 w0; omega) a1 cap1 l1 r1 m1 a2 cap2 l2 r2 m2 a3 cap3 b3 r3 c3 m3 n3 a4 (by have := bounds_i64 w4; omega) a5 (by have := bounds_u32 w5; omega) a6 (by have := bounds_i64 w6; omega)).mono fun e W' ⟨he, bel⟩ => ?_
  subst he
  exact ⟨_, rfl, _, _, _, [], _, [], hW', trodAll_mk1 (shut_bool Try.underlying4 _), (trodAll_cons_mk (shut_int Try.underlying3 w0) (trodAll_cons_mk (Below.trod laidOut (by kernel_rfl) (of_decide_eq_true (by kernel_rfl)) kk1_ bel lt1) (trodAll_cons_mk (Below.trod laidOut (by kernel_rfl) (of_decide_eq_true (by kernel_rfl)) kk2_ bel lt2) (trodAll_cons_mk (Below.trod laidOut (by kernel_rfl) (of_decide_eq_true (by kernel_rfl)) kk3_ bel lt3) (trodAll_cons_mk (shut_int Try.underlying3 w4) (trodAll_cons_mk (shut_int Try.underlying46 w5) (trodAll_cons_mk (shut_int Try.underlying3 w6) trodAll_mk0))))))), rfl, bel.frame _, fun h => by cases h⟩

theorem over : Rows.imageBackRow.holds Try.pinned (OpenSpec.ofChange Rows.imageBackSpec) :=
  OpenClaim.holds_of_wide 5 Try.f5 rfl rfl rfl rfl rfl rfl rfl ⟨rfl, rfl, rfl, rfl, rfl⟩ rfl rfl rfl rfl rfl (by kernel_rfl) Try.func5 (by kernel_rfl)
    (of_decide_eq_true (by kernel_rfl)) (by unfold Func.isWrapper; first | (rw [if_pos (by decide +kernel)]; kernel_rfl) | (rw [if_neg (by decide +kernel)]; exact ⟨rfl, rfl⟩))
    (fun os started H enc _ => lifted os started H enc)

theorem proved : Rows.ImageBackSaid := over
#print axioms proved
end Go.Proofs.Ytlhahibdddcpfaa.imageBack
