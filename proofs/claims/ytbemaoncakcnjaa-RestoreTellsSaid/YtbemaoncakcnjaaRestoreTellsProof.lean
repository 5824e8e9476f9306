/- Proved: for every input the law RestoreTells returns true, and each argument reads afterwards as it read before (Rows.RestoreTellsSaid). Conditions: none beyond the statement's own.
   The walk is made of the contracts in the texts that are imported. -/
import Derived.Test.YtbemaoncakcnjaaRows
import Derived.Test.YtbemaoncakcnjaaK14
import Derived.WalkKit
import Derived.ProofKit
import Derived.OpenShut
import Derived.ShutString
import Derived.ChangeOld
import Derived.Below
namespace Go.Proofs.Ytbemaoncakcnjaa.restoreTells
open Go.ChangeShapes Go.WideShapes Go.ChangeAt Go.RowKit

theorem own : ownKnob Try.prog.godebug = none := by kernel_rfl
theorem laidOut : laidOutB Try.prog = true := by kernel_rfl

/-- The walk. -/
theorem walk (w : World) (a0 : Int) (w0 : -9223372036854775808 ≤ a0 ∧ a0 ≤ 9223372036854775807) (a1 : Option Addr) (cap1 : Nat) (l1 : List RkB) (r1 : RkRd w w.heap.size a1 l1) (m1 : l1.length ≤ maxLen) (a2 : Option Addr) (cap2 : Nat) (l2 : List (List UInt8)) (r2 : DtRd w w.heap.size a2 l2) (m2 : l2.length ≤ maxLen) (a3 : Int) (w3 : 0 ≤ a3 ∧ a3 ≤ 18446744073709551615) (a4 : Int) (w4 : -9223372036854775808 ≤ a4 ∧ a4 ≤ 9223372036854775807) :
    Calls Try.prog 3 #[.int .i64 a0, .slice a1 l1.length cap1, .slice a2 l2.length cap2, .int .u64 a3, .int .i64 a4] w fun e w' => e = .returned (.bool true) ∧ Below w.heap.size w w' := by
  obtain ⟨v, rfl⟩ : ∃ v : Nat, a3 = (v : Int) := ⟨a3.toNat, by omega⟩
  cases hf : fewI l1 l2 with
  | false => exact rt_few w a0 w0 a1 cap1 l1 r1 m1 a2 cap2 l2 r2 m2 v (by omega) a4 w4 hf
  | true =>
    cases hm : mayI a0 l1 l2 with
    | false => exact rt_no1 w a0 w0 a1 cap1 l1 r1 m1 a2 cap2 l2 r2 m2 v (by omega) a4 w4 hf hm
    | true =>
      by_cases hb : v % 16 = 0 ∧ v ≤ 4611686018427387904 ∧ 1024 ≤ a4 ∧ a4 ≤ 16384
      · by_cases hlg : a4 < a0
        · exact rt_lg w a0 w0 a1 cap1 l1 r1 m1 a2 cap2 l2 r2 m2 v (by omega) a4 w4 hf hm hb.1 hb.2.1 hb.2.2.1 hb.2.2.2 hlg
        · exact rt_ok w a0 w0 a1 cap1 l1 r1 m1 a2 cap2 l2 r2 m2 v (by omega) a4 w4 hf hm hb.1 hb.2.1 hb.2.2.1 hb.2.2.2 (by omega)
      · exact rt_no2 w a0 w0 a1 cap1 l1 r1 m1 a2 cap2 l2 r2 m2 v (by omega) a4 w4 hf hm (by omega)

set_option maxRecDepth 100000 in
theorem lifted (os : Os) (started : os.Started) (H : Type) (enc : TypeId × Value → H) :
    ReturnsInHanded {} Try.checked os 3 .any (Rows.restoreTellsSpec.pre6 enc Try.prog Try.f3 Rows.restoreTellsRow.domain false) (Rows.restoreTellsSpec.post enc Try.prog Try.f3 false true false false) := by
  refine returnsInHanded_of_change (C := Try.checked) own started (by kernel_rfl) Try.func3
    (ChangeSpec.witness6 (enc := enc) (C := Try.checked) false ⟨#[], #[.int .i64 0, .slice none 0 0, .slice none 0 0, .int .u64 0, .int .i64 0], []⟩ 8 (by kernel_rfl) (by kernel_rfl) (by kernel_rfl) (by kernel_rfl)) ?_
  intro W base args ds gs before hval0 hW hcnd _
  have hval : ∀ (j : Nat) t v, Try.f3.params[j]? = some t → args[j]? = some v → Value.okWide Try.prog W .any base t v := hval0
  have hW' := hW
  obtain ⟨p, q, hA0, hV, rfl, hfz, hnd⟩ := hW
  have hA : DataW.TrodAll enc Try.prog W 0 (fun _ => true) true Try.f3.params.toList args.toList ds p := hA0
  rw [Try.params3] at hA hval
  obtain ⟨v0, vs0, d0, ds0, p0, q0, hargs, rfl, rfl, h0, z0⟩ := trodAll_cons hA
  obtain ⟨v1, vs1, d1, ds1, p1, q1, rfl, rfl, rfl, h1, z1⟩ := trodAll_cons z0
  obtain ⟨v2, vs2, d2, ds2, p2, q2, rfl, rfl, rfl, h2, z2⟩ := trodAll_cons z1
  obtain ⟨v3, vs3, d3, ds3, p3, q3, rfl, rfl, rfl, h3, z3⟩ := trodAll_cons z2
  obtain ⟨v4, vs4, d4, ds4, p4, q4, rfl, rfl, rfl, h4, z4⟩ := trodAll_cons z3
  obtain ⟨rfl, rfl, rfl⟩ := trodAll_nil z4
  obtain rfl : args = #[v0, v1, v2, v3, v4] := by cases args; simp_all
  obtain ⟨rfl, rfl⟩ := trodVars_none hV
  obtain ⟨a0, rfl, rfl, rfl, w0⟩ := open_int Try.underlying3 (hval 0 3 v0 rfl rfl) h0
  obtain ⟨a1, len1, cap1, rfl⟩ := okWide_slice Try.underlying22 (hval 1 22 v1 rfl rfl)
  have kk1_ := h1
  have lt1 : ∀ x ∈ p1, x.block < W.heap.size := by obtain ⟨m, hm⟩ := kk1_; exact DataW.trod_lt m _ _ _ hm
  obtain ⟨a2, len2, cap2, rfl⟩ := okWide_slice Try.underlying23 (hval 2 23 v2 rfl rfl)
  have kk2_ := h2
  have lt2 : ∀ x ∈ p2, x.block < W.heap.size := by obtain ⟨m, hm⟩ := kk2_; exact DataW.trod_lt m _ _ _ hm
  obtain ⟨a3, rfl, rfl, rfl, w3⟩ := open_int Try.underlying24 (hval 3 24 v3 rfl rfl) h3
  obtain ⟨a4, rfl, rfl, rfl, w4⟩ := open_int Try.underlying3 (hval 4 3 v4 rfl rfl) h4
  obtain ⟨l1, kl1, r1, m1⟩ := (show ∃ l, l.length = len1 ∧ RkRd W W.heap.size a1 l ∧ len1 ≤ maxLen by
    obtain ⟨fuel, hf⟩ := h1
    exact open_rks hf)
  subst kl1
  obtain ⟨l2, kl2, r2, m2⟩ := (show ∃ l, l.length = len2 ∧ DtRd W W.heap.size a2 l ∧ len2 ≤ maxLen by
    obtain ⟨fuel, hf⟩ := h2
    exact open_dts hf)
  subst kl2
  clear hA0 hval0
  refine (walk W a0 (by have := bounds_i64 w0; omega) a1 cap1 l1 r1 m1 a2 cap2 l2 r2 m2 a3 (by have := bounds_u64 w3; omega) a4 (by have := bounds_i64 w4; omega)).mono fun e W' ⟨he, bel⟩ => ?_
  subst he
  exact ⟨_, rfl, _, _, _, [], _, [], hW', trodAll_mk1 (shut_bool Try.underlying4 _), (trodAll_cons_mk (shut_int Try.underlying3 w0) (trodAll_cons_mk (Below.trod laidOut (by kernel_rfl) (of_decide_eq_true (by kernel_rfl)) kk1_ bel lt1) (trodAll_cons_mk (Below.trod laidOut (by kernel_rfl) (of_decide_eq_true (by kernel_rfl)) kk2_ bel lt2) (trodAll_cons_mk (shut_int Try.underlying24 w3) (trodAll_cons_mk (shut_int Try.underlying3 w4) trodAll_mk0))))), rfl, bel.frame _, fun h => by cases h⟩

theorem over : Rows.restoreTellsRow.holds Try.pinned (OpenSpec.ofChange Rows.restoreTellsSpec) :=
  OpenClaim.holds_of_wide 3 Try.f3 rfl rfl rfl rfl rfl rfl rfl ⟨rfl, rfl, rfl, rfl, rfl⟩ rfl rfl rfl rfl rfl (by kernel_rfl) Try.func3 (by kernel_rfl)
    (of_decide_eq_true (by kernel_rfl)) (by unfold Func.isWrapper; first | (rw [if_pos (by decide +kernel)]; kernel_rfl) | (rw [if_neg (by decide +kernel)]; exact ⟨rfl, rfl⟩))
    (fun os started H enc _ => lifted os started H enc)

theorem proved : Rows.RestoreTellsSaid := over
#print axioms proved
end Go.Proofs.Ytbemaoncakcnjaa.restoreTells
