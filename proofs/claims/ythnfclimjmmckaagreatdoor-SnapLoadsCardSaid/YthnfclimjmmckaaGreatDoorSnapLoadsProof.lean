/- Proved: for every input the law SnapLoads returns true, and each argument reads afterwards as it read before (Rows.SnapLoadsCardSaid). What the row lists as laid (errors.errorType) is tied to the program's text by the given texts.
   The walk is made of the contracts in the texts that are imported. -/
import Derived.Test.YthnfclimjmmckaaGreatDoorCards
import Derived.Test.YthnfclimjmmckaaGreatDoorTie
import Derived.Test.YthnfclimjmmckaaGreatDoorM13
import Derived.WalkKit
import Derived.ProofKit
import Derived.OpenShut
import Derived.ShutString
import Derived.ChangeOld
import Derived.Below
import Derived.ChangeSame
import Derived.ChangeVars
import Derived.JoinedOf
import Derived.RowKitTokens
import Derived.LaidLaws
import Derived.LaidHandle
import Derived.SevenTiedAt
namespace Go.Proofs.YthnfclimjmmckaaGreatDoor.snapLoads
open Go.ChangeShapes Go.WideShapes Go.ChangeAt Go.RowKit

theorem own : ownKnob Tryz.prog.godebug = none := by kernel_rfl
theorem laidOut : laidOutB Tryz.prog = true := by kernel_rfl
theorem et : Tryz.prog.globalNamed "errors.errorType" = some 0 := by kernel_rfl
theorem rt : (Tryz.prog.cutTypes.find? (·.1 == "internal/reflectlite.rtype")).map (·.2) = some 271 := by kernel_rfl
theorem tsize : Tryz.prog.types.size = 337 := by kernel_rfl
theorem oneRow : ((List.range 337).filter fun t => Tryz.prog.rowNamed t [101, 114, 114, 111, 114]) = [31] := by kernel_rfl

/-- What the row's condition gives a walk: the variable's one cell. -/
theorem et_of_laid {W : World} (h : laidMetH Tryz.prog Rows.snapLoadsRow.laid W) : ET W := by
  have h' : laidMet Tryz.prog [] W ∧ handlesMet Tryz.prog Rows.snapLoadsRow.laid W := h
  obtain ⟨name, u, ty, e1, e2, e3, e4, e5⟩ := h'.2 _ (List.mem_singleton.2 rfl)
  have en : name = [101, 114, 114, 111, 114] := (Option.some.inj e1).symm
  subst en
  obtain rfl := Option.some.inj (rt.symm.trans e2)
  have hm : ty ∈ (List.range 337).filter fun t => Tryz.prog.rowNamed t [101, 114, 114, 111, 114] := List.mem_filter.2 ⟨List.mem_range.2 (by rw [← tsize]; exact e3), e4⟩
  rw [oneRow] at hm
  obtain rfl := List.mem_singleton.1 hm
  have hh : typeHandle Tryz.prog 31 = .pointer (some ⟨1, 31, none⟩) := by kernel_rfl
  rw [hh] at e5
  unfold ET
  simpa using World.var?_cell et e5 0

/-- A world that meets the condition: the adL one, the variable's cell laid. -/
noncomputable def laidWorld (os : Os) : World :=
  let w0 := World.holding Tryz.prog os ⟨#[], #[], []⟩
  { w0 with heap := w0.heap.modify 0 fun
      | .cells _ t frozen => .cells #[ETV] t frozen
      | o => o }
theorem laidWorld_met (os : Os) (args : Array Value) : laidMetH Tryz.prog Rows.snapLoadsRow.laid ((laidWorld os).forCall (fun _ _ => 0) ⟨#[], args, []⟩).memory :=
  laidMetH_of_parts (laidMet_nil _ _) (by kernel_rfl)

/-- The walk. -/
theorem walk (w : World) (hE : ET w) (a0 : Int) (w0 : -9223372036854775808 ≤ a0 ∧ a0 ≤ 9223372036854775807) (s1 : Sl) (r1 : s1.Raw w) (q1 : s1.Few) (s2 : Sl) (r2 : s2.Raw w) (q2 : s2.Few) (a3 : Option Addr) (cap3 : Nat) (l3 : List Int) (r3 : IRd w w.heap.size a3 l3) (_n3 : ∀ z ∈ l3, -9223372036854775808 ≤ z ∧ z ≤ 9223372036854775807) (m3 : l3.length ≤ maxLen) (a4 : Int) (w4 : 0 ≤ a4 ∧ a4 ≤ 255) (a5 : Int) (w5 : 0 ≤ a5 ∧ a5 ≤ 18446744073709551615) (a6 : Int) (w6 : -9223372036854775808 ≤ a6 ∧ a6 ≤ 9223372036854775807) :
    Calls Tryz.prog 4 #[.int .i64 a0, s1.v, s2.v, .slice a3 l3.length cap3, .int .u8 a4, .int .u64 a5, .int .i64 a6] w fun e w' => e = .returned (.bool true) ∧ Below w.heap.size w w' := by
  obtain ⟨bt, rfl⟩ : ∃ bt : UInt8, a4 = (bt.toNat : Int) := ⟨UInt8.ofNat a4.toNat, by simp; omega⟩
  obtain ⟨base, rfl⟩ : ∃ b : Nat, a5 = (b : Int) := ⟨a5.toNat, by omega⟩
  unfold maxLen at m3
  by_cases hf : 2 ≤ a0 ∧ a0 ≤ 40 ∧ s1.b.length + s2.b.length ≤ 20000 ∧ s1.l.length + s2.l.length ≤ 100 ∧ s1.d.length + s2.d.length ≤ 100 ∧ l3.length ≤ 10
  · obtain ⟨N, rfl⟩ : ∃ n : Nat, a0 = (n : Int) := ⟨a0.toNat, by omega⟩
    exact ash w hE N s1 s2 (r1.in_ (by omega) (by omega) (by omega)) (r2.in_ (by omega) (by omega) (by omega)) a3 cap3 l3 r3 bt base (by omega) a6 w6 (by omega) (by omega) hf.2.2
  · exact as1 w a0 s1 s2 a3 cap3 l3 bt base a6 hf ⟨q1, q2, by omega⟩

set_option maxRecDepth 100000 in
theorem lifted (os : Os) (started : os.Started) (H : Type) (enc : TypeId × Value → H) :
    ReturnsInHanded {} Tryz.checked os 4 .any (fun w args => (Rows.snapLoadsSpec.pre enc Tryz.prog Tryz.f4 [] false w args ∧ laidMetH Tryz.prog Rows.snapLoadsRow.laid w) ∧ sizedMet enc Tryz.prog Tryz.f4 (OpenSpec.ofChange Rows.snapLoadsSpec) false w args)
      (Rows.snapLoadsSpec.post enc Tryz.prog Tryz.f4 false true false false) := by
  refine returnsInHanded_of_change_and (C := Tryz.checked) (X := fun w _ => laidMetH Tryz.prog Rows.snapLoadsRow.laid w) (fun _ _ _ hh h => h.of_heap hh) own started (by kernel_rfl) Tryz.func4
    (ChangeSpec.witness_at (enc := enc) (C := Tryz.checked) (os := os) (X := fun w _ => laidMetH Tryz.prog Rows.snapLoadsRow.laid w) false (laidWorld os) #[.int .i64 0, .agg #[.int .u64 0, .int .i64 0, .bool false, .slice none 0 0, .bool false, .int .i64 0, .slice none 0 0, .slice none 0 0], .agg #[.int .u64 0, .int .i64 0, .bool false, .slice none 0 0, .bool false, .int .i64 0, .slice none 0 0, .slice none 0 0], .slice none 0 0, .int .u8 0, .int .u64 0, .int .i64 0] 8 rfl (by kernel_rfl) (by kernel_rfl) (by kernel_rfl) (by kernel_rfl) (by kernel_rfl) (laidWorld_met os _)) ?_
  intro W base args ds gs before hval0 hW _ hsz0 hLaid _
  have hval : ∀ (j : Nat) t v, Tryz.f4.params[j]? = some t → args[j]? = some v → Value.okWide Tryz.prog W .any base t v := hval0
  have hW' := hW
  obtain ⟨p, q, hA0, hV, rfl, hfz, hnd⟩ := hW
  have hA : DataW.TrodAll enc Tryz.prog W 0 (fun _ => true) true Tryz.f4.params.toList args.toList ds p := hA0
  rw [Tryz.params4] at hA hval
  obtain ⟨v0, vs0, d0, ds0, p0, q0, hargs, rfl, rfl, h0, z0⟩ := trodAll_cons hA
  obtain ⟨v1, vs1, d1, ds1, p1, q1, rfl, rfl, rfl, h1, z1⟩ := trodAll_cons z0
  obtain ⟨v2, vs2, d2, ds2, p2, q2, rfl, rfl, rfl, h2, z2⟩ := trodAll_cons z1
  obtain ⟨v3, vs3, d3, ds3, p3, q3, rfl, rfl, rfl, h3, z3⟩ := trodAll_cons z2
  obtain ⟨v4, vs4, d4, ds4, p4, q4, rfl, rfl, rfl, h4, z4⟩ := trodAll_cons z3
  obtain ⟨v5, vs5, d5, ds5, p5, q5, rfl, rfl, rfl, h5, z5⟩ := trodAll_cons z4
  obtain ⟨v6, vs6, d6, ds6, p6, q6, rfl, rfl, rfl, h6, z6⟩ := trodAll_cons z5
  obtain ⟨rfl, rfl, rfl⟩ := trodAll_nil z6
  obtain rfl : args = #[v0, v1, v2, v3, v4, v5, v6] := by cases args; simp_all
  obtain ⟨rfl, rfl⟩ := trodVars_none hV
  have hsz := hsz0
  rw [Tryz.params4] at hsz
  have hq : (d1.weights Tryz.prog 78).all (· ≤ reachBytes) = true ∧ (d2.weights Tryz.prog 78).all (· ≤ reachBytes) = true := by
    have h : (d0.weights Tryz.prog 3 ++ (d1.weights Tryz.prog 78 ++ (d2.weights Tryz.prog 78 ++ DataW.weightsEach Tryz.prog _ _))).all (· ≤ reachBytes) = true := hsz
    simp only [List.all_append, Bool.and_eq_true] at h
    exact ⟨h.2.1, h.2.2.1⟩
  obtain ⟨hq1, hq2⟩ := hq
  obtain ⟨a0, rfl, rfl, rfl, w0⟩ := open_int Tryz.underlying3 (hval 0 3 v0 rfl rfl) h0
  have kk1_ := h1
  obtain ⟨s1, rfl, r1, qf1⟩ := ajU (hval 1 78 v1 rfl rfl) h1
  have lt1 : ∀ x ∈ p1, x.block < W.heap.size := by obtain ⟨m, hm⟩ := kk1_; exact DataW.trod_lt m _ _ _ hm
  have kk2_ := h2
  obtain ⟨s2, rfl, r2, qf2⟩ := ajU (hval 2 78 v2 rfl rfl) h2
  have lt2 : ∀ x ∈ p2, x.block < W.heap.size := by obtain ⟨m, hm⟩ := kk2_; exact DataW.trod_lt m _ _ _ hm
  obtain ⟨a3, len3, cap3, rfl⟩ := okWide_slice Tryz.underlying23 (hval 3 23 v3 rfl rfl)
  have kk3_ := h3
  have lt3 : ∀ x ∈ p3, x.block < W.heap.size := by obtain ⟨m, hm⟩ := kk3_; exact DataW.trod_lt m _ _ _ hm
  obtain ⟨a4, rfl, rfl, rfl, w4⟩ := open_int Tryz.underlying5 (hval 4 5 v4 rfl rfl) h4
  obtain ⟨a5, rfl, rfl, rfl, w5⟩ := open_int Tryz.underlying25 (hval 5 25 v5 rfl rfl) h5
  obtain ⟨a6, rfl, rfl, rfl, w6⟩ := open_int Tryz.underlying3 (hval 6 3 v6 rfl rfl) h6
  obtain ⟨l3, kl3, r3, n3, m3⟩ := (show ∃ l, l.length = len3 ∧ IRd W W.heap.size a3 l ∧ (∀ z ∈ l, -9223372036854775808 ≤ z ∧ z ≤ 9223372036854775807) ∧ len3 ≤ maxLen by
    obtain ⟨fuel, hf⟩ := h3
    exact arA hf)
  subst kl3
  clear hA0 hval0
  refine (walk W (et_of_laid hLaid) a0 (by have := bounds_i64 w0; omega) s1 r1 (qf1 hq1) s2 r2 (qf2 hq2) a3 cap3 l3 r3 n3 m3 a4 (by have := bounds_u8 w4; omega) a5 (by have := bounds_u64 w5; omega) a6 (by have := bounds_i64 w6; omega)).mono fun e W' ⟨he, bel⟩ => ?_
  subst he
  exact ⟨_, rfl, _, _, _, [], _, [], hW', trodAll_mk1 (shut_bool Tryz.underlying4 _), (trodAll_cons_mk (shut_int Tryz.underlying3 w0) (trodAll_cons_mk (Below.trod laidOut (by kernel_rfl) (of_decide_eq_true (by kernel_rfl)) kk1_ bel lt1) (trodAll_cons_mk (Below.trod laidOut (by kernel_rfl) (of_decide_eq_true (by kernel_rfl)) kk2_ bel lt2) (trodAll_cons_mk (Below.trod laidOut (by kernel_rfl) (of_decide_eq_true (by kernel_rfl)) kk3_ bel lt3) (trodAll_cons_mk (shut_int Tryz.underlying5 w4) (trodAll_cons_mk (shut_int Tryz.underlying25 w5) (trodAll_cons_mk (shut_int Tryz.underlying3 w6) trodAll_mk0))))))), rfl, bel.frame _, fun h => by cases h⟩

theorem wants_none : ∀ t ∈ [3, 78, 78, 23, 5, 25, 3], Tryz.prog.wantsStandIn t = false := by
  intro t ht
  simp only [List.mem_cons, List.not_mem_nil, or_false] at ht
  rcases ht with rfl | rfl | rfl | rfl | rfl | rfl | rfl
  · exact (show Tryz.prog.wantsStandIn 3 = false by kernel_rfl)
  · exact (show Tryz.prog.wantsStandIn 78 = false by kernel_rfl)
  · exact (show Tryz.prog.wantsStandIn 78 = false by kernel_rfl)
  · exact (show Tryz.prog.wantsStandIn 23 = false by kernel_rfl)
  · exact (show Tryz.prog.wantsStandIn 5 = false by kernel_rfl)
  · exact (show Tryz.prog.wantsStandIn 25 = false by kernel_rfl)
  · exact (show Tryz.prog.wantsStandIn 3 = false by kernel_rfl)

set_option maxRecDepth 100000 in
theorem over : Rows.snapLoadsRow.holds Tryz.pinned (OpenSpec.ofChange Rows.snapLoadsSpec) :=
  OpenClaim.holds_of_wide 4 Tryz.f4 rfl rfl rfl rfl rfl rfl rfl ⟨rfl, rfl, rfl, rfl, rfl⟩ rfl rfl rfl rfl rfl (by kernel_rfl) Tryz.func4 (by kernel_rfl)
    (of_decide_eq_true (by kernel_rfl)) (by unfold Func.isWrapper; first | (rw [if_pos (by decide +kernel)]; kernel_rfl) | (rw [if_neg (by decide +kernel)]; exact ⟨rfl, rfl⟩))
    (fun os started H enc _ => lifted os started H enc)

set_option maxRecDepth 100000 in
theorem proved : Rows.SnapLoadsCardSaid :=
  Claim7.holds_tied_plain_at .later [] [.handle] true (true, "00cf258fffe49a8006c2fd64ecaa4f8f9f9776d5e29f4d2f7e65d55376113623") true
    over (fun _ h => by cases h) (by kernel_rfl) (fun _ h => by cases h) snapLoads_row_tie rfl ⟨rfl, rfl⟩ (by kernel_rfl) rfl
    (fun f fn hf hfn => by
      obtain rfl : f = 4 := (Option.some.inj ((show Tryz.prog.funcNamed "cantle/cantlelaw18.SnapLoads" = some 4 by kernel_rfl).symm.trans hf)).symm
      obtain rfl : fn = Tryz.f4 := (Option.some.inj (Tryz.func4.symm.trans hfn)).symm
      exact ⟨by kernel_rfl, fun j t ht => by
        rw [Tryz.params4] at ht
        have hm : t ∈ [3, 78, 78, 23, 5, 25, 3] := List.mem_of_getElem? (i := j) (by simpa using ht)
        exact wants_none t hm⟩)
    (by kernel_rfl)
#print axioms proved
end Go.Proofs.YthnfclimjmmckaaGreatDoor.snapLoads
