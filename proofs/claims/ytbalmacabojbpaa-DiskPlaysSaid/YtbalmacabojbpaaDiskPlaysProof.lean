/- Proved: for every input the law DiskPlays returns true, and each argument reads afterwards as it read before (Rows.DiskPlaysSaid). Conditions: none beyond the statement's own.
   The walk is made of the contracts in the texts that are imported. -/
import Derived.Test.YtbalmacabojbpaaRows
import Derived.Test.YtbalmacabojbpaaPl4
import Derived.Test.YtbalmacabojbpaaOpen
import Derived.WalkKit
import Derived.ProofKit
import Derived.OpenShut
import Derived.ShutString
import Derived.ChangeOld
import Derived.Below
namespace Go.Proofs.Ytbalmacabojbpaa.diskPlays
open Go.ChangeShapes Go.WideShapes Go.ChangeAt Go.RowKit

theorem own : ownKnob Try.prog.godebug = none := by kernel_rfl
theorem laidOut : laidOutB Try.prog = true := by kernel_rfl

/-- The walk, whatever the bytes, the number and the deeds are. -/
theorem walk (A : Option Addr) (c : Nat) (bs : List UInt8) (s : Int) (L : Option Addr) (cl : Nat) (ds : List Dd) (w : World) (ws : (Lit.int .i64 s).wf = true) (hr : Rd w w.heap.size A bs.length bs) (hc : bs.length ≤ c) (hcm : c ≤ maxLen) (hA : A = none → c = 0) (hdm : ds.length ≤ maxLen) (hl : Dds w w.heap.size L ds) (hi : ∀ d ∈ ds, d.inn w) :
    Calls Try.prog 4 #[.slice A bs.length c, .int .i64 s, .slice L ds.length cl] w fun e w' => e = .returned (.bool true) ∧ Below w.heap.size w w' := by
  have hs := bounds_i64 ws
  unfold maxLen at hcm hdm
  by_cases h : bs.length ≤ 70000 ∧ ds.length ≤ 100
  · obtain ⟨h1, h2⟩ := h
    have hfit : ∀ wr, Below w.heap.size w wr → ∀ d ∈ ds, d.fit wr w.heap.size := fun wr hb d hd => by
      obtain ⟨⟨cs, h1, h2, h3, h4⟩, ⟨kb, g1, g2, g3⟩, i1, i2, i3⟩ := hi d hd
      refine ⟨i1, i2, i3, ⟨cs, h1.below hb, h2, h3, h4⟩, ⟨kb, g1, g3, fun hn => ?_⟩⟩
      obtain ⟨b, o, e, hlt, hk⟩ := g2 hn
      exact ⟨b, o, e, hlt, fun j u hu => (hb.cell (p := ⟨b, o + j, none⟩) hlt).trans (hk j u hu)⟩
    by_cases hmay : bs.length % 512 = 0 ∧ 1024 ≤ bs.length ∧ bs.length ≤ 65536
    · obtain ⟨m0, m1, m2⟩ := hmay
      obtain ⟨b, o, rfl, _⟩ := hr.2 (by omega)
      by_cases hs2 : 2 ≤ s ∧ s ≤ 128
      · exact dplays_main_y w b o c s L cl bs ds (bs.length / 512) (by omega) (by omega) (by omega) h2 s.toNat (by omega) (by omega) (by omega) hr hc (by omega) hl hfit
      · by_cases hs3 : 2 ≤ s
        · exact dplays_main_n1 w b o c s L cl bs ds (bs.length / 512) (by omega) (by omega) (by omega) h2 (by omega) (by omega) (decide_eq_true hs3) (decide_eq_false (by omega)) hr hc (by omega) hl hfit
        · exact dplays_main_n0 w b o c s L cl bs ds (bs.length / 512) (by omega) (by omega) (by omega) h2 (by omega) (by omega) (decide_eq_false hs3) hr hc (by omega) hl hfit
    · have HOF := Lib.hid (fun W => dof_no W A bs.length c (by omega) (by omega))
      have ha : ((bs.length : Int) % 512 == 0) = false ∨ (((bs.length : Int) % 512 == 0) = true ∧ decide ((1024 : Int) ≤ (bs.length : Int)) = false) ∨ (((bs.length : Int) % 512 == 0) = true ∧ decide ((1024 : Int) ≤ (bs.length : Int)) = true ∧ decide ((bs.length : Int) ≤ 65536) = false) := by
        simp only [beq_eq_false_iff_ne, beq_iff_eq, decide_eq_false_iff_not, decide_eq_true_eq]
        omega
      by_cases hs2 : 2 ≤ s ∧ s ≤ 128
      · exact dplays_no_y w A bs.length c s L ds.length cl h1 h2 s.toNat (by omega) (by omega) (by omega) _ _ _ rfl rfl rfl ha HOF
      · refine dplays_no_n w A bs.length c s L ds.length cl h1 h2 (by omega) (by omega) _ _ _ rfl rfl rfl ha _ _ rfl rfl ?_ HOF
        simp only [decide_eq_false_iff_not, decide_eq_true_eq]
        omega
  · exact dplays_long w A bs.length c s L ds.length cl (by omega) (by omega) (by omega)

set_option maxRecDepth 100000 in
theorem lifted (os : Os) (started : os.Started) (H : Type) (enc : TypeId × Value → H) :
    ReturnsInHanded {} Try.checked os 4 .any (Rows.diskPlaysSpec.pre6 enc Try.prog Try.f4 Rows.diskPlaysRow.domain false) (Rows.diskPlaysSpec.post enc Try.prog Try.f4 false true false false) := by
  refine returnsInHanded_of_change (C := Try.checked) own started (by kernel_rfl) Try.func4
    (ChangeSpec.witness6 (enc := enc) (C := Try.checked) false ⟨#[], #[.slice none 0 0, .int .i64 0, .slice none 0 0], []⟩ 8 (by kernel_rfl) (by kernel_rfl) (by kernel_rfl) (by kernel_rfl)) ?_
  intro W base args ds gs before hval0 hW hcnd _
  have hval : ∀ (j : Nat) t v, Try.f4.params[j]? = some t → args[j]? = some v → Value.okWide Try.prog W .any base t v := hval0
  have hW' := hW
  obtain ⟨p, q, hA0, hV, rfl, hfz, hnd⟩ := hW
  have hA : DataW.TrodAll enc Try.prog W 0 (fun _ => true) true Try.f4.params.toList args.toList ds p := hA0
  rw [Try.params4] at hA hval
  obtain ⟨v0, vs0, d0, ds0, p0, q0, hargs, rfl, rfl, h0, r0⟩ := trodAll_cons hA
  obtain ⟨v1, vs1, d1, ds1, p1, q1, rfl, rfl, rfl, h1, r1⟩ := trodAll_cons r0
  obtain ⟨v2, vs2, d2, ds2, p2, q2, rfl, rfl, rfl, h2, r2⟩ := trodAll_cons r1
  obtain ⟨rfl, rfl, rfl⟩ := trodAll_nil r2
  obtain rfl : args = #[v0, v1, v2] := by cases args; simp_all
  obtain ⟨rfl, rfl⟩ := trodVars_none hV
  obtain ⟨a0, len0, cap0, rfl⟩ := okWide_slice Try.underlying29 (hval 0 29 v0 rfl rfl)
  obtain ⟨b1, rfl, rfl, rfl, w1⟩ := open_int Try.underlying3 (hval 1 3 v1 rfl rfl) h1
  obtain ⟨a2, len2, cap2, rfl⟩ := okWide_slice Try.underlying39 (hval 2 39 v2 rfl rfl)
  have k0 := h0
  have k2 := h2
  have lt0 : ∀ x ∈ p0, x.block < W.heap.size := by obtain ⟨m, hm⟩ := k0; exact DataW.trod_lt m _ _ _ hm
  have lt2 : ∀ x ∈ p2, x.block < W.heap.size := by obtain ⟨m, hm⟩ := k2; exact DataW.trod_lt m _ _ _ hm
  obtain ⟨bs, hbr, hbc, hbm, hbA⟩ : ∃ bs : List UInt8, Rd W W.heap.size a0 len0 bs ∧ len0 ≤ cap0 ∧ cap0 ≤ maxLen ∧ (a0 = none → cap0 = 0) := by
    obtain ⟨fuel, hf⟩ := h0
    exact open_byt hf
  obtain rfl : bs.length = len0 := hbr.1
  obtain ⟨l, hll, hl, hi, hlm⟩ : ∃ l : List Dd, l.length = len2 ∧ Dds W W.heap.size a2 l ∧ (∀ d ∈ l, d.inn W) ∧ len2 ≤ maxLen := by
    obtain ⟨fuel, hf⟩ := h2
    exact open_deeds hf
  subst hll
  clear hA0 hval0
  refine (walk a0 cap0 bs b1 a2 cap2 l W w1 hbr hbc hbm hbA hlm hl hi).mono fun e W' ⟨he, bel⟩ => ?_
  subst he
  exact ⟨_, rfl, _, _, _, [], _, [], hW', trodAll_mk1 (shut_bool Try.underlying4 _), (trodAll_cons_mk (Below.trod laidOut (by kernel_rfl) (of_decide_eq_true (by kernel_rfl)) k0 bel lt0) (trodAll_cons_mk (shut_int Try.underlying3 w1) (trodAll_cons_mk (Below.trod laidOut (by kernel_rfl) (of_decide_eq_true (by kernel_rfl)) k2 bel lt2) trodAll_mk0))), rfl, bel.frame _, fun h => by cases h⟩

theorem over : Rows.diskPlaysRow.holds Try.pinned (OpenSpec.ofChange Rows.diskPlaysSpec) :=
  OpenClaim.holds_of_wide 4 Try.f4 rfl rfl rfl rfl rfl rfl rfl ⟨rfl, rfl, rfl, rfl, rfl⟩ rfl rfl rfl rfl rfl (by kernel_rfl) Try.func4 (by kernel_rfl)
    (of_decide_eq_true (by kernel_rfl)) (by unfold Func.isWrapper; first | (rw [if_pos (by decide +kernel)]; kernel_rfl) | (rw [if_neg (by decide +kernel)]; exact ⟨rfl, rfl⟩))
    (fun os started H enc _ => lifted os started H enc)

theorem proved : Rows.DiskPlaysSaid := over
#print axioms proved
end Go.Proofs.Ytbalmacabojbpaa.diskPlays
