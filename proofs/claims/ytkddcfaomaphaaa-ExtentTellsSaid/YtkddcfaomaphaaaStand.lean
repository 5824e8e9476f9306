/- What stands behind a boot, sector by sector; deeds as they lie in memory. No program in sight. -/
import Derived.Test.YtkddcfaomaphaaaDisk3
namespace Go.Proofs.Ytkddcfaomaphaaa
open Go.RowKit

/-- A sector of one byte. -/
def full (x : UInt8) : List UInt8 := List.replicate 512 x
theorem full_length (x : UInt8) : (full x).length = 512 := List.length_replicate ..

/-- Sector s. -/
def sec (bs : List UInt8) (s : Nat) : List UInt8 := (bs.drop (512 * s)).take 512

theorem sec_same (bs : List UInt8) (x : Nat × List UInt8) (h : x.1 * 512 + 512 ≤ bs.length) (h2 : x.2.length = 512) : sec (settled bs x) x.1 = x.2 := by
  have e : (bs.take (x.1 * 512)).length = 512 * x.1 := by simp; omega
  unfold sec settled lay
  rw [List.drop_append, e, List.drop_eq_nil_of_le (by omega), List.nil_append, Nat.sub_self, List.drop_zero, ← h2]
  exact List.take_left
theorem sec_other (bs : List UInt8) (x : Nat × List UInt8) (s : Nat) (h : x.1 * 512 + 512 ≤ bs.length) (h2 : x.2.length = 512) (hs : x.1 ≠ s) : sec (settled bs x) s = sec bs s := by
  apply List.ext_getElem?
  intro i
  unfold sec settled lay
  rcases Nat.lt_or_ge i 512 with hi | hi
  · rw [List.getElem?_take_of_lt hi, List.getElem?_take_of_lt hi, List.getElem?_drop, List.getElem?_drop]
    have e : (bs.take (x.1 * 512)).length = x.1 * 512 := by simp; omega
    rcases Nat.lt_or_ge s x.1 with h3 | h3
    · rw [List.getElem?_append_left (by omega), List.getElem?_take_of_lt (by omega)]
    · rw [List.getElem?_append_right (by omega), e, List.getElem?_append_right (by omega), h2, List.getElem?_drop]
      have e2 : x.1 * 512 + 512 + (512 * s + i - x.1 * 512 - 512) = 512 * s + i := by omega
      rw [e2]
  · rw [List.getElem?_eq_none (by simp; omega), List.getElem?_eq_none (by simp; omega)]
theorem stand_sec (l : List (Nat × List UInt8)) (bs : List UInt8) (s : Nat) (h : Fits bs.length l) : sec (stand bs l) s = sec bs s ∨ ∃ x ∈ l, x.1 = s ∧ sec (stand bs l) s = x.2 := by
  induction l generalizing bs with
  | nil => exact .inl rfl
  | cons x r ih =>
    have hx := h x (by simp)
    have e := settled_length bs x hx.1 hx.2
    rcases ih (settled bs x) (fun y hy => by rw [e]; exact h y (by simp [hy])) with h1 | ⟨y, hy, h2, h3⟩
    · by_cases hs : x.1 = s
      · subst hs
        exact .inr ⟨x, by simp, rfl, h1.trans (sec_same bs x hx.1 hx.2)⟩
      · exact .inl (h1.trans (sec_other bs x s hx.1 hx.2 hs))
    · exact .inr ⟨y, by simp [hy], h2, h3⟩
theorem kept_at {α : Type} : ∀ (l : List α) (kb : List Bool) (x : α), x ∈ kept l kb → ∃ i, l[i]? = some x ∧ i < kb.length
  | [], _, _, h => by simp [kept] at h
  | y :: r, [], _, h => by simp [kept] at h
  | y :: r, true :: kb, x, h => by
    simp [kept] at h
    rcases h with rfl | h
    · exact ⟨0, rfl, by simp⟩
    · obtain ⟨i, h1, h2⟩ := kept_at r kb x h
      exact ⟨i + 1, by simpa using h1, by simpa using h2⟩
  | y :: r, false :: kb, x, h => by
    simp [kept] at h
    obtain ⟨i, h1, h2⟩ := kept_at r kb x h
    exact ⟨i + 1, by simpa using h1, by simpa using h2⟩

/-- A deed, as its six cells. -/
structure Dd where
  what : Int
  i : Int
  n : Int
  x : UInt8
  bA : Option Addr
  bn : Nat
  bc : Nat
  kA : Option Addr
  kn : Nat
  kc : Nat
/-- The write that a deed of the law is. -/
def Dd.wr (d : Dd) : Nat × List UInt8 := ((d.i % 4).toNat, full d.x)
/-- A slice of deeds. -/
def Dds (w : World) (B : Nat) (A : Option Addr) (ds : List Dd) : Prop := 0 < ds.length → ∃ b o, A = some ⟨b, o, none⟩ ∧ b < B ∧ ∀ j d, ds[j]? = some d →
  w.cell? ⟨b, o + j * 6, none⟩ = some (.int .i64 d.what) ∧ w.cell? ⟨b, o + j * 6 + 1, none⟩ = some (.int .i64 d.i) ∧ w.cell? ⟨b, o + j * 6 + 2, none⟩ = some (.int .i64 d.n) ∧
  w.cell? ⟨b, o + j * 6 + 3, none⟩ = some (.int .u8 (d.x.toNat : Int)) ∧ w.cell? ⟨b, o + j * 6 + 4, none⟩ = some (.slice d.bA d.bn d.bc) ∧ w.cell? ⟨b, o + j * 6 + 5, none⟩ = some (.slice d.kA d.kn d.kc)
theorem Dds.below {w w' : World} {B : Nat} {A : Option Addr} {ds : List Dd} (h : Dds w B A ds) (hb : Below B w w') : Dds w' B A ds := fun hn => by
  obtain ⟨b, o, e, hB, hc⟩ := h hn
  refine ⟨b, o, e, hB, fun j d hd => ?_⟩
  obtain ⟨h0, h1, h2, h3, h4, h5⟩ := hc j d hd
  exact ⟨(hb.cell (p := ⟨b, _, none⟩) hB).trans h0, (hb.cell (p := ⟨b, _, none⟩) hB).trans h1, (hb.cell (p := ⟨b, _, none⟩) hB).trans h2, (hb.cell (p := ⟨b, _, none⟩) hB).trans h3, (hb.cell (p := ⟨b, _, none⟩) hB).trans h4, (hb.cell (p := ⟨b, _, none⟩) hB).trans h5⟩

/-- Is what stands at sector s now what stood, or one of the first k that were written to it? -/
def okB (was now : List UInt8) (ds : List Dd) (kl s : Nat) : Nat → Bool
  | 0 => decide (sec now s = sec was s)
  | k + 1 => okB was now ds kl s k || (match ds[k]? with
    | some d => (d.i % 4).toNat == s && (decide (k < kl) && decide (sec now s = full d.x))
    | none => false)
theorem okB_le (was now : List UInt8) (ds : List Dd) (kl s : Nat) : ∀ (m k : Nat), okB was now ds kl s k = true → okB was now ds kl s (k + m) = true
  | 0, _, h => h
  | m + 1, k, h => by
    have := okB_le was now ds kl s m k h
    rw [← Nat.add_assoc]
    simp [okB, this]
theorem okB_all (was : List UInt8) (ds : List Dd) (kb : List Bool) (s : Nat) (hw : was.length = 2048) : okB was (stand was (kept (ds.map Dd.wr) kb)) ds kb.length s ds.length = true := by
  have hf : Fits was.length (kept (ds.map Dd.wr) kb) := fun x hx => by
    obtain ⟨d, _, rfl⟩ := List.mem_map.1 (kept_mem _ _ _ hx)
    have := Int.emod_nonneg d.i (b := 4) (by omega)
    have := Int.emod_lt_of_pos d.i (b := 4) (by omega)
    refine ⟨?_, full_length _⟩
    show (d.i % 4).toNat * 512 + 512 ≤ was.length
    omega
  rcases stand_sec _ was s hf with h | ⟨x, hx, h1, h2⟩
  · have := okB_le was (stand was (kept (ds.map Dd.wr) kb)) ds kb.length s ds.length 0 (by simpa [okB] using h)
    rw [Nat.zero_add] at this
    exact this
  · obtain ⟨i, h3, h4⟩ := kept_at _ _ _ hx
    rw [List.getElem?_map, Option.map_eq_some_iff] at h3
    obtain ⟨d, h5, rfl⟩ := h3
    have hi : i < ds.length := by
      rcases Nat.lt_or_ge i ds.length with h | h
      · exact h
      · rw [List.getElem?_eq_none h] at h5; cases h5
    have := okB_le was (stand was (kept (ds.map Dd.wr) kb)) ds kb.length s (ds.length - (i + 1)) (i + 1) (by
      have e1 : (d.i % 4).toNat = s := h1
      have e2 : sec (stand was (kept (ds.map Dd.wr) kb)) s = full d.x := h2
      simp [okB, h5, e1, e2, h4])
    have e : i + 1 + (ds.length - (i + 1)) = ds.length := by omega
    rw [e] at this
    exact this

end Go.Proofs.Ytkddcfaomaphaaa
