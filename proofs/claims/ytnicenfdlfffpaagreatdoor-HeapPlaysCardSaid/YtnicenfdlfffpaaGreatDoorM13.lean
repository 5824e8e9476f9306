/- Texts of mine, joined. -/
import Derived.OpenShut
import Derived.Test.YtnicenfdlfffpaaGreatDoorChecked
import Derived.Deep.Grids
import Derived.Deep.Fields
import Derived.Lib.SmallJoins
import Derived.Test.YtnicenfdlfffpaaGreatDoorM11
set_option maxRecDepth 100000
namespace Go.Proofs.YtnicenfdlfffpaaGreatDoor
open Go.RowKit
theorem amc {w : World} {a : Addr} {v : Value} (h : w.cell? a = some v) : a.block < w.heap.size := by
 rcases Nat.lt_or_ge a.block w.heap.size with h1 | h1
 · exact h1
 · unfold World.cell? at h; rw [Array.getElem?_eq_none h1] at h; simp at h
theorem ah2 {w : World} {a : Option Addr} {len cap : Nat} {zs : List Int}
 (h : (a = none /\ len = 0 /\ cap = 0 /\ zs = []) \/
  ∃ x, a = some x /\ len <= cap /\ cap <= maxLen /\ zs.length = cap /\ (∀ i, i < zs.length -> w.cell? (x.add i) = some (.int .u8 (zs.getD i 0))) /\ ∀ n ∈ zs, (Lit.int .u8 n).wf = true) :
 ∃ bs : List UInt8, Rd w w.heap.size a len bs /\ len <= cap /\ cap <= maxLen /\ (a = none -> cap = 0) := by
 rcases h with ⟨rfl, rfl, rfl, rfl⟩ | ⟨x, rfl, hl, hm, hz, hc, hwf⟩
 · exact ⟨[], Rd.nil_, Nat.le_refl _, Nat.zero_le _, fun _ => rfl⟩
 · refine ⟨(zs.take len).map fun n => UInt8.ofNat n.toNat, ⟨by simp; omega, fun hn => ?_⟩, hl, hm, fun h => by cases h⟩; have h0 := hc 0 (by omega); obtain ⟨b, off, spot⟩ := x; obtain rfl : spot = none := by simpa [Addr.add] using World.cell?_spot h0
   refine ⟨b, off, rfl, ?_, fun j u hu => ?_⟩
   · have := amc h0; simpa [Addr.add] using this
   · rw [List.getElem?_map, Option.map_eq_some_iff] at hu; obtain ⟨n, hn1, rfl⟩ := hu; have hj : j < len := by
      rcases Nat.lt_or_ge j len with h1 | h1
      · exact h1
      · rw [List.getElem?_eq_none (by rw [List.length_take]; omega)] at hn1; cases hn1
     rw [List.getElem?_take_of_lt hj] at hn1; have hg := hc j (by omega); have e : (⟨b, off, none⟩ : Addr).add j = ⟨b, off + j, none⟩ := by unfold Addr.add; split <;> simp_all
     rw [e] at hg; rw [hg, List.getD, hn1]; have hb := bounds_u8 (hwf n (List.mem_of_getElem? hn1)); have h1 : (UInt8.ofNat n.toNat).toNat = n.toNat := by rw [UInt8.toNat_ofNat']; omega
     simp only [Option.getD_some, h1]; congr 2; omega
open Go.RowKit Go.ChangeShapes Go.WideShapes Go.Deep
theorem amd {α : Type} {p : Nat -> α -> Prop} : ∀ (n : Nat), (∀ i, i < n -> ∃ x, p i x) -> ∃ l : List α, l.length = n /\ ∀ i x, l[i]? = some x -> p i x
 | 0, _ => ⟨[], rfl, fun i x h => by simp at h⟩
 | n + 1, h => by
  obtain ⟨l, hl, hp⟩ := amd n (fun i hi => h i (by omega)); obtain ⟨x, hx⟩ := h n (by omega); refine ⟨l ++ [x], by simp [hl], fun i y hy => ?_⟩; rcases Nat.lt_or_ge i l.length with h1 | h1
  · rw [List.getElem?_append_left h1] at hy; exact hp i y hy
  · rw [List.getElem?_append_right h1] at hy; have e : i - l.length = 0 := by
     rcases Nat.eq_zero_or_pos (i - l.length) with h2 | h2
     · exact h2
     · rw [List.getElem?_eq_none (by simp; omega)] at hy; cases hy
    rw [e] at hy; obtain rfl : x = y := by simpa using hy
    obtain rfl : i = n := by omega
    exact hx
theorem ame {w : World} {a : Addr} {v : Value} (h : w.cell? (a.add 0) = some v) : ∃ b o, a = ⟨b, o, none⟩ /\ b < w.heap.size /\ ∀ j, a.add j = ⟨b, o + j, none⟩ := by
 obtain ⟨b, o, sp⟩ := a; obtain rfl : sp = none := by simpa [Addr.add] using World.cell?_spot h
 have e : ∀ j, (⟨b, o, none⟩ : Addr).add j = ⟨b, o + j, none⟩ := fun j => by unfold Addr.add; split <;> simp_all
 refine ⟨b, o, rfl, ?_, e⟩; rw [e] at h; exact amc h
section
variable {H : Type} {enc : TypeId × Value -> H} {w : World} {base : Nat} {held : Bool} {fuel : Nat} {A : Option Addr} {len cap : Nat} {x : DataW H × List MemPlace}
theorem anK {fuel : Nat} {A : Option Addr} {len cap : Nat} {x : DataW H × List MemPlace} (h : DataW.trod enc Tryz.prog w base (fun _ => true) held fuel 36 [.slice A len cap] = some x) : ∃ bs : List UInt8, Rd w w.heap.size A len bs /\ len <= cap /\ cap <= maxLen /\ (A = none -> cap = 0) := by
 rcases open_ints Tryz.underlying36 Tryz.underlying5 (by kernel_rfl) h with ⟨hcs, _⟩ | ⟨y, l, c, zs, hcs, _, hl, hm, hz, _, hcell, hwz⟩
 · simp at hcs; obtain ⟨rfl, rfl, rfl⟩ := hcs; exact ah2 (zs := []) (.inl ⟨rfl, rfl, rfl, rfl⟩)
 · simp at hcs; obtain ⟨rfl, rfl, rfl⟩ := hcs; exact ah2 (zs := zs) (.inr ⟨_, rfl, hl, hm, by simpa using hz, hcell, hwz⟩)
end
section
variable {H : Type} {enc : TypeId × Value -> H} {w : World} {base : Nat} {held : Bool} {fuel : Nat} {A : Option Addr} {len cap : Nat} {x : DataW H × List MemPlace}
theorem anL (h : DataW.trod enc Tryz.prog w base (fun _ => true) held fuel 23 [.slice A len cap] = some x) : ∃ l : List Cl, l.length = len /\ ClRd w w.heap.size A l /\ len <= maxLen := by
 have hC : Tryz.prog.cellsOf 41 = 7 := by kernel_rfl
 have hC1 : Tryz.prog.cellsOf 3 = 1 := by kernel_rfl
 have hC6 : Tryz.prog.cellsOf 38 = 6 := by kernel_rfl
 have hone : oneCellFields Tryz.prog (match Tryz.prog.underlying 38 with
  | some (.struct fs) => fs
  | _ => #[]) = true := by kernel_rfl
 rw [Tryz.underlying38] at hone; dsimp only at hone; rcases open_slice Tryz.underlying23 h with ⟨hcs, _⟩ | ⟨a, l, c, m, n, D, Pl, hcs, _, hl, hm, hmm, _, hi⟩
 · simp at hcs; obtain ⟨rfl, rfl, rfl⟩ := hcs; exact ⟨[], rfl, fun hn => absurd hn (by simp), Nat.zero_le _⟩
 · simp at hcs; obtain ⟨rfl, rfl, rfl⟩ := hcs; simp only [if_true] at hmm; subst hmm; rw [hC] at hi; obtain ⟨ds, hd, hp⟩ := amd (p := fun i (d : Cl) => d.ok /\ Rd w w.heap.size d.A d.b.length d.b /\ w.cell? (a.add (i * 7)) = some (.int .i64 d.which) /\ w.cell? (a.add (i * 7 + 1)) = some (.int .i64 d.op) /\ w.cell? (a.add (i * 7 + 2)) = some (.int .u64 (d.h : Int)) /\
    w.cell? (a.add (i * 7 + 3)) = some (.int .u64 (d.n : Int)) /\ w.cell? (a.add (i * 7 + 4)) = some (.int .u64 (d.m : Int)) /\ w.cell? (a.add (i * 7 + 5)) = some (.int .u64 (d.at_ : Int)) /\ w.cell? (a.add (i * 7 + 6)) = some (.slice d.A d.b.length d.c)) len (fun i hil => by
    obtain ⟨cs', hc, ht⟩ := hi i (by omega); obtain ⟨_, hcl, hat⟩ := World.cells?_some hc; obtain ⟨xs, n', _, _, _, hlen, hf⟩ := DataW.trod_struct Tryz.underlying41 ht; match cs', hcl, xs, hlen with
    | [v, v0, v1, v2, v3, v4, v5], _, [y, z], _ =>
     have g : DataW.trod enc Tryz.prog w base (fun _ => true) held n' 3 (List.take (Tryz.prog.cellsOf 3) (List.drop 0 [v, v0, v1, v2, v3, v4, v5])) = [y, z][0]? := hf 0 _ rfl; have f : DataW.trod enc Tryz.prog w base (fun _ => true) held n' 38 (List.take (Tryz.prog.cellsOf 38) (List.drop 1 [v, v0, v1, v2, v3, v4, v5])) = [y, z][1]? := hf 1 _ rfl; rw [hC1] at g; rw [hC6] at f; simp only [List.drop_zero, List.drop_succ_cons, List.take_succ_cons, List.take_zero, List.getElem?_cons_zero, List.getElem?_cons_succ] at g f; obtain ⟨xs2, n2, _, _, _, hlen2, hf2⟩ := DataW.trod_struct Tryz.underlying38 f; match xs2, hlen2 with
     | [y0, y1, y2, y3, y4, y5], _ =>
      have g0 := hf2 0 _ rfl; have g1 := hf2 1 _ rfl; have g2 := hf2 2 _ rfl; have g3 := hf2 3 _ rfl; have g4 := hf2 4 _ rfl; have g5 := hf2 5 _ rfl; rw [(hone_of hone 0 _ rfl).1, (hone_of hone 0 _ rfl).2] at g0; rw [(hone_of hone 1 _ rfl).1, (hone_of hone 1 _ rfl).2] at g1; rw [(hone_of hone 2 _ rfl).1, (hone_of hone 2 _ rfl).2] at g2; rw [(hone_of hone 3 _ rfl).1, (hone_of hone 3 _ rfl).2] at g3; rw [(hone_of hone 4 _ rfl).1, (hone_of hone 4 _ rfl).2] at g4; rw [(hone_of hone 5 _ rfl).1, (hone_of hone 5 _ rfl).2] at g5; simp only [List.drop_zero, List.drop_succ_cons, List.take_succ_cons, List.take_zero, List.getElem?_cons_zero, List.getElem?_cons_succ] at g0 g1 g2 g3 g4 g5; obtain ⟨k, hk, _, wk⟩ := DataW.trod_int Tryz.underlying3 g; obtain ⟨n0, h0, _, w0⟩ := DataW.trod_int Tryz.underlying3 g0; obtain ⟨n1, h1, _, w1⟩ := DataW.trod_int Tryz.underlying22 g1; obtain ⟨n2, h2, _, w2⟩ := DataW.trod_int Tryz.underlying22 g2; obtain ⟨n3, h3, _, w3⟩ := DataW.trod_int Tryz.underlying22 g3; obtain ⟨n4, h4, _, w4⟩ := DataW.trod_int Tryz.underlying22 g4; obtain ⟨bA, bn, bc, rfl⟩ : ∃ bA bn bc, v5 = .slice bA bn bc := by
       rcases open_slice Tryz.underlying36 g5 with ⟨h, _⟩ | ⟨a, l, c, _, _, _, _, h, _⟩
       · exact ⟨_, _, _, by simpa using h⟩
       · exact ⟨_, _, _, by simpa using h⟩
      obtain ⟨bs, hbs, hbl, hbc, _⟩ := anK g5; obtain rfl : bs.length = bn := hbs.1; simp at hk h0 h1 h2 h3 h4; subst hk h0 h1 h2 h3 h4; have bk := bounds_i64 wk; have b0 := bounds_i64 w0; have b1 := bounds_u64 w1; have b2 := bounds_u64 w2; have b3 := bounds_u64 w3; have b4 := bounds_u64 w4; obtain ⟨m1, rfl⟩ : ∃ m : Nat, n1 = (m : Int) := ⟨n1.toNat, by omega⟩; obtain ⟨m2, rfl⟩ : ∃ m : Nat, n2 = (m : Int) := ⟨n2.toNat, by omega⟩; obtain ⟨m3, rfl⟩ : ∃ m : Nat, n3 = (m : Int) := ⟨n3.toNat, by omega⟩; obtain ⟨m4, rfl⟩ : ∃ m : Nat, n4 = (m : Int) := ⟨n4.toNat, by omega⟩; have a0 := hat 0 (by omega); have a1 := hat 1 (by omega); have a2 := hat 2 (by omega); have a3 := hat 3 (by omega); have a4 := hat 4 (by omega); have a5 := hat 5 (by omega); have a6 := hat 6 (by omega); rw [Go.Deep.add_add] at a0 a1 a2 a3 a4 a5 a6; exact ⟨⟨k, n0, m1, m2, m3, m4, bA, bc, bs⟩, ⟨by dsimp only; omega, by dsimp only; omega, by dsimp only; omega, by dsimp only; omega, by dsimp only; omega, by dsimp only; omega, Nat.le_trans hbl hbc⟩, hbs, a0, a1, a2, a3, a4, a5, a6⟩)
   refine ⟨ds, hd, fun hn => ?_, by omega⟩; obtain ⟨d, hd0⟩ : ∃ d, ds[0]? = some d := ⟨ds[0], List.getElem?_eq_getElem hn⟩; obtain ⟨_, _, h0, _⟩ := hp 0 d hd0; rw [Nat.zero_mul] at h0; obtain ⟨b, o, rfl, hlt, e⟩ := ame h0; refine ⟨b, o, rfl, hlt, fun j d hj => ?_⟩; obtain ⟨k1, k2, h0, h1, h2, h3, h4, h5, h6⟩ := hp j d hj; rw [e] at h0 h1 h2 h3 h4 h5 h6; exact ⟨⟨h0, h1, h2, h3, h4, h5, h6⟩, k2, k1⟩
end
end Go.Proofs.YtnicenfdlfffpaaGreatDoor
