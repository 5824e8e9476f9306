/- Texts of mine, joined: Law12e, Law12f, Law12g, OpenD, Hm11, Spec13, Law13a, Law13b. -/
import Derived.Test.YtdjjbmefaggelaaGreatK4

/- The walk of AllocPlays: the head, the beginning of an arena and a heap, the deeds. -/
namespace Go.Proofs.YtdjjbmefaggelaaGreat
open Go.RowKit

/-- A deed of layer 12. -/
structure De where
  what : Int
  n : Int
  m : Int
  raw : Bool
/-- A slice of such. -/
def DeRd (w : World) (B : Nat) (A : Option Addr) (l : List De) : Prop := 0 < l.length → ∃ b o, A = some ⟨b, o, none⟩ ∧ b < B ∧ ∀ j x, l[j]? = some x →
  w.cell? ⟨b, o + j * 4, none⟩ = some (.int .i64 x.what) ∧ w.cell? ⟨b, o + j * 4 + 1, none⟩ = some (.int .i64 x.n) ∧ w.cell? ⟨b, o + j * 4 + 2, none⟩ = some (.int .i64 x.m) ∧ w.cell? ⟨b, o + j * 4 + 3, none⟩ = some (.bool x.raw) ∧
  (-9223372036854775808 ≤ x.what ∧ x.what ≤ 9223372036854775807) ∧ (-9223372036854775808 ≤ x.n ∧ x.n ≤ 9223372036854775807) ∧ (-9223372036854775808 ≤ x.m ∧ x.m ≤ 9223372036854775807)
theorem DeRd.below {w w' : World} {B : Nat} {A : Option Addr} {l : List De} (h : DeRd w B A l) (hb : Below B w w') : DeRd w' B A l := fun hn => by
  obtain ⟨b, o, e, hB, hc⟩ := h hn
  refine ⟨b, o, e, hB, fun j x hx => ?_⟩
  obtain ⟨h0, h1, h2, h3, h4⟩ := hc j x hx
  exact ⟨(hb.cell (p := ⟨b, _, none⟩) hB).trans h0, (hb.cell (p := ⟨b, _, none⟩) hB).trans h1, (hb.cell (p := ⟨b, _, none⟩) hB).trans h2, (hb.cell (p := ⟨b, _, none⟩) hB).trans h3, h4⟩

/-- Bytes of 0 are a heap without blocks. -/
theorem rt_zero {z : List UInt8} (hz : List.replicate 184 (0 : UInt8) = z) (cap : Nat) (hc : 184 ≤ cap) : Rt z ⟨cap, [], [], fun _ => []⟩ := by
  have hl : z.length = 184 := by rw [← hz]; exact List.length_replicate
  have hw0 : ∀ p, p + 8 ≤ 184 → p % 8 = 0 → wordN z p = 0 := fun p hp _ => by
    have := wordN_zeros [] 184 p hp
    rw [List.append_nil, hz] at this
    exact this
  have hwk : walkB z = some [] := walkB_tile (by rw [hl]; rfl) (fun x hx => by cases hx)
  have hli : Lists z [] (fun _ => []) := lists_none (by omega) (by omega) ⟨fun x hx => (by cases hx), fun x hx => (by cases hx)⟩ hw0
  refine ⟨hwk, fun c hc => hli.all hc (Nat.zero_le _), ?_, by show z.length ≤ cap; omega⟩
  have e : freeL [] = fun _ => [] := rfl
  rw [checkB_lists hwk (by rw [e]; exact hli) (by rw [hw0 0 (by omega) rfl]; omega)]
  rfl

section
variable {P : Program} {ops : Array Oper} {Q : Exit → Act → World → Prop} {T : List Nat}
end

def hpZero (cap : Nat) : Hp := ⟨cap, [], [], fun _ => []⟩
end Go.Proofs.YtdjjbmefaggelaaGreat

/- The walk of AllocPlays. -/
namespace Go.Proofs.YtdjjbmefaggelaaGreat
open Go.RowKit

section
theorem St.lift {w wB W : World} {g base cap c : Nat} {A : Option Addr} {bs : List UInt8} {L : List (Nat × Obj)} (h : St wB W g base cap A c bs L) (hb : Below w.heap.size w wB) : St w W g base cap A c bs L :=
  ⟨hb.trans (h.bel.mono hb.size), h.ar, Nat.le_trans hb.size h.gB, fun a e => Nat.le_trans hb.size (h.aB a e), h.has⟩
set_option maxHeartbeats 400000 in
theorem larena_no (w : World) (base : Nat) (hb : base < 18446744073709551616) (cap : Int) (hc : -9223372036854775808 ≤ cap ∧ cap ≤ 9223372036854775807) (h : cap < 1024 ∨ 16384 < cap) (B : Option Addr) (n k : Nat) :
    Calls Tryz.prog 6 #[.int .u64 (base : Int), .int .i64 cap, .slice B n k] w fun e w' => e = .returned (.pointer none) ∧ w = w' := by
  have HN := Lib.hid (new_no w base cap hb hc (.inr (.inr h)))
  clear h
  go_enter Tryz.func6, Tryz.ntmps6
  go_wp2_with fail
  refine HN.out.mono ?_
  rintro e w1 ⟨rfl, rfl⟩
  go_wp2
  go_ret
  exact ⟨rfl, rfl⟩
end
end Go.Proofs.YtdjjbmefaggelaaGreat

/- The walk of AllocRoom. -/
namespace Go.Proofs.YtdjjbmefaggelaaGreat
open Go.RowKit

theorem BkRd.tch {S : Nat → Prop} {w w' : World} {B : Nat} {A : Option Addr} {l : List Bk} (h : BkRd w B A l) (hB : B ≤ w.heap.size) (ht : Tch S w w') (hn : ∀ a, A = some a → ¬ S a.block) : BkRd w' B A l := fun h0 => by
  obtain ⟨b, o, rfl, hb, hc⟩ := h h0
  refine ⟨b, o, rfl, hb, fun j x hx => ?_⟩
  obtain ⟨c0, c1, c2⟩ := hc j x hx
  have hk : w'.heap[b]? = w.heap[b]? := ht.block b (by omega) (hn _ rfl)
  exact ⟨(World.cell?_of_block (w := w) (w' := w') (a := ⟨b, _, none⟩) hk).trans c0, (World.cell?_of_block (w := w) (w' := w') (a := ⟨b, _, none⟩) hk).trans c1, (World.cell?_of_block (w := w) (w' := w') (a := ⟨b, _, none⟩) hk).trans c2⟩
section
end
end Go.Proofs.YtdjjbmefaggelaaGreat

/- Slices of deeds of layer 12 that came in. -/
namespace Go.Proofs.YtdjjbmefaggelaaGreat
open Go.RowKit Go.ChangeShapes Go.WideShapes Go.Deep

section
variable {H : Type} {enc : TypeId × Value → H} {w : World} {base : Nat} {held : Bool} {fuel : Nat} {A : Option Addr} {len cap : Nat} {x : DataW H × List MemPlace}
set_option maxRecDepth 100000 in
theorem open_des (h : DataW.trod enc Tryz.prog w base (fun _ => true) held fuel 48 [.slice A len cap] = some x) : ∃ l : List De, l.length = len ∧ DeRd w w.heap.size A l ∧ len ≤ maxLen := by
  have hC : Tryz.prog.cellsOf 32 = 4 := by kernel_rfl
  have hone : oneCellFields Tryz.prog (match Tryz.prog.underlying 32 with
    | some (.struct fs) => fs
    | _ => #[]) = true := by kernel_rfl
  rw [Tryz.underlying32] at hone
  dsimp only at hone
  rcases open_slice Tryz.underlying48 h with ⟨hcs, _⟩ | ⟨a, l, c, m, n, D, Pl, hcs, _, hl, hm, hmm, _, hi⟩
  · simp at hcs
    obtain ⟨rfl, rfl, rfl⟩ := hcs
    exact ⟨[], rfl, fun hn => absurd hn (by simp), Nat.zero_le _⟩
  · simp at hcs
    obtain ⟨rfl, rfl, rfl⟩ := hcs
    simp only [if_true] at hmm
    subst hmm
    rw [hC] at hi
    obtain ⟨ds, hd, hp⟩ := list_of (p := fun i (d : De) => w.cell? (a.add (i * 4)) = some (.int .i64 d.what) ∧ w.cell? (a.add (i * 4 + 1)) = some (.int .i64 d.n) ∧ w.cell? (a.add (i * 4 + 2)) = some (.int .i64 d.m) ∧ w.cell? (a.add (i * 4 + 3)) = some (.bool d.raw) ∧
        (-9223372036854775808 ≤ d.what ∧ d.what ≤ 9223372036854775807) ∧ (-9223372036854775808 ≤ d.n ∧ d.n ≤ 9223372036854775807) ∧ (-9223372036854775808 ≤ d.m ∧ d.m ≤ 9223372036854775807)) len (fun i hil => by
      obtain ⟨cs', hc, ht⟩ := hi i (by omega)
      obtain ⟨_, hcl, hat⟩ := World.cells?_some hc
      obtain ⟨xs, n', _, _, _, hlen, hf⟩ := DataW.trod_struct Tryz.underlying32 ht
      match cs', hcl, xs, hlen with
      | [v0, v1, v2, v3], _, [y0, y1, y2, y3], _ =>
        have g0 := hf 0 _ rfl
        have g1 := hf 1 _ rfl
        have g2 := hf 2 _ rfl
        have g3 := hf 3 _ rfl
        rw [(hone_of hone 0 _ rfl).1, (hone_of hone 0 _ rfl).2] at g0
        rw [(hone_of hone 1 _ rfl).1, (hone_of hone 1 _ rfl).2] at g1
        rw [(hone_of hone 2 _ rfl).1, (hone_of hone 2 _ rfl).2] at g2
        rw [(hone_of hone 3 _ rfl).1, (hone_of hone 3 _ rfl).2] at g3
        simp only [List.drop_zero, List.drop_succ_cons, List.take_succ_cons, List.take_zero, List.getElem?_cons_zero, List.getElem?_cons_succ] at g0 g1 g2 g3
        obtain ⟨n0, h0, _, w0⟩ := DataW.trod_int Tryz.underlying3 g0
        obtain ⟨n1, h1, _, w1⟩ := DataW.trod_int Tryz.underlying3 g1
        obtain ⟨n2, h2, _, w2⟩ := DataW.trod_int Tryz.underlying3 g2
        obtain ⟨u, h3, _⟩ := DataW.trod_bool Tryz.underlying4 g3
        simp at h0 h1 h2 h3
        subst h0 h1 h2 h3
        have b0 := bounds_i64 w0
        have b1 := bounds_i64 w1
        have b2 := bounds_i64 w2
        have a0 := hat 0 (by omega)
        have a1 := hat 1 (by omega)
        have a2 := hat 2 (by omega)
        have a3 := hat 3 (by omega)
        rw [Go.Deep.add_add] at a0 a1 a2 a3
        exact ⟨⟨n0, n1, n2, u⟩, a0, a1, a2, a3, by dsimp only; omega, by dsimp only; omega, by dsimp only; omega⟩)
    refine ⟨ds, hd, fun hn => ?_, by omega⟩
    obtain ⟨d, hd0⟩ : ∃ d, ds[0]? = some d := ⟨ds[0], List.getElem?_eq_getElem hn⟩
    obtain ⟨h0, _⟩ := hp 0 d hd0
    rw [Nat.zero_mul] at h0
    obtain ⟨b, o, rfl, hlt, e⟩ := add_plain h0
    refine ⟨b, o, rfl, hlt, fun j d hj => ?_⟩
    obtain ⟨h0, h1, h2, h3, h4⟩ := hp j d hj
    rw [e] at h0 h1 h2 h3
    exact ⟨h0, h1, h2, h3, h4⟩
end
end Go.Proofs.YtdjjbmefaggelaaGreat

/- The contract of the document's heap: Resize. -/
namespace Go.Proofs.YtdjjbmefaggelaaGreat
open Go.RowKit

section
variable {F : Nat → Prop} {w w' : World} {p gl : Nat} {H : Hp} {Vb Vd : Value} {cs : List Value}

end
end Go.Proofs.YtdjjbmefaggelaaGreat

/- What the program's resize (layer 13) is to tell. -/
namespace Go.Proofs.YtdjjbmefaggelaaGreat
open Go.RowKit

/-- What the block held it holds, where it stands now, as far as both go. -/
def Moved (H : Hp) (bs : List UInt8) (o : Int) (H' : Hp) (out : List UInt8) (p : Nat) : Prop :=
  ∀ x ∈ H.blks, x.used = true → (x.off : Int) = o → ∀ y ∈ H'.blks, y.used = true → y.off = p → ∀ i, 8 ≤ i → i + 8 < x.size → i + 8 < y.size → out[p + i]? = bs[x.off + i]?
def RezTold (g base cap : Nat) (A : Option Addr) (bs : List UInt8) (H : Hp) (o : Int) (r : (Nat × Int) × Hp) (w : World) (e : Ending) (w' : World) : Prop :=
  (r.1.2 = 0 → e = .returned (.tuple #[.int .i64 (r.1.1 : Int), errV true 0]) ∧ ∃ out, Became 88 g base cap A out w w' ∧ Rt out r.2 ∧ Held H bs r.2 out ∧ Moved H bs o r.2 out r.1.1) ∧
  (r.1.2 ≠ 0 → e = .returned (.tuple #[.int .i64 0, errV false r.1.2]) ∧ Below w.heap.size w w')
def ResizeK : Prop := ∀ (w : World) (g base cap c : Nat) (A : Option Addr) (bs : List UInt8) (H : Hp) (o s : Int), Ar w 88 g base cap A c bs → base ≤ 4611686018427387904 → cap ≤ 16384 → H.cap = cap → Rt bs H → (-9223372036854775808 ≤ o ∧ o ≤ 9223372036854775807) → (-9223372036854775808 ≤ s ∧ s ≤ 9223372036854775807) →
  (isSz s = false → Calls Tryz.prog 12 #[.pointer (some ⟨g, 0, none⟩), .int .i64 o, .int .i64 s] w fun e w' => e = .returned (.tuple #[.int .i64 0, errV false 1]) ∧ Below w.heap.size w w') ∧
  (isSz s = true → Calls Tryz.prog 12 #[.pointer (some ⟨g, 0, none⟩), .int .i64 o, .int .i64 s] w fun e w' => RezTold g base cap A bs H o (H.resize o s.toNat) w e w')
end Go.Proofs.YtdjjbmefaggelaaGreat

/- The head of layer 13's laws; slices of steps. -/
namespace Go.Proofs.YtdjjbmefaggelaaGreat
open Go.RowKit

def up13A : Hp := ((hpZero 1024).take 32).2
def up13B : Hp := (up13A.resize 184 64).2
def up13C : Hp := (up13B.take 32).2
def up13D : Hp := (up13C.resize 184 96).2
set_option maxRecDepth 100000 in
set_option maxHeartbeats 2000000 in
theorem up13_any (HT : TakeK) (HG : ResizeK) (w : World) :
    Calls Tryz.prog 5 #[] w fun e w' => e = .returned (.bool true) ∧ Below w.heap.size w w' := by
  obtain ⟨z, hz⟩ : ∃ z, List.replicate 184 (0 : UInt8) = z := ⟨_, rfl⟩
  have hzl : z.length = 184 := by rw [← hz]; exact List.length_replicate
  have hr0 := rt_zero hz 1024 (by omega)
  have t1 : ((hpZero 1024).take 32).1 = some 184 := by kernel_rfl
  have t2 : (up13A.resize 184 64).1 = (184, 0) := by kernel_rfl
  have t3 : (up13B.take 32).1 = some 248 := by kernel_rfl
  have t4 : (up13C.resize 184 96).1 = (280, 0) := by kernel_rfl
  have t5 : (up13D.resize 184 96).1 = (0, 3) := by kernel_rfl
  have c1 : up13A.cap = 1024 := take_cap
  have c2 : up13B.cap = 1024 := resize_cap.trans c1
  have c3 : up13C.cap = 1024 := take_cap.trans c2
  have c4 : up13D.cap = 1024 := resize_cap.trans c3
  have HMK : ∀ W : World, (Instr.makeSlice 28 (.int .i64 184) (.int .i64 184)).run Tryz.prog W = .ok (.slice (some ⟨W.heap.size, 0, none⟩) 184 184) (W.alloc (.cells (rowB z) 5)) := run_mk0 184 (by omega) z hz
  have f1 : Fill (w.alloc (.cells (rowB z) 5)) w.heap.size 5 z := Fill.made w _ _
  have b1 : Below w.heap.size w (w.alloc (.cells (rowB z) 5)) := (Below.refl _ _).alloc (Nat.le_refl _) _
  have hm := arena_any (w.alloc (.cells (rowB z) 5)) 16 1024 (some ⟨w.heap.size, 0, none⟩) 184 z f1.reads (by omega) (by omega) (by omega) (by omega) (by omega)
  rw [hzl] at hm
  have HM := Lib.hid hm
  have HB1 := Lib.hid b1
  have T1 := Lib.hid t1
  have T2 := Lib.hid t2
  have T3 := Lib.hid t3
  have T4 := Lib.hid t4
  have T5 := Lib.hid t5
  have C1 := Lib.hid c1
  have C2 := Lib.hid c2
  have C3 := Lib.hid c3
  have C4 := Lib.hid c4
  have R0 := Lib.hid hr0
  have HT := Lib.hid HT
  have HG := Lib.hid HG
  clear hz hzl hr0 t1 t2 t3 t4 t5 c1 c2 c3 c4 f1 b1 hm
  go_enter Tryz.func5, Tryz.ntmps5
  go_wp2_with fail
  refine HM.out.mono ?_
  rintro e w1 hmade
  obtain ⟨g, A, c, rfl, hst⟩ := St.made hmade
  have K1 := Lib.hid HB1.out
  have S1 := Lib.hid hst
  clear hmade hst HM HMK
  go_wp2_with fail
  refine ((HT.out w1 g 16 1024 c A z (hpZero 1024) 32 S1.out.ar (by omega) (by omega) rfl R0.out (by omega)).2 rfl).mono ?_
  intro e w2 hT
  unfold TurnedAt at hT
  rw [show ((32 : Int).toNat) = 32 from rfl, T1.out] at hT
  obtain ⟨rfl, o2, hbe, rt2, _⟩ := hT
  obtain ⟨A2, c2, hs2⟩ := S1.out.became hbe
  have S2 := Lib.hid hs2
  have R2 : Hid (Rt o2 up13A) := rt2
  clear hbe rt2 hs2 S1 R0
  dsimp only [errV]
  go_wp2_with fail
  refine ((HG.out w2 g 16 1024 c2 A2 o2 up13A 184 64 S2.out.ar (by omega) (by omega) C1.out R2.out (by omega) (by omega)).2 rfl).mono ?_
  intro e w3 hT
  have hT := hT.1 (by rw [show ((64 : Int).toNat) = 64 from rfl, T2.out])
  rw [show ((64 : Int).toNat) = 64 from rfl, T2.out] at hT
  obtain ⟨rfl, o3, hbe, rt3, _⟩ := hT
  obtain ⟨A3, c3, hs3⟩ := S2.out.became hbe
  have S3 := Lib.hid hs3
  have R3 : Hid (Rt o3 up13B) := rt3
  clear hbe rt3 hs3 S2 R2
  dsimp only [errV]
  go_wp2_with fail
  refine ((HT.out w3 g 16 1024 c3 A3 o3 up13B 32 S3.out.ar (by omega) (by omega) C2.out R3.out (by omega)).2 rfl).mono ?_
  intro e w4 hT
  unfold TurnedAt at hT
  rw [show ((32 : Int).toNat) = 32 from rfl, T3.out] at hT
  obtain ⟨rfl, o4, hbe, rt4, _⟩ := hT
  obtain ⟨A4, c4, hs4⟩ := S3.out.became hbe
  have S4 := Lib.hid hs4
  have R4 : Hid (Rt o4 up13C) := rt4
  clear hbe rt4 hs4 S3 R3
  dsimp only [errV]
  go_wp2_with fail
  refine ((HG.out w4 g 16 1024 c4 A4 o4 up13C 184 96 S4.out.ar (by omega) (by omega) C3.out R4.out (by omega) (by omega)).2 rfl).mono ?_
  intro e w5 hT
  have hT := hT.1 (by rw [show ((96 : Int).toNat) = 96 from rfl, T4.out])
  rw [show ((96 : Int).toNat) = 96 from rfl, T4.out] at hT
  obtain ⟨rfl, o5, hbe, rt5, _⟩ := hT
  obtain ⟨A5, c5, hs5⟩ := S4.out.became hbe
  have S5 := Lib.hid hs5
  have R5 : Hid (Rt o5 up13D) := rt5
  clear hbe rt5 hs5 S4 R4
  dsimp only [errV]
  go_wp2_with fail
  refine ((HG.out w5 g 16 1024 c5 A5 o5 up13D 184 96 S5.out.ar (by omega) (by omega) C4.out R5.out (by omega) (by omega)).2 rfl).mono ?_
  intro e w6 hT
  have hT := hT.2 (by rw [show ((96 : Int).toNat) = 96 from rfl, T5.out]; decide)
  rw [show ((96 : Int).toNat) = 96 from rfl, T5.out] at hT
  obtain ⟨rfl, hb⟩ := hT
  have S6 := Lib.hid (S5.out.below hb)
  clear hb S5 R5
  dsimp only [errV]
  go_wp2_with fail
  refine (code_err w6 3 (by omega) (by omega)).mono ?_
  rintro e w7 ⟨rfl, rfl⟩
  have hend : Below w.heap.size w w6 := K1.out.trans (S6.out.bel.mono K1.out.size)
  have HE := Lib.hid hend
  clear hend
  go_wp2
  go_ret
  exact ⟨rfl, HE.out⟩

/-- A step of layer 13. -/
structure Sp where
  d : De
  re : Bool
/-- A slice of such. -/
def SpRd (w : World) (B : Nat) (A : Option Addr) (l : List Sp) : Prop := 0 < l.length → ∃ b o, A = some ⟨b, o, none⟩ ∧ b < B ∧ ∀ j x, l[j]? = some x →
  w.cell? ⟨b, o + j * 5, none⟩ = some (.int .i64 x.d.what) ∧ w.cell? ⟨b, o + j * 5 + 1, none⟩ = some (.int .i64 x.d.n) ∧ w.cell? ⟨b, o + j * 5 + 2, none⟩ = some (.int .i64 x.d.m) ∧ w.cell? ⟨b, o + j * 5 + 3, none⟩ = some (.bool x.d.raw) ∧ w.cell? ⟨b, o + j * 5 + 4, none⟩ = some (.bool x.re) ∧
  (-9223372036854775808 ≤ x.d.what ∧ x.d.what ≤ 9223372036854775807) ∧ (-9223372036854775808 ≤ x.d.n ∧ x.d.n ≤ 9223372036854775807) ∧ (-9223372036854775808 ≤ x.d.m ∧ x.d.m ≤ 9223372036854775807)
theorem SpRd.below {w w' : World} {B : Nat} {A : Option Addr} {l : List Sp} (h : SpRd w B A l) (hb : Below B w w') : SpRd w' B A l := fun hn => by
  obtain ⟨b, o, e, hB, hc⟩ := h hn
  refine ⟨b, o, e, hB, fun j x hx => ?_⟩
  obtain ⟨h0, h1, h2, h3, h4, h5⟩ := hc j x hx
  exact ⟨(hb.cell (p := ⟨b, _, none⟩) hB).trans h0, (hb.cell (p := ⟨b, _, none⟩) hB).trans h1, (hb.cell (p := ⟨b, _, none⟩) hB).trans h2, (hb.cell (p := ⟨b, _, none⟩) hB).trans h3, (hb.cell (p := ⟨b, _, none⟩) hB).trans h4, h5⟩
end Go.Proofs.YtdjjbmefaggelaaGreat

/- The walk of ResizePlays. -/
namespace Go.Proofs.YtdjjbmefaggelaaGreat
open Go.RowKit

section
end
end Go.Proofs.YtdjjbmefaggelaaGreat
