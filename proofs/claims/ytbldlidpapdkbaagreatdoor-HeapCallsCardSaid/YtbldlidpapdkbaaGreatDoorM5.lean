/- Texts of mine, joined: Spec10, Fit1, Fit2, Fit3, Spec11, HpM4, HpM5, HpM6, HpM7, HpM8, HpM9, HpM10, HpM11, HpM12, HpD, HpM13, HpM14, HpM15. -/
import Derived.Test.YtbldlidpapdkbaaGreatDoorM4

/- What the program's fits (layer 10) are to tell: the words in which the laws ask for it. -/
namespace Go.Proofs.YtbldlidpapdkbaaGreatDoor
open Go.RowKit

/-- What Find tells. -/
def findV (bs : List UInt8) (s : Int) : Value := if isSz s = true then .tuple #[.int .i64 (((findB bs s).getD 0 : Nat) : Int), errV (findB bs s).isSome 3] else .tuple #[.int .i64 0, errV false 1]
def FindC : Prop := ∀ (w : World) (g base cap c : Nat) (A : Option Addr) (bs : List UInt8) (s : Int), Ar w 80 g base cap A c bs → base ≤ 4611686018427387904 → bs.length ≤ 16384 → (-9223372036854775808 ≤ s ∧ s ≤ 9223372036854775807) →
  Calls Tryz.prog 112 #[.pointer (some ⟨g, 0, none⟩), .int .i64 s] w fun e w' => e = .returned (findV bs s) ∧ Below w.heap.size w w'
end Go.Proofs.YtbldlidpapdkbaaGreatDoor

/- The program's fits (layer 10): the lists cleared, a block put behind others, the first of a list that has so many bytes. -/
namespace Go.Proofs.YtbldlidpapdkbaaGreatDoor
open Go.RowKit

section
variable {w : World} {g base cap c : Nat} {A : Option Addr} {bs : List UInt8}
end

section
variable {w w1 w2 : World} {g base cap : Nat} {A : Option Addr} {out : List UInt8}
theorem became_below (h : Became 80 g base cap A out w w1) (hb : Below w1.heap.size w1 w2) : Became 80 g base cap A out w w2 := by
  obtain ⟨A', c', a, tc, k⟩ := h
  exact Became.trans a tc k (became_of a hb)
end

section
variable {w : World} {g base cap c : Nat} {A : Option Addr} {bs : List UInt8}
set_option maxRecDepth 100000 in
set_option maxHeartbeats 2000000 in
theorem ffirst_any (h : Ar w 80 g base cap A c bs) (hb : base ≤ 4611686018427387904) (hl : bs.length ≤ 16384) (A2 : Option Addr) (c2 B1 : Nat) (l : List Nat) (ho : w.ownsRow B1 3 1 (.slice A2 l.length c2) l.length (l.map iV)) (hm : ∀ o ∈ l, o ≤ 20000 ∧ ∃ x, getB bs (o : Int) = some x) (s : Int) (x : Nat) (hx : (l.find? fun o => decide (s ≤ (szB bs o : Int))).getD 0 = x) :
    Calls Tryz.prog 133 #[.pointer (some ⟨g, 0, none⟩), .slice A2 l.length c2, .int .i64 s] w fun e w' => e = .returned (.int .i64 (x : Int)) ∧ Below w.heap.size w w' := by
  have hcl : l.length ≤ c2 ∧ c2 ≤ 9223372036854775807 := by
    rcases ho.2 with ⟨h', h0⟩ | ⟨_, _, _, h', _, _, h1, h2, _⟩
    · injection h' with _ _ e; rw [h0, e]; omega
    · injection h' with _ _ e; unfold maxLen at h2; omega
  have HX := Lib.hid hx
  have HAR := Lib.hid h
  have HO := Lib.hid ho
  have HMEM := Lib.hid hm
  have HBASE := Lib.hid hb
  obtain ⟨B0, hB0⟩ : ∃ B0, w.heap.size = B0 := ⟨_, rfl⟩
  have HB0 := Lib.hid hB0
  clear hx h ho hm hb hB0
  go_enter Tryz.func133, Tryz.ntmps133
  go_wp2
  go_loopw [13] (fun i wr => ∃ j : Nat, j ≤ l.length ∧ i = .int .i64 (j : Int) ∧ (∀ q ∈ l.take j, decide (s ≤ (szB bs q : Int)) = false) ∧ Below B0 w wr) (fun i _ => l.length - (intOf i).toNat)
  case atStart => exact ⟨0, Nat.zero_le _, rfl, by simp, Below.refl _ _⟩
  case round =>
    obtain ⟨j, hj, rfl, hall, hb3⟩ := hrel
    have hBw : B0 ≤ wr.heap.size := by have := hb3.size; have := HB0.out; omega
    by_cases hlt : j < l.length
    · obtain ⟨o, ho⟩ : ∃ o, l[j]? = some o := ⟨l[j], List.getElem?_eq_getElem hlt⟩
      have hb4 : Below w.heap.size w wr := by rw [HB0.out]; exact hb3
      have own3 := own_below' HO.out hb4
      obtain ⟨b2, rfl⟩ : ∃ b2, A2 = some ⟨b2, 0, none⟩ := by
        rcases own3.2 with ⟨_, h0⟩ | ⟨g, _, _, h', _⟩
        · omega
        · injection h' with e; exact ⟨g, e⟩
      have hcell : wr.cell? ⟨b2, j, none⟩ = some (.int .i64 (o : Int)) := by
        rw [own3.cellAt j (by omega), List.getElem?_map, ho]; rfl
      have har := HAR.out.below hb4
      obtain ⟨ho20, ⟨xo, xs, xu⟩, hg⟩ := HMEM.out o (List.mem_of_getElem? ho)
      have hsz := szB_of hg
      dsimp only at hsz
      have hG := getC wr g base cap c A bs (o : Int) _ har HBASE.out hl (by omega) hg
      dsimp only [BlkTold, bkV, Bk.val, Option.isSome, errV] at hG
      have q := (isSz_iff _).1 (getB_some hg).2.2.2.2.1
      dsimp only at q
      have HG := Lib.hid hG
      have HALL := Lib.hid hall
      have HOO := Lib.hid ho
      have HB2R := Lib.hid hb3
      clear hG hg hb3 hb4 own3 hall har ho
      by_cases hge : s ≤ (xs : Int)
      · have hx1 : x = o := by
          rw [← HX.out, find_take HALL.out HOO.out (by rw [hsz]; simpa using hge)]; rfl
        subst hx1
        clear HX
        go_wp2_with fail
        with_reducible refine HG.out.mono ?_
        rintro e w4 ⟨rfl, hb4⟩
        have HB4 := Lib.hid (HB2R.out.trans (hb4.mono hBw))
        have HS4 := Lib.hid hb4.size
        clear hb4
        go_wp2
        go_ret
        exact ⟨rfl, by rw [HB0.out]; exact HB4.out.alloc (by have := HS4.out; omega) _⟩
      · go_wp2_with fail
        with_reducible refine HG.out.mono ?_
        rintro e w4 ⟨rfl, hb4⟩
        have HB4 := Lib.hid (HB2R.out.trans (hb4.mono hBw))
        have HS4 := Lib.hid hb4.size
        clear hb4
        go_wp2
        go_roundw
        case rel => exact ⟨j + 1, by omega, rfl, by
            intro q hq
            rw [List.take_add_one, HOO.out] at hq
            rcases List.mem_append.1 hq with hq | hq
            · exact HALL.out q hq
            · simp at hq
              rw [hq, hsz]
              simpa using hge, HB4.out.alloc (by have := HS4.out; omega) _⟩
        case measure => simp only [intOf]; omega
    · obtain rfl : j = l.length := by omega
      have hx2 : x = 0 := by
        rw [← HX.out, find_none' (by rw [List.take_length] at hall; exact hall)]; rfl
      subst hx2
      have HB4 := Lib.hid hb3
      clear HX hall hb3
      go_wp2
      go_ret
      exact ⟨rfl, by rw [HB0.out]; exact HB4.out⟩
end
end Go.Proofs.YtbldlidpapdkbaaGreatDoor

/- The contract of the program's Find. -/
namespace Go.Proofs.YtbldlidpapdkbaaGreatDoor
open Go.RowKit

set_option maxRecDepth 100000 in
set_option maxHeartbeats 2000000 in
theorem findC : FindC := by
  intro w g base cap c A bs s h hb hl hs
  cases hz : isSz s
  · have hv : findV bs s = .tuple #[.int .i64 0, errV false 1] := by unfold findV; rw [if_neg (by rw [hz]; simp)]
    have hc : classI s = -1 := by simp [classI, hz]
    rw [hv]
    have hC := classC w s hs
    rw [hc] at hC
    have HC := Lib.hid hC
    clear hz hv hc hC h hb
    go_enter Tryz.func112, Tryz.ntmps112
    go_wp2_with fail
    with_reducible refine HC.out.mono ?_
    rintro e w1 ⟨rfl, hb1⟩
    have HB := Lib.hid hb1
    clear hb1
    go_wp2
    go_ret2
    exact ⟨rfl, HB.out⟩
  · obtain ⟨k0, hk0, hk22⟩ : ∃ k0 : Nat, classI s = (k0 : Int) ∧ k0 < 22 := by
      have h1 := classI_bounds s
      have h2 : ¬ classI s < 0 := by rw [classI_neg]; simp [hz]
      exact ⟨(classI s).toNat, by omega, by omega⟩
    obtain ⟨x, hx⟩ : ∃ x, findF bs s (22 - k0) k0 = x := ⟨_, rfl⟩
    have hv : findV bs s = .tuple #[.int .i64 ((x.getD 0 : Nat) : Int), errV x.isSome 3] := by
      unfold findV findB
      rw [if_pos hz, hk0, Int.toNat_natCast, hx]
    rw [hv]
    have hC := classC w s hs
    rw [hk0] at hC
    have HC := Lib.hid hC
    have HX := Lib.hid hx
    have HAR := Lib.hid h
    have HBASE := Lib.hid hb
    obtain ⟨B0, hB0⟩ : ∃ B0, w.heap.size = B0 := ⟨_, rfl⟩
    have HB0 := Lib.hid hB0
    clear hz hv hk0 hC h hx hB0 hb
    go_enter Tryz.func112, Tryz.ntmps112
    go_wp2_with fail
    with_reducible refine HC.out.mono ?_
    rintro e w1 ⟨rfl, hb1⟩
    have HB1 := Lib.hid hb1
    clear hb1 HC
    go_wp2
    go_loopw [7] (fun t wr => ∃ d k : Nat, t = .int .i64 (d : Int) ∧ d + k = 22 ∧ x = findF bs s k d ∧ Below B0 w wr) (fun t _ => 22 - (intOf t).toNat)
    case atStart => exact ⟨k0, 22 - k0, rfl, by omega, HX.out.symm, by rw [← HB0.out]; exact HB1.out⟩
    case round =>
      obtain ⟨d, k, rfl, hdk, hxf, hb2⟩ := hrel
      have hBw : B0 ≤ wr.heap.size := by have := hb2.size; have := HB0.out; omega
      by_cases hd22 : d < 22
      · obtain ⟨k, rfl⟩ : ∃ k', k = k' + 1 := ⟨k - 1, by omega⟩
        have har : Ar wr 80 g base cap A c bs := HAR.out.below (by rw [HB0.out]; exact hb2)
        cases ha : allB bs d with
        | none =>
          obtain rfl : x = none := by rw [hxf]; simp [findF, ha]
          have hA := allC wr g base cap c A bs d _ har HBASE.out hl hd22 ha
          dsimp only [NumsTold, Option.isSome, Option.getD, errV] at hA
          have HA := Lib.hid hA
          have HB := Lib.hid hb2
          clear hA hb2 hxf har HX ha HAR
          go_wp2_with fail
          with_reducible refine HA.out.mono ?_
          rintro e w2 ⟨A', c', rfl, _, hb3⟩
          have HB2 := Lib.hid (HB.out.trans (hb3.mono hBw))
          clear hb3
          go_wp2
          go_ret2
          exact ⟨rfl, by rw [HB0.out]; exact HB2.out⟩
        | some l =>
          have hA := allC wr g base cap c A bs d _ har HBASE.out hl hd22 ha
          dsimp only [NumsTold, Option.isSome, Option.getD, errV] at hA
          have hxf' : x = (match l.find? (fun o => decide (s ≤ (szB bs o : Int))) with
            | some o => some o
            | none => findF bs s k (d + 1)) := by
            rw [hxf]
            conv => lhs; unfold findF
            rw [ha] <;> rfl
          have hmem : ∀ o ∈ l, 184 ≤ o ∧ o ≤ 20000 ∧ ∃ x, getB bs (o : Int) = some x := fun o ho => by
            have hm := allB_member ha o ho
            obtain ⟨h1, x, h2⟩ := memberB_get hm
            have := (memberB_in hm)
            exact ⟨by omega, h1, x, h2⟩
          have HF := Lib.hid (fun (W : World) (hB : Below wr.heap.size wr W) (A2 : Option Addr) (c2 B1 : Nat) (ho : W.ownsRow B1 3 1 (.slice A2 l.length c2) l.length (l.map iV)) => ffirst_any (har.below hB) HBASE.out hl A2 c2 B1 l ho (fun o ho => (hmem o ho).2) s)
          have HA := Lib.hid hA
          have HB := Lib.hid hb2
          have HXF := Lib.hid hxf'
          have HMEM := Lib.hid hmem
          clear hA hb2 hxf hxf' har HX ha hmem HAR
          cases hfd : l.find? (fun o => decide (s ≤ (szB bs o : Int))) with
          | some o =>
            obtain rfl : x = some o := by rw [HXF.out, hfd]
            obtain ⟨o184, o20, _⟩ := HMEM.out o (List.mem_of_find?_eq_some hfd)
            have ho0 : ((o : Int) != 0) = true := by rw [bne_iff_ne]; omega
            have HF2 := Lib.hid (fun W hB A2 c2 B1 ho => HF.out W hB A2 c2 B1 ho o (by rw [hfd]; rfl))
            clear HF HXF hfd HMEM
            go_wp2_with fail
            with_reducible refine HA.out.mono ?_
            rintro e w2 ⟨A2, c2, rfl, ho2, hb3⟩
            have HFF := Lib.hid (HF2.out w2 hb3 A2 c2 _ ho2)
            have HB2 := Lib.hid (HB.out.trans (hb3.mono hBw))
            have hs2 := hb3.size
            clear hb3 ho2 HA HF2
            go_wp2_with fail
            with_reducible refine HFF.out.mono ?_
            rintro e w3 ⟨rfl, hb4⟩
            have HB3 := Lib.hid (HB2.out.trans (hb4.mono (by omega)))
            clear hb4 HFF
            go_wp2
            go_ret2
            exact ⟨rfl, by rw [HB0.out]; exact HB3.out⟩
          | none =>
            have hx2 : x = findF bs s k (d + 1) := by rw [HXF.out, hfd]
            have HF2 := Lib.hid (fun W hB A2 c2 B1 ho => HF.out W hB A2 c2 B1 ho 0 (by rw [hfd]; rfl))
            have HX2 := Lib.hid hx2
            clear HF HXF hfd HMEM hx2
            go_wp2_with fail
            with_reducible refine HA.out.mono ?_
            rintro e w2 ⟨A2, c2, rfl, ho2, hb3⟩
            have HFF : Hid (Calls Tryz.prog 133 #[.pointer (some ⟨g, 0, none⟩), .slice A2 l.length c2, .int .i64 s] w2 fun e w' => e = .returned (.int .i64 0) ∧ Below w2.heap.size w2 w') := HF2.out w2 hb3 A2 c2 _ ho2
            have HB2 := Lib.hid (HB.out.trans (hb3.mono hBw))
            have hs2 := hb3.size
            clear hb3 ho2 HA HF2
            go_wp2_with fail
            with_reducible refine HFF.out.mono ?_
            rintro e w3 ⟨rfl, hb4⟩
            have HB3 := Lib.hid (HB2.out.trans (hb4.mono (by omega)))
            clear hb4 HFF
            go_wp2
            go_roundw
            case rel => exact ⟨d + 1, k, by go_num, by omega, HX2.out, HB3.out⟩
            case measure => simp only [intOf]; omega
      · obtain ⟨rfl, rfl⟩ : d = 22 ∧ k = 0 := by omega
        obtain rfl : x = some 0 := by rw [hxf]; rfl
        have HB := Lib.hid hb2
        clear hxf hb2 HX
        go_wp2
        go_ret2
        exact ⟨rfl, by rw [HB0.out]; exact HB.out⟩
end Go.Proofs.YtbldlidpapdkbaaGreatDoor

/- The contract of the program's Rebuild. -/
namespace Go.Proofs.YtbldlidpapdkbaaGreatDoor
open Go.RowKit

end Go.Proofs.YtbldlidpapdkbaaGreatDoor

/- What the program's check (layer 11) is to tell. -/
namespace Go.Proofs.YtbldlidpapdkbaaGreatDoor
open Go.RowKit

end Go.Proofs.YtbldlidpapdkbaaGreatDoor

/- The document's heap, plain: in a right one the lists have just the free blocks; Take tells that there is no room just if there is none, and what it tells is apart from all that is used. No program in sight. -/
namespace Go.Proofs.YtbldlidpapdkbaaGreatDoor

theorem nodup_le {l : List Nat} : ∀ {r : List Nat}, l.Nodup → (∀ a ∈ l, a ∈ r) → l.length ≤ r.length := by
  induction l with
  | nil => intro r _ _; exact Nat.zero_le _
  | cons x l ih =>
    intro r hn hs
    obtain ⟨h1, h2⟩ := List.nodup_cons.1 hn
    have hx := hs x (by simp)
    have h3 := ih (r := r.erase x) h2 (fun a ha => (List.mem_erase_of_ne (fun e : a = x => h1 (by rw [← e]; exact ha))).2 (hs a (by simp [ha])))
    have h4 := List.length_erase_of_mem hx
    have h5 : 0 < r.length := List.length_pos_of_mem hx
    rw [List.length_cons]
    omega
theorem nodup_all {l r : List Nat} (hn : l.Nodup) (hs : ∀ a ∈ l, a ∈ r) (hl : r.length ≤ l.length) : ∀ b ∈ r, b ∈ l := fun b hb => by
  by_cases hin : b ∈ l
  · exact hin
  · have h1 := nodup_le (r := r.erase b) hn (fun a ha => (List.mem_erase_of_ne (fun e : a = b => hin (by rw [← e]; exact ha))).2 (hs a ha))
    have h2 := List.length_erase_of_mem hb
    have h3 : 0 < r.length := List.length_pos_of_mem hb
    omega
theorem nodup_count : ∀ {l : List Nat}, (∀ a ∈ l, l.count a = 1) → l.Nodup
  | [], _ => List.nodup_nil
  | x :: r, h => by
    have h1 := h x (by simp)
    rw [List.count_cons_self] at h1
    have hx : x ∉ r := List.count_eq_zero.1 (by omega)
    refine List.nodup_cons.2 ⟨hx, nodup_count fun a ha => ?_⟩
    have h2 := h a (by simp [ha])
    have hne : x ≠ a := fun e => hx (e ▸ ha)
    rw [List.count_cons_of_ne hne] at h2
    exact h2

section
variable {bs : List UInt8} {H : Hp}
theorem Rt.nfree (h : Rt bs H) : (∀ c, c < 22 → (H.lists c).Nodup ∧ ∀ o ∈ H.lists c, o ∈ freeL H.blks c) ∧ noAdj H.blks = true ∧ chkC bs H.blks 22 0 (cntFree H.blks) = true := by
  have hk := h.chk
  unfold checkB at hk
  rw [h.walk] at hk
  simp only [Bool.and_eq_true] at hk
  refine ⟨fun c hc => ?_, hk.2.1, hk.2.2⟩
  obtain ⟨al, h1, h2⟩ := chkC_true 22 0 _ hk.2.2 c (Nat.zero_le _) (by omega)
  rw [h.all_ c hc] at h1
  injection h1 with h1
  subst h1
  have h2' := List.all_eq_true.1 h2
  refine ⟨nodup_count fun a ha => ?_, fun o ho => ?_⟩
  · have := h2' a ha
    unfold okO at this
    rw [Bool.and_eq_true] at this
    simpa using this.2
  · have h3 := h2' o ho
    unfold okO at h3
    rw [Bool.and_eq_true] at h3
    have h4 := h3.1
    unfold foundB at h4
    obtain ⟨x, hx, hx2⟩ := List.any_eq_true.1 h4
    simp only [Bool.and_eq_true, beq_iff_eq] at hx2
    have hm := allB_member (h.all_ c hc) o ho
    have hg := (walkB_tiles h.walk).2.2 x hx
    unfold memberB at hm
    rw [← hx2.1, hg] at hm
    simp only [Bool.and_eq_true, beq_iff_eq] at hm
    rw [← hx2.1]
    exact mem_freeL hx (by simpa using hx2.2) hm.2.2
theorem lens_all {bs : List UInt8} {l : List Bk} {L : Nat → List Nat} (hL : ∀ c, c < 22 → allB bs c = some (L c)) (hs : ∀ c, c < 22 → (L c).length ≤ (freeL l c).length) :
    ∀ (k c : Nat) (fr : Int), c + k = 22 → chkC bs l k c fr = true → fr ≤ sumF l k c ∧ (fr = sumF l k c → ∀ d, c ≤ d → d < 22 → (freeL l d).length ≤ (L d).length)
  | 0, c, fr, hck, h => by
    unfold chkC at h
    have : fr = 0 := by simpa using h
    refine ⟨by subst this; exact Int.natCast_nonneg _, fun _ d h1 h2 => by omega⟩
  | k + 1, c, fr, hck, h => by
    unfold chkC at h
    rw [hL c (by omega)] at h
    dsimp only at h
    rw [Bool.and_eq_true] at h
    obtain ⟨i1, i2⟩ := lens_all hL hs k (c + 1) _ (by omega) h.2
    have h1 := hs c (by omega)
    have e : (sumF l (k + 1) c : Int) = ((freeL l c).length : Int) + (sumF l k (c + 1) : Int) := by
      show (((freeL l c).length + sumF l k (c + 1) : Nat) : Int) = _
      omega
    refine ⟨by omega, fun hfr d hd1 hd2 => ?_⟩
    rcases Nat.lt_or_ge c d with hlt | hge
    · exact i2 (by omega) d hlt hd2
    · obtain rfl : d = c := by omega
      omega
/-- The lists have all free blocks. -/
theorem Rt.complete (h : Rt bs H) : ∀ c, c < 22 → ∀ o ∈ freeL H.blks c, o ∈ H.lists c := fun c hc => by
  obtain ⟨h1, _, h3⟩ := h.nfree
  have ht := (walkB_tiles h.walk).2.1
  have hsz : ∀ x ∈ H.blks, isSz (x.size : Int) = true := fun x hx => ((tile_mem _ _ _ ht).2 x hx).2.2.1
  have hl := lens_all h.all_ (fun c hc => nodup_le (h1 c hc).1 (h1 c hc).2) 22 0 _ rfl h3
  exact nodup_all (h1 c hc).1 (h1 c hc).2 (hl.2 (by rw [sumF_all _ hsz]) c (Nat.zero_le _) hc)

theorem findL_none {l : List Bk} {s : Nat} : ∀ {L : List Nat}, findL l s L = none → (∀ o ∈ L, ∃ i, atB (o : Int) l = some i) → ∀ o ∈ L, ∀ i, atB (o : Int) l = some i → (bkAt l i).size < s
  | [], _, _, o, ho, _, _ => by cases ho
  | q :: r, h, hL, o, ho, i, hi => by
    obtain ⟨j, hj⟩ := hL q (by simp)
    unfold findL at h
    rw [hj] at h
    dsimp only at h
    split at h
    · cases h
    · rename_i hs
      rcases List.mem_cons.1 ho with rfl | ho
      · rw [hj] at hi
        injection hi with hi
        subst hi
        omega
      · exact findL_none h (fun a ha => hL a (by simp [ha])) o ho i hi
theorem findC_none {s : Nat} : ∀ {k c : Nat}, H.findC s k c = none → ∀ d, c ≤ d → d < c + k → findL H.blks s (H.lists d) = none
  | 0, c, _, d, h1, h2 => by omega
  | k + 1, c, h, d, h1, h2 => by
    unfold Hp.findC at h
    split at h
    · cases h
    · rename_i hn
      rcases Nat.lt_or_ge c d with hlt | hge
      · exact findC_none h d hlt (by omega)
      · obtain rfl : d = c := by omega
        exact hn
/-- Two blocks with one place are one. -/
theorem tile_one {l : List Bk} {o e : Nat} (h : tile o l e) {x y : Bk} (hx : x ∈ l) (hy : y ∈ l) (he : x.off = y.off) : x = y := by
  have h1 := (isSz_iff _).1 ((tile_mem _ _ _ h).2 x hx).2.2.1
  have h2 := (isSz_iff _).1 ((tile_mem _ _ _ h).2 y hy).2.2.1
  rcases tile_apart l o e h x hx y hy with h' | h' | h'
  · exact h'
  · omega
  · omega
theorem atB_of {l : List Bk} {o e : Nat} (h : tile o l e) {x : Bk} (hx : x ∈ l) : ∃ i, atB (x.off : Int) l = some i ∧ i < l.length ∧ bkAt l i = x := by
  obtain ⟨i, hi⟩ := atB_mem hx
  obtain ⟨h1, h2⟩ := atB_at hi
  refine ⟨i, hi, h1, tile_one h (List.mem_of_getElem? (bkAt_get h1)) hx (by omega)⟩
/-- What Find finds is free. -/
theorem Rt.found (h : Rt bs H) {s i : Nat} (hs : isSz (s : Int) = true) (hf : H.find s = some i) : i < H.blks.length ∧ s ≤ (bkAt H.blks i).size ∧ (bkAt H.blks i).used = false := by
  have ht := (walkB_tiles h.walk).2.1
  have one : ∀ (LL : List Nat), (∀ o ∈ LL, ∃ x ∈ H.blks, x.off = o ∧ x.used = false) → ∀ i, findL H.blks s LL = some i → i < H.blks.length ∧ s ≤ (bkAt H.blks i).size ∧ (bkAt H.blks i).used = false := by
    intro LL
    induction LL with
    | nil => intro _ i h; cases h
    | cons o r ih =>
      intro hL i h
      unfold findL at h
      split at h
      · cases h
      · rename_i j hj
        split at h
        · rename_i hs
          injection h with h
          subst h
          obtain ⟨x, hx, hxo, hxu⟩ := hL o (by simp)
          obtain ⟨h1, h2⟩ := atB_at hj
          have e := tile_one ht (List.mem_of_getElem? (bkAt_get h1)) hx (by omega)
          exact ⟨h1, hs, by rw [e]; exact hxu⟩
        · exact ih (fun a ha => hL a (by simp [ha])) i h
  have go : ∀ (k c i : Nat), c + k ≤ 22 → H.findC s k c = some i → i < H.blks.length ∧ s ≤ (bkAt H.blks i).size ∧ (bkAt H.blks i).used = false := by
    intro k
    induction k with
    | zero => intro c i _ h; cases h
    | succ k ih =>
      intro c i hck hh
      unfold Hp.findC at hh
      split at hh
      · rename_i j hj
        injection hh with hh
        subst hh
        refine one _ (fun o ho => ?_) _ hj
        obtain ⟨x, h1, h2, h3, _⟩ := freeL_mem ((h.nfree.1 c (by omega)).2 o ho)
        exact ⟨x, h1, h2, h3⟩
      · exact ih _ _ (by omega) hh
  obtain ⟨cl, hcl, hcl22⟩ : ∃ c : Nat, classI (s : Int) = (c : Int) ∧ c < 22 := class_nat (x := ⟨0, s, false⟩) hs
  unfold Hp.find at hf
  rw [hcl, Int.toNat_natCast] at hf
  exact go _ _ _ (by omega) hf
/-- Where Find finds nothing there is nothing. -/
theorem Rt.lost (h : Rt bs H) {s : Nat} (hs : isSz (s : Int) = true) (hf : H.find s = none) : ∀ x ∈ H.blks, x.used = false → x.size < s := fun x hx hu => by
  have ht := (walkB_tiles h.walk).2.1
  have hxs := ((tile_mem _ _ _ ht).2 x hx).2.2.1
  obtain ⟨cl, hcl, hcl22⟩ : ∃ c : Nat, classI (s : Int) = (c : Int) ∧ c < 22 := class_nat (x := ⟨0, s, false⟩) hs
  obtain ⟨cx, hcx, hcx22⟩ := class_nat hxs
  rcases Nat.lt_or_ge x.size s with h1 | h1
  · exact h1
  · have hm := classI_mono hs hxs (by omega)
    unfold Hp.find at hf
    rw [hcl, Int.toNat_natCast] at hf
    have hl := findC_none hf cx (by omega) (by omega)
    obtain ⟨i, hi, _, hb⟩ := atB_of ht hx
    have := findL_none hl (h.listed cx hcx22) x.off (h.complete cx hcx22 _ (mem_freeL hx hu hcx)) i hi
    rw [hb] at this
    exact this

end
end Go.Proofs.YtbldlidpapdkbaaGreatDoor

/- The document's heap, plain: the block that Take tells. No program in sight. -/
namespace Go.Proofs.YtbldlidpapdkbaaGreatDoor

section
variable {bs : List UInt8} {H : Hp}
theorem give_keep {i j : Nat} (hp : (bkAt H.blks (i - 1)).used = true) (hj : j < i) : (H.give i).blks[j]? = H.blks[j]? := by
  have e1 : ∀ k, k < i → ((H.use i false).wipe i).blks[k]? = H.blks[k]? := fun k hk => by
    show (H.blks.set i _)[k]? = _
    exact List.getElem?_set_ne (by omega)
  have l1 : ((H.use i false).wipe i).blks.length = H.blks.length := List.length_set ..
  unfold Hp.give
  obtain ⟨H1, hH1⟩ : ∃ H1, (H.use i false).wipe i = H1 := ⟨_, rfl⟩
  rw [hH1] at e1 l1 ⊢
  have e2 : ∀ k, k < i → (H1.giveB i).blks[k]? = H.blks[k]? := fun k hk => by
    rw [← e1 k hk]
    unfold Hp.giveB
    split
    · rename_i hn
      have hlt : i + 1 < H1.blks.length := by
        unfold nextF at hn
        rw [Bool.and_eq_true, decide_eq_true_eq] at hn
        exact hn.1
      rw [join_blks (H1.out (i + 1)) (i := i) hlt]
      rw [List.getElem?_append_left (by rw [List.length_take]; show k < min i H1.blks.length; omega)]
      exact List.getElem?_take_of_lt hk
    · rfl
  have hprev : prevF (H1.giveB i).blks i = false := by
    unfold prevF
    have h1 := e2 (i - 1) (by omega)
    have h2 : bkAt (H1.giveB i).blks (i - 1) = bkAt H.blks (i - 1) := by
      unfold bkAt
      rw [List.getD_eq_getElem?_getD, List.getD_eq_getElem?_getD, h1]
    rw [h2, hp, Bool.not_true, Bool.and_false]
  have e3 : ((H1.giveB i).giveC i).blks = (H1.giveB i).blks := by
    unfold Hp.giveC
    rw [hprev, if_neg (by decide)]
    rfl
  rw [e3]
  exact e2 j hj
/-- The block that a cut leaves. -/
theorem cut_has {i s : Nat} (hi : i < H.blks.length) (hle : s ≤ (bkAt H.blks i).size) : ∃ x ∈ (H.cut i s).blks, x.off = (bkAt H.blks i).off ∧ x.used = true ∧ s ≤ x.size ∧ x.size < s + 32 ∧ x.size ≤ (bkAt H.blks i).size := by
  unfold Hp.cut
  split
  · rename_i hlt
    refine ⟨{ bkAt H.blks i with used := true }, ?_, rfl, rfl, hle, hlt, Nat.le_refl _⟩
    exact List.mem_of_getElem? (i := i) (List.getElem?_set_self hi)
  · rename_i hge
    obtain ⟨y, hy⟩ : ∃ y : Bk, (⟨(bkAt H.blks i).off + s, (bkAt H.blks i).size - s, true⟩ : Bk) = y := ⟨_, rfl⟩
    rw [hy]
    have hb := cut_blks (s := s) H hi y
    have hln := cut_len (s := s) H hi y
    obtain ⟨H2, hH2⟩ : ∃ H2, ((H.use i true).size i s).put (i + 1) y = H2 := ⟨_, rfl⟩
    rw [hH2] at hb hln ⊢
    have hat : H2.blks[i]? = some { bkAt H.blks i with used := true, size := s } := by
      rw [hb, List.getElem?_append_right (by rw [List.length_take]; omega), List.length_take, show i - min i H.blks.length = 0 by omega]
      rfl
    have hk := give_keep (H := H2) (i := i + 1) (j := i) (by rw [show i + 1 - 1 = i by omega, bkAt_of hat]) (by omega)
    refine ⟨_, List.mem_of_getElem? (hk.trans hat), rfl, rfl, Nat.le_refl _, by show s < s + 32; omega, hle⟩
theorem Rt.what (h : Rt bs H) {s o : Nat} (hs : isSz (s : Int) = true) (hx : (H.take s).1 = some o) :
    ∃ x ∈ (H.take s).2.blks, x.off = o ∧ x.used = true ∧ s ≤ x.size ∧ x.size < s + 32 ∧ ∀ y ∈ H.blks, y.used = true → y.off + y.size ≤ x.off ∨ x.off + x.size ≤ y.off := by
  have ht : tile 184 H.blks (Go.Proofs.YtbldlidpapdkbaaGreatDoor.lenB H.blks) := by rw [h.lenE]; exact (walkB_tiles h.walk).2.1
  cases hf : H.find s with
  | some i =>
    obtain ⟨h1, h2, h3⟩ := h.found hs hf
    have e : H.take s = (some (bkAt H.blks i).off, (H.out i).cut i s) := by unfold Hp.take; rw [hf]
    rw [e] at hx ⊢
    injection hx with hx
    obtain ⟨x, k1, k2, k3, k4, k5, k6⟩ := cut_has (H := H.out i) (i := i) (s := s) h1 h2
    have hb : bkAt (H.out i).blks i = bkAt H.blks i := rfl
    rw [hb] at k2 k6
    refine ⟨x, k1, by omega, k3, k4, k5, fun y hy hu => ?_⟩
    rcases tile_apart _ _ _ ht y hy _ (List.mem_of_getElem? (bkAt_get h1)) with h' | h' | h'
    · rw [h', h3] at hu; cases hu
    · exact .inl (by omega)
    · exact .inr (by omega)
  | none =>
    by_cases hr : H.cap < Go.Proofs.YtbldlidpapdkbaaGreatDoor.lenB H.blks + s - tailF H.blks
    · have e : H.take s = (none, H) := by unfold Hp.take; rw [hf]; dsimp only; rw [if_pos hr]
      rw [e] at hx
      cases hx
    · by_cases htl : 0 < tailF H.blks
      · have e : H.take s = (some (bkAt H.blks (H.blks.length - 1)).off, ((H.out (H.blks.length - 1)).size (H.blks.length - 1) s).use (H.blks.length - 1) true) := by unfold Hp.take; rw [hf]; dsimp only; rw [if_neg hr, if_pos htl]
        have hn : 0 < H.blks.length := by
          rcases Nat.eq_zero_or_pos H.blks.length with h0 | h0
          · unfold tailF at htl; rw [if_pos h0] at htl; omega
          · exact h0
        have hu0 : (bkAt H.blks (H.blks.length - 1)).used = false := by
          cases hu : (bkAt H.blks (H.blks.length - 1)).used with
          | false => rfl
          | true => unfold tailF at htl; rw [if_neg (by omega), if_pos hu] at htl; omega
        obtain ⟨k, hk⟩ : ∃ k, H.blks.length - 1 = k := ⟨_, rfl⟩
        rw [hk] at e hu0
        have hkl : k < H.blks.length := by omega
        rw [e] at hx ⊢
        injection hx with hx
        have ha := tile_at ht (bkAt_get hkl)
        have hlast : (bkAt H.blks k).off + (bkAt H.blks k).size = Go.Proofs.YtbldlidpapdkbaaGreatDoor.lenB H.blks := by
          have h4 := ha.2.2.2
          rw [List.drop_of_length_le (by omega)] at h4
          exact h4
        have hget : (((H.out k).size k s).use k true).blks[k]? = some ⟨(bkAt H.blks k).off, s, true⟩ := by
          show ((H.blks.set k _).set k _)[k]? = _
          rw [List.getElem?_set_self (by rw [List.length_set]; exact hkl)]
          have e2 : bkAt ((H.out k).size k s).blks k = { bkAt H.blks k with size := s } := by
            show bkAt (H.blks.set k _) k = _
            rw [bkAt_set _ _ _ _ hkl, if_pos rfl]
            rfl
          rw [e2]
        refine ⟨_, List.mem_of_getElem? hget, hx, rfl, Nat.le_refl _, by show s < s + 32; omega, fun y hy hu => .inl ?_⟩
        have hm := (tile_mem _ _ _ ht).2 y hy
        have hys := (isSz_iff _).1 hm.2.2.1
        show y.off + y.size ≤ (bkAt H.blks k).off
        rcases tile_apart _ _ _ ht y hy _ (List.mem_of_getElem? (bkAt_get hkl)) with h' | h' | h'
        · rw [h', hu0] at hu; cases hu
        · exact h'
        · omega
      · have e : H.take s = (some (Go.Proofs.YtbldlidpapdkbaaGreatDoor.lenB H.blks), H.put H.blks.length ⟨Go.Proofs.YtbldlidpapdkbaaGreatDoor.lenB H.blks, s, true⟩) := by unfold Hp.take; rw [hf]; dsimp only; rw [if_neg hr, if_neg htl]
        rw [e] at hx ⊢
        injection hx with hx
        refine ⟨⟨Go.Proofs.YtbldlidpapdkbaaGreatDoor.lenB H.blks, s, true⟩, ?_, hx, rfl, Nat.le_refl _, by show s < s + 32; omega, fun y hy hu => .inl ((tile_mem _ _ _ ht).2 y hy).2.1⟩
        show _ ∈ H.blks.take _ ++ _ :: H.blks.drop _
        simp
end
end Go.Proofs.YtbldlidpapdkbaaGreatDoor

/- The document's heap, plain: all stays one behind the other when a block is taken; what a resize comes to. No program in sight. -/
namespace Go.Proofs.YtbldlidpapdkbaaGreatDoor

theorem find_lt {H : Hp} {s : Nat} : ∀ {i : Nat}, H.find s = some i → i < H.blks.length := by
  have one : ∀ (LL : List Nat) (i : Nat), findL H.blks s LL = some i → i < H.blks.length := by
    intro LL
    induction LL with
    | nil => intro i h; cases h
    | cons o r ih =>
      intro i h
      unfold findL at h
      split at h
      · cases h
      · rename_i j hj
        split at h
        · injection h with h
          subst h
          exact (atB_at hj).1
        · exact ih i h
  have go : ∀ (k c i : Nat), H.findC s k c = some i → i < H.blks.length := by
    intro k
    induction k with
    | zero => intro c i h; cases h
    | succ k ih =>
      intro c i h
      unfold Hp.findC at h
      split at h
      · rename_i j hj
        injection h with h
        subst h
        exact one _ _ hj
      · exact ih _ _ h
  intro i h
  exact go _ _ _ h
section
variable {H : Hp} {i s N : Nat}
theorem Hp.Ok.giveB (h : H.Ok) : (H.giveB i).Ok := by
  unfold Hp.giveB
  split
  · rename_i hn
    have hlt : i + 1 < H.blks.length := by
      unfold nextF at hn
      rw [Bool.and_eq_true, decide_eq_true_eq] at hn
      exact hn.1
    exact Hp.Ok.join (Hp.Ok.out h) hlt
  · exact h
theorem Hp.Ok.giveC (h : H.Ok) (hi : i < H.blks.length) : (H.giveC i).Ok := by
  unfold Hp.giveC
  split
  · rename_i hn
    have hlt : i - 1 + 1 < H.blks.length := by
      unfold prevF at hn
      rw [Bool.and_eq_true, decide_eq_true_eq] at hn
      have := hn.1
      omega
    exact Hp.Ok.in_ (Hp.Ok.join (Hp.Ok.out h) hlt)
  · exact Hp.Ok.in_ h
theorem giveB_lt (hi : i < H.blks.length) : i < (H.giveB i).blks.length := by
  unfold Hp.giveB
  split
  · rename_i hn
    have hlt : i + 1 < H.blks.length := by
      unfold nextF at hn
      rw [Bool.and_eq_true, decide_eq_true_eq] at hn
      exact hn.1
    exact (join_at (H.out (i + 1)) (i := i) hlt).1
  · exact hi
theorem Hp.Ok.give (h : H.Ok) (hi : i < H.blks.length) : (H.give i).Ok := by
  have h1 : ((H.use i false).wipe i).Ok := (h.use hi false).wipe
  have l1 : i < ((H.use i false).wipe i).blks.length := by
    show i < (H.blks.set i _).length
    rw [List.length_set]; exact hi
  exact (h1.giveB).giveC (giveB_lt l1)
theorem Hp.Ok.cutA (h : H.Ok) (hi : i < H.blks.length) (hs : isSz (s : Int) = true) : (H.cut i s).Ok := by
  unfold Hp.cut
  split
  · exact h.use hi true
  · rename_i hge
    exact (h.cut hi hs (by omega)).give (by rw [cut_len H hi]; omega)
theorem Hp.Few.giveB (h : H.Few N) : (H.giveB i).Few N := by
  unfold Hp.giveB
  split
  · exact Hp.Few.out (i := i + 1) h
  · exact h
theorem Hp.Few.giveC (h : H.Few N) : (H.giveC i).Few (N + 1) := by
  unfold Hp.giveC
  split
  · exact Hp.Few.in_ (i := i - 1) (H := (H.out (i - 1)).join (i - 1)) (Hp.Few.out (i := i - 1) h)
  · exact Hp.Few.in_ h
theorem Hp.Few.give (h : H.Few N) : (H.give i).Few (N + 1) := by
  unfold Hp.give
  exact Hp.Few.giveC (Hp.Few.giveB (H := (H.use i false).wipe i) h)
theorem Hp.Few.cut (h : H.Few N) : (H.cut i s).Few (N + 1) := by
  unfold Hp.cut
  split
  · exact Hp.Few.more (H := H.use i true) h (Nat.le_succ _)
  · exact Hp.Few.give (H := ((H.use i true).size i s).put (i + 1) _) h
theorem Hp.Few.take (h : H.Few N) : (H.take s).2.Few (N + 1) := by
  unfold Hp.take
  split
  · exact Hp.Few.cut (Hp.Few.out h)
  · split
    · exact h.more (Nat.le_succ _)
    · split
      · exact Hp.Few.more (H := ((H.out (H.blks.length - 1)).size (H.blks.length - 1) s).use (H.blks.length - 1) true) (Hp.Few.out (i := H.blks.length - 1) h) (Nat.le_succ _)
      · exact Hp.Few.more (H := H.put H.blks.length _) h (Nat.le_succ _)
/-- The last block has another size. -/
theorem Hp.Ok.last (h : H.Ok) {k : Nat} (hk : H.blks.length = k + 1) (u : Bool) (hs : isSz (s : Int) = true) (hle : (bkAt H.blks k).off + s ≤ 16384) : (((H.size k s).use k u)).Ok ∧ (H.size k s).Ok := by
  obtain ⟨a, b, c⟩ := h.at_ (i := k) (by omega)
  have hd : H.blks.drop (k + 1) = [] := List.drop_of_length_le (by omega)
  have go : ∀ y : Bk, y.off = (bkAt H.blks k).off → y.size = s → tile 184 (H.blks.set k y) ((bkAt H.blks k).off + s) := fun y ho hsz => by
    rw [lst_set y (bkAt_get (i := k) (by omega)), hd]
    exact tile_of (by rw [ho]; exact a) (by rw [hsz]; exact hs) (by rw [ho, hsz]; rfl)
  have e1 : ((H.size k s).use k u).blks = H.blks.set k { bkAt H.blks k with size := s, used := u } := by
    show (H.blks.set k _).set k _ = _
    rw [List.set_set]
    congr 1
    show { bkAt (H.blks.set k { bkAt H.blks k with size := s }) k with used := u } = _
    rw [bkAt_set _ _ _ _ (by omega), if_pos rfl]
  have t1 := go { bkAt H.blks k with size := s, used := u } rfl rfl
  have t2 := go { bkAt H.blks k with size := s } rfl rfl
  refine ⟨⟨?_, ?_, ?_⟩, ?_, ?_, ?_⟩
  · rw [e1, tile_len t1]; exact t1
  · rw [e1, tile_len t1]; exact hle
  · show H.ds.length = ((H.size k s).use k u).blks.length
    rw [e1, List.length_set]; exact h.dl
  · show tile 184 (H.blks.set k _) (lenB (H.blks.set k _))
    rw [tile_len t2]; exact t2
  · show lenB (H.blks.set k _) ≤ _
    rw [tile_len t2]; exact hle
  · show H.ds.length = (H.blks.set k _).length
    rw [List.length_set]; exact h.dl
theorem last_end (h : H.Ok) {k : Nat} (hk : H.blks.length = k + 1) : (bkAt H.blks k).off + (bkAt H.blks k).size = lenB H.blks := by
  have h4 := (h.at_ (i := k) (by omega)).2.2
  rw [List.drop_of_length_le (by omega)] at h4
  exact h4
theorem Hp.Ok.take (h : H.Ok) (hc : H.cap ≤ 16384) (hs : isSz (s : Int) = true) : (H.take s).2.Ok := by
  unfold Hp.take
  split
  · rename_i i hf
    exact Hp.Ok.cutA (Hp.Ok.out h) (find_lt (H := H) hf) hs
  · split
    · exact h
    · rename_i hr
      split
      · rename_i htl
        obtain ⟨k, hk⟩ : ∃ k, H.blks.length = 0 ∨ H.blks.length = k + 1 := ⟨H.blks.length - 1, by omega⟩
        rcases hk with hk | hk
        · unfold tailF at htl; rw [if_pos hk] at htl; omega
        · have he := last_end h hk
          have htf : tailF H.blks = (bkAt H.blks k).size := by
            unfold tailF at htl ⊢
            rw [if_neg (by omega), show H.blks.length - 1 = k by omega] at htl ⊢
            split at htl
            · omega
            · rename_i hu; rw [if_neg hu]
          rw [show H.blks.length - 1 = k by omega]
          exact (Hp.Ok.last (Hp.Ok.out (i := k) h) hk true hs (by show (bkAt H.blks k).off + s ≤ _; omega)).1
      · rename_i htl
        have ht : tile 184 (H.blks ++ [⟨lenB H.blks, s, true⟩]) (lenB H.blks + s) := tile_snoc _ _ _ _ h.tl rfl hs
        have e : (H.put H.blks.length ⟨lenB H.blks, s, true⟩).blks = H.blks ++ [⟨lenB H.blks, s, true⟩] := by
          show H.blks.take _ ++ _ :: H.blks.drop _ = _
          rw [List.take_length, List.drop_length]
        refine ⟨?_, ?_, ?_⟩
        · rw [e, tile_len ht]; exact ht
        · rw [e, tile_len ht]; omega
        · rw [e]
          show (H.ds.take _ ++ nilD :: H.ds.drop _).length = _
          have := h.dl
          simp only [List.length_append, List.length_take, List.length_drop, List.length_cons, List.length_nil]
          omega
end
end Go.Proofs.YtbldlidpapdkbaaGreatDoor

/- The document's heap, plain: what a resize comes to. No program in sight. -/
namespace Go.Proofs.YtbldlidpapdkbaaGreatDoor

/-- The free block behind the i-th is gone, if there is one. -/
def Hp.swallow (H : Hp) (i : Nat) : Hp := if nextF H.blks i = true then (H.out (i + 1)).drop (i + 1) else H
def bothN (l : List Bk) (i : Nat) : Nat := (bkAt l i).size + (if nextF l i = true then (bkAt l (i + 1)).size else 0)
def Hp.widen (H : Hp) (i : Nat) : Hp := (H.swallow i).size i (bothN H.blks i)
def Hp.copyD (H : Hp) (p o : Nat) : Hp := { H with ds := H.ds.set p (H.ds.getD o nilD) }
def Hp.moveD (H : Hp) (p o : Int) : Hp := match atB p H.blks, atB o H.blks with
  | some ip, some io => H.copyD ip io
  | _, _ => H
/-- Does it grow in its place? -/
def growsB (H : Hp) (i s : Nat) : Bool := decide ((bkAt H.blks i).off + bothN H.blks i = lenB H.blks) && decide (lenB H.blks + s - bothN H.blks i ≤ H.cap)
/-- Where it stands, an error's number, the heap then. -/
def Hp.resize (H : Hp) (o : Int) (s : Nat) : (Nat × Int) × Hp := match usedB H.blks o with
  | none => ((0, 3), H)
  | some i => if s ≤ (bkAt H.blks i).size then (((bkAt H.blks i).off, 0), H.cut i s)
    else if s ≤ bothN H.blks i then (((bkAt H.blks i).off, 0), (H.widen i).cut i s)
    else if growsB H i s = true then (((bkAt H.blks i).off, 0), (H.widen i).size i s)
    else match (H.take s).1 with
      | none => ((0, 5), H)
      | some p => ((p, 0), (((H.take s).2.moveD (p : Int) o).giveO o).getD ((H.take s).2.moveD (p : Int) o))

section
variable {H : Hp} {i s N : Nat}
theorem swallow_yes (h : nextF H.blks i = true) : H.swallow i = (H.out (i + 1)).drop (i + 1) := by unfold Hp.swallow; rw [if_pos h]
theorem swallow_no (h : nextF H.blks i = false) : H.swallow i = H := by unfold Hp.swallow; rw [h, if_neg (by decide)]
theorem both_yes (h : nextF H.blks i = true) : bothN H.blks i = (bkAt H.blks i).size + (bkAt H.blks (i + 1)).size := by unfold bothN; rw [if_pos h]
theorem both_no (h : nextF H.blks i = false) : bothN H.blks i = (bkAt H.blks i).size := by unfold bothN; rw [h, if_neg (by decide)]; rfl
theorem next_lt (h : nextF H.blks i = true) : i + 1 < H.blks.length := by
  unfold nextF at h
  rw [Bool.and_eq_true, decide_eq_true_eq] at h
  exact h.1
/-- It has the blocks of both joined. -/
theorem widen_blks (h : nextF H.blks i = true) : (H.widen i).blks = ((H.out (i + 1)).join i).blks ∧ (H.widen i).ds = ((H.out (i + 1)).join i).ds := by
  have hlt := next_lt h
  have hb : bkAt ((H.out (i + 1)).drop (i + 1)).blks i = bkAt H.blks i := by
    show bkAt (H.blks.take (i + 1) ++ H.blks.drop (i + 1 + 1)) i = _
    unfold bkAt
    rw [List.getD_eq_getElem?_getD, List.getElem?_append_left (by rw [List.length_take]; omega), List.getElem?_take_of_lt (by omega), ← List.getD_eq_getElem?_getD]
  unfold Hp.widen
  rw [swallow_yes h, both_yes h]
  refine ⟨?_, rfl⟩
  rw [join_blks (H.out (i + 1)) hlt]
  show (H.blks.take (i + 1) ++ H.blks.drop (i + 1 + 1)).set i { bkAt ((H.out (i + 1)).drop (i + 1)).blks i with size := _ } = _
  rw [hb, List.set_append_left _ _ (by rw [List.length_take]; omega)]
  rw [List.take_add_one, List.getElem?_eq_getElem (by omega)]
  rw [Option.toList_some, List.set_append_right _ _ (by rw [List.length_take]; omega), List.length_take, show i - min i H.blks.length = 0 by omega]
  simp
  rfl
theorem widen_same (h : nextF H.blks i = false) (hi : i < H.blks.length) : (H.widen i).blks = H.blks ∧ (H.widen i).ds = H.ds := by
  unfold Hp.widen
  rw [swallow_no h, both_no h]
  refine ⟨?_, rfl⟩
  show H.blks.set i { bkAt H.blks i with size := (bkAt H.blks i).size } = H.blks
  have e : ({ bkAt H.blks i with size := (bkAt H.blks i).size } : Bk) = bkAt H.blks i := rfl
  rw [e]
  have hg := bkAt_get hi
  rw [List.getElem?_eq_getElem hi] at hg
  injection hg with hg
  rw [← hg]
  exact List.set_getElem_self hi
theorem Hp.Ok.widen (h : H.Ok) (hi : i < H.blks.length) : (H.widen i).Ok ∧ i < (H.widen i).blks.length ∧ bkAt (H.widen i).blks i = { bkAt H.blks i with size := bothN H.blks i } := by
  cases hn : nextF H.blks i with
  | true =>
    obtain ⟨e1, e2⟩ := widen_blks hn
    have hj := Hp.Ok.join (Hp.Ok.out (i := i + 1) h) (next_lt hn)
    have ha := join_at (H.out (i + 1)) (i := i) (next_lt hn)
    refine ⟨⟨by rw [e1]; exact hj.tl, by rw [e1]; exact hj.le, by rw [e1, e2]; exact hj.dl⟩, by rw [e1]; exact ha.1, ?_⟩
    rw [e1, ha.2.1, both_yes hn]
    rfl
  | false =>
    obtain ⟨e1, e2⟩ := widen_same hn hi
    refine ⟨⟨by rw [e1]; exact h.tl, by rw [e1]; exact h.le, by rw [e1, e2]; exact h.dl⟩, by rw [e1]; exact hi, ?_⟩
    rw [e1, both_no hn]
theorem Hp.Few.widen (h : H.Few N) : (H.widen i).Few N := by
  unfold Hp.widen Hp.swallow
  split
  · exact Hp.Few.out (i := i + 1) h
  · exact h
theorem widen_cap : (H.widen i).cap = H.cap := by unfold Hp.widen Hp.swallow; split <;> rfl
theorem Hp.Dl.swallow (h : H.Dl) : (H.swallow i).Dl := by
  unfold Hp.swallow
  split
  · exact Hp.Dl.drop (Hp.Dl.out h)
  · exact h
theorem Hp.Dl.widen (h : H.Dl) : (H.widen i).Dl := Hp.Dl.size (Hp.Dl.swallow h)
theorem Hp.Dl.moveD {p o : Int} (h : H.Dl) : (H.moveD p o).Dl := by
  unfold Hp.moveD
  split
  · show (H.ds.set _ _).length = _
    rw [List.length_set]; exact h
  · exact h
theorem moveD_cap {p o : Int} : (H.moveD p o).cap = H.cap := by unfold Hp.moveD; split <;> rfl
theorem Hp.Dl.resize {o : Int} (h : H.Dl) : (H.resize o s).2.Dl := by
  unfold Hp.resize
  split
  · exact h
  · split
    · exact h.cut
    · split
      · exact h.widen.cut
      · split
        · exact h.widen.size
        · split
          · exact h
          · rename_i p _
            cases hg : ((H.take s).2.moveD (p : Int) o).giveO o with
            | none => exact h.take.moveD
            | some H2 => exact h.take.moveD.giveO hg
theorem resize_cap {o : Int} : (H.resize o s).2.cap = H.cap := by
  unfold Hp.resize
  split
  · rfl
  · split
    · exact cut_cap
    · split
      · exact cut_cap.trans widen_cap
      · split
        · exact widen_cap
        · split
          · rfl
          · rename_i p _
            cases hg : ((H.take s).2.moveD (p : Int) o).giveO o with
            | none => exact moveD_cap.trans take_cap
            | some H2 => exact (giveO_cap hg).trans (moveD_cap.trans take_cap)
end
end Go.Proofs.YtbldlidpapdkbaaGreatDoor

/- The document's heap, plain: what is used stays when a block is given or taken. No program in sight. -/
namespace Go.Proofs.YtbldlidpapdkbaaGreatDoor

theorem mem_set_ne {l : List Bk} {k : Nat} {v x : Bk} (hx : x ∈ l) (hne : x ≠ bkAt l k) : x ∈ l.set k v := by
  obtain ⟨j, hj⟩ := List.mem_iff_getElem?.1 hx
  have hjk : k ≠ j := fun e => by
    subst e
    exact hne (bkAt_of hj).symm
  exact List.mem_of_getElem? ((List.getElem?_set_ne hjk).trans hj)
section
variable {H : Hp} {i s : Nat} {x : Bk}
theorem join_mem (hi : i + 1 < H.blks.length) (h1 : (bkAt H.blks i).used = false) (h2 : (bkAt H.blks (i + 1)).used = false) (hx : x ∈ H.blks) (hu : x.used = true) : x ∈ (H.join i).blks := by
  obtain ⟨j, hj⟩ := List.mem_iff_getElem?.1 hx
  have e1 : j ≠ i := fun e => by subst e; rw [bkAt_of hj, hu] at h1; cases h1
  have e2 : j ≠ i + 1 := fun e => by subst e; rw [bkAt_of hj, hu] at h2; cases h2
  rw [join_blks H hi]
  rcases Nat.lt_or_ge j i with h | h
  · exact List.mem_append_left _ (List.mem_of_getElem? ((List.getElem?_take_of_lt h).trans hj))
  · refine List.mem_append_right _ (List.mem_cons_of_mem _ ?_)
    refine List.mem_of_getElem? (i := j - (i + 2)) ?_
    rw [List.getElem?_drop, show i + 2 + (j - (i + 2)) = j by omega]
    exact hj
theorem next_free (h : nextF H.blks i = true) : (bkAt H.blks (i + 1)).used = false := by
  unfold nextF at h
  rw [Bool.and_eq_true] at h
  simpa using h.2
theorem prev_free (h : prevF H.blks i = true) : 0 < i ∧ (bkAt H.blks (i - 1)).used = false := by
  unfold prevF at h
  rw [Bool.and_eq_true, decide_eq_true_eq] at h
  exact ⟨h.1, by simpa using h.2⟩
/-- What is used stays, but for the block itself. -/
theorem give_mem (hi : i < H.blks.length) (hx : x ∈ H.blks) (hu : x.used = true) (hne : x ≠ bkAt H.blks i) : x ∈ (H.give i).blks := by
  have m1 : x ∈ ((H.use i false).wipe i).blks := mem_set_ne (v := { bkAt H.blks i with used := false }) hx hne
  have f1 : bkAt ((H.use i false).wipe i).blks i = { bkAt H.blks i with used := false } := by
    show bkAt (H.blks.set i _) i = _
    rw [bkAt_set _ _ _ _ hi, if_pos rfl]
  have l1 : i < ((H.use i false).wipe i).blks.length := by show i < (H.blks.set i _).length; rw [List.length_set]; exact hi
  unfold Hp.give
  obtain ⟨H1, hH1⟩ : ∃ H1, (H.use i false).wipe i = H1 := ⟨_, rfl⟩
  rw [hH1] at m1 f1 l1 ⊢
  have f1u : (bkAt H1.blks i).used = false := by rw [f1]
  have m2 : x ∈ (H1.giveB i).blks := by
    unfold Hp.giveB
    split
    · rename_i hn
      exact join_mem (H := H1.out (i + 1)) (next_lt hn) f1u (next_free hn) m1 hu
    · exact m1
  have l2 := giveB_lt (H := H1) l1
  have f2 : (bkAt (H1.giveB i).blks i).used = false := by
    unfold Hp.giveB
    split
    · rename_i hn
      rw [(join_at (H1.out (i + 1)) (i := i) (next_lt hn)).2.1]
      exact f1u
    · exact f1u
  unfold Hp.giveC
  split
  · rename_i hp
    obtain ⟨hp1, hp2⟩ := prev_free hp
    have e : i - 1 + 1 = i := by omega
    exact join_mem (H := (H1.giveB i).out (i - 1)) (i := i - 1) (by show i - 1 + 1 < (H1.giveB i).blks.length; omega) hp2 (by rw [e]; exact f2) m2 hu
  · exact m2
/-- What is used stays when another block is cut. -/
theorem cut_mem (ht : tile 184 H.blks (lenB H.blks)) (hi : i < H.blks.length) (hs : isSz (s : Int) = true) (hx : x ∈ H.blks) (hu : x.used = true) (hne : x ≠ bkAt H.blks i) : x ∈ (H.cut i s).blks := by
  unfold Hp.cut
  split
  · exact mem_set_ne (v := { bkAt H.blks i with used := true }) hx hne
  · rename_i hge
    obtain ⟨y, hy⟩ : ∃ y : Bk, (⟨(bkAt H.blks i).off + s, (bkAt H.blks i).size - s, true⟩ : Bk) = y := ⟨_, rfl⟩
    rw [hy]
    have hb := cut_blks (s := s) H hi y
    have hln := cut_len (s := s) H hi y
    obtain ⟨H2, hH2⟩ : ∃ H2, ((H.use i true).size i s).put (i + 1) y = H2 := ⟨_, rfl⟩
    rw [hH2] at hb hln ⊢
    have hss := (isSz_iff _).1 hs
    have hx2 : x ∈ H2.blks := by
      rw [hb]
      obtain ⟨j, hj⟩ := List.mem_iff_getElem?.1 hx
      have e1 : j ≠ i := fun e => by subst e; exact hne (bkAt_of hj).symm
      rcases Nat.lt_or_ge j i with h | h
      · exact List.mem_append_left _ (List.mem_of_getElem? ((List.getElem?_take_of_lt h).trans hj))
      · refine List.mem_append_right _ (List.mem_cons_of_mem _ (List.mem_cons_of_mem _ ?_))
        refine List.mem_of_getElem? (i := j - (i + 1)) ?_
        rw [List.getElem?_drop, show i + 1 + (j - (i + 1)) = j by omega]
        exact hj
    have hat : bkAt H2.blks (i + 1) = y := bkAt_of (by
      rw [hb, List.getElem?_append_right (by rw [List.length_take]; omega), List.length_take, show i + 1 - min i H.blks.length = 1 by omega]
      rfl)
    refine give_mem (H := H2) (by omega) hx2 hu (fun e => ?_)
    rw [hat, ← hy] at e
    have hxs := (isSz_iff _).1 ((tile_mem _ _ _ ht).2 x hx).2.2.1
    have e2 : x.off = (bkAt H.blks i).off + s := by rw [e]
    rcases tile_apart _ _ _ ht x hx _ (List.mem_of_getElem? (bkAt_get hi)) with h | h | h
    · exact hne h
    · omega
    · omega
/-- What is used stays when a block is taken. -/
theorem take_mem (ht : tile 184 H.blks (lenB H.blks)) (hs : isSz (s : Int) = true) (hfr : ∀ i, H.find s = some i → i < H.blks.length ∧ (bkAt H.blks i).used = false) (hx : x ∈ H.blks) (hu : x.used = true) : x ∈ (H.take s).2.blks := by
  unfold Hp.take
  split
  · rename_i i hf
    obtain ⟨h1, h2⟩ := hfr i hf
    exact cut_mem (H := H.out i) ht h1 hs hx hu (fun e => by
      have e : x = bkAt H.blks i := e
      rw [e, h2] at hu; cases hu)
  · split
    · exact hx
    · split
      · rename_i htl
        have hn : 0 < H.blks.length := List.length_pos_of_mem hx
        have hu0 : (bkAt H.blks (H.blks.length - 1)).used = false := by
          cases hu' : (bkAt H.blks (H.blks.length - 1)).used with
          | false => rfl
          | true => unfold tailF at htl; rw [if_neg (by omega), if_pos hu'] at htl; omega
        obtain ⟨k, hk⟩ : ∃ k, H.blks.length - 1 = k := ⟨_, rfl⟩
        rw [hk] at hu0 ⊢
        have hne : x ≠ bkAt H.blks k := fun e => by rw [e, hu0] at hu; cases hu
        have m1 : x ∈ ((H.out k).size k s).blks := mem_set_ne (v := { bkAt H.blks k with size := s }) hx hne
        refine mem_set_ne (l := ((H.out k).size k s).blks) (k := k) (v := { bkAt ((H.out k).size k s).blks k with used := true }) m1 (fun e => ?_)
        have e2 : bkAt ((H.out k).size k s).blks k = { bkAt H.blks k with size := s } := by
          show bkAt (H.blks.set k _) k = _
          rw [bkAt_set _ _ _ _ (by omega), if_pos rfl]
          rfl
        rw [e2] at e
        rw [e] at hu
        have hu : (bkAt H.blks k).used = true := hu
        rw [hu0] at hu
        cases hu
      · show x ∈ H.blks.take _ ++ _ :: H.blks.drop _
        rw [List.take_length]
        exact List.mem_append_left _ hx
end
section
variable {bs : List UInt8} {H : Hp} {s : Nat}
/-- Where a block is moved, both are found. -/
theorem Rt.moves (h : Rt bs H) (hs : isSz (s : Int) = true) {o : Int} : ∀ i q, usedB H.blks o = some i → (H.take s).1 = some q → ∃ iq io, atB (q : Int) (H.take s).2.blks = some iq ∧ atB o (H.take s).2.blks = some io := fun i q hu hq => by
  have ht : tile 184 H.blks (Go.Proofs.YtbldlidpapdkbaaGreatDoor.lenB H.blks) := by rw [h.lenE]; exact (walkB_tiles h.walk).2.1
  obtain ⟨x, hx, hxo, _⟩ := h.what hs hq
  obtain ⟨iq, hiq⟩ := atB_mem hx
  have hib : i < H.blks.length ∧ ((bkAt H.blks i).off : Int) = o ∧ (bkAt H.blks i).used = true := by
    unfold usedB at hu
    split at hu
    · cases hu
    · rename_i j hj
      split at hu
      · rename_i hus
        injection hu with hu
        subst hu
        exact ⟨(atB_at hj).1, (atB_at hj).2, hus⟩
      · cases hu
  obtain ⟨io, hio⟩ := atB_mem (take_mem ht hs (fun j hj => by obtain ⟨a, _, c⟩ := h.found hs hj; exact ⟨a, c⟩) (List.mem_of_getElem? (bkAt_get hib.1)) hib.2.2)
  rw [hxo] at hiq
  rw [hib.2.1] at hio
  exact ⟨iq, io, hiq, hio⟩
end
end Go.Proofs.YtbldlidpapdkbaaGreatDoor

/- The document's heap, plain: bytes within used blocks are no matter; marks in them. No program in sight. -/
namespace Go.Proofs.YtbldlidpapdkbaaGreatDoor

/-- The same bytes but within a block, between its tags. -/
def AgreeB (bs bs' : List UInt8) (x : Bk) : Prop := bs'.length = bs.length ∧ ∀ q, (q < x.off + 8 ∨ x.off + x.size ≤ q + 8) → bs'[q]? = bs[q]?
theorem allF_congr {bs bs' : List UInt8} {c : Nat} : ∀ (k last p : Nat) (l : List Nat), allF bs c k last p = some l → (∀ o ∈ l, memberB bs' o (c : Int) = true ∧ wordN bs' (o + 16) = wordN bs (o + 16) ∧ wordN bs' (o + 8) = wordN bs (o + 8)) → allF bs' c k last p = some l
  | 0, last, p, l, h, _ => by
    unfold allF at h ⊢
    split at h
    · rename_i hp; rw [if_pos hp]; exact h
    · cases h
  | k + 1, last, p, l, h, hm => by
    unfold allF at h ⊢
    by_cases hp : p = 0
    · rw [if_pos hp] at h ⊢; exact h
    · rw [if_neg hp] at h ⊢
      dsimp only at h ⊢
      by_cases hc : memberB bs p (c : Int) = true ∧ wordN bs (p + 16) = last
      · rw [if_pos hc] at h
        cases hr : allF bs c k p (wordN bs (p + 8)) with
        | none => rw [hr] at h; cases h
        | some l' =>
          rw [hr] at h
          injection h with h
          subst h
          obtain ⟨m1, m2, m3⟩ := hm p (by simp)
          rw [if_pos ⟨m1, m2.trans hc.2⟩, m3, allF_congr k p _ l' hr (fun o ho => hm o (by simp [ho]))]
          rfl
      · rw [if_neg hc] at h; cases h
theorem chkC_congr {bs bs' : List UInt8} {l : List Bk} (h : ∀ c, c < 22 → allB bs' c = allB bs c) : ∀ (k c : Nat) (fr : Int), c + k = 22 → chkC bs' l k c fr = chkC bs l k c fr
  | 0, c, fr, _ => rfl
  | k + 1, c, fr, hck => by
    unfold chkC
    rw [h c (by omega)]
    split
    · rfl
    · rw [chkC_congr h k (c + 1) _ (by omega)]
section
variable {bs bs' : List UInt8} {H : Hp} {x : Bk}
theorem Rt.fill (h : Rt bs H) (hx : x ∈ H.blks) (hu : x.used = true) (ha : AgreeB bs bs' x) : Rt bs' H := by
  obtain ⟨h184, ht, hg⟩ := walkB_tiles h.walk
  obtain ⟨hl, hq⟩ := ha
  have hxm := (tile_mem _ _ _ ht).2 x hx
  have hxs := (isSz_iff _).1 hxm.2.2.1
  have hw : ∀ p, (p + 8 ≤ x.off + 8 ∨ x.off + x.size ≤ p + 8) → wordN bs' p = wordN bs p := fun p hp => wordN_congr bs bs' p fun i h1 h2 => hq i (by omega)
  have hget : ∀ y ∈ H.blks, getB bs' (y.off : Int) = some y := fun y hy => by
    have hym := (isSz_iff _).1 ((tile_mem _ _ _ ht).2 y hy).2.2.1
    refine getB_congr bs bs' y hl (hg y hy) ?_ ?_
    · rcases tile_apart _ _ _ ht y hy x hx with rfl | h' | h'
      · exact hw _ (.inl (by omega))
      · exact hw _ (.inl (by omega))
      · exact hw _ (.inr (by omega))
    · rcases tile_apart _ _ _ ht y hy x hx with rfl | h' | h'
      · exact hw _ (.inr (by omega))
      · exact hw _ (.inl (by omega))
      · exact hw _ (.inr (by omega))
  have hwalk : walkB bs' = some H.blks := walkB_tile (by rw [hl]; exact ht) hget
  have hall : ∀ c, c < 22 → allB bs' c = some (H.lists c) := fun c hc => by
    have h1 := h.all_ c hc
    unfold allB at h1 ⊢
    rw [hl, hw 0 (.inl (by omega)), hw (8 + 8 * c) (.inl (by omega))]
    split at h1
    · cases h1
    · rename_i hn
      rw [if_neg hn]
      split at h1
      · cases h1
      · rename_i hb
        rw [if_neg hb]
        refine allF_congr _ _ _ _ h1 fun o ho => ?_
        obtain ⟨y, hy, hyo, hyu, hyc⟩ := freeL_mem ((h.nfree.1 c hc).2 o ho)
        have hym := (isSz_iff _).1 ((tile_mem _ _ _ ht).2 y hy).2.2.1
        have hye := ((tile_mem _ _ _ ht).2 y hy).2.1
        have hmm := memberB_get (allB_member (h.all_ c hc) o ho)
        subst hyo
        have hap : y.off + y.size ≤ x.off ∨ x.off + x.size ≤ y.off := by
          rcases tile_apart _ _ _ ht y hy x hx with h' | h' | h'
          · rw [h', hu] at hyu; cases hyu
          · exact .inl h'
          · exact .inr h'
        refine ⟨?_, ?_, ?_⟩
        · unfold memberB
          rw [hget y hy]
          simp only [Bool.and_eq_true, decide_eq_true_eq, beq_iff_eq, Bool.not_eq_true']
          exact ⟨hmm.1, hyu, hyc⟩
        · rcases hap with h' | h'
          · exact hw _ (.inl (by omega))
          · exact hw _ (.inr (by omega))
        · rcases hap with h' | h'
          · exact hw _ (.inl (by omega))
          · exact hw _ (.inr (by omega))
  refine ⟨hwalk, hall, ?_, by rw [hl]; exact h.len⟩
  have hk := h.chk
  unfold checkB at hk ⊢
  rw [h.walk] at hk
  rw [hwalk]
  dsimp only at hk ⊢
  have hn0 : numO bs' 0 = numO bs 0 := by
    unfold numO word?
    rw [hl]
    split
    · show (some (wordN bs' 0)).getD 0 = (some (wordN bs 0)).getD 0
      rw [hw 0 (.inl (by omega))]
    · rfl
  rw [hn0, chkC_congr (fun c hc => (hall c hc).trans (h.all_ c hc).symm) 22 0 _ rfl]
  exact hk
/-- A stretch laid within a block. -/
theorem agree_lay (d : Nat) (cs : List UInt8) (h1 : x.off + 8 ≤ d) (h2 : d + cs.length + 8 ≤ x.off + x.size) (h3 : x.off + x.size ≤ bs.length) : AgreeB bs (lay bs d cs) x := by
  have hle : d ≤ bs.length := by omega
  refine ⟨?_, fun q hq => ?_⟩
  · unfold lay
    simp only [List.length_append, List.length_take, List.length_drop]
    omega
  · unfold lay
    rcases Nat.lt_or_ge q d with h | h
    · rw [List.getElem?_append_left (by rw [List.length_take]; omega), List.getElem?_take_of_lt h]
    · have hq2 : d + cs.length ≤ q := by omega
      rw [List.getElem?_append_right (by rw [List.length_take]; omega), List.length_take, List.getElem?_append_right (by omega), List.getElem?_drop]
      congr 1
      omega
theorem lay_in (bs : List UInt8) (d : Nat) (cs : List UInt8) (hd : d ≤ bs.length) (k : Nat) (hk : k < cs.length) : (lay bs d cs)[d + k]? = cs[k]? := by
  unfold lay
  rw [List.getElem?_append_right (by rw [List.length_take]; omega), List.length_take, List.getElem?_append_left (by omega), show d + k - min d bs.length = k by omega]
end
end Go.Proofs.YtbldlidpapdkbaaGreatDoor

/- The document's heap, plain: behind a resize all other used blocks stand, and the block has as many bytes as were asked for. No program in sight. -/
namespace Go.Proofs.YtbldlidpapdkbaaGreatDoor

section
variable {bs : List UInt8} {H : Hp} {i s : Nat} {x : Bk}
theorem used_some {l : List Bk} {o : Int} {i : Nat} (h : usedB l o = some i) : i < l.length ∧ ((bkAt l i).off : Int) = o ∧ (bkAt l i).used = true := by
  unfold usedB at h
  split at h
  · cases h
  · rename_i j hj
    split at h
    · rename_i hu
      injection h with h
      subst h
      exact ⟨(atB_at hj).1, (atB_at hj).2, hu⟩
    · cases h
theorem moveD_blks {p o : Int} : (H.moveD p o).blks = H.blks := by unfold Hp.moveD; split <;> rfl
theorem giveO_mem {o : Int} (hx : x ∈ H.blks) (hu : x.used = true) (hne : (x.off : Int) ≠ o) : x ∈ ((H.giveO o).getD H).blks := by
  unfold Hp.giveO
  cases h : usedB H.blks o with
  | none => exact hx
  | some j =>
    obtain ⟨h1, h2, _⟩ := used_some h
    exact give_mem h1 hx hu (fun e => hne (by rw [e]; exact h2))
/-- The block has as many bytes. -/
theorem Rt.rezHas (h : Rt bs H) (hok : H.Ok) (hs : isSz (s : Int) = true) {o : Int} (he : (H.resize o s).1.2 = 0) : ∃ y ∈ (H.resize o s).2.blks, y.used = true ∧ y.off = (H.resize o s).1.1 ∧ s ≤ y.size := by
  unfold Hp.resize at he ⊢
  split
  · rename_i hn
    rw [hn] at he
    cases he
  · rename_i i hi
    obtain ⟨h1, h2, h3⟩ := used_some hi
    rw [hi] at he
    dsimp only at he ⊢
    split
    · rename_i hle
      obtain ⟨y, a, b, c, d, _⟩ := cut_has h1 hle
      exact ⟨y, a, c, b, d⟩
    · rename_i hlt
      rw [if_neg hlt] at he
      have hw := hok.widen h1
      split
      · rename_i hb
        obtain ⟨y, a, b, c, d, _⟩ := cut_has (H := H.widen i) (s := s) hw.2.1 (by rw [hw.2.2]; exact hb)
        rw [hw.2.2] at b
        exact ⟨y, a, c, b, d⟩
      · rename_i hb
        rw [if_neg hb] at he
        split
        · have hat : ((H.widen i).size i s).blks[i]? = some { bkAt (H.widen i).blks i with size := s } := List.getElem?_set_self hw.2.1
          rw [hw.2.2] at hat
          exact ⟨_, List.mem_of_getElem? hat, h3, rfl, Nat.le_refl _⟩
        · rename_i hg
          rw [if_neg hg] at he
          split
          · rename_i hn
            rw [hn] at he
            cases he
          · rename_i q hq
            obtain ⟨y, a, b, c, d, _, ap⟩ := h.what hs hq
            refine ⟨y, ?_, c, b, d⟩
            refine giveO_mem (H := (H.take s).2.moveD (q : Int) o) (by rw [moveD_blks]; exact a) c (fun e => ?_)
            have hap := ap _ (List.mem_of_getElem? (bkAt_get h1)) h3
            have hsz := (isSz_iff _).1 (hok.sz h1)
            have hss := (isSz_iff _).1 hs
            omega
end
end Go.Proofs.YtbldlidpapdkbaaGreatDoor

/- The document's heap, plain: what its blocks hold is moved, never copied, and no step looks at where it lies. No program in sight. -/
namespace Go.Proofs.YtbldlidpapdkbaaGreatDoor

/-- No two slices lie in one block. -/
def Sep (ds : List Dt) : Prop := ds.Pairwise fun a b => ∀ k, a.1.ownBlock = some k → b.1.ownBlock ≠ some k
/-- Nothing new comes in, but nothing. -/
def DsS (ds ds' : List Dt) : Prop := (∀ d ∈ ds', d ∈ ds ∨ d = nilD) ∧ (Sep ds → Sep ds')
theorem DsS.refl (ds : List Dt) : DsS ds ds := ⟨fun _ h => .inl h, id⟩
theorem DsS.trans {a b c : List Dt} (h : DsS a b) (k : DsS b c) : DsS a c := ⟨fun d hd => (k.1 d hd).elim (h.1 d) .inr, fun hs => k.2 (h.2 hs)⟩
theorem DsS.sub {a b : List Dt} (h : List.Sublist b a) : DsS a b := ⟨fun _ hd => .inl (h.subset hd), fun hs => List.Pairwise.sublist h hs⟩
section
variable {H : Hp} {i s : Nat}
end
end Go.Proofs.YtbldlidpapdkbaaGreatDoor

/- The document's heap, plain: where its slices lie is no matter. No program in sight. -/
namespace Go.Proofs.YtbldlidpapdkbaaGreatDoor

section
variable {H : Hp} {i s : Nat}
end
end Go.Proofs.YtbldlidpapdkbaaGreatDoor

/- The document's heap, plain: handles, lists made anew, what a block holds made as long as it is; what getting, and another size of a handle come to. No program in sight. -/
namespace Go.Proofs.YtbldlidpapdkbaaGreatDoor

/-- Which block a handle means. -/
def Hp.handleB (H : Hp) (q : Nat) : Option Nat := if q < 8 ∨ 20000 < q then none else usedB H.blks ((q : Int) - 8)
/-- What a block holds, made as long as it is. -/
def fullL (d : List UInt8) (n : Nat) (x : UInt8) : List UInt8 := d.take n ++ List.replicate (n - d.length) x
theorem fullL_len (d : List UInt8) (n : Nat) (x : UInt8) : (fullL d n x).length = n := by
  unfold fullL
  rw [List.length_append, List.length_take, List.length_replicate]; omega
theorem fullL_at (d : List UInt8) (n : Nat) (x : UInt8) (k : Nat) (hk : k < n) : (fullL d n x)[k]? = some (d.getD k x) := by
  unfold fullL
  rcases Nat.lt_or_ge k d.length with h | h
  · rw [List.getElem?_append_left (by rw [List.length_take]; omega), List.getElem?_take_of_lt hk, List.getD_eq_getElem?_getD, List.getElem?_eq_getElem h]
    rfl
  · rw [List.getElem?_append_right (by rw [List.length_take]; omega), List.getElem?_replicate, if_pos (by rw [List.length_take]; omega), List.getD_eq_getElem?_getD, List.getElem?_eq_none h]
    rfl
/-- The i-th block's slice is another. -/
def Hp.dset (H : Hp) (i : Nat) (d : Dt) : Hp := { H with ds := H.ds.set i d }
/-- What the i-th block holds, made as long as it is. -/
def Hp.fill (H : Hp) (i : Nat) (x : UInt8) : Hp := H.dset i (.slice none 0 0, fullL (H.ds.getD i nilD).2 ((bkAt H.blks i).size - 16) x)
theorem need_sz {n s : Nat} (h : needN n = some s) : isSz (s : Int) = true := by
  unfold needN at h
  split at h
  · injection h with h
    exact (isSz_iff _).2 (by omega)
  · cases h
/-- A handle, an error's number, the heap then. -/
def Hp.get (H : Hp) (n : Nat) (x : UInt8) : (Nat × Int) × Hp := match needN n with
  | none => ((0, 5), H)
  | some s => match (H.take s).1 with
    | none => ((0, 5), H)
    | some o => ((o + 8, 0), match atB (o : Int) (H.take s).2.blks with
      | none => (H.take s).2
      | some i => ((H.take s).2.wipe i).fill i x)
def Hp.calloc (H : Hp) (n m : Nat) : (Nat × Int) × Hp := if 18446744073709551615 < n * m then ((0, 5), H) else H.get (n * m) 0
def Hp.realloc (H : Hp) (q n : Nat) : (Nat × Int) × Hp := match H.handleB q with
  | none => ((0, 4), H)
  | some _ => match needN n with
    | none => ((0, 5), H)
    | some s => if (H.resize ((q : Int) - 8) s).1.2 = 0 then (((H.resize ((q : Int) - 8) s).1.1 + 8, 0), match atB ((H.resize ((q : Int) - 8) s).1.1 : Int) (H.resize ((q : Int) - 8) s).2.blks with
        | none => (H.resize ((q : Int) - 8) s).2
        | some i => (H.resize ((q : Int) - 8) s).2.fill i 165)
      else ((0, (H.resize ((q : Int) - 8) s).1.2), (H.resize ((q : Int) - 8) s).2)
theorem handle_used {H : Hp} {q i : Nat} (h : H.handleB q = some i) : 8 ≤ q ∧ q ≤ 20000 ∧ usedB H.blks ((q : Int) - 8) = some i := by
  unfold Hp.handleB at h
  split at h
  · cases h
  · exact ⟨by omega, by omega, h⟩
theorem resize_zero (H : Hp) (o : Int) (s : Nat) (h : (H.resize o s).1.2 ≠ 0) : (H.resize o s).1.1 = 0 ∧ (H.resize o s).2 = H ∧ ((H.resize o s).1.2 = 3 ∨ (H.resize o s).1.2 = 5) := by
  unfold Hp.resize at h ⊢
  split
  · exact ⟨rfl, rfl, .inl rfl⟩
  · rename_i i hi
    rw [hi] at h
    dsimp only at h ⊢
    split
    · rename_i h1; rw [if_pos h1] at h; exact absurd rfl h
    · rename_i h1
      rw [if_neg h1] at h
      split
      · rename_i h2; rw [if_pos h2] at h; exact absurd rfl h
      · rename_i h2
        rw [if_neg h2] at h
        split
        · rename_i h3; rw [if_pos h3] at h; exact absurd rfl h
        · rename_i h3
          rw [if_neg h3] at h
          split
          · exact ⟨rfl, rfl, .inr rfl⟩
          · rename_i p hp
            rw [hp] at h
            exact absurd rfl h
end Go.Proofs.YtbldlidpapdkbaaGreatDoor

/- The document's heap, plain: each used block holds what it held, whatever is given, cut, taken, resized. No program in sight. -/
namespace Go.Proofs.YtbldlidpapdkbaaGreatDoor

theorem del_at {α : Type} (l : List α) (i j : Nat) : (l.take i ++ l.drop (i + 1))[j]? = if j < i then l[j]? else l[j + 1]? := by
  rcases Nat.lt_or_ge j i with h | h
  · rw [if_pos h]
    rcases Nat.lt_or_ge j l.length with h2 | h2
    · rw [List.getElem?_append_left (by rw [List.length_take]; omega), List.getElem?_take_of_lt h]
    · rw [List.getElem?_append_right (by rw [List.length_take]; omega), List.getElem?_drop, List.getElem?_eq_none (by omega), List.getElem?_eq_none (by omega)]
  · rw [if_neg (by omega)]
    rw [List.getElem?_append_right (by rw [List.length_take]; omega), List.length_take, List.getElem?_drop]
    rcases Nat.lt_or_ge l.length i with h2 | h2
    · rw [List.getElem?_eq_none (by omega), List.getElem?_eq_none (by omega)]
    · congr 1; omega
theorem ins_at {α : Type} (l : List α) (i j : Nat) (y : α) (hi : i ≤ l.length) : (l.take i ++ y :: l.drop i)[j]? = if j < i then l[j]? else if j = i then some y else l[j - 1]? := by
  rcases Nat.lt_or_ge j i with h | h
  · rw [if_pos h, List.getElem?_append_left (by rw [List.length_take]; omega), List.getElem?_take_of_lt h]
  · rw [if_neg (by omega), List.getElem?_append_right (by rw [List.length_take]; omega), List.length_take]
    by_cases e : j = i
    · rw [if_pos e, show j - min i l.length = 0 by omega]; rfl
    · rw [if_neg e, show j - min i l.length = (j - 1 - i) + 1 by omega, List.getElem?_cons_succ, List.getElem?_drop]
      congr 1; omega

/-- The j-th block, and what it holds. -/
def Hp.At (H : Hp) (j : Nat) (x : Bk) (d : Dt) : Prop := H.blks[j]? = some x ∧ H.ds[j]? = some d
section
variable {H : Hp} {i j k s : Nat} {x : Bk} {d : Dt}
theorem drop_At (h : (H.drop k).At j x d) : ∃ j', j' ≠ k ∧ H.At j' x d ∧ (j < k → j' = j) ∧ (k ≤ j → j' = j + 1) := by
  obtain ⟨h1, h2⟩ := h
  have h1 : (H.blks.take k ++ H.blks.drop (k + 1))[j]? = some x := h1
  have h2 : (H.ds.take k ++ H.ds.drop (k + 1))[j]? = some d := h2
  rw [del_at] at h1 h2
  split at h1
  · rename_i hj
    rw [if_pos hj] at h2
    exact ⟨j, by omega, ⟨h1, h2⟩, fun _ => rfl, fun h => by omega⟩
  · rename_i hj
    rw [if_neg hj] at h2
    exact ⟨j + 1, by omega, ⟨h1, h2⟩, fun h => by omega, fun _ => rfl⟩
theorem set_At {y : Bk} {l : List Bk} (h1 : (l.set i y)[j]? = some x) : (j = i ∧ x = y ∧ i < l.length) ∨ (j ≠ i ∧ l[j]? = some x) := by
  rw [List.getElem?_set] at h1
  split at h1
  · rename_i e
    split at h1
    · rename_i hi
      injection h1 with h1
      exact .inl ⟨e.symm, h1.symm, hi⟩
    · cases h1
  · rename_i e
    exact .inr ⟨fun e' => e e'.symm, h1⟩
theorem size_At (h : (H.size i s).At j x d) : ∃ x0, H.At j x0 d ∧ x0.off = x.off ∧ x0.used = x.used ∧ (j ≠ i → x0 = x) := by
  obtain ⟨h1, h2⟩ := h
  rcases set_At h1 with ⟨rfl, rfl, hi⟩ | ⟨hj, h1⟩
  · exact ⟨bkAt H.blks j, ⟨bkAt_get hi, h2⟩, rfl, rfl, fun e => absurd rfl e⟩
  · exact ⟨x, ⟨h1, h2⟩, rfl, rfl, fun _ => rfl⟩
theorem use_At {u : Bool} (h : (H.use i u).At j x d) : (j = i ∧ x = { bkAt H.blks i with used := u } ∧ i < H.blks.length ∧ H.ds[i]? = some d) ∨ (j ≠ i ∧ H.At j x d) := by
  obtain ⟨h1, h2⟩ := h
  rcases set_At h1 with ⟨rfl, h3, h4⟩ | ⟨hj, h1⟩
  · exact .inl ⟨rfl, h3, h4, h2⟩
  · exact .inr ⟨hj, h1, h2⟩
theorem wipe_At (h : (H.wipe i).At j x d) (hj : j ≠ i) : H.At j x d := by
  obtain ⟨h1, h2⟩ := h
  have h2 : (H.ds.set i nilD)[j]? = some d := h2
  rw [List.getElem?_set_ne (fun e => hj e.symm)] at h2
  exact ⟨h1, h2⟩
theorem join_At (h : (H.join i).At j x d) : (∃ x0, H.At i x0 d ∧ x0.off = x.off ∧ x0.used = x.used) ∨ ∃ j', j' ≠ i ∧ j' ≠ i + 1 ∧ H.At j' x d := by
  unfold Hp.join at h
  obtain ⟨j', hj, h, _⟩ := drop_At h
  obtain ⟨x0, h1, h2, h3, h4⟩ := size_At h
  by_cases e : j' = i
  · subst e
    exact .inl ⟨x0, h1, h2, h3⟩
  · rw [h4 e] at h1
    exact .inr ⟨j', e, hj, h1⟩
theorem used_bk (h : H.blks[j]? = some x) (hu : (bkAt H.blks j).used = false) : x.used = false := by rw [← bkAt_of h]; exact hu
/-- Behind a giving back whatever is used was used, and is another one. -/
theorem give_At (hi : i < H.blks.length) (h : (H.give i).At j x d) (hu : x.used = true) : ∃ j', j' ≠ i ∧ H.At j' x d := by
  unfold Hp.give at h
  have f0 : bkAt ((H.use i false).wipe i).blks i = { bkAt H.blks i with used := false } := by
    show bkAt (H.blks.set i _) i = _
    rw [bkAt_set _ _ _ _ hi, if_pos rfl]
  have fin : ∀ j', ((H.use i false).wipe i).At j' x d → ∃ j', j' ≠ i ∧ H.At j' x d := fun j' hh => by
    by_cases e : j' = i
    · subst e
      have := used_bk hh.1 (by rw [f0])
      rw [hu] at this; cases this
    · have hw := wipe_At hh e
      rcases use_At hw with ⟨e', _⟩ | ⟨_, hw⟩
      · exact absurd e' e
      · exact ⟨j', e, hw⟩
  obtain ⟨H1, hH1⟩ : ∃ H1, (H.use i false).wipe i = H1 := ⟨_, rfl⟩
  have hi1 : i < H1.blks.length := by rw [← hH1]; show i < (H.blks.set i _).length; rw [List.length_set]; exact hi
  rw [hH1] at h f0 fin
  have f1 : (bkAt H1.blks i).used = false := by rw [f0]
  have mid : ∀ j', (H1.giveB i).At j' x d → ∃ j', j' ≠ i ∧ H.At j' x d := fun j' hh => by
    unfold Hp.giveB at hh
    split at hh
    · rcases join_At (H := H1.out (i + 1)) hh with ⟨x0, h1, h2, h3⟩ | ⟨j2, _, _, h1⟩
      · have : x0.used = false := used_bk (H := H1) h1.1 f1
        rw [h3, hu] at this; cases this
      · exact fin j2 ⟨h1.1, h1.2⟩
    · exact fin j' hh
  obtain ⟨H2, hH2⟩ : ∃ H2, H1.giveB i = H2 := ⟨_, rfl⟩
  rw [hH2] at h mid
  unfold Hp.giveC at h
  split at h
  · rename_i hp
    have hp := (prev_free hp).2
    rcases join_At (H := H2.out (i - 1)) (i := i - 1) ⟨h.1, h.2⟩ with ⟨x0, h1, h2, h3⟩ | ⟨j2, _, _, h1⟩
    · have : x0.used = false := used_bk (H := H2) h1.1 hp
      rw [h3, hu] at this; cases this
    · exact mid j2 ⟨h1.1, h1.2⟩
  · exact mid j ⟨h.1, h.2⟩
/-- Behind a cut: the block itself, and all others that were used. -/
theorem cut_At (hd : H.Dl) (hi : i < H.blks.length) (h : (H.cut i s).At j x d) (hu : x.used = true) : (∃ x0, H.At i x0 d ∧ x0.off = x.off) ∨ ∃ j', j' ≠ i ∧ H.At j' x d := by
  unfold Hp.cut at h
  split at h
  · rcases use_At h with ⟨rfl, rfl, h3, h4⟩ | ⟨hj, h⟩
    · exact .inl ⟨bkAt H.blks j, ⟨bkAt_get h3, h4⟩, rfl⟩
    · exact .inr ⟨j, hj, h⟩
  · have hlen : ((H.use i true).size i s).blks.length = H.blks.length := by
      show ((H.blks.set i _).set i _).length = _
      rw [List.length_set, List.length_set]
    have hlp : i + 1 < (((H.use i true).size i s).put (i + 1) ⟨(bkAt H.blks i).off + s, (bkAt H.blks i).size - s, true⟩).blks.length := by
      show i + 1 < (((H.use i true).size i s).blks.take (i + 1) ++ _ :: ((H.use i true).size i s).blks.drop (i + 1)).length
      simp only [List.length_append, List.length_take, List.length_cons, List.length_drop]
      omega
    obtain ⟨j1, hj1, h1⟩ := give_At hlp h hu
    obtain ⟨a, b⟩ := h1
    have a : (((H.use i true).size i s).blks.take (i + 1) ++ _ :: ((H.use i true).size i s).blks.drop (i + 1))[j1]? = some x := a
    have b : (H.ds.take (i + 1) ++ nilD :: H.ds.drop (i + 1))[j1]? = some d := b
    have hd : H.ds.length = H.blks.length := hd
    rw [ins_at _ _ _ _ (by omega)] at a b
    have key : ∀ j2, ((H.use i true).size i s).blks[j2]? = some x → H.ds[j2]? = some d → (∃ x0, H.At i x0 d ∧ x0.off = x.off) ∨ ∃ j', j' ≠ i ∧ H.At j' x d := fun j2 a b => by
      obtain ⟨x0, c1, c2, c3, c4⟩ := size_At (H := H.use i true) (i := i) (s := s) (j := j2) ⟨a, b⟩
      rcases use_At c1 with ⟨rfl, rfl, h3, h4⟩ | ⟨hj, c1⟩
      · exact .inl ⟨bkAt H.blks j2, ⟨bkAt_get h3, h4⟩, c2⟩
      · rw [c4 hj] at c1
        exact .inr ⟨j2, hj, c1⟩
    by_cases e : j1 < i + 1
    · rw [if_pos e] at a b
      exact key j1 a b
    · rw [if_neg e, if_neg hj1] at a b
      exact key _ a b
/-- Behind a taking: the new one, and all that were used. -/
theorem take_At (hd : H.Dl) (hfr : ∀ i, H.find s = some i → i < H.blks.length ∧ (bkAt H.blks i).used = false) (h : (H.take s).2.At j x d) (hu : x.used = true) : (H.take s).1 = some x.off ∨ ∃ j', H.At j' x d := by
  unfold Hp.take at h ⊢
  split at h
  · rename_i i hf
    rcases cut_At (H := H.out i) hd (hfr i hf).1 h hu with ⟨x0, h1, h2⟩ | ⟨j', _, h1⟩
    · left
      rw [← h2, bkAt_of (show H.blks[i]? = some x0 from h1.1)]
    · exact .inr ⟨j', h1.1, h1.2⟩
  · rename_i hf
    split at h
    · exact .inr ⟨j, h⟩
    · rename_i hcp
      rw [if_neg hcp]
      split at h
      · rename_i htl
        rw [if_pos htl]
        rcases use_At h with ⟨rfl, rfl, h3, h4⟩ | ⟨hj, h⟩
        · left
          have h3 : H.blks.length - 1 < H.blks.length := by
            have h3 : H.blks.length - 1 < (H.blks.set _ _).length := h3
            rw [List.length_set] at h3; exact h3
          show some (bkAt H.blks (H.blks.length - 1)).off = some (bkAt (H.blks.set (H.blks.length - 1) { bkAt H.blks (H.blks.length - 1) with size := s }) (H.blks.length - 1)).off
          rw [bkAt_set _ _ _ _ h3, if_pos rfl]
        · obtain ⟨x0, c1, c2, c3, c4⟩ := size_At (H := H.out (H.blks.length - 1)) h
          rw [c4 hj] at c1
          exact .inr ⟨j, c1.1, c1.2⟩
      · rename_i htl
        rw [if_neg htl]
        obtain ⟨a, b⟩ := h
        have a : (H.blks.take H.blks.length ++ _ :: H.blks.drop H.blks.length)[j]? = some x := a
        have b : (H.ds.take H.blks.length ++ nilD :: H.ds.drop H.blks.length)[j]? = some d := b
        have hd : H.ds.length = H.blks.length := hd
        rw [ins_at _ _ _ _ (by omega)] at a b
        by_cases e : j < H.blks.length
        · rw [if_pos e] at a b
          exact .inr ⟨j, a, b⟩
        · rw [if_neg e] at a b
          by_cases e2 : j = H.blks.length
          · rw [if_pos e2] at a
            injection a with a
            left
            rw [← a]
          · rw [if_neg e2] at a b
            exact .inr ⟨_, a, b⟩
end
end Go.Proofs.YtbldlidpapdkbaaGreatDoor

/- The document's heap, plain: each used block holds what it held when one is resized. No program in sight. -/
namespace Go.Proofs.YtbldlidpapdkbaaGreatDoor

/-- What the block held it holds, where it stands now, as far as both go. -/
def Moved (H : Hp) (bs : List UInt8) (o : Int) (H' : Hp) (out : List UInt8) (p : Nat) : Prop :=
  ∀ x ∈ H.blks, x.used = true → (x.off : Int) = o → ∀ y ∈ H'.blks, y.used = true → y.off = p → ∀ i, 8 ≤ i → i + 8 < x.size → i + 8 < y.size → out[p + i]? = bs[x.off + i]?
/-- No two blocks stand at one place. -/
def Hp.One (H : Hp) : Prop := ∀ (a b : Nat) (x y : Bk), H.blks[a]? = some x → H.blks[b]? = some y → x.off = y.off → a = b
theorem Rt.one {bs : List UInt8} {H : Hp} (h : Rt bs H) : H.One := fun a b x y ha hb e => by
  have hpw := List.pairwise_iff_getElem.1 (tile_ne _ _ _ (walkB_tiles h.walk).2.1)
  have e1 : H.blks[a]'(lst_lt ha) = x := by have := List.getElem?_eq_getElem (lst_lt ha); rw [ha] at this; exact (Option.some.inj this).symm
  have e2 : H.blks[b]'(lst_lt hb) = y := by have := List.getElem?_eq_getElem (lst_lt hb); rw [hb] at this; exact (Option.some.inj this).symm
  rcases Nat.lt_trichotomy a b with h' | h' | h'
  · exact absurd (by rw [e1, e2]; exact e) (hpw a b (lst_lt ha) (lst_lt hb) h')
  · exact h'
  · exact absurd (by rw [e1, e2]; exact e.symm) (hpw b a (lst_lt hb) (lst_lt ha) h')
section
variable {H : Hp} {i j k s : Nat} {x : Bk} {d : Dt}
theorem widen_At (h : (H.widen i).At j x d) : ∃ j' x0, H.At j' x0 d ∧ x0.off = x.off ∧ x0.used = x.used ∧ (j = i → j' = i) ∧ (j ≠ i → j' ≠ i ∧ x0 = x) := by
  unfold Hp.widen at h
  obtain ⟨x0, h1, h2, h3, h4⟩ := size_At h
  unfold Hp.swallow at h1
  split at h1
  · obtain ⟨j', c1, h1, c2, c3⟩ := drop_At h1
    exact ⟨j', x0, ⟨h1.1, h1.2⟩, h2, h3, fun e => by rw [c2 (by omega), e], fun e => ⟨by
      rcases Nat.lt_or_ge j (i + 1) with hh | hh
      · rw [c2 hh]; exact e
      · rw [c3 hh]; omega, h4 e⟩⟩
  · exact ⟨j, x0, h1, h2, h3, id, fun e => ⟨e, h4 e⟩⟩
theorem moveD_At {p o : Int} (h : (H.moveD p o).At j x d) : (H.At j x d ∧ ∀ ip io, atB p H.blks = some ip → atB o H.blks = some io → j ≠ ip) ∨ ((x.off : Int) = p ∧ ∃ io xo, atB o H.blks = some io ∧ H.blks[io]? = some xo ∧ d = H.ds.getD io nilD) := by
  unfold Hp.moveD at h
  split at h
  · rename_i ip io h1 h2
    obtain ⟨a, b⟩ := h
    have b : (H.ds.set ip (H.ds.getD io nilD))[j]? = some d := b
    have a' : H.blks[j]? = some x := a
    by_cases e : j = ip
    · subst e
      have hl : j < H.ds.length := by
        have := lst_lt b
        rwa [List.length_set] at this
      rw [List.getElem?_set_self hl] at b
      injection b with b
      obtain ⟨x1, e1, e2⟩ := atB_some h1
      obtain ⟨x2, e3, _⟩ := atB_some h2
      obtain rfl : x = x1 := Option.some.inj (a'.symm.trans e1)
      exact .inr ⟨e2, io, x2, h2, e3, b.symm⟩
    · rw [List.getElem?_set_ne (fun e' => e e'.symm)] at b
      exact .inl ⟨⟨a', b⟩, fun ip' io' h3 _ => by rw [h1] at h3; injection h3 with h3; rw [← h3]; exact e⟩
  · rename_i hn
    exact .inl ⟨h, fun ip io h1 h2 => absurd h2 (hn ip io h1)⟩
theorem giveO_At {o : Int} (h : ((H.giveO o).getD H).At j x d) (hu : x.used = true) : ∃ j', H.At j' x d ∧ ∀ i, usedB H.blks o = some i → j' ≠ i := by
  unfold Hp.giveO at h
  cases hi : usedB H.blks o with
  | none => rw [hi] at h; exact ⟨j, h, fun i hh => by cases hh⟩
  | some i =>
    rw [hi] at h
    obtain ⟨j', e, h'⟩ := give_At (used_some hi).1 h hu
    exact ⟨j', h', fun i' hh => by injection hh with hh; rw [← hh]; exact e⟩
/-- Behind a resize: another used block is as it was; that which was resized holds what it held. -/
theorem resize_At (hd : H.Dl) {o : Int} (h0 : H.One) (he : (H.resize o s).1.2 = 0) (hfr : ∀ i, H.find s = some i → i < H.blks.length ∧ (bkAt H.blks i).used = false) (hone : (H.take s).2.One)
    (hmv : ∀ i q, usedB H.blks o = some i → (H.take s).1 = some q → (∃ iq, atB (q : Int) (H.take s).2.blks = some iq) ∧ ∃ io x0, atB o (H.take s).2.blks = some io ∧ usedB (H.take s).2.blks o = some io ∧ (H.take s).2.blks[io]? = some x0 ∧ x0.used = true ∧ x0.off ≠ q)
    (h : (H.resize o s).2.At j x d) (hu : x.used = true) : ∃ j' x0, H.At j' x0 d ∧ x0.used = true ∧ ((x0 = x ∧ (x0.off : Int) ≠ o) ∨ ((x0.off : Int) = o ∧ x.off = (H.resize o s).1.1)) := by
  unfold Hp.resize at h he ⊢
  split at h
  · rename_i hn
    rw [hn] at he
    cases he
  · rename_i i hi
    rw [hi] at he
    obtain ⟨h1, h2, h3⟩ := used_some hi
    have hoth : ∀ j' x0, H.blks[j']? = some x0 → j' ≠ i → (x0.off : Int) ≠ o := fun j' x0 a e e' => e (h0 j' i x0 _ a (bkAt_get h1) (by omega))
    have hat : ∀ x0, H.blks[i]? = some x0 → (x0.off : Int) = o ∧ x0.used = true ∧ x0.off = (bkAt H.blks i).off := fun x0 a => by rw [← bkAt_of a]; exact ⟨h2, h3, rfl⟩
    split at h
    · rename_i hle
      rw [if_pos hle]
      rcases cut_At hd h1 h hu with ⟨x0, a, b⟩ | ⟨j', e, a⟩
      · obtain ⟨c1, c2, c3⟩ := hat x0 a.1
        exact ⟨i, x0, a, c2, .inr ⟨c1, by rw [← b, c3]⟩⟩
      · exact ⟨j', x, a, hu, .inl ⟨rfl, hoth j' x a.1 e⟩⟩
    · rename_i hlt
      dsimp only at he
      rw [if_neg hlt] at he
      split at h
      · rename_i hle
        rw [if_neg hlt, if_pos hle]
        have hw : (H.widen i).Dl := hd.widen
        have hwi : i < (H.widen i).blks.length := by
          cases hn : nextF H.blks i with
          | true => rw [(widen_blks hn).1]; exact (join_at (H.out (i + 1)) (i := i) (next_lt hn)).1
          | false => rw [(widen_same hn h1).1]; exact h1
        rcases cut_At hw hwi h hu with ⟨x0, a, b⟩ | ⟨j', e, a⟩
        · obtain ⟨j2, x2, c1, c2, c3, c4, _⟩ := widen_At a
          obtain rfl := c4 rfl
          obtain ⟨d1, d2, d3⟩ := hat x2 c1.1
          exact ⟨j2, x2, c1, d2, .inr ⟨d1, by rw [← b, ← c2, d3]⟩⟩
        · obtain ⟨j2, x2, c1, c2, c3, _, c5⟩ := widen_At a
          obtain ⟨e2, rfl⟩ := c5 e
          exact ⟨j2, x2, c1, hu, .inl ⟨rfl, hoth j2 x2 c1.1 e2⟩⟩
      · rename_i hlt2
        rw [if_neg hlt2] at he
        split at h
        · rename_i hg
          rw [if_neg hlt, if_neg hlt2, if_pos hg]
          obtain ⟨x0, a, b, c, c'⟩ := size_At h
          obtain ⟨j2, x2, c1, c2, c3, c4, c5⟩ := widen_At a
          by_cases e : j = i
          · obtain rfl := c4 e
            obtain ⟨d1, d2, d3⟩ := hat x2 c1.1
            exact ⟨j2, x2, c1, d2, .inr ⟨d1, by rw [← b, ← c2, d3]⟩⟩
          · obtain ⟨e2, rfl⟩ := c5 e
            obtain rfl := c' e
            exact ⟨j2, x2, c1, hu, .inl ⟨rfl, hoth j2 x2 c1.1 e2⟩⟩
        · rename_i hg
          rw [if_neg hg] at he
          rw [if_neg hlt, if_neg hlt2, if_neg hg]
          cases hq : (H.take s).1 with
          | none =>
            rw [hq] at he
            cases he
          | some q =>
            rw [hq] at h
            obtain ⟨⟨iq, hiq⟩, io', x0, c1, cu, c2, c3, c4⟩ := hmv i q hi hq
            obtain ⟨j1, a, hj1⟩ := giveO_At h hu
            rw [moveD_blks] at hj1
            have hj1 := hj1 io' cu
            obtain ⟨xq, e1, e2⟩ := atB_some c1
            rw [c2] at e1
            injection e1 with e1
            subst e1
            rcases moveD_At a with ⟨a, hne⟩ | ⟨a, io, xo, b1, b2, b3⟩
            · rcases take_At hd hfr a hu with e | ⟨j2, b⟩
              · rw [hq] at e
                injection e with e
                obtain ⟨y, f1, f2⟩ := atB_some hiq
                exact absurd (hone j1 iq x y a.1 f1 (by omega)) (hne iq io' hiq c1)
              · exact ⟨j2, x, b, hu, .inl ⟨rfl, fun e => hj1 (hone j1 io' x x0 a.1 c2 (by omega))⟩⟩
            · rw [b1] at c1
              injection c1 with c1
              subst c1
              rw [b2] at c2
              injection c2 with c2
              subst c2
              have hat : (H.take s).2.At io xo d := ⟨b2, by
                have hdl : (H.take s).2.ds.length = (H.take s).2.blks.length := hd.take
                have : io < (H.take s).2.ds.length := by rw [hdl]; exact lst_lt b2
                rw [b3, List.getD_eq_getElem?_getD, List.getElem?_eq_getElem this]; rfl⟩
              rcases take_At hd hfr hat c3 with e | ⟨j2, b⟩
              · rw [hq] at e
                injection e with e
                exact absurd e.symm c4
              · exact ⟨j2, xo, b, c3, .inr ⟨e2, by show x.off = q; omega⟩⟩
end
end Go.Proofs.YtbldlidpapdkbaaGreatDoor

/- The document's heap, plain: a heap in bytes whose used blocks hold what they are to hold: kept by giving, getting, resizing, writing. No program in sight. -/
namespace Go.Proofs.YtbldlidpapdkbaaGreatDoor

/-- What the used blocks hold lies in the bytes. -/
def Holds (bs : List UInt8) (H : Hp) : Prop := ∀ j x d, H.At j x d → x.used = true → d.2.length + 16 = x.size ∧ ∀ k, k < d.2.length → bs[x.off + 8 + k]? = d.2[k]?
structure RtD (bs : List UInt8) (H : Hp) : Prop where
  rt : Rt bs H
  dl : H.Dl
  ho : Holds bs H
section
variable {bs out : List UInt8} {H H' : Hp} {s : Nat}
theorem Rt.sz (h : Rt bs H) {x : Bk} (hx : x ∈ H.blks) : 184 ≤ x.off ∧ 32 ≤ x.size ∧ x.size ≤ 16384 ∧ x.off + x.size ≤ bs.length := by
  have := (tile_mem _ _ _ (walkB_tiles h.walk).2.1).2 x hx
  have sz := (isSz_iff _).1 this.2.2.1
  omega
theorem Rt.apart (h : Rt bs H) {x y : Bk} (hx : x ∈ H.blks) (hy : y ∈ H.blks) (hne : x.off ≠ y.off) : x.off + x.size ≤ y.off ∨ y.off + y.size ≤ x.off := by
  rcases tile_apart _ _ _ (walkB_tiles h.walk).2.1 x hx y hy with e | e | e
  · exact absurd (by rw [e]) hne
  · exact .inl e
  · exact .inr e
/-- What was used and is used holds the same. -/
theorem RtD.keep (h : RtD bs H) (hh : Held H bs H' out) {x : Bk} {d : Dt} {j : Nat} (ha : H.At j x d) (hu : x.used = true) (hx : x ∈ H'.blks) : d.2.length + 16 = x.size ∧ ∀ k, k < d.2.length → out[x.off + 8 + k]? = d.2[k]? := by
  obtain ⟨h1, h2⟩ := h.ho j x d ha hu
  have hm := List.mem_of_getElem? ha.1
  refine ⟨h1, fun k hk => ?_⟩
  rw [hh x hm hu x hx hu rfl (x.off + 8 + k) (by omega) (by omega) (by omega)]
  exact h2 k hk
/-- A block is given back. -/
theorem RtD.freed (h : RtD bs H) {i : Nat} (hi : i < H.blks.length) (h' : Rt out (H.give i)) (hh : Held H bs (H.give i) out) : RtD out (H.give i) :=
  ⟨h', h.dl.give, fun j x d ha hu => by
    obtain ⟨j', _, hb⟩ := give_At hi ha hu
    exact h.keep hh hb hu (List.mem_of_getElem? ha.1)⟩
theorem lay_out (b : List UInt8) (d : Nat) (cs : List UInt8) (hd : d + cs.length ≤ b.length) (q : Nat) (hq : q < d ∨ d + cs.length ≤ q) : (lay b d cs)[q]? = b[q]? := by
  unfold lay
  rcases hq with h | h
  · rw [List.getElem?_append_left (by rw [List.length_take]; omega), List.getElem?_take_of_lt h]
  · rw [List.getElem?_append_right (by rw [List.length_take]; omega), List.length_take, List.getElem?_append_right (by omega), List.getElem?_drop]
    congr 1
    omega
/-- What a block holds is laid anew, in the bytes and beside them. -/
theorem RtD.fills (h' : Rt out H') (hd : H'.Dl) {i : Nat} {y : Bk} (hy : H'.blks[i]? = some y) (hyu : y.used = true) (V : Value) {L : List UInt8} (hL : L.length + 16 = y.size) {b2 : List UInt8} (hag : AgreeB out b2 y) (hb2 : ∀ k, k < L.length → b2[y.off + 8 + k]? = L[k]?)
    (hoth : ∀ j x d, H'.At j x d → x.used = true → j ≠ i → d.2.length + 16 = x.size ∧ ∀ k, k < d.2.length → out[x.off + 8 + k]? = d.2[k]?) : RtD b2 (H'.dset i (V, L)) := by
  have hym := List.mem_of_getElem? hy
  have hf := h'.fill hym hyu hag
  refine ⟨⟨hf.walk, hf.all_, hf.chk, hf.len⟩, by show (H'.ds.set i _).length = _; rw [List.length_set]; exact hd, fun j x d ha hu => ?_⟩
  obtain ⟨a, b⟩ := ha
  have a' : H'.blks[j]? = some x := a
  have b : (H'.ds.set i (V, L))[j]? = some d := b
  by_cases e : j = i
  · subst e
    obtain rfl : y = x := Option.some.inj (hy.symm.trans a')
    have hl : j < H'.ds.length := by have := lst_lt b; rwa [List.length_set] at this
    rw [List.getElem?_set_self hl] at b
    injection b with b
    subst b
    exact ⟨hL, hb2⟩
  · rw [List.getElem?_set_ne (fun e' => e e'.symm)] at b
    obtain ⟨c1, c2⟩ := hoth j x d ⟨a', b⟩ hu e
    refine ⟨c1, fun k hk => ?_⟩
    rw [← c2 k hk]
    have hxm := List.mem_of_getElem? a'
    have hap := h'.apart hxm hym (fun e' => e (h'.one _ _ _ _ a' hy e'))
    exact hag.2 _ (by omega)
theorem agree_self (b : List UInt8) (x : Bk) : AgreeB b b x := ⟨rfl, fun _ _ => rfl⟩
theorem wipe_getD (H : Hp) (i : Nat) : ((H.wipe i).ds.getD i nilD).2 = [] := by
  show ((H.ds.set i nilD).getD i nilD).2 = []
  rw [List.getD_eq_getElem?_getD, List.getElem?_set]
  split
  · split <;> rfl
  · rename_i e; exact absurd rfl e
/-- A block is taken, and filled. -/
theorem RtD.got (h : RtD bs H) {o : Nat} (hs : isSz (s : Int) = true) (hq : (H.take s).1 = some o) (h1 : Rt out (H.take s).2) (hh : Held H bs (H.take s).2 out) (v : UInt8) :
    ∃ i y, atB (o : Int) (H.take s).2.blks = some i ∧ (H.take s).2.blks[i]? = some y ∧ y.off = o ∧ y.used = true ∧ s ≤ y.size ∧ y.off + y.size ≤ out.length ∧ RtD (lay out (o + 8) (List.replicate (y.size - 16) v)) (((H.take s).2.wipe i).fill i v) := by
  obtain ⟨y, y1, y2, y3, y4, y5, y6⟩ := h.rt.what hs hq
  obtain ⟨i, hi⟩ := atB_mem y1
  rw [y2] at hi
  obtain ⟨y', e1, e2⟩ := atB_some hi
  obtain ⟨k, hk⟩ := List.mem_iff_getElem?.1 y1
  obtain rfl : i = k := h1.one _ _ _ _ e1 hk (by omega)
  have hsz := h1.sz y1
  refine ⟨i, y, hi, hk, y2, y3, y4, hsz.2.2.2, ?_⟩
  unfold Hp.fill
  rw [wipe_getD]
  have eb : bkAt ((H.take s).2.wipe i).blks i = y := bkAt_of (show (H.take s).2.blks[i]? = some y from hk)
  rw [eb]
  have eL : fullL [] (y.size - 16) v = List.replicate (y.size - 16) v := by unfold fullL; simp
  rw [eL]
  have hll : (List.replicate (y.size - 16) v).length = y.size - 16 := List.length_replicate
  refine RtD.fills (H' := (H.take s).2.wipe i) (y := y) ⟨h1.walk, h1.all_, h1.chk, h1.len⟩ ?_ hk y3 _ (by omega) (agree_lay (x := y) _ _ (by omega) (by omega) (by omega)) (fun k hk2 => ?_) (fun j x d ha hu hne => ?_)
  · show ((H.take s).2.ds.set i nilD).length = _
    rw [List.length_set]; exact h.dl.take
  · rw [show y.off + 8 + k = o + 8 + k by omega]
    exact lay_in out (o + 8) _ (by omega) k hk2
  · have ha := wipe_At ha hne
    rcases take_At h.dl (fun j hj => by obtain ⟨a, _, c⟩ := h.rt.found hs hj; exact ⟨a, c⟩) ha hu with e | ⟨j', hb⟩
    · rw [hq] at e
      injection e with e
      exact absurd (h1.one _ _ _ _ ha.1 hk (by omega)) hne
    · exact h.keep hh hb hu (List.mem_of_getElem? ha.1)
theorem resize_place {o : Int} (he : (H.resize o s).1.2 = 0) : ((H.resize o s).1.1 : Int) = o ∨ (H.take s).1 = some (H.resize o s).1.1 := by
  unfold Hp.resize at he ⊢
  split
  · rename_i hn; rw [hn] at he; cases he
  · rename_i i hi
    obtain ⟨h1, h2, h3⟩ := used_some hi
    rw [hi] at he
    dsimp only at he
    split
    · exact .inl h2
    · rename_i a; rw [if_neg a] at he
      split
      · exact .inl h2
      · rename_i b; rw [if_neg b] at he
        split
        · exact .inl h2
        · rename_i c; rw [if_neg c] at he
          split
          · rename_i d; rw [d] at he; cases he
          · rename_i d; exact .inr d
theorem Rt.movesU (h : Rt bs H) (hs : isSz (s : Int) = true) {o : Int} (hT : (H.take s).2.One) : ∀ i q, usedB H.blks o = some i → (H.take s).1 = some q → (∃ iq, atB (q : Int) (H.take s).2.blks = some iq) ∧ ∃ io x0, atB o (H.take s).2.blks = some io ∧ usedB (H.take s).2.blks o = some io ∧ (H.take s).2.blks[io]? = some x0 ∧ x0.used = true ∧ x0.off ≠ q := fun i q hu hq => by
  obtain ⟨iq, io, h1, h2⟩ := h.moves hs i q hu hq
  obtain ⟨i1, i2, i3⟩ := used_some hu
  have ht : tile 184 H.blks (Go.Proofs.YtbldlidpapdkbaaGreatDoor.lenB H.blks) := by rw [h.lenE]; exact (walkB_tiles h.walk).2.1
  have hm : bkAt H.blks i ∈ H.blks := List.mem_of_getElem? (bkAt_get i1)
  have hm2 := take_mem (s := s) ht hs (fun j hj => by obtain ⟨a, _, c⟩ := h.found hs hj; exact ⟨a, c⟩) hm i3
  obtain ⟨x, e1, e2⟩ := atB_some h2
  obtain ⟨k, hk⟩ := List.mem_iff_getElem?.1 hm2
  obtain rfl : io = k := hT _ _ _ _ e1 hk (by omega)
  obtain rfl : x = bkAt H.blks i := Option.some.inj (e1.symm.trans hk)
  obtain ⟨y, y1, y2, y3, y4, y5, y6⟩ := h.what hs hq
  have sx := (isSz_iff _).1 ((tile_mem _ _ _ ht).2 _ hm).2.2.1
  have ss := (isSz_iff _).1 hs
  refine ⟨⟨iq, h1⟩, io, bkAt H.blks i, h2, ?_, e1, i3, fun e => ?_⟩
  · unfold usedB
    rw [h2]
    dsimp only
    rw [bkAt_of e1, if_pos i3]
  · have := y6 _ hm i3
    omega
/-- A block has got another size: what it held it holds, as far as both go. -/
theorem RtD.resized (h : RtD bs H) (hok : H.Ok) (hT : (H.take s).2.One) (hs : isSz (s : Int) = true) {o : Int} (he : (H.resize o s).1.2 = 0) (h1 : Rt out (H.resize o s).2) (hh : Held H bs (H.resize o s).2 out) (hm : Moved H bs o (H.resize o s).2 out (H.resize o s).1.1) (v : UInt8) :
    ∃ i y j x0 d, atB ((H.resize o s).1.1 : Int) (H.resize o s).2.blks = some i ∧ (H.resize o s).2.blks[i]? = some y ∧ y.off = (H.resize o s).1.1 ∧ y.used = true ∧ s ≤ y.size ∧ y.off + y.size ≤ out.length ∧ H.At j x0 d ∧ x0.used = true ∧ (x0.off : Int) = o ∧ d.2.length + 16 = x0.size ∧
      (∀ k, k < d.2.length → k + 16 < y.size → out[y.off + 8 + k]? = d.2[k]?) ∧ ∀ b2, AgreeB out b2 y → (∀ k, k < y.size - 16 → b2[y.off + 8 + k]? = (fullL d.2 (y.size - 16) v)[k]?) → RtD b2 ((H.resize o s).2.fill i v) := by
  obtain ⟨y, y1, y3, y2, y4⟩ := h.rt.rezHas hok hs he
  obtain ⟨i, hi⟩ := atB_mem y1
  rw [y2] at hi
  obtain ⟨y', e1, e2⟩ := atB_some hi
  obtain ⟨k, hk⟩ := List.mem_iff_getElem?.1 y1
  obtain rfl : i = k := h1.one _ _ _ _ e1 hk (by omega)
  have hsz := h1.sz y1
  have hdl : (H.resize o s).2.ds.length = (H.resize o s).2.blks.length := h.dl.resize
  have hil : i < (H.resize o s).2.ds.length := by rw [hdl]; exact lst_lt hk
  have hfr := fun j hj => by obtain ⟨a, _, c⟩ := h.rt.found (s := s) (i := j) hs hj; exact (⟨a, c⟩ : j < H.blks.length ∧ (bkAt H.blks j).used = false)
  have hmv := h.rt.movesU hs (o := o) hT
  obtain ⟨j, x0, a, au, hx⟩ := resize_At h.dl h.rt.one he hfr hT hmv (j := i) (x := y) (d := (H.resize o s).2.ds[i]) ⟨hk, List.getElem?_eq_getElem hil⟩ y3
  have hx0 : (x0.off : Int) = o := by
    rcases hx with ⟨e, hne⟩ | ⟨e, _⟩
    · exfalso
      subst e
      rcases resize_place he with e | e
      · omega
      · obtain ⟨z, z1, z2, z3, z4, z5, z6⟩ := h.rt.what hs e
        have hap := z6 x0 (List.mem_of_getElem? a.1) au
        have := h.rt.sz (List.mem_of_getElem? a.1)
        have ss := (isSz_iff _).1 hs
        omega
    · exact e
  obtain ⟨c1, c2⟩ := h.ho j x0 _ a au
  have hpay : ∀ k, k < (H.resize o s).2.ds[i].2.length → k + 16 < y.size → out[y.off + 8 + k]? = (H.resize o s).2.ds[i].2[k]? := fun k k1 k2 => by
    have := hm x0 (List.mem_of_getElem? a.1) au hx0 y y1 y3 y2 (8 + k) (by omega) (by omega) (by omega)
    rw [y2, show (H.resize o s).1.1 + 8 + k = (H.resize o s).1.1 + (8 + k) by omega, this, show x0.off + (8 + k) = x0.off + 8 + k by omega]
    exact c2 k k1
  refine ⟨i, y, j, x0, (H.resize o s).2.ds[i], hi, hk, y2, y3, y4, hsz.2.2.2, a, au, hx0, c1, hpay, fun b2 hag hb2 => ?_⟩
  unfold Hp.fill
  have eb : bkAt (H.resize o s).2.blks i = y := bkAt_of hk
  have ed : (H.resize o s).2.ds.getD i nilD = (H.resize o s).2.ds[i] := by rw [List.getD_eq_getElem?_getD, List.getElem?_eq_getElem hil]; rfl
  rw [eb, ed]
  have hL := fullL_len (H.resize o s).2.ds[i].2 (y.size - 16) v
  refine RtD.fills h1 hdl hk y3 _ (by omega) hag (fun k hk2 => hb2 k (by omega)) (fun j2 x d ha hu hne => ?_)
  obtain ⟨j3, x3, a3, au3, hx3⟩ := resize_At h.dl h.rt.one he hfr hT hmv ha hu
  rcases hx3 with ⟨rfl, hne3⟩ | ⟨_, e3⟩
  · exact h.keep hh a3 au3 (List.mem_of_getElem? ha.1)
  · exact absurd (h1.one _ _ _ _ ha.1 hk (by omega)) hne
/-- Bytes are laid within a block. -/
theorem RtD.wrote (h : RtD bs H) {i : Nat} {x : Bk} {d : Dt} (ha : H.At i x d) (hu : x.used = true) (V : Value) (p : Nat) (b : List UInt8) (hp : p + b.length ≤ d.2.length) : RtD (lay bs (x.off + 8 + p) b) (H.dset i (V, lay d.2 p b)) := by
  obtain ⟨c1, c2⟩ := h.ho i x d ha hu
  have hsz := h.rt.sz (List.mem_of_getElem? ha.1)
  have hll : (lay d.2 p b).length = d.2.length := by
    unfold lay
    simp only [List.length_append, List.length_take, List.length_drop]
    omega
  refine RtD.fills h.rt h.dl ha.1 hu V (by omega) (agree_lay (x := x) _ _ (by omega) (by omega) (by omega)) (fun k hk => ?_) (fun j z e hz hzu _ => h.ho j z e hz hzu)
  rw [hll] at hk
  by_cases e : k < p ∨ p + b.length ≤ k
  · rw [lay_out bs _ b (by omega) _ (by omega), lay_out d.2 p b hp k e]
    exact c2 k hk
  · rw [show x.off + 8 + k = x.off + 8 + p + (k - p) by omega, lay_in bs _ b (by omega) (k - p) (by omega)]
    have := lay_in d.2 p b (by omega) (k - p) (by omega)
    rw [show p + (k - p) = k by omega] at this
    exact this.symm
end
end Go.Proofs.YtbldlidpapdkbaaGreatDoor
