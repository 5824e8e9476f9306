/- Texts of mine, joined: Law16b. -/
import Derived.Test.YtbemaoncakcnjaaK13

/- The walk of RestoreTells (genlaw16b.py). -/
namespace Go.Proofs.Ytbemaoncakcnjaa
open Go.RowKit

theorem rt_laid {mid out : List UInt8} {L : List Bk} {ds : List Dt} {cap : Nat} (hw : walkB mid = some L) (hm : mid.length ≤ 16384) (ho : rebuildB mid = some out) (hc : checkB out = true) (hle : out.length ≤ cap) (hds : ds.length = L.length) :
    Rt out (⟨cap, L, ds, fun _ => []⟩ : Hp).rebuild ∧ (⟨cap, L, ds, fun _ => []⟩ : Hp).rebuild.cap = cap ∧ (⟨cap, L, ds, fun _ => []⟩ : Hp).rebuild.Dl := by
  obtain ⟨H, hH⟩ : ∃ H : Hp, (⟨cap, L, ds, fun _ => []⟩ : Hp) = H := ⟨_, rfl⟩
  have hb : H.blks = L := by rw [← hH]
  have hcp : H.cap = cap := by rw [← hH]
  have hd : H.ds.length = H.blks.length := by rw [← hH]; exact hds
  rw [hH]
  rw [← hb] at hw
  obtain ⟨out', e, h1, h2, h3, _, h5⟩ := checkB_built hw hm
  rw [ho] at e
  injection e with e
  subst e
  obtain ⟨e1, e2, e3⟩ := rebH_same H H.blks.length
  have ht := (walkB_tiles hw).2.1
  have hsz : ∀ x ∈ H.blks, isSz (x.size : Int) = true := fun x hx => ((tile_mem _ _ _ ht).2 x hx).2.2.1
  refine ⟨⟨by unfold Hp.rebuild; rw [e1]; exact h3, fun c hc => ?_, hc, by unfold Hp.rebuild; rw [e3, hcp]; exact hle⟩, by unfold Hp.rebuild; rw [e3, hcp], ?_⟩
  · have hl := rebH_lists H hsz c H.blks.length (Nat.le_refl _)
    rw [List.take_length] at hl
    show allB out c = some ((rebH H H.blks.length).lists c)
    rw [hl]
    refine h1.all hc (Nat.le_trans (freeL_len _ _) ?_)
    have := blks_few ht hm
    omega
  · unfold Hp.rebuild Hp.Dl
    rw [e1, e2]
    exact hd
theorem ma_any (base : Nat) (cap : Int) : ∃ b : Bool, (∀ W, Calls Try.prog 10 #[.int .u64 (base : Int), .int .i64 cap] W fun e w' => e = .returned (.bool b) ∧ W = w') ∧ (b = true → base % 16 = 0 ∧ base ≤ 4611686018427387904 ∧ 1024 ≤ cap ∧ cap ≤ 16384) ∧ (b = false → base % 16 ≠ 0 ∨ 4611686018427387904 < base ∨ cap < 1024 ∨ 16384 < cap) := by
  by_cases h : base % 16 = 0 ∧ base ≤ 4611686018427387904 ∧ 1024 ≤ cap ∧ cap ≤ 16384
  · obtain ⟨h1, h2, h3, h4⟩ := h
    obtain ⟨c, rfl⟩ : ∃ c : Nat, cap = (c : Int) := ⟨cap.toNat, by omega⟩
    exact ⟨true, fun W => may_yes W base c h1 h2 (by omega) (by omega), fun _ => ⟨h1, h2, h3, h4⟩, fun e => (by cases e)⟩
  · have h' : base % 16 ≠ 0 ∨ 4611686018427387904 < base ∨ cap < 1024 ∨ 16384 < cap := by omega
    exact ⟨false, fun W => may_no W base cap h', fun e => (by cases e), fun _ => h'⟩
set_option maxRecDepth 100000 in
set_option maxHeartbeats 4000000 in
theorem rt_few (w : World) (n : Int) (_hn : -9223372036854775808 ≤ n ∧ n ≤ 9223372036854775807) (A1 : Option Addr) (k1 : Nat) (l : List Rk) (_hr : RkRd w w.heap.size A1 l) (hml : l.length ≤ maxLen) (A2 : Option Addr) (k2 : Nat) (d : List (List UInt8)) (hd : DtRd w w.heap.size A2 d) (hmd : d.length ≤ maxLen) (base : Nat) (_hb : base < 18446744073709551616) (cap : Int) (_hc : -9223372036854775808 ≤ cap ∧ cap ≤ 9223372036854775807) (hf : fewI l d = false) :
    Calls Try.prog 3 #[.int .i64 n, .slice A1 l.length k1, .slice A2 d.length k2, .int .u64 (base : Int), .int .i64 cap] w fun e w' => e = .returned (.bool true) ∧ Below w.heap.size w w' := by
  have HUP := Lib.hid (up16_any w)
  obtain ⟨v, hv⟩ : ∃ v : Int, (if fewI l d = true then (1 : Int) else 0) = v := ⟨_, rfl⟩
  have HFEW := Lib.hid (fun W (hb : Below w.heap.size w W) => few15_any W A1 A2 k1 k2 l d ((hd.below hb).more hb.size) hml hmd v hv)
  rw [hf] at hv
  obtain rfl : (0 : Int) = v := hv
  clear hf _hr hd hml hmd _hb _hc _hn
  go_enter Try.func3, Try.ntmps3
  go_wp2_with fail
  refine HUP.out.mono ?_
  rintro e w1 ⟨rfl, hb1⟩
  have HB := Lib.hid hb1
  clear hb1 HUP
  go_wp2_with fail
  refine (HFEW.out w1 HB.out).mono ?_
  rintro e w2 ⟨rfl, rfl⟩
  go_wp2
  go_ret
  exact ⟨rfl, HB.out⟩
set_option maxRecDepth 100000 in
set_option maxHeartbeats 4000000 in
theorem rt_no1 (w : World) (n : Int) (hn : -9223372036854775808 ≤ n ∧ n ≤ 9223372036854775807) (A1 : Option Addr) (k1 : Nat) (l : List Rk) (hr : RkRd w w.heap.size A1 l) (hml : l.length ≤ maxLen) (A2 : Option Addr) (k2 : Nat) (d : List (List UInt8)) (hd : DtRd w w.heap.size A2 d) (hmd : d.length ≤ maxLen) (base : Nat) (hb : base < 18446744073709551616) (cap : Int) (hc : -9223372036854775808 ≤ cap ∧ cap ≤ 9223372036854775807) (hf : fewI l d = true) (hm : mayI n l d = false) :
    Calls Try.prog 3 #[.int .i64 n, .slice A1 l.length k1, .slice A2 d.length k2, .int .u64 (base : Int), .int .i64 cap] w fun e w' => e = .returned (.bool true) ∧ Below w.heap.size w w' := by
  have HUP := Lib.hid (up16_any w)
  obtain ⟨v, hv⟩ : ∃ v : Int, (if fewI l d = true then (1 : Int) else 0) = v := ⟨_, rfl⟩
  have HFEW := Lib.hid (fun W (hb : Below w.heap.size w W) => few15_any W A1 A2 k1 k2 l d ((hd.below hb).more hb.size) hml hmd v hv)
  obtain ⟨f1, f2, _⟩ := few16_parts hf
  rw [hf] at hv
  obtain rfl : (1 : Int) = v := hv
  obtain ⟨ll, hll⟩ : ∃ ll, l.length = ll := ⟨_, rfl⟩
  obtain ⟨dl, hdl⟩ : ∃ dl, d.length = dl := ⟨_, rfl⟩
  have HMAY := Lib.hid (fun W (h : Below w.heap.size w W) => rmay_any W n hn A1 A2 k1 k2 l d ((hr.below h).more h.size) ((hd.below h).more h.size) (by omega) (by omega) _ hm)
  unfold imV at HMAY
  obtain ⟨b, hma, _, _⟩ := ma_any base cap
  have HMA := Lib.hid hma
  clear hma
  have HRES := Lib.hid (fun W (h : Below w.heap.size w W) => rest_bad W n hn A1 A2 k1 k2 l d ((hr.below h).more h.size) ((hd.below h).more h.size) (by omega) (by omega) base hb cap hc hm)
  rw [hll, hdl] at HFEW HRES HMAY
  rw [hll, hdl]
  clear hr hd hml hmd hll hdl hf hm f1 f2 hb hc hn
  go_enter Try.func3, Try.ntmps3
  go_wp2_with fail
  refine HUP.out.mono ?_
  rintro e w1 ⟨rfl, hb1⟩
  have HB := Lib.hid hb1
  clear hb1 HUP
  go_wp2_with fail
  refine (HFEW.out w1 HB.out).mono ?_
  rintro e w2 ⟨rfl, rfl⟩
  obtain ⟨wX, hwX⟩ : ∃ wX, w1.alloc (.cells #[.int .i64 n, .slice A1 ll k1, .slice A2 dl k2] 28) = wX := ⟨_, rfl⟩
  have hbX : Below w1.heap.size w1 wX := by rw [← hwX]; exact (Below.refl _ _).alloc (Nat.le_refl _) _
  have nX : wX.heap[w1.heap.size]? = some (.cells #[.int .i64 n, .slice A1 ll k1, .slice A2 dl k2] 28 (0, 0)) := by rw [← hwX]; exact heap_alloc_new w1 _
  have HBX := Lib.hid (HB.out.trans (hbX.mono HB.out.size))
  have HNX := Lib.hid nX
  have HWX := Lib.hid hwX
  obtain ⟨c0, c1, c2⟩ := rk_cells nX
  have hld := heap_lt1 nX
  clear hwX hbX nX HFEW
  go_wp2_with (first | (rw [HWX.out]) | fail)
  refine (HRES.out wX HBX.out).mono ?_
  rintro e w3 ⟨rfl, hb3⟩
  have n3 := (hb3.block _ (heap_lt1 HNX.out)).trans HNX.out
  have HB3 := Lib.hid (HBX.out.trans (hb3.mono HBX.out.size))
  have HN3 := Lib.hid n3
  clear hb3 c0 c1 c2 hld
  obtain ⟨c0, c1, c2⟩ := rk_cells n3
  have hld := heap_lt1 n3
  clear n3
  go_wp2_with fail
  refine (like16 w3 n A1 A2 ll k1 dl k2).mono ?_
  rintro e w4 ⟨rfl, hb4⟩
  have HB4 := Lib.hid (HB3.out.trans (hb4.mono HB3.out.size))
  have n4 := (hb4.block _ (heap_lt1 HN3.out)).trans HN3.out
  have HN4 := Lib.hid n4
  skip
  clear n4 hb4 c0 c1 c2 hld
  go_wp2_with fail
  refine (HMAY.out w4 HB4.out).mono ?_
  rintro e w5 ⟨rfl, hb5⟩
  have HB5 := Lib.hid (HB4.out.trans (hb5.mono HB4.out.size))
  have HN5 := Lib.hid ((hb5.block _ (heap_lt1 HN4.out)).trans HN4.out)
  skip
  clear hb5
  go_wp2_with fail
  refine (HMA.out w5).mono ?_
  rintro e w6 ⟨rfl, rfl⟩
  go_wp2_with fail
  refine (code_err w5 1 (by omega) (by omega)).mono ?_
  rintro e w7 ⟨rfl, rfl⟩
  go_wp2
  go_ret
  exact ⟨rfl, HB5.out⟩
set_option maxRecDepth 100000 in
set_option maxHeartbeats 4000000 in
theorem rt_no2 (w : World) (n : Int) (hn : -9223372036854775808 ≤ n ∧ n ≤ 9223372036854775807) (A1 : Option Addr) (k1 : Nat) (l : List Rk) (hr : RkRd w w.heap.size A1 l) (hml : l.length ≤ maxLen) (A2 : Option Addr) (k2 : Nat) (d : List (List UInt8)) (hd : DtRd w w.heap.size A2 d) (hmd : d.length ≤ maxLen) (base : Nat) (hb : base < 18446744073709551616) (cap : Int) (hc : -9223372036854775808 ≤ cap ∧ cap ≤ 9223372036854775807) (hf : fewI l d = true) (hm : mayI n l d = true) (hno : base % 16 ≠ 0 ∨ 4611686018427387904 < base ∨ cap < 1024 ∨ 16384 < cap) :
    Calls Try.prog 3 #[.int .i64 n, .slice A1 l.length k1, .slice A2 d.length k2, .int .u64 (base : Int), .int .i64 cap] w fun e w' => e = .returned (.bool true) ∧ Below w.heap.size w w' := by
  have HUP := Lib.hid (up16_any w)
  obtain ⟨v, hv⟩ : ∃ v : Int, (if fewI l d = true then (1 : Int) else 0) = v := ⟨_, rfl⟩
  have HFEW := Lib.hid (fun W (hb : Below w.heap.size w W) => few15_any W A1 A2 k1 k2 l d ((hd.below hb).more hb.size) hml hmd v hv)
  obtain ⟨f1, f2, _⟩ := few16_parts hf
  rw [hf] at hv
  obtain rfl : (1 : Int) = v := hv
  obtain ⟨ll, hll⟩ : ∃ ll, l.length = ll := ⟨_, rfl⟩
  obtain ⟨dl, hdl⟩ : ∃ dl, d.length = dl := ⟨_, rfl⟩
  have HMAY := Lib.hid (fun W (h : Below w.heap.size w W) => rmay_any W n hn A1 A2 k1 k2 l d ((hr.below h).more h.size) ((hd.below h).more h.size) (by omega) (by omega) _ hm)
  unfold imV at HMAY
  have HMA := Lib.hid (fun W => may_no W base cap hno)
  have HRES := Lib.hid (fun W (h : Below w.heap.size w W) => rest_noar W n hn A1 A2 k1 k2 l d ((hr.below h).more h.size) ((hd.below h).more h.size) (by omega) (by omega) base hb cap hc hm hno)
  rw [hll, hdl] at HFEW HRES HMAY
  rw [hll, hdl]
  clear hr hd hml hmd hll hdl hf hm f1 f2 hb hc hn hno
  go_enter Try.func3, Try.ntmps3
  go_wp2_with fail
  refine HUP.out.mono ?_
  rintro e w1 ⟨rfl, hb1⟩
  have HB := Lib.hid hb1
  clear hb1 HUP
  go_wp2_with fail
  refine (HFEW.out w1 HB.out).mono ?_
  rintro e w2 ⟨rfl, rfl⟩
  obtain ⟨wX, hwX⟩ : ∃ wX, w1.alloc (.cells #[.int .i64 n, .slice A1 ll k1, .slice A2 dl k2] 28) = wX := ⟨_, rfl⟩
  have hbX : Below w1.heap.size w1 wX := by rw [← hwX]; exact (Below.refl _ _).alloc (Nat.le_refl _) _
  have nX : wX.heap[w1.heap.size]? = some (.cells #[.int .i64 n, .slice A1 ll k1, .slice A2 dl k2] 28 (0, 0)) := by rw [← hwX]; exact heap_alloc_new w1 _
  have HBX := Lib.hid (HB.out.trans (hbX.mono HB.out.size))
  have HNX := Lib.hid nX
  have HWX := Lib.hid hwX
  obtain ⟨c0, c1, c2⟩ := rk_cells nX
  have hld := heap_lt1 nX
  clear hwX hbX nX HFEW
  go_wp2_with (first | (rw [HWX.out]) | fail)
  refine (HRES.out wX HBX.out).mono ?_
  rintro e w3 ⟨rfl, hb3⟩
  have n3 := (hb3.block _ (heap_lt1 HNX.out)).trans HNX.out
  have HB3 := Lib.hid (HBX.out.trans (hb3.mono HBX.out.size))
  have HN3 := Lib.hid n3
  clear hb3 c0 c1 c2 hld
  obtain ⟨c0, c1, c2⟩ := rk_cells n3
  have hld := heap_lt1 n3
  clear n3
  go_wp2_with fail
  refine (like16 w3 n A1 A2 ll k1 dl k2).mono ?_
  rintro e w4 ⟨rfl, hb4⟩
  have HB4 := Lib.hid (HB3.out.trans (hb4.mono HB3.out.size))
  have n4 := (hb4.block _ (heap_lt1 HN3.out)).trans HN3.out
  have HN4 := Lib.hid n4
  skip
  clear n4 hb4 c0 c1 c2 hld
  go_wp2_with fail
  refine (HMAY.out w4 HB4.out).mono ?_
  rintro e w5 ⟨rfl, hb5⟩
  have HB5 := Lib.hid (HB4.out.trans (hb5.mono HB4.out.size))
  have HN5 := Lib.hid ((hb5.block _ (heap_lt1 HN4.out)).trans HN4.out)
  skip
  clear hb5
  go_wp2_with fail
  refine (HMA.out w5).mono ?_
  rintro e w6 ⟨rfl, rfl⟩
  go_wp2_with fail
  refine (code_err w5 1 (by omega) (by omega)).mono ?_
  rintro e w7 ⟨rfl, rfl⟩
  go_wp2
  go_ret
  exact ⟨rfl, HB5.out⟩
set_option maxRecDepth 100000 in
set_option maxHeartbeats 4000000 in
theorem rt_lg (w : World) (n : Int) (hn : -9223372036854775808 ≤ n ∧ n ≤ 9223372036854775807) (A1 : Option Addr) (k1 : Nat) (l : List Rk) (hr : RkRd w w.heap.size A1 l) (hml : l.length ≤ maxLen) (A2 : Option Addr) (k2 : Nat) (d : List (List UInt8)) (hd : DtRd w w.heap.size A2 d) (hmd : d.length ≤ maxLen) (base : Nat) (hb : base < 18446744073709551616) (cap : Int) (hc : -9223372036854775808 ≤ cap ∧ cap ≤ 9223372036854775807) (hf : fewI l d = true) (hm : mayI n l d = true) (h1 : base % 16 = 0) (h2 : base ≤ 4611686018427387904) (h3 : 1024 ≤ cap) (h4 : cap ≤ 16384) (hlg : cap < n) :
    Calls Try.prog 3 #[.int .i64 n, .slice A1 l.length k1, .slice A2 d.length k2, .int .u64 (base : Int), .int .i64 cap] w fun e w' => e = .returned (.bool true) ∧ Below w.heap.size w w' := by
  have HUP := Lib.hid (up16_any w)
  obtain ⟨v, hv⟩ : ∃ v : Int, (if fewI l d = true then (1 : Int) else 0) = v := ⟨_, rfl⟩
  have HFEW := Lib.hid (fun W (hb : Below w.heap.size w W) => few15_any W A1 A2 k1 k2 l d ((hd.below hb).more hb.size) hml hmd v hv)
  obtain ⟨f1, f2, _⟩ := few16_parts hf
  rw [hf] at hv
  obtain rfl : (1 : Int) = v := hv
  obtain ⟨ll, hll⟩ : ∃ ll, l.length = ll := ⟨_, rfl⟩
  obtain ⟨dl, hdl⟩ : ∃ dl, d.length = dl := ⟨_, rfl⟩
  have HMAY := Lib.hid (fun W (h : Below w.heap.size w W) => rmay_any W n hn A1 A2 k1 k2 l d ((hr.below h).more h.size) ((hd.below h).more h.size) (by omega) (by omega) _ hm)
  unfold imV at HMAY
  have HMA : Hid (∀ W, Calls Try.prog 10 #[.int .u64 (base : Int), .int .i64 cap] W fun e w' => e = .returned (.bool true) ∧ W = w') := fun W => by
    obtain ⟨c, rfl⟩ : ∃ c : Nat, cap = (c : Int) := ⟨cap.toNat, by omega⟩
    exact may_yes W base c h1 h2 (by omega) (by omega)
  have g1 : decide (cap < n) = true := decide_eq_true hlg
  have HRES := Lib.hid (fun W (h : Below w.heap.size w W) => rest_large W n hn A1 A2 k1 k2 l d ((hr.below h).more h.size) ((hd.below h).more h.size) (by omega) (by omega) base hb cap hc hm h1 h2 h3 h4 hlg)
  rw [hll, hdl] at HFEW HRES HMAY
  rw [hll, hdl]
  clear hr hd hml hmd hll hdl hf hm f1 f2 hb hc hn
  go_enter Try.func3, Try.ntmps3
  go_wp2_with fail
  refine HUP.out.mono ?_
  rintro e w1 ⟨rfl, hb1⟩
  have HB := Lib.hid hb1
  clear hb1 HUP
  go_wp2_with fail
  refine (HFEW.out w1 HB.out).mono ?_
  rintro e w2 ⟨rfl, rfl⟩
  obtain ⟨wX, hwX⟩ : ∃ wX, w1.alloc (.cells #[.int .i64 n, .slice A1 ll k1, .slice A2 dl k2] 28) = wX := ⟨_, rfl⟩
  have hbX : Below w1.heap.size w1 wX := by rw [← hwX]; exact (Below.refl _ _).alloc (Nat.le_refl _) _
  have nX : wX.heap[w1.heap.size]? = some (.cells #[.int .i64 n, .slice A1 ll k1, .slice A2 dl k2] 28 (0, 0)) := by rw [← hwX]; exact heap_alloc_new w1 _
  have HBX := Lib.hid (HB.out.trans (hbX.mono HB.out.size))
  have HNX := Lib.hid nX
  have HWX := Lib.hid hwX
  obtain ⟨c0, c1, c2⟩ := rk_cells nX
  have hld := heap_lt1 nX
  clear hwX hbX nX HFEW
  go_wp2_with (first | (rw [HWX.out]) | fail)
  refine (HRES.out wX HBX.out).mono ?_
  rintro e w3 ⟨rfl, hb3⟩
  have n3 := (hb3.block _ (heap_lt1 HNX.out)).trans HNX.out
  have HB3 := Lib.hid (HBX.out.trans (hb3.mono HBX.out.size))
  have HN3 := Lib.hid n3
  clear hb3 c0 c1 c2 hld
  obtain ⟨c0, c1, c2⟩ := rk_cells n3
  have hld := heap_lt1 n3
  clear n3
  go_wp2_with fail
  refine (like16 w3 n A1 A2 ll k1 dl k2).mono ?_
  rintro e w4 ⟨rfl, hb4⟩
  have HB4 := Lib.hid (HB3.out.trans (hb4.mono HB3.out.size))
  have n4 := (hb4.block _ (heap_lt1 HN3.out)).trans HN3.out
  have HN4 := Lib.hid n4
  skip
  clear n4 hb4 c0 c1 c2 hld
  go_wp2_with fail
  refine (HMAY.out w4 HB4.out).mono ?_
  rintro e w5 ⟨rfl, hb5⟩
  have HB5 := Lib.hid (HB4.out.trans (hb5.mono HB4.out.size))
  have HN5 := Lib.hid ((hb5.block _ (heap_lt1 HN4.out)).trans HN4.out)
  skip
  clear hb5
  go_wp2_with fail
  refine (HMA.out w5).mono ?_
  rintro e w6 ⟨rfl, rfl⟩
  go_wp2_with fail
  refine (code_err w5 10 (by omega) (by omega)).mono ?_
  rintro e w7 ⟨rfl, rfl⟩
  go_wp2
  go_ret
  exact ⟨rfl, HB5.out⟩
set_option maxRecDepth 100000 in
set_option maxHeartbeats 4000000 in
theorem rt_ok (w : World) (n : Int) (hn : -9223372036854775808 ≤ n ∧ n ≤ 9223372036854775807) (A1 : Option Addr) (k1 : Nat) (l : List Rk) (hr : RkRd w w.heap.size A1 l) (hml : l.length ≤ maxLen) (A2 : Option Addr) (k2 : Nat) (d : List (List UInt8)) (hd : DtRd w w.heap.size A2 d) (hmd : d.length ≤ maxLen) (base : Nat) (hb : base < 18446744073709551616) (cap : Int) (hc : -9223372036854775808 ≤ cap ∧ cap ≤ 9223372036854775807) (hf : fewI l d = true) (hm : mayI n l d = true) (h1 : base % 16 = 0) (h2 : base ≤ 4611686018427387904) (h3 : 1024 ≤ cap) (h4 : cap ≤ 16384) (hlg : n ≤ cap) :
    Calls Try.prog 3 #[.int .i64 n, .slice A1 l.length k1, .slice A2 d.length k2, .int .u64 (base : Int), .int .i64 cap] w fun e w' => e = .returned (.bool true) ∧ Below w.heap.size w w' := by
  have HUP := Lib.hid (up16_any w)
  obtain ⟨v, hv⟩ : ∃ v : Int, (if fewI l d = true then (1 : Int) else 0) = v := ⟨_, rfl⟩
  have HFEW := Lib.hid (fun W (hb : Below w.heap.size w W) => few15_any W A1 A2 k1 k2 l d ((hd.below hb).more hb.size) hml hmd v hv)
  obtain ⟨f1, f2, _⟩ := few16_parts hf
  rw [hf] at hv
  obtain rfl : (1 : Int) = v := hv
  obtain ⟨cn, rfl⟩ : ∃ cn : Nat, cap = (cn : Int) := ⟨cap.toNat, by omega⟩
  have hlo : lenOk n = true := by unfold mayI at hm; rw [Bool.and_eq_true] at hm; exact hm.1
  have hlB := (lenOk_iff n).1 hlo
  obtain ⟨N, rfl⟩ : ∃ N : Nat, n = (N : Int) := ⟨n.toNat, by omega⟩
  obtain ⟨out, hw0, hl0, hre, hck, hwk, hol, hod⟩ := image_laid hm
  have hrd : rowOk (N : Int) 184 false l = true ∧ datOk l d = true := by unfold mayI at hm; simp only [Bool.and_eq_true] at hm; exact hm.2
  obtain ⟨ht, hmap, hzz⟩ := row_tile (o := 184) hrd.1
  rw [Int.toNat_natCast] at ht
  have hdat := dat_datB (fun x hx => ⟨(hzz x hx).1, (hzz x hx).2.1⟩) hrd.2
  have hlay : layOf (N : Int) l d = some out := by unfold layOf; rw [Int.toNat_natCast]; exact hre
  have HMAY := Lib.hid (fun W (h : Below w.heap.size w W) => rmay_any W (N : Int) hn A1 A2 k1 k2 l d ((hr.below h).more h.size) ((hd.below h).more h.size) (by omega) (by omega) _ hm)
  unfold imV at HMAY
  have HMA := Lib.hid (fun W => may_yes W base cn h1 h2 (by omega) (by omega))
  have HRES : Hid (∀ (W : World), Below w.heap.size w W → Calls Try.prog 7 #[.agg #[.int .i64 (N : Int), .slice A1 l.length k1, .slice A2 d.length k2], .int .u64 (base : Int), .int .i64 (cn : Int)] W fun e w' => ∃ H q g A c, e = .returned (.tuple #[.pointer (some ⟨q, 0, none⟩), .nilIface]) ∧ PH w' q g base cn A c out H ∧ Below W.heap.size W w') := fun W h => by
    refine (rest_ok W (N : Int) hn A1 A2 k1 k2 l d ((hr.below h).more h.size) ((hd.below h).more h.size) (by omega) (by omega) base hb (cn : Int) hc hm h1 h2 h3 h4 hlg).mono ?_
    rintro e w' ⟨out', H, q, g, A, c, hl', he, hp, _, _, _, hb'⟩
    rw [hlay] at hl'
    injection hl' with hl'
    subst hl'
    exact ⟨H, q, g, A, c, he, hp, hb'⟩
  obtain ⟨L, hL⟩ : ∃ L, l.map toB = L := ⟨_, rfl⟩
  have hLl : L.length = l.length := by rw [← hL, List.length_map]
  rw [hL] at hw0 hl0 hre hmap ht hdat
  have HRT : Hid (∀ ds : List Dt, ds.length = L.length → Rt out (⟨cn, L, ds, fun _ => []⟩ : Hp).rebuild ∧ (⟨cn, L, ds, fun _ => []⟩ : Hp).rebuild.cap = cn ∧ (⟨cn, L, ds, fun _ => []⟩ : Hp).rebuild.Dl) := fun ds hds => rt_laid hw0 (by rw [hl0]; omega) hre hck (by rw [hol]; omega) hds
  have HRK : Hid (∀ W : World, Below w.heap.size w W → RkRd W W.heap.size A1 (L.map toR)) := fun W h => by rw [← hmap]; exact (hr.below h).more h.size
  have HBY := Lib.hid (fun W (h : Below w.heap.size w W) => rbytes_any W N A1 A2 k1 k2 L d (by omega) (by omega) ht hdat (HRK.out W h) ((hd.below h).more h.size) out hre hol)
  have HHP := Lib.hid (fun W (h : Below w.heap.size w W) => rheap_any W (N : Int) A1 A2 k1 k2 L d N (by omega) ht hdat (HRK.out W h) ((hd.below h).more h.size) cn)
  rw [hLl] at HBY HHP
  obtain ⟨S, hS⟩ : ∃ S, strB out = S := ⟨_, rfl⟩
  have HS := Lib.hid hS
  have gS : (S.toList == S.toList) = true := by simp
  have HOL := Lib.hid hol
  have HLL := Lib.hid hLl
  have hN16 : N ≤ 16384 := by omega
  have g1 : decide ((cn : Int) < (N : Int)) = false := decide_eq_false (by omega)
  have g2 : decide (cn < N) = false := decide_eq_false (by omega)
  obtain ⟨ll, hll⟩ : ∃ ll, l.length = ll := ⟨_, rfl⟩
  obtain ⟨dl, hdl⟩ : ∃ dl, d.length = dl := ⟨_, rfl⟩
  rw [hll, hdl] at HFEW HRES HMAY HBY HHP
  rw [hll] at HLL
  rw [hll, hdl]
  clear hr hd hml hmd hll hdl hf hm f1 f2 hb hc hn hlg hlo hlB hw0 hl0 hre hck hwk hol hod hrd hmap hzz ht hdat hlay hL hLl hS HRK
  go_enter Try.func3, Try.ntmps3
  go_wp2_with fail
  refine HUP.out.mono ?_
  rintro e w1 ⟨rfl, hb1⟩
  have HB := Lib.hid hb1
  clear hb1 HUP
  go_wp2_with fail
  refine (HFEW.out w1 HB.out).mono ?_
  rintro e w2 ⟨rfl, rfl⟩
  obtain ⟨wX, hwX⟩ : ∃ wX, w1.alloc (.cells #[.int .i64 (N : Int), .slice A1 ll k1, .slice A2 dl k2] 28) = wX := ⟨_, rfl⟩
  have hbX : Below w1.heap.size w1 wX := by rw [← hwX]; exact (Below.refl _ _).alloc (Nat.le_refl _) _
  have nX : wX.heap[w1.heap.size]? = some (.cells #[.int .i64 (N : Int), .slice A1 ll k1, .slice A2 dl k2] 28 (0, 0)) := by rw [← hwX]; exact heap_alloc_new w1 _
  have HBX := Lib.hid (HB.out.trans (hbX.mono HB.out.size))
  have HNX := Lib.hid nX
  have HWX := Lib.hid hwX
  obtain ⟨c0, c1, c2⟩ := rk_cells nX
  have hld := heap_lt1 nX
  clear hwX hbX nX HFEW
  go_wp2_with (first | (rw [HWX.out]) | fail)
  refine (HRES.out wX HBX.out).mono ?_
  rintro e w3 ⟨H, q, g, A, c, rfl, hph, hb3⟩
  have HP3 := Lib.hid hph
  clear hph
  have n3 := (hb3.block _ (heap_lt1 HNX.out)).trans HNX.out
  have HB3 := Lib.hid (HBX.out.trans (hb3.mono HBX.out.size))
  have HN3 := Lib.hid n3
  clear hb3 c0 c1 c2 hld
  obtain ⟨c0, c1, c2⟩ := rk_cells n3
  have hld := heap_lt1 n3
  clear n3
  go_wp2_with fail
  refine (like16 w3 (N : Int) A1 A2 ll k1 dl k2).mono ?_
  rintro e w4 ⟨rfl, hb4⟩
  have HB4 := Lib.hid (HB3.out.trans (hb4.mono HB3.out.size))
  have n4 := (hb4.block _ (heap_lt1 HN3.out)).trans HN3.out
  have HN4 := Lib.hid n4
  have HP4 := Lib.hid (HP3.out.below hb4)
  clear n4 hb4 c0 c1 c2 hld
  go_wp2_with fail
  refine (HMAY.out w4 HB4.out).mono ?_
  rintro e w5 ⟨rfl, hb5⟩
  have HB5 := Lib.hid (HB4.out.trans (hb5.mono HB4.out.size))
  have HN5 := Lib.hid ((hb5.block _ (heap_lt1 HN4.out)).trans HN4.out)
  have HP5 := Lib.hid (HP4.out.below hb5)
  clear hb5
  go_wp2_with fail
  refine (HMA.out w5).mono ?_
  rintro e w6 ⟨rfl, rfl⟩
  go_wp2_with fail
  refine (harena_any HP5.out).mono ?_
  rintro e w6 ⟨g6, A6, c6, rfl, a6, hb6, hg6, hA6⟩
  have HB6 := Lib.hid (HB5.out.trans (hb6.mono HB5.out.size))
  have n6 := (hb6.block _ (heap_lt1 HN5.out)).trans HN5.out
  have HN6 := Lib.hid n6
  have HA6 := Lib.hid a6
  have HBB6 := Lib.hid hb6
  obtain ⟨c0, c1, c2⟩ := rk_cells n6
  have hld := heap_lt1 n6
  clear n6 a6 hb6
  go_wp2_with fail
  refine (like16 w6 (N : Int) A1 A2 ll k1 dl k2).mono ?_
  rintro e w7 ⟨rfl, hb7⟩
  have HB7 := Lib.hid (HB6.out.trans (hb7.mono HB6.out.size))
  have HN7 := Lib.hid ((hb7.block _ (heap_lt1 HN6.out)).trans HN6.out)
  have HA7 := Lib.hid (HA6.out.below hb7)
  have HBB7 := Lib.hid (HBB6.out.trans (hb7.mono HBB6.out.size))
  clear hb7 c0 c1 c2 hld
  go_wp2_with fail
  refine (HHP.out w7 HB7.out).mono ?_
  rintro e w8 ⟨p, ds, F, rfl, hds, hm8, hF, hb8⟩
  obtain ⟨rt8, rc8, rd8⟩ := HRT.out ds (by rw [HLL.out]; exact hds)
  obtain ⟨F', hm', hFF, hFlt⟩ := HM.tight hm8
  obtain ⟨HR, hHR⟩ : ∃ HR, (⟨cn, L, ds, fun _ => []⟩ : Hp).rebuild = HR := ⟨_, rfl⟩
  rw [hHR] at rt8 rc8 rd8 hm'
  have hbb8 := HBB7.out.trans (hb8.mono HBB7.out.size)
  have al8 : Al w5 w8 g6 base cn A6 c6 out F' p HR := ⟨⟨hbb8, HA7.out.below hb8, hg6, hA6, fun q hq => by cases hq⟩, hm', fun k hk => Nat.le_trans HBB7.out.size (hF k (hFF k hk)), hFlt, fun k hk hf => by
    have e1 := HA7.out.foot_lt hf
    have e2 := hF k (hFF k hk)
    omega⟩
  have HB8 := Lib.hid (HB7.out.trans (hb8.mono HB7.out.size))
  obtain ⟨wd, hwd⟩ : ∃ wd, w8.drew = wd := ⟨_, rfl⟩
  have hbd : Below w8.heap.size w8 wd := by rw [← hwd]; exact (Below.refl _ _).drew
  have nd := ((hb8.trans (hbd.mono hb8.size)).block _ (heap_lt1 HN7.out)).trans HN7.out
  have HND := Lib.hid nd
  have HBD := Lib.hid (HB8.out.trans (hbd.mono HB8.out.size))
  have HAL := Lib.hid (al8.below hbd)
  have HRT8 := Lib.hid rt8
  have HRC8 := Lib.hid rc8
  have HRD8 := Lib.hid rd8
  have HWD := Lib.hid hwd
  obtain ⟨c0, c1, c2⟩ := rk_cells nd
  have hld := heap_lt1 nd
  clear hds hm8 hF hb8 rt8 rc8 rd8 hm' hFF hFlt hHR hbb8 al8 hwd hbd nd hg6 hA6
  go_wp2_with fail
  refine wp_region_tail wd.heap.size [([0, 1, 2, 4], 3), ([5, 6, 7, 8, 11], 9), ([10], 12), ([], 13), ([14, 15, 16, 17, 18, 19], 20)] [21, 22, 23] [] (by kernel_rfl) (by kernel_rfl) (by kernel_rfl) (fun _ _ _ _ _ h => h) ?_
  rw [HWD.out]
  refine tail_cons (l := ?segA) ?hsegA ?_
  case hsegA => simp only [pick, List.getElem?_toArray, List.getElem?_cons_succ, List.getElem?_cons_zero]; rfl
  repeat (go_big_quiet_step (fail))
  refine wpQuiet_nil ?_
  refine tail_call (vs := #[.pointer (some ⟨g6, 0, none⟩)]) Try.call14 rfl rfl rfl (R := fun r w' => r = .int .u64 (base : Int) ∧ wd = w') ((base_any HAL.out.st.ar).mono ?_) wd.heap.size (Nat.le_refl _) ?_
  · rintro e w' ⟨rfl, rfl⟩
    exact ⟨_, rfl, Below.refl _ _, rfl, rfl⟩
  rintro r w' _ ⟨rfl, rfl⟩
  simp only [Act.put, List.setIfInBounds_toArray, List.set_cons_zero, List.set_cons_succ]
  have qB0 : ∀ z : LaterB wd.heap.size wd, z.val.cell? ⟨w1.heap.size, 0, none⟩ = some (.int .i64 (N : Int)) := fun z => (z.ext.cell (p := ⟨w1.heap.size, 0, none⟩) hld).trans c0
  have qB1 : ∀ z : LaterB wd.heap.size wd, z.val.cell? ⟨w1.heap.size, 1, none⟩ = some (.slice A1 ll k1) := fun z => (z.ext.cell (p := ⟨w1.heap.size, 1, none⟩) hld).trans c1
  have qB2 : ∀ z : LaterB wd.heap.size wd, z.val.cell? ⟨w1.heap.size, 2, none⟩ = some (.slice A2 dl k2) := fun z => (z.ext.cell (p := ⟨w1.heap.size, 2, none⟩) hld).trans c2
  refine tail_cons (l := ?segB) ?hsegB ?_
  case hsegB => simp only [pick, List.getElem?_toArray, List.getElem?_cons_succ, List.getElem?_cons_zero]; rfl
  repeat (go_big_quiet_step (fail))
  refine wpQuiet_nil ?_
  clear qB0 qB1 qB2 c0 c1 c2 hld
  have hby := bytes_any HAL.out.st.ar (by have := HOL.out; omega) (by omega)
  unfold NewRow at hby
  rw [HOL.out] at hby
  refine tail_call2 (vs := #[.pointer (some ⟨g6, 0, none⟩)]) Try.call15 rfl rfl rfl (R := fun r w' => ∃ A c, r = .slice A N c ∧ w'.ownsRow wd.heap.size 5 1 (.slice A N c) N (out.map bv) ∧ Below wd.heap.size wd w') (hby.mono ?_) ?_
  · rintro e w' ⟨A, c, rfl, ho, hb⟩
    exact ⟨_, rfl, hb, A, c, rfl, ho, hb⟩
  rintro r we _ ⟨Z1, z1, rfl, ho1, hb1⟩
  refine ⟨we.heap.size, hb1.size, ?_⟩
  have HRR1 := Lib.hid (own_reads ho1)
  have HBE := Lib.hid (HBD.out.trans (hb1.mono HBD.out.size))
  have HALE := Lib.hid (HAL.out.below hb1)
  clear hby ho1 hb1
  simp only [Act.put, List.setIfInBounds_toArray, List.set_cons_zero, List.set_cons_succ]
  have u1 : ∀ z : LaterB we.heap.size we, (convert 44 9 (.slice Z1 N z1)).run Try.prog z.val = .ok (.string S) z.val := fun z => by rw [← HS.out]; exact conv_rd (HRR1.out.below z.ext)
  refine tail_cons (l := ?segC) ?hsegC ?_
  case hsegC => simp only [pick, List.getElem?_toArray, List.getElem?_cons_succ, List.getElem?_cons_zero]; rfl
  repeat (go_big_quiet_step (fail))
  refine wpQuiet_nil ?_
  clear u1
  refine tail_call2 (vs := #[.agg #[.int .i64 (N : Int), .slice A1 ll k1, .slice A2 dl k2]]) Try.call9 rfl rfl rfl (R := fun r w' => r = .agg #[.int .i64 (N : Int), .slice A1 ll k1, .slice A2 dl k2] ∧ Below we.heap.size we w') ((like16 we (N : Int) A1 A2 ll k1 dl k2).mono ?_) ?_
  · rintro e w' ⟨rfl, hb⟩
    exact ⟨_, rfl, hb, rfl, hb⟩
  rintro r wf _ ⟨rfl, hb2⟩
  refine ⟨wf.heap.size, hb2.size, ?_⟩
  have HBF := Lib.hid (HBE.out.trans (hb2.mono HBE.out.size))
  have HALF := Lib.hid (HALE.out.below hb2)
  clear hb2
  simp only [Act.put, List.setIfInBounds_toArray, List.set_cons_zero, List.set_cons_succ]
  refine tail_cons (l := []) rfl (wpQuiet_nil ?_)
  have hbw := HBY.out wf HBF.out
  unfold SlR at hbw
  rw [HOL.out] at hbw
  refine tail_call2 (vs := #[.agg #[.int .i64 (N : Int), .slice A1 ll k1, .slice A2 dl k2]]) Try.call16 rfl rfl rfl (R := fun r w' => ∃ A c, r = .slice A N c ∧ Rd w' w'.heap.size A N out ∧ Below wf.heap.size wf w') (hbw.mono ?_) ?_
  · rintro e w' ⟨A, c, rfl, ho, _, _, hb⟩
    exact ⟨_, rfl, hb, A, c, rfl, ho, hb⟩
  rintro r wg _ ⟨Z2, z2, rfl, ho2, hb3⟩
  refine ⟨wg.heap.size, hb3.size, ?_⟩
  have HRR2 := Lib.hid ho2
  have HBG := Lib.hid (HBF.out.trans (hb3.mono HBF.out.size))
  have HALG := Lib.hid (HALF.out.below hb3)
  clear hbw ho2 hb3
  simp only [Act.put, List.setIfInBounds_toArray, List.set_cons_zero, List.set_cons_succ]
  have u2 : ∀ z : LaterB wg.heap.size wg, (convert 44 9 (.slice Z2 N z2)).run Try.prog z.val = .ok (.string S) z.val := fun z => by rw [← HS.out]; exact conv_rd (HRR2.out.below z.ext)
  refine tail_cons (l := ?segD) ?hsegD ?_
  case hsegD => simp only [pick, List.getElem?_toArray, List.getElem?_cons_succ, List.getElem?_cons_zero]; rfl
  repeat (go_big_quiet_step (fail))
  refine wpQuiet_nil ?_
  clear u2
  refine tail_call2 (vs := #[.pointer (some ⟨g6, 0, none⟩), .pointer (some ⟨p, 0, none⟩)]) Try.call17 rfl rfl rfl (R := fun r w' => r = .int .i64 1 ∧ Below wg.heap.size wg w') ((lsame_any walkC allC checkC HALG.out HRT8.out HRC8.out h2 (by omega) HRD8.out).mono ?_) ?_
  · rintro e w' ⟨rfl, hb⟩
    exact ⟨_, rfl, hb, rfl, hb⟩
  rintro r wh _ ⟨rfl, hb4⟩
  refine ⟨wh.heap.size, hb4.size, ?_⟩
  have HBH := Lib.hid (HBG.out.trans (hb4.mono HBG.out.size))
  clear hb4
  simp only [Act.put, List.setIfInBounds_toArray, List.set_cons_zero, List.set_cons_succ]
  refine tail_last (l := ?lastE) (t := []) ?hlastE rfl ?_
  case hlastE => simp only [pick, List.getElem?_toArray, List.getElem?_cons_succ, List.getElem?_cons_zero]; rfl
  repeat (go_big_quiet_step (fail))
  refine wpQuiet_nil ?_
  go_wp2
  go_ret
  exact ⟨rfl, HBH.out⟩
end Go.Proofs.Ytbemaoncakcnjaa
