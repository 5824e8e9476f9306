/- Texts of mine, joined: Plan, TailS, Clo, Plays1, Ref1, Tag1, BlkM, WordM, ListM, BitM, TileM, RebM. -/
import Derived.Laws.AppendOwnNone
import Derived.Laws.BitsAllLaws
import Derived.Test.YtbemaoncakcnjaaK1

/- A region that draws its order, with places at which one of two operations that are no readers may come up; an append to a row of this call's own as such an operation. No program in sight. -/
namespace Go.Proofs.Ytbemaoncakcnjaa
open Go.RowKit

/-- How a region may come up: readers first; then one operation, or either of two; a tail in the end. -/
inductive PT where
  | fin (last : List Nat)
  | one (rs : List Nat) (i : Nat) (t : PT)
  | two (rs : List Nat) (i1 : Nat) (t1 : PT) (i2 : Nat) (t2 : PT)

def PT.ok (ops : Array Oper) (T : List Nat) : PT → Array Bool → Bool
  | .fin last, l => segT ops T l last && seqT ops (mark l last) T
  | .one rs i t, l => segT ops T l rs && (Region.ready .any ops (mark l rs) == [i] && !mv ops i && t.ok ops T ((mark l rs).setIfInBounds i true))
  | .two rs i1 t1 i2 t2, l => segT ops T l rs && (Region.ready .any ops (mark l rs) == [i1, i2] && (!mv ops i1 && !mv ops i2) && (t1.ok ops T ((mark l rs).setIfInBounds i1 true) && t2.ok ops T ((mark l rs).setIfInBounds i2 true)))
def PT.len (T : List Nat) : PT → Nat
  | .fin last => T.length + last.length
  | .one rs _ t => 1 + t.len T + rs.length
  | .two rs _ t1 _ _ => 1 + t1.len T + rs.length
/-- Both ways are as long. -/
def PT.even (T : List Nat) : PT → Bool
  | .fin _ => true
  | .one _ _ t => t.even T
  | .two _ _ t1 _ t2 => t1.len T == t2.len T && (t1.even T && t2.even T)
def PT.wp (P : Program) (ops : Array Oper) (Q : Exit → Act → World → Prop) (T : List Nat) : PT → Nat → Act → World → Prop
  | .fin last, B, a, w => wpQuiet P ops (AfterB B w) (fun a' => wpList P ops Q (pick ops T) a' w) (pick ops last) a
  | .one rs i t, B, a, w => wpQuiet P ops (AfterB B w) (fun a' => wpOp P ops Q i (fun a'' w'' => Below B w w'' ∧ ∃ B', B ≤ B' ∧ t.wp P ops Q T B' a'' w'') a' w) (pick ops rs) a
  | .two rs i1 t1 i2 t2, B, a, w => wpQuiet P ops (AfterB B w) (fun a' => wpOp P ops Q i1 (fun a'' w'' => Below B w w'' ∧ ∃ B', B ≤ B' ∧ t1.wp P ops Q T B' a'' w'') a' w ∧ wpOp P ops Q i2 (fun a'' w'' => Below B w w'' ∧ ∃ B', B ≤ B' ∧ t2.wp P ops Q T B' a'' w'') a' w) (pick ops rs) a

section
variable {P : Program} {ops : Array Oper} {Q : Exit → Act → World → Prop} {T : List Nat}
theorem PT.any (hsel : Region.noSelect ops = true) (hQ : ∀ c a t v w, Q (.panic c) (Act.put a (some t) v) w → Q (.panic c) a w) :
    ∀ (p : PT) (l : Array Bool) (B : Nat) (a : Act) (w : World), p.even T = true → p.ok ops T l = true → p.wp P ops Q T B a w → wpAnyT P ops Q (Below B w) T (p.len T) l a w
  | .fin last, l, B, a, w, _, hc, h => by
    simp only [PT.ok, Bool.and_eq_true] at hc
    exact segT_any hsel hQ B w _ T.length last l a hc.1 h (fun a' ha => seqT_any (fun _ h => h) T _ a' w (fun _ h => h) hc.2 ha)
  | .one rs i t, l, B, a, w, he, hc, h => by
    simp only [PT.ok, Bool.and_eq_true, beq_iff_eq] at hc
    simp only [PT.even] at he
    obtain ⟨h1, ⟨h2, h6⟩, h3⟩ := hc
    refine segT_any hsel hQ B w _ (1 + t.len T) rs l a h1 h (fun a' ha => ?_)
    rw [Nat.add_comm]
    refine ⟨fun h0 => (by rw [h2] at h0; cases h0), fun j hj => ?_⟩
    rw [h2] at hj
    obtain rfl : j = i := by simpa using hj
    refine wpOp_mono (fun a'' w'' hh => ⟨fun _ _ => hh.1, fun hm => by simp [hm] at h6, ?_⟩) ha
    obtain ⟨hb, B', hB, hm⟩ := hh
    exact wpAnyT_less (fun w3 h4 => hb.trans (h4.mono hB)) _ _ _ _ (PT.any hsel hQ t _ B' a'' w'' he h3 hm)
  | .two rs i1 t1 i2 t2, l, B, a, w, he, hc, h => by
    simp only [PT.ok, Bool.and_eq_true, beq_iff_eq] at hc
    simp only [PT.even, Bool.and_eq_true, beq_iff_eq] at he
    obtain ⟨h1, ⟨h2, m1, m2⟩, k1, k2⟩ := hc
    obtain ⟨e0, e1, e2⟩ := he
    refine segT_any hsel hQ B w _ (1 + t1.len T) rs l a h1 h (fun a' ha => ?_)
    rw [Nat.add_comm]
    refine ⟨fun h0 => (by rw [h2] at h0; cases h0), fun j hj => ?_⟩
    rw [h2] at hj
    rcases List.mem_cons.1 hj with rfl | hj
    · refine wpOp_mono (fun a'' w'' hh => ⟨fun _ _ => hh.1, fun hm => by simp [hm] at m1, ?_⟩) ha.1
      obtain ⟨hb, B', hB, hm⟩ := hh
      exact wpAnyT_less (fun w3 h4 => hb.trans (h4.mono hB)) _ _ _ _ (PT.any hsel hQ t1 _ B' a'' w'' e1 k1 hm)
    · obtain rfl : j = i2 := by simpa using hj
      rw [e0]
      refine wpOp_mono (fun a'' w'' hh => ⟨fun _ _ => hh.1, fun hm => by simp [hm] at m2, ?_⟩) ha.2
      obtain ⟨hb, B', hB, hm⟩ := hh
      exact wpAnyT_less (fun w3 h4 => hb.trans (h4.mono hB)) _ _ _ _ (PT.any hsel hQ t2 _ B' a'' w'' e2 k2 hm)

/-- The region, by its plan. -/
theorem wp_region_plan {id : Nat} {a : Act} {w : World} (B : Nat) (p : PT) (T : List Nat) (hm : P.follows .mixedOrders = true) (hsel : Region.noSelect ops = true)
    (hc : (p.ok ops T (Array.replicate ops.size false) && (p.even T && p.len T == ops.size)) = true) (hQ : ∀ c a t v w, Q (.panic c) (Act.put a (some t) v) w → Q (.panic c) a w)
    (h : p.wp P ops Q T B a w.drew) : (Code.region id ops true).wp P Q a w := by
  simp only [Bool.and_eq_true, beq_iff_eq] at hc
  obtain ⟨h1, h2, h3⟩ := hc
  have := PT.any hsel hQ p _ B a w.drew h2 h1 h
  rw [h3] at this
  exact wp_region_any hm (wpAnyT_any _ _ _ _ this)

theorem plan_one {rs : List Nat} {i : Nat} {t : PT} {B : Nat} {a : Act} {w : World} {l : List Oper} (hl : pick ops rs = l)
    (h : wpQuiet P ops (AfterB B w) (fun a' => wpOp P ops Q i (fun a'' w'' => Below B w w'' ∧ ∃ B', B ≤ B' ∧ t.wp P ops Q T B' a'' w'') a' w) l a) : (PT.one rs i t).wp P ops Q T B a w := by
  subst hl; exact h
theorem plan_two {rs : List Nat} {i1 i2 : Nat} {t1 t2 : PT} {B : Nat} {a : Act} {w : World} {l : List Oper} (hl : pick ops rs = l)
    (h : wpQuiet P ops (AfterB B w) (fun a' => wpOp P ops Q i1 (fun a'' w'' => Below B w w'' ∧ ∃ B', B ≤ B' ∧ t1.wp P ops Q T B' a'' w'') a' w ∧ wpOp P ops Q i2 (fun a'' w'' => Below B w w'' ∧ ∃ B', B ≤ B' ∧ t2.wp P ops Q T B' a'' w'') a' w) l a) : (PT.two rs i1 t1 i2 t2).wp P ops Q T B a w := by
  subst hl; exact h
theorem plan_fin {last : List Nat} {B : Nat} {a : Act} {w : World} {l t : List Oper} (hl : pick ops last = l) (ht : pick ops T = t)
    (h : wpQuiet P ops (AfterB B w) (fun a' => wpList P ops Q t a' w) l a) : (PT.fin last).wp P ops Q T B a w := by
  subst hl ht; exact h

/-- What a slice tells, cell by cell. -/
def Src (w : World) (A : Option Addr) (m c : Nat) (news : List Value) : Prop := (A = none → m = 0 ∧ c = 0 ∧ news = []) ∧ ∀ ad, A = some ad → ∀ j u, news[j]? = some u → w.cell? (ad.add j) = some u
/-- append(own, src...) as an operation of such a region. -/
theorem tail_app {i B : Nat} {o : Oper} {a : Act} {w : World} {K : Nat → Act → World → Prop} (d : Option Tmp) (s x : Operand) (t e : TypeId) (hoi : ops[i]? = some o) (hd : o.dst = d) (hw : Region.wanted o (yielded ops a.tmps) = true)
    (ho : o.op = .call { callee := .builtin .append, args := #[s, x], argTypes := #[t, t] }) (ht : P.underlying t = some (.slice e)) (z : Value) (size bytes : Nat) (hinfo : (P.info? e).map (fun i => (i.zero, i.size, i.bytes)) = some (some z, size, bytes)) (hzs : z.cells.size = size) (hsz : 0 < size)
    (base : Nat) (v : Value) (n : Nat) (xs : List Value) (hs : a.eval s = v) (hown : w.ownsRow base e size v n xs) (hbB : B ≤ base) (hB : base ≤ w.heap.size)
    (A : Option Addr) (m c : Nat) (news : List Value) (hx : a.eval x = .slice A m c) (hl : news.length = m * size) (hr : Src w A m c news) (h1 : ∀ u ∈ news, u.oneCell' = true) (h63 : n + m ≤ 1000000) (hby : bytes ≤ 1000)
    (h : ∀ v' w', w'.ownsRow base e size v' (n + m) (xs ++ news) → Below B w w' → w.grownBy w' v.ownBlock → ∃ B', B ≤ B' ∧ K B' (a.put d v') w') : wpOp P ops Q i (fun a'' w'' => Below B w w'' ∧ ∃ B', B ≤ B' ∧ K B' a'' w'') a w := by
  subst hd
  obtain ⟨i0, hi, hz0, hz1, hz2⟩ := info_parts hinfo
  unfold wpOp
  simp only [hoi]
  rw [if_pos hw]
  rcases A with _ | ad
  · obtain ⟨rfl, rfl, rfl⟩ := hr.1 rfl
    have hrun := run_append_owned_none (P := P) (w := w) base t o.type e i0 size ht hi v n xs hown
    left
    unfold Oper.wp
    simp [execOp, ho, resolve, invoke, builtin, hs, hx, hrun, Result.andThen]
    exact ⟨Below.refl _ _, h v w (by simpa using hown) (Below.refl _ _) (World.grownBy.refl w _)⟩
  · refine .inl (wp_append_own w s x t ho base e i0 z size bytes ht hi hz0 hz1 hz2 hzs hsz v n _ hs hown ad m c news hx hl (hr.2 ad rfl) h1 (by unfold maxLen; omega) ?_ hB ?_)
    · exact Nat.le_trans (Nat.mul_le_mul h63 hby) (by omega)
    · intro v' w' k1 k2 _
      have hb' : Below B w w' := (Below.refl _ _).grown k2 (Nat.le_trans hbB hB) (fun k hk => Nat.le_trans hbB (hown.lt k hk).1)
      exact ⟨hb', h v' w' k1 hb' k2⟩
end
end Go.Proofs.Ytbemaoncakcnjaa

/- The law of one order over calls that may change the blocks of a set, and no other block that was there. No program in sight. -/
namespace Go.Proofs.Ytbemaoncakcnjaa
open Go.RowKit

/-- The worlds from w on in which, of what was there, only blocks of S are others. -/
def LaterS (S : Nat → Prop) (w : World) : Type := { w' : World // Tch S w w' }
instance (S : Nat → Prop) (w : World) : Nonempty (LaterS S w) := ⟨⟨w, Tch.refl _ _⟩⟩

theorem Tch.cell {S : Nat → Prop} {w w' : World} (h : Tch S w w') {a : Addr} {v : Value} (hc : w.cell? a = some v) (hn : ¬ S a.block) : w'.cell? a = some v :=
  (World.cell?_of_block (h.block a.block (cell_size hc) hn)).trans hc
where cell_size {w : World} {a : Addr} {v : Value} (h : w.cell? a = some v) : a.block < w.heap.size := by
        unfold World.cell? at h
        rcases Nat.lt_or_ge a.block w.heap.size with h1 | h1
        · exact h1
        · rw [Array.getElem?_eq_none h1] at h; simp at h

section
variable {P : Program} {ops : Array Oper} {Q : Exit → Act → World → Prop} {T : List Nat}

end

end Go.Proofs.Ytbemaoncakcnjaa

/- The contract of an arena's Clone. -/
namespace Go.Proofs.Ytbemaoncakcnjaa
open Go.RowKit

section
variable {w : World} {g base cap c : Nat} {A : Option Addr} {bs : List UInt8}
/-- A new arena. -/
def Cloned (base cap : Nat) (bs : List UInt8) (w : World) (e : Ending) (w' : World) : Prop :=
  ∃ g' A' c', e = .returned (.pointer (some ⟨g', 0, none⟩)) ∧ Ar w' 74 g' base cap A' c' bs ∧ Below w.heap.size w w' ∧ w.heap.size ≤ g' ∧ ∀ a, A' = some a → w.heap.size ≤ a.block

set_option maxRecDepth 100000 in
set_option maxHeartbeats 400000 in
theorem clone_any (h : Ar w 74 g base cap A c bs) (hl : bs.length ≤ 1000000) :
    Calls Try.prog 29 #[.pointer (some ⟨g, 0, none⟩)] w fun e w' => Cloned base cap bs w e w' := by
  obtain ⟨w0, hw0⟩ : ∃ w0, w.drew = w0 := ⟨_, rfl⟩
  have h0 : Ar w0 74 g base cap A c bs := by rw [← hw0]; exact h.drew
  have hz0 : w0.heap.size = w.heap.size := by rw [← hw0]; rfl
  have hb0 : Below w.heap.size w w0 := by rw [← hw0]; exact (Below.refl _ _).drew
  have hcz : A = none → c = 0 := fun e => by subst e; exact h.none_.2
  have HC := Lib.hid (sclone_any A c w0.heap.size bs w0 h0.reads (Nat.le_refl _) hcz hl)
  have HW0 := Lib.hid hw0
  have HB0 := Lib.hid hb0
  have HZ0 := Lib.hid hz0
  have H0 := Lib.hid h0
  clear hw0 h0 hz0 hb0 hcz h
  go_enter Try.func29, Try.ntmps29
  go_wp2_with fail
  refine wp_region_tail w0.heap.size [([0, 1, 2, 3, 4, 5, 6, 7, 8, 9, 10, 11], 12)] [13] [14, 15] (by kernel_rfl) (by kernel_rfl) (by kernel_rfl) (fun _ _ _ _ _ h => h) ?_
  rw [HW0.out]
  have t0 : ∀ x : LaterB w0.heap.size w0, x.val.cell? ⟨g, 0, none⟩ = some (.int .u64 (base : Int)) := fun x => (x.ext.cell (p := ⟨g, 0, none⟩) H0.out.lt).trans H0.out.c0
  have t1 : ∀ x : LaterB w0.heap.size w0, x.val.cell? ⟨g, 1, none⟩ = some (.int .i64 (cap : Int)) := fun x => (x.ext.cell (p := ⟨g, 1, none⟩) H0.out.lt).trans H0.out.c1
  have t2 : ∀ x : LaterB w0.heap.size w0, x.val.cell? ⟨g, 2, none⟩ = some (.slice A bs.length c) := fun x => (x.ext.cell (p := ⟨g, 2, none⟩) H0.out.lt).trans H0.out.c2
  refine tail_cons (l := ?seg1) ?hseg1 ?_
  case hseg1 => simp only [pick, List.getElem?_toArray, List.getElem?_cons_succ, List.getElem?_cons_zero]; rfl
  repeat (go_big_quiet_step (fail))
  refine wpQuiet_nil ?_
  clear t0 t1 t2
  refine tail_call (vs := #[.slice A bs.length c]) Try.call51 rfl rfl rfl (R := fun r w' => ∃ A' c', r = .slice A' bs.length c' ∧ w'.ownsRow w0.heap.size 5 1 (.slice A' bs.length c') bs.length (bs.map bv)) (HC.out.mono ?_) w0.heap.size (Nat.le_refl _) ?_
  · rintro e w' ⟨A', c', rfl, ho, hb⟩
    exact ⟨_, rfl, hb, A', c', rfl, ho⟩
  rintro r w1 hb1 ⟨A', c', rfl, ho⟩
  refine tail_last (l := ?la2) (t := ?tl2) ?hla2 ?htl2 ?_
  case hla2 => simp only [pick, List.getElem?_toArray, List.getElem?_cons_succ, List.getElem?_cons_zero]; rfl
  case htl2 => simp only [pick, List.getElem?_toArray, List.getElem?_cons_succ, List.getElem?_cons_zero]; rfl
  simp only [Act.put, List.setIfInBounds_toArray, List.set_cons_zero, List.set_cons_succ]
  repeat (go_big_quiet_step (fail))
  refine wpQuiet_nil ?_
  have HO := Lib.hid ho
  have HB1 := Lib.hid hb1
  clear ho hb1
  go_wp2
  go_ret
  have hb2 : Below w1.heap.size w1 (w1.alloc (.cells #[.int .u64 (base : Int), .int .i64 (cap : Int), .slice A' bs.length c'] 74)) := (Below.refl _ _).alloc (Nat.le_refl _) _
  refine ⟨w1.heap.size, A', c', rfl, ⟨heap_alloc_new w1 _, ?_⟩, ?_, ?_, ?_⟩
  · obtain ⟨h1, h2⟩ := own_below HO.out hb2
    refine ⟨h1, h2.imp id fun ⟨g', cap', cur, a, b, c⟩ => ⟨g', cap', cur, a, Nat.zero_le _, c⟩⟩
  · refine HB0.out.trans ?_
    rw [← HZ0.out]
    exact HB1.out.trans (hb2.mono HB1.out.size)
  · rw [← HZ0.out]; exact HB1.out.size
  · intro a e
    rw [← HZ0.out]
    exact (HO.out.lt a.block (by rw [e]; rfl)).1
end
end Go.Proofs.Ytbemaoncakcnjaa

/- The contracts of an arena's Clone; of the law's words: at, low, MayArena. -/
namespace Go.Proofs.Ytbemaoncakcnjaa
open Go.RowKit

set_option maxRecDepth 100000 in
set_option maxHeartbeats 400000 in
theorem may_yes (w : World) (base cap : Nat) (h1 : base % 16 = 0) (h2 : base ≤ 4611686018427387904) (h3 : 1024 ≤ cap) (h4 : cap ≤ 16384) :
    Calls Try.prog 10 #[.int .u64 (base : Int), .int .i64 (cap : Int)] w fun e w' => e = .returned (.bool true) ∧ w = w' := by
  have s1 : ((base : Int) % 16 == 0) = true := by rw [beq_iff_eq]; omega
  have s2 : decide ((base : Int) ≤ 4611686018427387904) = true := decide_eq_true (by omega)
  have s3 : decide ((1024 : Int) ≤ (cap : Int)) = true := decide_eq_true (by omega)
  have s4 : decide ((cap : Int) ≤ 16384) = true := decide_eq_true (by omega)
  go_enter Try.func10, Try.ntmps10
  go_wp2
  go_ret
  exact ⟨rfl, rfl⟩

set_option maxRecDepth 100000 in
set_option maxHeartbeats 400000 in
theorem may_no (w : World) (base : Nat) (cap : Int) (h : base % 16 ≠ 0 ∨ 4611686018427387904 < base ∨ cap < 1024 ∨ 16384 < cap) :
    Calls Try.prog 10 #[.int .u64 (base : Int), .int .i64 cap] w fun e w' => e = .returned (.bool false) ∧ w = w' := by
  by_cases h1 : base % 16 = 0
  · have s1 : ((base : Int) % 16 == 0) = true := by rw [beq_iff_eq]; omega
    by_cases h2 : 4611686018427387904 < base
    · have s2 : decide ((base : Int) ≤ 4611686018427387904) = false := decide_eq_false (by omega)
      clear h h1
      go_enter Try.func10, Try.ntmps10
      go_wp2
      go_ret
      exact ⟨rfl, rfl⟩
    · have s2 : decide ((base : Int) ≤ 4611686018427387904) = true := decide_eq_true (by omega)
      by_cases h3 : cap < 1024
      · have s3 : decide ((1024 : Int) ≤ cap) = false := decide_eq_false (by omega)
        clear h h1
        go_enter Try.func10, Try.ntmps10
        go_wp2
        go_ret
        exact ⟨rfl, rfl⟩
      · have s3 : decide ((1024 : Int) ≤ cap) = true := decide_eq_true (by omega)
        have s4 : decide (cap ≤ 16384) = false := decide_eq_false (by omega)
        clear h h1
        go_enter Try.func10, Try.ntmps10
        go_wp2
        go_ret
        exact ⟨rfl, rfl⟩
  · have s1 : ((base : Int) % 16 == 0) = false := by rw [beq_eq_false_iff_ne]; omega
    clear h h1
    go_enter Try.func10, Try.ntmps10
    go_wp2
    go_ret
    exact ⟨rfl, rfl⟩

end Go.Proofs.Ytbemaoncakcnjaa

/- The contracts of the document's own numbers: Get, Low, IsSize, Pack, Unpack, Need, Class. -/
namespace Go.Proofs.Ytbemaoncakcnjaa
open Go.RowKit

theorem rt_i {k : IntKind} {a b : Int} (h : a = b) : Ending.returned (.int k a) = .returned (.int k b) := by rw [h]
theorem rt_b {a b : Bool} (h : a = b) : Ending.returned (.bool a) = .returned (.bool b) := by rw [h]

set_option maxHeartbeats 400000 in
theorem rget_yes (A : Option Addr) (len c B : Nat) (bs : List UInt8) (p n : Nat) (w : World) (h : Rd w B A len bs) (hlc : len ≤ c) (hl : len ≤ 1000000) (hn0 : 0 < n) (hn : n ≤ 8) (h2 : p + n ≤ len) :
    Calls Try.prog 98 #[.slice A len c, .int .u64 (p : Int), .int .i64 (n : Int)] w fun e w' => e = .returned (.tuple #[.int .u64 (numB ((bs.drop p).take n) : Int), .bool true]) ∧ w = w' := by
  obtain ⟨b, off, rfl, hb, _, _⟩ := h.at_ (k := 0) (by omega)
  have hs := h.sub p n h2
  go_enter Try.func98, Try.ntmps98
  go_wp2_with fail
  refine (refNum_any _ _ _ _ _ _ hs (by omega)).mono ?_
  rintro e w' ⟨rfl, rfl⟩
  go_wp2
  go_ret2
  exact ⟨rfl, rfl⟩

set_option maxHeartbeats 400000 in
theorem rget_no (A : Option Addr) (len c p n : Nat) (w : World) (hl : len ≤ 1000000) (hn : n ≤ 8) (h2 : len < p + n) :
    Calls Try.prog 98 #[.slice A len c, .int .u64 (p : Int), .int .i64 (n : Int)] w fun e w' => e = .returned (.tuple #[.int .u64 0, .bool false]) ∧ w = w' := by
  by_cases h3 : len < p
  · go_enter Try.func98, Try.ntmps98
    go_wp2
    go_ret2
    exact ⟨rfl, rfl⟩
  · go_enter Try.func98, Try.ntmps98
    go_wp2
    go_ret2
    exact ⟨rfl, rfl⟩

theorem low_div (v k q : Nat) (h : v / 256 ^ k = q) : Value.int .u64 ((q : Int) / 256) = Value.int .u64 ((v / 256 ^ (k + 1) : Nat) : Int) := by
  rw [Nat.pow_succ, ← Nat.div_div_eq_div_mul, h]; simp
theorem low_row (v k q : Nat) (h : v / 256 ^ k = q) : (lowB (k + 1) v).map bv = (lowB k v).map bv ++ [Value.int .u8 ((q : Int) % 256)] := by
  rw [lowB_snoc, List.map_append, h]
  simp only [List.map_cons, List.map_nil, bv, toNat_ofNat_mod]
  simp

set_option maxHeartbeats 400000 in
theorem rlow_any (v n : Nat) (w : World) (hn : n ≤ 8) (hv : v < 18446744073709551616) :
    Calls Try.prog 78 #[.int .u64 (v : Int), .int .i64 (n : Int)] w fun e w' => ∃ x, e = .returned x ∧ w'.ownsRow w.heap.size 5 1 x n ((lowB n v).map bv) ∧ Below w.heap.size w w' := by
  obtain ⟨i0, hi, hz0, hz1, hz2⟩ := info_parts u8_info
  go_enter Try.func78, Try.ntmps78
  go_wp2
  go_loopw [0, 5, 6] (fun q x i wr => ∃ k : Nat, k ≤ n ∧ i = .int .i64 k ∧ q = .int .u64 ((v / 256 ^ k : Nat) : Int) ∧ wr.ownsRow w.heap.size 5 1 x k ((lowB k v).map bv) ∧ Below w.heap.size w wr) (fun _ _ i _ => n - (intOf i).toNat)
  case atStart => exact ⟨0, Nat.zero_le _, rfl, by simp, World.ownsRow_nil _ _ _ _, Below.refl _ _⟩
  case round =>
    obtain ⟨k, hk, rfl, rfl, hown, hb⟩ := hrel
    by_cases hlt : k < n
    · have hq : v / 256 ^ k < 18446744073709551616 := Nat.lt_of_le_of_lt (Nat.div_le_self _ _) hv
      generalize hqq : v / 256 ^ k = q at *
      have HQ := Lib.hid hqq
      clear hqq
      have hm : 0 ≤ (q : Int) % 256 ∧ (q : Int) % 256 ≤ 255 := by omega
      obtain ⟨hm0, hm1⟩ := hm
      go_wp2_with (first
        | (at_builtin; refine wpList_append_own _ rfl _ _ 44 rfl w.heap.size 5 i0 (.int .u8 0) 1 1 Try.underlying44 hi hz0 hz1 hz2 rfl (by decide) _ _ _ rfl (hown.alloc _) ⟨wr.heap.size, 0, none⟩ 1 1 [.int .u8 ((q : Int) % 256)] rfl rfl ?c1 ?c2 ?c3 ?c4 ?c5 ?_))
      case c1 =>
        intro j u hj
        match j, hj with
        | 0, hj => simp at hj; subst hj; simp [Addr.add]
      case c2 => intro u hu; simp at hu; subst hu; rfl
      case c3 => unfold maxLen; omega
      case c4 => omega
      case c5 => have := hb.size; simp; omega
      intro x' w1 hown' hgrow _
      have hb1 : Below w.heap.size w w1 := (hb.alloc hb.size _).grown hgrow (by have := hb.size; simp; omega) (fun j hj => (hown.lt j hj).1)
      have Hown := Lib.hid hown'
      clear hown' hgrow
      go_wp2
      go_roundw
      case rel => exact ⟨k + 1, by omega, by go_num, low_div v k q HQ.out, by rw [low_row v k q HQ.out]; exact Hown.out, hb1⟩
      case measure => simp [intOf]; omega
    · go_wp2
      go_ret
      obtain rfl : k = n := by omega
      exact ⟨_, rfl, hown, hb⟩

theorem rlow8 (v : Nat) (w : World) (hv : v < 18446744073709551616) :
    Calls Try.prog 78 #[.int .u64 (v : Int), .int .i64 8] w fun e w' => ∃ g cap, e = .returned (.slice (some ⟨g, 0, none⟩) 8 cap) ∧ w.heap.size ≤ g ∧ Rd w' w'.heap.size (some ⟨g, 0, none⟩) 8 (lowB 8 v) ∧ Below w.heap.size w w' := by
  refine (rlow_any v 8 w (by omega) hv).mono ?_
  rintro e w' ⟨x, rfl, hown, hb⟩
  obtain ⟨g, cap, rfl, _, hr⟩ := own_rd hown (by omega)
  exact ⟨g, cap, rfl, (hown.lt g rfl).1, hr, hb⟩

section
variable (w : World)
set_option maxHeartbeats 400000 in
theorem rissize_any (n : Int) (hn : -9223372036854775808 ≤ n ∧ n ≤ 9223372036854775807) (b : Bool) (hb : isSz n = b) :
    Calls Try.prog 28 #[.int .i64 n] w fun e w' => e = .returned (.bool b) ∧ w = w' := by
  by_cases h1 : 32 ≤ n
  · by_cases h2 : n ≤ 16384
    · have e : (n % 16 == 0) = b := by rw [← hb]; simp [isSz, h1, h2]
      have HE := Lib.hid e
      clear hb e
      go_enter Try.func28, Try.ntmps28
      go_wp2
      go_ret
      exact ⟨rt_b HE.out, rfl⟩
    · obtain rfl : false = b := by rw [← hb]; simp [isSz, h2]
      clear hb
      go_enter Try.func28, Try.ntmps28
      go_wp2
      go_ret
      exact ⟨rfl, rfl⟩
  · obtain rfl : false = b := by rw [← hb]; simp [isSz, h1]
    clear hb
    go_enter Try.func28, Try.ntmps28
    go_wp2
    go_ret
    exact ⟨rfl, rfl⟩

set_option maxHeartbeats 400000 in
theorem rpack_any (s : Int) (u : Bool) (hs : -9223372036854775808 ≤ s ∧ s ≤ 9223372036854775807) (m : Nat) (hm : packN s u = m) :
    Calls Try.prog 55 #[.int .i64 s, .bool u] w fun e w' => e = .returned (.int .u64 (m : Int)) ∧ w = w' := by
  cases hb : isSz s
  · obtain rfl : 0 = m := by rw [← hm]; simp [packN, hb]
    have HI := Lib.hid (rissize_any w s hs false hb)
    clear hm hb
    go_enter Try.func55, Try.ntmps55
    go_wp2_with fail
    with_reducible refine HI.out.mono ?_
    rintro e w1 ⟨rfl, rfl⟩
    go_wp2
    go_ret
    exact ⟨rfl, rfl⟩
  · have h := (isSz_iff s).1 hb
    have HI := Lib.hid (rissize_any w s hs true hb)
    obtain ⟨n, rfl⟩ : ∃ n : Nat, s = (n : Int) := ⟨s.toNat, by omega⟩
    have hn : n ≤ 16384 := by omega
    have HM : Hid (n + (if u = true then 1 else 0) = m) := (show _ = _ by rw [← hm]; simp [packN, hb])
    clear hm hb h
    cases u
    · go_enter Try.func55, Try.ntmps55
      go_wp2_with fail
      with_reducible refine HI.out.mono ?_
      rintro e w1 ⟨rfl, rfl⟩
      go_wp2
      go_ret
      exact ⟨rt_i (by have := HM.out; simp at this; omega), rfl⟩
    · go_enter Try.func55, Try.ntmps55
      go_wp2_with fail
      with_reducible refine HI.out.mono ?_
      rintro e w1 ⟨rfl, rfl⟩
      go_wp2
      go_ret
      exact ⟨rt_i (by have := HM.out; simp at this; omega), rfl⟩

/-- What Unpack tells. -/
def unpV (o : Option (Nat × Bool)) : Value := match o with
  | some (s, u) => .tuple #[.int .i64 (s : Int), .bool u, .bool true]
  | none => .tuple #[.int .i64 0, .bool false, .bool false]

set_option maxHeartbeats 400000 in
theorem runpack_any (v : Nat) (hv : v < 18446744073709551616) :
    Calls Try.prog 91 #[.int .u64 (v : Int)] w fun e w' => e = .returned (unpV (unpN v)) ∧ w = w' := by
  by_cases h0 : 20000 < v
  · have e : unpN v = none := by unfold unpN; rw [if_neg (by omega)]
    rw [e]
    clear e
    go_enter Try.func91, Try.ntmps91
    go_wp2
    go_ret3
    exact ⟨rfl, rfl⟩
  · obtain ⟨s, hs⟩ : ∃ s : Nat, v - v % 2 = s := ⟨_, rfl⟩
    have hs2 : (v : Int) - (v : Int) % 2 = (s : Int) := by omega
    cases hb : isSz (s : Int)
    · have e : unpN v = none := by unfold unpN; rw [hs, if_neg (by simp [hb])]
      rw [e]
      have HI := Lib.hid (rissize_any w (s : Int) (by omega) false hb)
      have HS := Lib.hid hs2
      clear e hs hb hs2
      go_enter Try.func91, Try.ntmps91
      go_wp2_with fail
      rw [HS.out]
      with_reducible refine HI.out.mono ?_
      rintro e w1 ⟨rfl, rfl⟩
      go_wp2
      go_ret3
      exact ⟨rfl, rfl⟩
    · have e : unpN v = some (s, v % 2 == 1) := by unfold unpN; rw [hs, if_pos ⟨by omega, hb⟩]
      rw [e]
      have HI := Lib.hid (rissize_any w (s : Int) (by omega) true hb)
      have HS := Lib.hid hs2
      have HB : Hid (((v : Int) % 2 == 1) = (v % 2 == 1)) := (show _ = _ by
        rw [Bool.eq_iff_iff, beq_iff_eq, beq_iff_eq]; omega)
      clear e hs hb hs2
      go_enter Try.func91, Try.ntmps91
      go_wp2_with fail
      rw [HS.out]
      with_reducible refine HI.out.mono ?_
      rintro e w1 ⟨rfl, rfl⟩
      go_wp2
      go_ret3
      refine ⟨?_, rfl⟩
      rw [← HB.out]
      rfl

set_option maxHeartbeats 1000000 in
theorem rclass_any (s : Int) (hs : -9223372036854775808 ≤ s ∧ s ≤ 9223372036854775807) (c : Int) (hc : classI s = c) :
    Calls Try.prog 77 #[.int .i64 s] w fun e w' => e = .returned (.int .i64 c) ∧ w = w' := by
  cases hb : isSz s
  · obtain rfl : -1 = c := by rw [← hc]; simp [classI, hb]
    have HI := Lib.hid (rissize_any w s hs false hb)
    clear hc hb
    go_enter Try.func77, Try.ntmps77
    go_wp2_with fail
    with_reducible refine HI.out.mono ?_
    rintro e w1 ⟨rfl, rfl⟩
    go_wp2
    go_ret
    exact ⟨rfl, rfl⟩
  · have h := (isSz_iff s).1 hb
    have HI := Lib.hid (rissize_any w s hs true hb)
    have hc' : classI s = c := hc
    unfold classI at hc
    rw [if_neg (by simp [hb])] at hc
    by_cases h0 : s ≤ 256
    · rw [if_pos h0] at hc
      have HC := Lib.hid hc
      clear hc hc' hb
      go_enter Try.func77, Try.ntmps77
      go_wp2_with fail
      with_reducible refine HI.out.mono ?_
      rintro e w1 ⟨rfl, rfl⟩
      go_wp2
      go_ret
      exact ⟨rt_i HC.out, rfl⟩
    · rw [if_neg h0] at hc
      have HC := Lib.hid hc
      clear hc hc' hb
      go_enter Try.func77, Try.ntmps77
      go_wp2_with fail
      with_reducible refine HI.out.mono ?_
      rintro e w1 ⟨rfl, rfl⟩
      go_wp2
      go_loop [4, 5] (fun a t => ∃ k P : Nat, k ≤ 6 ∧ P = 2 ^ k ∧ a = .int .i64 ((15 + k : Nat) : Int) ∧ t = .int .i64 ((512 * P : Nat) : Int) ∧ (256 * P : Int) ≤ s) (fun a _ => 21 - (intOf a).toNat)
      case atStart => exact ⟨0, 1, by omega, rfl, rfl, rfl, by omega⟩
      case round =>
        obtain ⟨k, P, hk, hP, rfl, rfl, hlo⟩ := hrel
        have hP6 : P ≤ 64 := by rw [hP]; exact Nat.pow_le_pow_right (by omega) hk
        by_cases hge : (512 * P : Int) ≤ s
        · have hk5 : k < 6 := by
            rcases Nat.lt_or_ge k 6 with h | h
            · exact h
            · obtain rfl : k = 6 := by omega
              rw [hP] at hge; omega
          have HP := Lib.hid hP
          have g1 : ((512 * P : Nat) : Int) ≤ s := by omega
          clear hP
          go_wp2
          go_round
          case rel => exact ⟨k + 1, 2 * P, by omega, by rw [Nat.pow_succ, HP.out]; omega, by go_num, by go_num, by omega⟩
          case measure => simp [intOf]; omega
        · have g1 : ¬ ((512 * P : Nat) : Int) ≤ s := by omega
          have HR : Hid (((15 + k : Nat) : Int) = c) := (show _ = _ by
            rw [← HC.out]
            match k, hk, hP with
            | 0, _, hP => simp at hP; subst hP; repeat' split
                          all_goals omega
            | 1, _, hP => simp at hP; subst hP; repeat' split
                          all_goals omega
            | 2, _, hP => simp at hP; subst hP; repeat' split
                          all_goals omega
            | 3, _, hP => simp at hP; subst hP; repeat' split
                          all_goals omega
            | 4, _, hP => simp at hP; subst hP; repeat' split
                          all_goals omega
            | 5, _, hP => simp at hP; subst hP; repeat' split
                          all_goals omega
            | 6, _, hP => simp at hP; subst hP; repeat' split
                          all_goals omega)
          clear hP HC
          go_wp2
          go_ret
          exact ⟨rt_i HR.out, rfl⟩
end
end Go.Proofs.Ytbemaoncakcnjaa

/- The contracts of the program's tags: isSize, Pack, Unpack; the head of the laws of layer 6. -/
namespace Go.Proofs.Ytbemaoncakcnjaa
open Go.RowKit

theorem andnot_one (v : Nat) (hv : v ≤ 16385) : wrap64 (bits .andNot .u64 (v : Int) 1) = ((v - v % 2 : Nat) : Int) := by
  have h : bits .andNot .u64 (v : Int) ((1 : Nat) : Int) = ((v &&& (18446744073709551615 - 1) : Nat) : Int) := by
    have hx : v &&& (18446744073709551615 - 1) < 2 ^ 64 := Nat.and_lt_two_pow _ (by omega)
    show IntKind.u64.wrap ((BitVec.ofInt 64 (v : Int) &&& ~~~BitVec.ofInt 64 ((1 : Nat) : Int)).toNat : Int) = _
    rw [BitVec.toNat_and, BitVec.toNat_not, ofInt_u64 v (by omega), ofInt_u64 1 (by omega), IntKind.wrap_u64]
    have e : 2 ^ 64 - 1 - 1 = 18446744073709551615 - 1 := by omega
    rw [e]
    omega
  have h2 : v &&& (18446744073709551615 - 1) = v - v % 2 := by
    rw [nat_hi64_1, Nat.mod_eq_of_lt (by omega)]
    omega
  have h3 : bits .andNot .u64 (v : Int) 1 = ((v - v % 2 : Nat) : Int) := by rw [← h2]; exact h
  rw [h3]
  have h4 := Nat.sub_le v (v % 2)
  unfold wrap64
  omega
theorem and_one (v : Nat) (hv : v < 18446744073709551616) : (bits .and .u64 (v : Int) 1 == 1) = (v % 2 == 1) := by
  have h : bits .and .u64 (v : Int) 1 = ((v &&& 1 : Nat) : Int) := u64_and_nat v 1 hv (by omega)
  rw [h, Nat.and_one_is_mod, Bool.eq_iff_iff, beq_iff_eq, beq_iff_eq]
  omega

section
variable (w : World)
set_option maxHeartbeats 400000 in
theorem tissize_any (n : Int) (hn : -9223372036854775808 ≤ n ∧ n ≤ 9223372036854775807) (b : Bool) (hb : isSz n = b) :
    Calls Try.prog 88 #[.int .i64 n] w fun e w' => e = .returned (.bool b) ∧ w = w' := by
  by_cases h1 : 32 ≤ n
  · by_cases h2 : n ≤ 16384
    · have e : (n % 16 == 0) = b := by rw [← hb]; simp [isSz, h1, h2]
      have HE := Lib.hid e
      clear hb e
      go_enter Try.func88, Try.ntmps88
      go_wp2
      go_ret
      exact ⟨rt_b HE.out, rfl⟩
    · obtain rfl : false = b := by rw [← hb]; simp [isSz, h2]
      clear hb
      go_enter Try.func88, Try.ntmps88
      go_wp2
      go_ret
      exact ⟨rfl, rfl⟩
  · obtain rfl : false = b := by rw [← hb]; simp [isSz, h1]
    clear hb
    go_enter Try.func88, Try.ntmps88
    go_wp2
    go_ret
    exact ⟨rfl, rfl⟩

set_option maxHeartbeats 400000 in
theorem tpack_any (s : Int) (u : Bool) (hs : -9223372036854775808 ≤ s ∧ s ≤ 9223372036854775807) (m : Nat) (hm : packN s u = m) :
    Calls Try.prog 68 #[.int .i64 s, .bool u] w fun e w' => e = .returned (.int .u64 (m : Int)) ∧ w = w' := by
  cases hb : isSz s
  · obtain rfl : 0 = m := by rw [← hm]; simp [packN, hb]
    have HI := Lib.hid (tissize_any w s hs false hb)
    clear hm hb
    go_enter Try.func68, Try.ntmps68
    go_wp2_with fail
    with_reducible refine HI.out.mono ?_
    rintro e w1 ⟨rfl, rfl⟩
    go_wp2
    go_ret
    exact ⟨rfl, rfl⟩
  · have h := (isSz_iff s).1 hb
    have HI := Lib.hid (tissize_any w s hs true hb)
    obtain ⟨n, rfl⟩ : ∃ n : Nat, s = (n : Int) := ⟨s.toNat, by omega⟩
    have hn : n ≤ 16384 := by omega
    have HM : Hid (n + (if u = true then 1 else 0) = m) := (show _ = _ by rw [← hm]; simp [packN, hb])
    clear hm hb h
    cases u
    · go_enter Try.func68, Try.ntmps68
      go_wp2_with fail
      with_reducible refine HI.out.mono ?_
      rintro e w1 ⟨rfl, rfl⟩
      go_wp2
      go_ret
      exact ⟨rt_i (by have := HM.out; simp at this; omega), rfl⟩
    · go_enter Try.func68, Try.ntmps68
      go_wp2_with fail
      with_reducible refine HI.out.mono ?_
      rintro e w1 ⟨rfl, rfl⟩
      go_wp2
      go_ret
      exact ⟨rt_i (by have := HM.out; simp at this; omega), rfl⟩

set_option maxHeartbeats 400000 in
theorem tunpack_any (v : Nat) (hv : v < 18446744073709551616) :
    Calls Try.prog 85 #[.int .u64 (v : Int)] w fun e w' => e = .returned (unpV (unpN v)) ∧ w = w' := by
  by_cases h0 : 16385 < v
  · have e : unpN v = none := by
      unfold unpN
      rw [if_neg]
      rintro ⟨_, h⟩
      have := (isSz_iff _).1 h
      omega
    rw [e]
    clear e
    go_enter Try.func85, Try.ntmps85
    go_wp2
    go_ret3
    exact ⟨rfl, rfl⟩
  · obtain ⟨s, hs⟩ : ∃ s : Nat, v - v % 2 = s := ⟨_, rfl⟩
    have hs2 : wrap64 (bits .andNot .u64 (v : Int) 1) = (s : Int) := by rw [andnot_one v (by omega), hs]
    cases hb : isSz (s : Int)
    · have e : unpN v = none := by unfold unpN; rw [hs, if_neg (by simp [hb])]
      rw [e]
      have HI := Lib.hid (tissize_any w (s : Int) (by have := Nat.sub_le v (v % 2); omega) false hb)
      have HS := Lib.hid hs2
      clear e hs hb hs2
      go_enter Try.func85, Try.ntmps85
      go_wp2_with fail
      rw [HS.out]
      with_reducible refine HI.out.mono ?_
      rintro e w1 ⟨rfl, rfl⟩
      go_wp2
      go_ret3
      exact ⟨rfl, rfl⟩
    · have e : unpN v = some (s, v % 2 == 1) := by unfold unpN; rw [hs, if_pos ⟨by omega, hb⟩]
      rw [e]
      have HI := Lib.hid (tissize_any w (s : Int) (by have := Nat.sub_le v (v % 2); omega) true hb)
      have HS := Lib.hid hs2
      have HB := Lib.hid (and_one v hv)
      clear e hs hb hs2
      go_enter Try.func85, Try.ntmps85
      go_wp2_with fail
      rw [HS.out]
      with_reducible refine HI.out.mono ?_
      rintro e w1 ⟨rfl, rfl⟩
      go_wp2
      go_ret3
      refine ⟨?_, rfl⟩
      rw [← HB.out]
      rfl

end
end Go.Proofs.Ytbemaoncakcnjaa

/- Blocks in bytes: plain definitions and facts. No program in sight. -/
namespace Go.Proofs.Ytbemaoncakcnjaa

/-- A block. -/
structure Bk where
  off : Nat
  size : Nat
  used : Bool
deriving DecidableEq
/-- The number of the eight bytes from o on. -/
def wordN (bs : List UInt8) (o : Nat) : Nat := numB ((bs.drop o).take 8)
def word? (bs : List UInt8) (o : Int) : Option Nat := if 0 ≤ o ∧ o + 8 ≤ bs.length then some (wordN bs o.toNat) else none
/-- Could a block of a size stand at o, of so many bytes? -/
def could (n : Nat) (o size : Int) : Bool := decide (184 ≤ o) && (o % 16 == 8 && (decide (o ≤ n) && decide (size ≤ n - o)))
theorem could_iff (n : Nat) (o size : Int) : could n o size = true ↔ 184 ≤ o ∧ o % 16 = 8 ∧ o ≤ n ∧ size ≤ n - o := by simp [could]
/-- The block that stands at o. -/
def getB (bs : List UInt8) (o : Int) : Option Bk :=
  if could bs.length o 8 = false then none else
  match unpN (wordN bs o.toNat) with
  | none => none
  | some (s, u) => if could bs.length o s = false then none else if wordN bs (o.toNat + s - 8) = wordN bs o.toNat then some ⟨o.toNat, s, u⟩ else none
/-- The block that ends at o. -/
def aheadB (bs : List UInt8) (o : Int) : Option Bk :=
  if o < 184 ∨ (bs.length : Int) < o then none else
  match unpN (wordN bs (o.toNat - 8)) with
  | none => none
  | some (s, u) => match getB bs (o - s) with
    | none => none
    | some x => if x.size = s ∧ x.used = u then some x else none

/-- All blocks from o on. -/
def walkF (bs : List UInt8) : Nat → Nat → Option (List Bk)
  | 0, _ => none
  | k + 1, o => if o < bs.length then (match getB bs (o : Int) with
    | none => none
    | some x => (walkF bs k (o + x.size)).map (x :: ·)) else some []
def walkB (bs : List UInt8) : Option (List Bk) := if bs.length < 184 then none else walkF bs (bs.length + 1) 184

theorem wordN_lt (bs : List UInt8) (o : Nat) : wordN bs o < 18446744073709551616 := numB_lt64 _ (by rw [List.length_take]; omega)
theorem getB_some {bs : List UInt8} {o : Int} {x : Bk} (h : getB bs o = some x) : o = (x.off : Int) ∧ 184 ≤ x.off ∧ x.off % 16 = 8 ∧ x.off + x.size ≤ bs.length ∧ isSz (x.size : Int) = true ∧ unpN (wordN bs x.off) = some (x.size, x.used) ∧ wordN bs (x.off + x.size - 8) = wordN bs x.off := by
  unfold getB at h
  split at h
  · cases h
  · rename_i hc
    have hc' := (could_iff _ _ _).1 (by simpa using hc)
    split at h
    · cases h
    · rename_i s u hu
      split at h
      · cases h
      · rename_i hc2
        have hc2' := (could_iff _ _ _).1 (by simpa using hc2)
        split at h
        · rename_i hw
          injection h with h
          subst h
          have := unpN_some hu
          refine ⟨by dsimp only; omega, by dsimp only; omega, by dsimp only; omega, by dsimp only; omega, this.1, hu, hw⟩
        · cases h
/-- A block stands at o just so. -/
theorem getB_of {bs : List UInt8} {x : Bk} (h1 : 184 ≤ x.off) (h2 : x.off % 16 = 8) (h3 : x.off + x.size ≤ bs.length) (h4 : unpN (wordN bs x.off) = some (x.size, x.used)) (h5 : wordN bs (x.off + x.size - 8) = wordN bs x.off) : getB bs (x.off : Int) = some x := by
  have hs := (isSz_iff _).1 (unpN_some h4).1
  unfold getB
  rw [if_neg (by rw [(could_iff _ _ _).2 (by omega)]; simp)]
  rw [Int.toNat_natCast, h4]
  dsimp only
  rw [if_neg (by rw [(could_iff _ _ _).2 (by omega)]; simp), if_pos h5]

end Go.Proofs.Ytbemaoncakcnjaa

/- Numbers laid into bytes, and bits: plain facts. No program in sight. -/
namespace Go.Proofs.Ytbemaoncakcnjaa

/-- A number laid at an offset. -/
def lyN (bs : List UInt8) (o v : Nat) : List UInt8 := bs.take o ++ (lowB 8 v ++ bs.drop (o + 8))
theorem lyN_length (bs : List UInt8) (o v : Nat) (h : o + 8 ≤ bs.length) : (lyN bs o v).length = bs.length := by
  unfold lyN
  rw [List.length_append, List.length_append, lowB_length, List.length_take, List.length_drop]
  omega
theorem lyN_get (bs : List UInt8) (o v i : Nat) (h : o + 8 ≤ bs.length) (hi : i < o ∨ o + 8 ≤ i) : (lyN bs o v)[i]? = bs[i]? := by
  unfold lyN
  have e1 : (bs.take o).length = o := by rw [List.length_take]; omega
  rcases hi with hi | hi
  · rw [List.getElem?_append_left (by omega), List.getElem?_take_of_lt hi]
  · rw [List.getElem?_append_right (by omega), e1, List.getElem?_append_right (by rw [lowB_length]; omega), lowB_length, List.getElem?_drop]
    congr 1
    omega
theorem wordN_same (bs : List UInt8) (o v : Nat) (h : o + 8 ≤ bs.length) (hv : v < 18446744073709551616) : wordN (lyN bs o v) o = v := by
  have e1 : (bs.take o).length = o := by rw [List.length_take]; omega
  have e : ((lyN bs o v).drop o).take 8 = lowB 8 v := by
    unfold lyN
    rw [List.drop_append, e1, List.drop_eq_nil_of_le (by omega), List.nil_append, Nat.sub_self, List.drop_zero]
    have := lowB_length 8 v
    rw [List.take_append_of_le_length (by omega), List.take_of_length_le (by omega)]
  unfold wordN
  rw [e, numB_lowB]
  exact Nat.mod_eq_of_lt hv
theorem wordN_congr (bs bs' : List UInt8) (p : Nat) (h : ∀ i, p ≤ i → i < p + 8 → bs'[i]? = bs[i]?) : wordN bs' p = wordN bs p := by
  unfold wordN
  congr 1
  apply List.ext_getElem?
  intro i
  rcases Nat.lt_or_ge i 8 with hi | hi
  · rw [List.getElem?_take_of_lt hi, List.getElem?_take_of_lt hi, List.getElem?_drop, List.getElem?_drop]
    exact h _ (by omega) (by omega)
  · rw [List.getElem?_eq_none (by rw [List.length_take]; omega), List.getElem?_eq_none (by rw [List.length_take]; omega)]
theorem wordN_other (bs : List UInt8) (o v p : Nat) (h : o + 8 ≤ bs.length) (hd : p + 8 ≤ o ∨ o + 8 ≤ p) : wordN (lyN bs o v) p = wordN bs p :=
  wordN_congr _ _ _ fun i h1 h2 => lyN_get bs o v i h (by omega)

/-- Blocks stand by their tags. -/
theorem getB_congr (bs bs' : List UInt8) (x : Bk) (hl : bs'.length = bs.length) (hx : getB bs (x.off : Int) = some x) (h1 : wordN bs' x.off = wordN bs x.off) (h2 : wordN bs' (x.off + x.size - 8) = wordN bs (x.off + x.size - 8)) : getB bs' (x.off : Int) = some x := by
  obtain ⟨_, g1, g2, g3, g4, g5, g6⟩ := getB_some hx
  exact getB_of g1 g2 (by omega) (by rw [h1]; exact g5) (by rw [h1, h2]; exact g6)

/-- A bit of a number. -/
def bitN (w c : Nat) : Bool := w / 2 ^ c % 2 == 1
theorem bitN_succ (w c : Nat) : bitN w (c + 1) = bitN (w / 2) c := by
  unfold bitN
  rw [Nat.pow_succ, Nat.mul_comm, Nat.div_div_eq_div_mul]
theorem bitN_add (w c : Nat) (h : bitN w c = false) (d : Nat) : bitN (w + 2 ^ c) d = if d = c then true else bitN w d := by
  induction c generalizing w d with
  | zero =>
    have h0 : w % 2 = 0 := by
      unfold bitN at h
      simp at h
      omega
    cases d with
    | zero => simp [bitN]; omega
    | succ d =>
      rw [if_neg (by omega), bitN_succ, bitN_succ]
      congr 1
      simp; omega
  | succ c ih =>
    rw [bitN_succ] at h
    have e : (w + 2 ^ (c + 1)) / 2 = w / 2 + 2 ^ c := by rw [Nat.pow_succ]; omega
    cases d with
    | zero =>
      rw [if_neg (by omega)]
      simp only [bitN, Nat.pow_zero, Nat.div_one]
      rw [Nat.pow_succ]
      congr 1
      omega
    | succ d =>
      rw [bitN_succ, e, ih (w / 2) h d, bitN_succ w d]
      by_cases hd : d = c
      · rw [if_pos hd, if_pos (by omega)]
      · rw [if_neg hd, if_neg (by omega)]
theorem bitN_ge (w c : Nat) (h : bitN w c = true) : 2 ^ c ≤ w := by
  unfold bitN at h
  rw [beq_iff_eq] at h
  rcases Nat.lt_or_ge w (2 ^ c) with h1 | h1
  · rw [Nat.div_eq_of_lt h1] at h; cases h
  · exact h1
theorem bitN_sub_c (w c : Nat) (h : bitN w c = true) : bitN (w - 2 ^ c) c = false := by
  have hg := bitN_ge w c h
  have hp : 0 < 2 ^ c := Nat.two_pow_pos c
  unfold bitN at h ⊢
  rw [beq_iff_eq] at h
  have e : w / 2 ^ c = (w - 2 ^ c) / 2 ^ c + 1 := by
    conv => lhs; rw [← Nat.sub_add_cancel hg]
    rw [Nat.add_div_right _ hp]
  rw [e] at h
  rw [beq_eq_false_iff_ne]
  omega
theorem bitN_sub (w c : Nat) (h : bitN w c = true) (d : Nat) : bitN (w - 2 ^ c) d = if d = c then false else bitN w d := by
  have hg := bitN_ge w c h
  have h0 := bitN_sub_c w c h
  have := bitN_add (w - 2 ^ c) c h0 d
  rw [Nat.sub_add_cancel hg] at this
  by_cases hd : d = c
  · rw [if_pos hd, hd]; exact h0
  · rw [if_neg hd] at this ⊢
    exact this.symm
theorem bitN_lt (w c : Nat) (hc : c < 64) (hw : w < 18446744073709551616) (h : bitN w c = false) : w + 2 ^ c < 18446744073709551616 := by
  have e : (18446744073709551616 : Nat) = 2 ^ (63 - c) * 2 * 2 ^ c := by
    rw [← Nat.pow_succ, ← Nat.pow_add, show (63 - c).succ + c = 64 by omega]
  have hp : 0 < 2 ^ c := Nat.two_pow_pos c
  have h1 : w / 2 ^ c < 2 ^ (63 - c) * 2 := by
    rw [Nat.div_lt_iff_lt_mul hp, ← e]; exact hw
  have h2 : w / 2 ^ c % 2 = 0 := by
    unfold bitN at h
    rw [beq_eq_false_iff_ne] at h
    omega
  have h3 : w / 2 ^ c + 2 ≤ 2 ^ (63 - c) * 2 := by omega
  have h4 := Nat.div_add_mod w (2 ^ c)
  have h5 := Nat.mod_lt w hp
  have h6 : (w / 2 ^ c + 2) * 2 ^ c ≤ 2 ^ (63 - c) * 2 * 2 ^ c := Nat.mul_le_mul_right _ h3
  rw [← e, Nat.add_mul, Nat.mul_comm (w / 2 ^ c)] at h6
  omega
end Go.Proofs.Ytbemaoncakcnjaa

/- Lists of free blocks in bytes: plain definitions; what Put, Take, All come to where the lists are right. No program in sight. -/
namespace Go.Proofs.Ytbemaoncakcnjaa

/-- The number at an offset; 0, if there is none. -/
def numO (bs : List UInt8) (o : Int) : Nat := (word? bs o).getD 0
/-- The class of the free block at o; -1: there is none. -/
def freeI (bs : List UInt8) (o : Int) : Int := match getB bs o with
  | some x => if x.used = true then -1 else classI x.size
  | none => -1
/-- Does a free block of a class stand there? -/
def memberB (bs : List UInt8) (p : Nat) (c : Int) : Bool := decide (p ≤ 20000) && (match getB bs (p : Int) with
  | some x => !x.used && classI x.size == c
  | none => false)
/-- A class's bit, as its first one tells. -/
def markB (bs : List UInt8) (c : Nat) : List UInt8 :=
  if bitN (wordN bs 0) c = true ∧ wordN bs (8 + 8 * c) = 0 then lyN bs 0 (wordN bs 0 - 2 ^ c)
  else if bitN (wordN bs 0) c = false ∧ wordN bs (8 + 8 * c) ≠ 0 then lyN bs 0 (wordN bs 0 + 2 ^ c) else bs
/-- What comes of putting the block at o. -/
def putB (bs : List UInt8) (o : Int) : Option (List UInt8) :=
  if freeI bs o < 0 then none else
  let c := (freeI bs o).toNat
  let f := wordN bs (8 + 8 * c)
  if (f : Int) = o ∨ (f ≠ 0 ∧ memberB bs f (c : Int) = false) then none else
  let b1 := lyN (lyN bs (o.toNat + 8) f) (o.toNat + 16) 0
  let b2 := if f ≠ 0 then lyN b1 (f + 16) o.toNat else b1
  some (markB (lyN b2 (8 + 8 * c) o.toNat) c)
/-- All of a class, from one on. -/
def allF (bs : List UInt8) (c : Nat) : Nat → Nat → Nat → Option (List Nat)
  | k, last, p => if p = 0 then some [] else match k with
    | 0 => none
    | k + 1 => if memberB bs p (c : Int) = true ∧ wordN bs (p + 16) = last then (allF bs c k p (wordN bs (p + 8))).map (p :: ·) else none
def allB (bs : List UInt8) (c : Nat) : Option (List Nat) :=
  if bs.length < 184 then none
  else if bitN (wordN bs 0) c ≠ decide (wordN bs (8 + 8 * c) ≠ 0) then none
  else allF bs c 1024 0 (wordN bs (8 + 8 * c))

/-- Blocks that stand, apart from each other. -/
structure Stands (bs : List UInt8) (P : List Bk) : Prop where
  at_ : ∀ x ∈ P, getB bs (x.off : Int) = some x
  apart : ∀ x ∈ P, ∀ y ∈ P, x = y ∨ x.off + x.size ≤ y.off ∨ y.off + y.size ≤ x.off
/-- The numbers of a list's blocks, one behind the other: p is ahead of it, n behind. -/
def link (bs : List UInt8) : Nat → List Nat → Nat → Prop
  | _, [], _ => True
  | p, o :: r, n => wordN bs (o + 16) = p ∧ wordN bs (o + 8) = r.headD n ∧ link bs o r n
/-- The lists of all classes, of blocks out of P. -/
structure Lists (bs : List UInt8) (P : List Bk) (L : Nat → List Nat) : Prop where
  len : 184 ≤ bs.length
  small : bs.length ≤ 16384
  st : Stands bs P
  head : ∀ c, c < 22 → wordN bs (8 + 8 * c) = (L c).headD 0
  bit : ∀ c, c < 22 → bitN (wordN bs 0) c = !(L c).isEmpty
  mem : ∀ c, c < 22 → ∀ o ∈ L c, ∃ x ∈ P, x.off = o ∧ x.used = false ∧ classI x.size = (c : Int)
  links : ∀ c, c < 22 → link bs 0 (L c) 0
  nodup : ∀ c, c < 22 → (L c).Nodup

theorem link_congr {bs bs' : List UInt8} : ∀ (l : List Nat) (p n : Nat), (∀ o ∈ l, wordN bs' (o + 16) = wordN bs (o + 16) ∧ wordN bs' (o + 8) = wordN bs (o + 8)) → link bs p l n → link bs' p l n
  | [], _, _, _, _ => trivial
  | o :: r, p, n, h, hl => by
    obtain ⟨h1, h2⟩ := h o (by simp)
    obtain ⟨a, b, c⟩ := hl
    exact ⟨h1.trans a, h2.trans b, link_congr r o n (fun q hq => h q (by simp [hq])) c⟩

section
variable {bs : List UInt8} {P : List Bk} {L : Nat → List Nat}
theorem Stands.facts (h : Stands bs P) {x : Bk} (hx : x ∈ P) : 184 ≤ x.off ∧ x.off % 16 = 8 ∧ x.off + x.size ≤ bs.length ∧ 32 ≤ x.size ∧ x.size % 16 = 0 ∧ isSz (x.size : Int) = true := by
  obtain ⟨_, g1, g2, g3, g4, _⟩ := getB_some (h.at_ x hx)
  have := (isSz_iff _).1 g4
  exact ⟨g1, g2, g3, by omega, by omega, g4⟩
theorem Stands.uniq (h : Stands bs P) {x y : Bk} (hx : x ∈ P) (hy : y ∈ P) (e : x.off = y.off) : x = y := by
  have h1 := h.at_ x hx
  rw [e, h.at_ y hy] at h1
  injection h1 with h1
  exact h1.symm
/-- A number laid into the head, or between a block's tags, moves no block. -/
theorem Stands.lay (h : Stands bs P) (q v : Nat) (hq : q + 8 ≤ 184 ∨ ∃ y ∈ P, y.off + 8 ≤ q ∧ q + 8 ≤ y.off + y.size - 8) (hl : 184 ≤ bs.length) : Stands (lyN bs q v) P := by
  have hqb : q + 8 ≤ bs.length := by
    rcases hq with hq | ⟨y, hy, h1, h2⟩
    · omega
    · have := h.facts hy; omega
  refine ⟨fun x hx => ?_, h.apart⟩
  have hf := h.facts hx
  refine getB_congr bs _ x (lyN_length _ _ _ hqb) (h.at_ x hx) (wordN_other _ _ _ _ hqb ?_) (wordN_other _ _ _ _ hqb ?_)
  · rcases hq with hq | ⟨y, hy, h1, h2⟩
    · omega
    · have hy' := h.facts hy
      rcases h.apart x hx y hy with rfl | h3 | h3
      · omega
      · omega
      · omega
  · rcases hq with hq | ⟨y, hy, h1, h2⟩
    · omega
    · have hy' := h.facts hy
      rcases h.apart x hx y hy with rfl | h3 | h3
      · omega
      · omega
      · omega
theorem Lists.member (h : Lists bs P L) {c o : Nat} (hc : c < 22) (ho : o ∈ L c) : memberB bs o (c : Int) = true ∧ ∃ x ∈ P, x.off = o ∧ x.used = false ∧ classI x.size = (c : Int) := by
  obtain ⟨x, hx, rfl, hu, hcl⟩ := h.mem c hc o ho
  have hf := h.st.facts hx
  have hs := h.small
  refine ⟨?_, x, hx, rfl, hu, hcl⟩
  unfold memberB
  rw [h.st.at_ x hx]
  simp [hu, hcl]
  omega
theorem allF_link (h : Lists bs P L) {c : Nat} (hc : c < 22) : ∀ (l : List Nat) (k p : Nat), (∀ o ∈ l, o ∈ L c) → l.length ≤ k → link bs p l 0 → allF bs c k p (l.headD 0) = some l
  | [], k, _, _, _, _ => by cases k <;> simp [allF]
  | o :: r, 0, _, _, hk, _ => by simp at hk
  | o :: r, k + 1, p, hm, hk, hl => by
    obtain ⟨l1, l2, l3⟩ := hl
    obtain ⟨m1, x, hx, rfl, _⟩ := h.member hc (hm o (by simp))
    have hf := h.st.facts hx
    have ih := allF_link h hc r k x.off (fun q hq => hm q (by simp [hq])) (by simpa using hk) l3
    show allF bs c (k + 1) p x.off = _
    unfold allF
    rw [if_neg (by omega)]
    dsimp only
    rw [if_pos ⟨m1, l1⟩, l2, ih]
    rfl
/-- All of a class are its list. -/
theorem Lists.all (h : Lists bs P L) {c : Nat} (hc : c < 22) (hl : (L c).length ≤ 1024) : allB bs c = some (L c) := by
  have hlen := h.len
  unfold allB
  rw [if_neg (by omega), h.head c hc, h.bit c hc]
  have e : (!(L c).isEmpty) = decide ((L c).headD 0 ≠ 0) := by
    cases hL : L c with
    | nil => rfl
    | cons o r =>
      obtain ⟨_, x, hx, e, _⟩ := h.member hc (o := o) (by rw [hL]; simp)
      have hf := h.st.facts hx
      have : o ≠ 0 := by omega
      simp [this]
  rw [if_neg (by rw [e]; simp)]
  exact allF_link h hc (L c) 1024 0 (fun _ h => h) hl (h.links c hc)
end

theorem wordN_ly (bs : List UInt8) (q v p : Nat) (h : q + 8 ≤ bs.length) (hv : v < 18446744073709551616) (hp : p % 8 = 0) (hq : q % 8 = 0) : wordN (lyN bs q v) p = if p = q then v else wordN bs p := by
  by_cases e : p = q
  · rw [if_pos e, e]; exact wordN_same bs q v h hv
  · rw [if_neg e]; exact wordN_other bs q v p h (by omega)
/-- What markB comes to. -/
theorem markB_spec (bs : List UInt8) (c : Nat) (hc : c < 22) (hl : 184 ≤ bs.length) :
    (markB bs c).length = bs.length ∧ (∀ p, p % 8 = 0 → p ≠ 0 → wordN (markB bs c) p = wordN bs p) ∧ (∀ d, bitN (wordN (markB bs c) 0) d = if d = c then decide (wordN bs (8 + 8 * c) ≠ 0) else bitN (wordN bs 0) d) ∧
    (∀ P, Stands bs P → Stands (markB bs c) P) ∧ ∀ i, 8 ≤ i → (markB bs c)[i]? = bs[i]? := by
  have hw := wordN_lt bs 0
  unfold markB
  by_cases h1 : bitN (wordN bs 0) c = true ∧ wordN bs (8 + 8 * c) = 0
  · rw [if_pos h1]
    have hv : wordN bs 0 - 2 ^ c < 18446744073709551616 := Nat.lt_of_le_of_lt (Nat.sub_le _ _) hw
    refine ⟨lyN_length _ _ _ (by omega), fun p hp h0 => ?_, fun d => ?_, fun P hP => hP.lay 0 _ (.inl (by omega)) hl, fun i hi => lyN_get _ _ _ _ (by omega) (by omega)⟩
    · rw [wordN_ly _ _ _ _ (by omega) hv hp rfl, if_neg h0]
    · rw [wordN_same _ _ _ (by omega) hv, bitN_sub _ _ h1.1, h1.2]
      simp
  · rw [if_neg h1]
    by_cases h2 : bitN (wordN bs 0) c = false ∧ wordN bs (8 + 8 * c) ≠ 0
    · rw [if_pos h2]
      have hv := bitN_lt (wordN bs 0) c (by omega) hw h2.1
      refine ⟨lyN_length _ _ _ (by omega), fun p hp h0 => ?_, fun d => ?_, fun P hP => hP.lay 0 _ (.inl (by omega)) hl, fun i hi => lyN_get _ _ _ _ (by omega) (by omega)⟩
      · rw [wordN_ly _ _ _ _ (by omega) hv hp rfl, if_neg h0]
      · rw [wordN_same _ _ _ (by omega) hv, bitN_add _ _ h2.1]
        simp [h2.2]
    · rw [if_neg h2]
      refine ⟨rfl, fun _ _ _ => rfl, fun d => ?_, fun P hP => hP, fun _ _ => rfl⟩
      by_cases hd : d = c
      · rw [if_pos hd, hd]
        cases hb : bitN (wordN bs 0) c with
        | true =>
          have : wordN bs (8 + 8 * c) ≠ 0 := fun e => h1 ⟨hb, e⟩
          simp [this]
        | false =>
          have : wordN bs (8 + 8 * c) = 0 := by
            rcases Nat.eq_zero_or_pos (wordN bs (8 + 8 * c)) with e | e
            · exact e
            · exact absurd ⟨hb, by omega⟩ h2
          simp [this]
      · rw [if_neg hd]
/-- All that isn't the head, nor a free block's numbers. -/
def Kept (P : List Bk) (bs bs' : List UInt8) : Prop := ∀ i, 184 ≤ i → (∀ y ∈ P, y.used = false → i < y.off + 8 ∨ y.off + 24 ≤ i) → bs'[i]? = bs[i]?
theorem Kept.refl (P : List Bk) (bs : List UInt8) : Kept P bs bs := fun _ _ _ => rfl
theorem Kept.trans {P : List Bk} {b1 b2 b3 : List UInt8} (h : Kept P b1 b2) (k : Kept P b2 b3) : Kept P b1 b3 := fun i h1 h2 => (k i h1 h2).trans (h i h1 h2)
theorem Kept.ly (P : List Bk) (bs : List UInt8) (q v : Nat) (h : q + 8 ≤ bs.length) (hq : q + 8 ≤ 184 ∨ ∃ y ∈ P, y.used = false ∧ (q = y.off + 8 ∨ q = y.off + 16)) : Kept P bs (lyN bs q v) := fun i h1 h2 => by
  refine lyN_get _ _ _ _ h ?_
  rcases hq with hq | ⟨y, hy, hu, hq⟩
  · omega
  · have := h2 y hy hu
    omega
/-- The lists with one of them another. -/
def setL (L : Nat → List Nat) (c : Nat) (l : List Nat) (d : Nat) : List Nat := if d = c then l else L d

section
variable {bs : List UInt8} {P : List Bk} {L : Nat → List Nat}
theorem class_nat {x : Bk} (hs : isSz (x.size : Int) = true) : ∃ c : Nat, classI (x.size : Int) = (c : Int) ∧ c < 22 := by
  have h1 := classI_bounds (x.size : Int)
  have h2 : ¬ classI (x.size : Int) < 0 := by rw [classI_neg]; simp [hs]
  exact ⟨(classI (x.size : Int)).toNat, by omega, by omega⟩
theorem Lists.put (h : Lists bs P L) {x : Bk} (hx : x ∈ P) (hu : x.used = false) {c : Nat} (hc : classI (x.size : Int) = (c : Int)) (hc22 : c < 22) (hn : x.off ∉ L c) :
    ∃ bs', putB bs (x.off : Int) = some bs' ∧ Lists bs' P (setL L c (x.off :: L c)) ∧ bs'.length = bs.length ∧ Kept P bs bs' := by
  have hf := h.st.facts hx
  have hlen := h.len
  have hsm := h.small
  have hfr : freeI bs (x.off : Int) = (c : Int) := by unfold freeI; rw [h.st.at_ x hx]; simp [hu, hc]
  have hhead := h.head c hc22
  obtain ⟨f, hfe⟩ : ∃ f, wordN bs (8 + 8 * c) = f := ⟨_, rfl⟩
  have hflt : f < 18446744073709551616 := by rw [← hfe]; exact wordN_lt _ _
  rw [hfe] at hhead
  -- what the first one is
  have hcase : (L c = [] ∧ f = 0) ∨ ∃ y ∈ P, ∃ r, L c = f :: r ∧ y.off = f ∧ y.used = false ∧ memberB bs f (c : Int) = true := by
    cases hL : L c with
    | nil => left; rw [hL] at hhead; exact ⟨rfl, hhead⟩
    | cons o r =>
      right
      rw [hL] at hhead
      obtain rfl : f = o := hhead
      obtain ⟨m1, y, hy, e, yu, _⟩ := h.member hc22 (o := f) (by rw [hL]; simp)
      exact ⟨y, hy, r, rfl, e, yu, m1⟩
  have hput : putB bs (x.off : Int) = some (markB (lyN (if f ≠ 0 then lyN (lyN (lyN bs (x.off + 8) f) (x.off + 16) 0) (f + 16) x.off else lyN (lyN bs (x.off + 8) f) (x.off + 16) 0) (8 + 8 * c) x.off) c) := by
    unfold putB
    rw [hfr, if_neg (by omega)]
    simp only [Int.toNat_natCast, hfe]
    rw [if_neg]
    rintro (e | ⟨e1, e2⟩)
    · rcases hcase with ⟨_, e0⟩ | ⟨y, hy, r, hL, _⟩
      · omega
      · exact hn (by rw [hL, show x.off = f by omega]; simp)
    · rcases hcase with ⟨_, e0⟩ | ⟨y, hy, r, hL, _, _, m⟩
      · exact e1 e0
      · rw [m] at e2; cases e2
  obtain ⟨b1, hb1⟩ : ∃ b1, lyN (lyN bs (x.off + 8) f) (x.off + 16) 0 = b1 := ⟨_, rfl⟩
  have l0 : (lyN bs (x.off + 8) f).length = bs.length := lyN_length _ _ _ (by omega)
  have l1 : b1.length = bs.length := by rw [← hb1, lyN_length _ _ _ (by omega)]; exact l0
  have st1 : Stands b1 P := by
    rw [← hb1]
    exact (h.st.lay (x.off + 8) f (.inr ⟨x, hx, by omega, by omega⟩) hlen).lay _ _ (.inr ⟨x, hx, by omega, by omega⟩) (by omega)
  have w1 : ∀ p, p % 8 = 0 → wordN b1 p = if p = x.off + 16 then 0 else if p = x.off + 8 then f else wordN bs p := fun p hp => by
    rw [← hb1, wordN_ly _ _ _ _ (by omega) (by omega) hp (by omega), wordN_ly _ _ _ _ (by omega) hflt hp (by omega)]
  have k1 : Kept P bs b1 := by
    rw [← hb1]
    exact (Kept.ly P bs _ _ (by omega) (.inr ⟨x, hx, hu, .inl rfl⟩)).trans (Kept.ly P _ _ _ (by omega) (.inr ⟨x, hx, hu, .inr rfl⟩))
  rw [hb1] at hput
  obtain ⟨b2, hb2⟩ : ∃ b2, (if f ≠ 0 then lyN b1 (f + 16) x.off else b1) = b2 := ⟨_, rfl⟩
  have hb2f : b2.length = bs.length ∧ Stands b2 P ∧ (∀ p, p % 8 = 0 → wordN b2 p = if f ≠ 0 ∧ p = f + 16 then x.off else wordN b1 p) ∧ Kept P b1 b2 := by
    rcases hcase with ⟨_, e0⟩ | ⟨y, hy, r, hL, hyf, hyu, _⟩
    · rw [if_neg (by omega)] at hb2
      subst hb2
      exact ⟨l1, st1, fun p _ => by rw [if_neg (by omega)], Kept.refl _ _⟩
    · have hy' := h.st.facts hy
      rw [if_pos (by omega)] at hb2
      subst hb2
      refine ⟨by rw [lyN_length _ _ _ (by omega)]; exact l1, st1.lay _ _ (.inr ⟨y, hy, by omega, by omega⟩) (by omega), fun p hp => ?_, Kept.ly P _ _ _ (by omega) (.inr ⟨y, hy, hyu, .inr (by omega)⟩)⟩
      rw [wordN_ly _ _ _ _ (by omega) (by omega) hp (by omega)]
      by_cases e : p = f + 16
      · rw [if_pos e, if_pos ⟨by omega, e⟩]
      · rw [if_neg e, if_neg (fun h => e h.2)]
  obtain ⟨l2, st2, w2, k2⟩ := hb2f
  rw [hb2] at hput
  obtain ⟨b3, hb3⟩ : ∃ b3, lyN b2 (8 + 8 * c) x.off = b3 := ⟨_, rfl⟩
  have l3 : b3.length = bs.length := by rw [← hb3, lyN_length _ _ _ (by omega)]; exact l2
  have st3 : Stands b3 P := by rw [← hb3]; exact st2.lay _ _ (.inl (by omega)) (by omega)
  have w3 : ∀ p, p % 8 = 0 → wordN b3 p = if p = 8 + 8 * c then x.off else wordN b2 p := fun p hp => by
    rw [← hb3, wordN_ly _ _ _ _ (by omega) (by omega) hp (by omega)]
  have k3 : Kept P b2 b3 := by rw [← hb3]; exact Kept.ly P _ _ _ (by omega) (.inl (by omega))
  rw [hb3] at hput
  obtain ⟨m1, m2, m3, m4, m5⟩ := markB_spec b3 c hc22 (by omega)
  refine ⟨_, hput, ⟨by omega, by omega, m4 P st3, fun d hd => ?_, fun d hd => ?_, fun d hd o ho => ?_, fun d hd => ?_, fun d hd => ?_⟩, by omega, ((k1.trans k2).trans k3).trans fun i h1 _ => m5 i (by omega)⟩
  · -- the first of each class
    rw [m2 _ (by omega) (by omega), w3 _ (by omega)]
    unfold setL
    by_cases hdc : d = c
    · rw [if_pos (by omega), if_pos hdc]; rfl
    · rw [if_neg (by omega), if_neg hdc, w2 _ (by omega), ← h.head d hd]
      have hn1 : ¬ (f ≠ 0 ∧ 8 + 8 * d = f + 16) := by
        rintro ⟨h1, h2⟩
        rcases hcase with ⟨_, e0⟩ | ⟨y, hy, _, _, hyf, _⟩
        · exact h1 e0
        · have := h.st.facts hy; omega
      rw [if_neg hn1, w1 _ (by omega), if_neg (by omega), if_neg (by omega)]
  · -- the bits
    rw [m3 d]
    unfold setL
    by_cases hdc : d = c
    · rw [if_pos hdc, if_pos hdc, w3 _ (by omega), if_pos rfl]
      have : x.off ≠ 0 := by omega
      simp [this]
    · rw [if_neg hdc, if_neg hdc, ← h.bit d hd, w3 _ rfl, if_neg (by omega), w2 _ rfl]
      have hn1 : ¬ (f ≠ 0 ∧ 0 = f + 16) := by omega
      rw [if_neg hn1, w1 _ rfl, if_neg (by omega), if_neg (by omega)]
  · -- the members
    unfold setL at ho
    by_cases hdc : d = c
    · subst hdc
      rw [if_pos rfl] at ho
      rcases List.mem_cons.1 ho with rfl | ho
      · exact ⟨x, hx, rfl, hu, hc⟩
      · exact h.mem d hd o ho
    · rw [if_neg hdc] at ho
      exact h.mem d hd o ho
  · -- the links
    have hw : ∀ o, (∃ y ∈ P, y.off = o ∧ o ≠ x.off) → ∀ k, k = 8 ∨ k = 16 → wordN (markB b3 c) (o + k) = if f ≠ 0 ∧ o = f ∧ k = 16 then x.off else wordN bs (o + k) := by
      rintro o ⟨y, hy, rfl, hne⟩ k hk
      have hy' := h.st.facts hy
      have hap := h.st.apart x hx y hy
      have hne2 : y.off + k ≠ x.off + 8 ∧ y.off + k ≠ x.off + 16 := by
        rcases hap with e | e | e
        · rw [e] at hne; exact absurd rfl hne
        · omega
        · omega
      rw [m2 _ (by omega) (by omega), w3 _ (by omega), if_neg (by omega), w2 _ (by omega), w1 _ (by omega), if_neg hne2.2, if_neg hne2.1]
      by_cases e : f ≠ 0 ∧ y.off = f ∧ k = 16
      · rw [if_pos e, if_pos ⟨e.1, by omega⟩]
      · rw [if_neg e, if_neg]
        rintro ⟨e1, e2⟩
        rcases hcase with ⟨_, e0⟩ | ⟨z, hz, r, hL, hzf, _⟩
        · exact e1 e0
        · have hz' := h.st.facts hz
          refine e ⟨e1, ?_, ?_⟩
          · omega
          · omega
    unfold setL
    by_cases hdc : d = c
    · subst hdc
      rw [if_pos rfl]
      refine ⟨?_, ?_, ?_⟩
      · rw [m2 _ (by omega) (by omega), w3 _ (by omega), if_neg (by omega), w2 _ (by omega)]
        rw [if_neg (by
          rintro ⟨e1, e2⟩
          rcases hcase with ⟨_, e0⟩ | ⟨z, hz, r, hL, hzf, _⟩
          · exact e1 e0
          · exact hn (by rw [hL, show x.off = f by omega]; simp)), w1 _ (by omega), if_pos rfl]
      · rw [m2 _ (by omega) (by omega), w3 _ (by omega), if_neg (by omega), w2 _ (by omega)]
        rw [if_neg (by
          rintro ⟨e1, e2⟩
          rcases hcase with ⟨_, e0⟩ | ⟨z, hz, r, hL, hzf, _⟩
          · exact e1 e0
          · have hz' := h.st.facts hz
            have hap := h.st.apart x hx z hz
            rcases hap with e | e | e
            · rw [e] at e2; omega
            · omega
            · omega), w1 _ (by omega), if_neg (by omega), if_pos rfl]
        rw [hhead]
      · have hl := h.links d hd
        cases hL : L d with
        | nil => trivial
        | cons o r =>
          rw [hL] at hl hhead
          obtain rfl : f = o := hhead
          obtain ⟨_, l2', l3'⟩ := hl
          have hof : ∃ y ∈ P, y.off = f ∧ f ≠ x.off := by
            obtain ⟨y, hy, e, _⟩ := h.mem d hd f (by rw [hL]; simp)
            exact ⟨y, hy, e, fun e2 => hn (by rw [hL, e2]; simp)⟩
          have hf0 : f ≠ 0 := by
            obtain ⟨y, hy, e, _⟩ := hof
            have := h.st.facts hy; omega
          refine ⟨?_, ?_, ?_⟩
          · rw [hw f hof 16 (.inr rfl), if_pos ⟨hf0, rfl, rfl⟩]
          · rw [hw f hof 8 (.inl rfl), if_neg (by omega)]; exact l2'
          · refine link_congr r _ _ (fun q hq => ?_) l3'
            have hnd := h.nodup d hd
            rw [hL] at hnd
            have hqf : q ≠ f := fun e => (List.nodup_cons.1 hnd).1 (e ▸ hq)
            have hqo : ∃ y ∈ P, y.off = q ∧ q ≠ x.off := by
              obtain ⟨y, hy, e, _⟩ := h.mem d hd q (by rw [hL]; simp [hq])
              exact ⟨y, hy, e, fun e2 => hn (by rw [hL, ← e2]; simp [hq])⟩
            rw [hw q hqo 16 (.inr rfl), hw q hqo 8 (.inl rfl), if_neg (by omega), if_neg (by omega)]
            exact ⟨rfl, rfl⟩
    · rw [if_neg hdc]
      refine link_congr (L d) _ _ (fun q hq => ?_) (h.links d hd)
      obtain ⟨y, hy, e, _, hcl⟩ := h.mem d hd q hq
      have hqx : q ≠ x.off := fun e2 => by
        have := h.st.uniq hy hx (by omega)
        subst this
        rw [hc] at hcl; omega
      have hqf : ¬ (f ≠ 0 ∧ q = f ∧ (16 : Nat) = 16) := by
        rintro ⟨e1, e2, _⟩
        rcases hcase with ⟨_, e0⟩ | ⟨z, hz, r, hL, hzf, _⟩
        · exact e1 e0
        · obtain ⟨z2, hz2, e3, _, hcl2⟩ := h.mem c hc22 f (by rw [hL]; simp)
          have := h.st.uniq hy hz2 (by omega)
          subst this
          rw [hcl] at hcl2; omega
      rw [hw q ⟨y, hy, e, hqx⟩ 16 (.inr rfl), hw q ⟨y, hy, e, hqx⟩ 8 (.inl rfl), if_neg hqf, if_neg (by omega)]
      exact ⟨rfl, rfl⟩
  · unfold setL
    by_cases hdc : d = c
    · subst hdc
      rw [if_pos rfl]
      exact List.nodup_cons.2 ⟨hn, h.nodup d hd⟩
    · rw [if_neg hdc]; exact h.nodup d hd
end
end Go.Proofs.Ytbemaoncakcnjaa

/- One bit of a number: and, or, and not; what marks a class. No program in sight. -/
namespace Go.Proofs.Ytbemaoncakcnjaa

theorem bitN_test (w c : Nat) : bitN w c = w.testBit c := by
  unfold bitN
  rw [Nat.testBit_eq_decide_div_mod_eq, Bool.eq_iff_iff, beq_iff_eq, decide_eq_true_eq]
theorem pow22 (c : Nat) (hc : c < 22) : 2 ^ c ≤ 2097152 := Nat.pow_le_pow_right (n := 2) (by decide) (show c ≤ 21 by omega)
/-- A number with one of its bits so. -/
def bitTo (v c : Nat) (b : Bool) : Nat := if b then (if bitN v c then v else v + 2 ^ c) else (if bitN v c then v - 2 ^ c else v)
theorem bitTo_lt (v c : Nat) (hc : c < 22) (hv : v < 18446744073709551616) (b : Bool) : bitTo v c b < 18446744073709551616 := by
  unfold bitTo
  cases hb : bitN v c with
  | true =>
    have := Nat.sub_le v (2 ^ c)
    cases b <;> simp <;> omega
  | false =>
    have := bitN_lt v c (by omega) hv hb
    cases b <;> simp <;> omega
theorem bitTo_off (v c : Nat) : bitN (bitTo v c false) c = false := by
  unfold bitTo
  cases hb : bitN v c with
  | true => simpa using bitN_sub_c v c hb
  | false => simpa using hb
theorem bitTo_on (v c : Nat) : bitTo v c true = bitTo v c false + 2 ^ c := by
  unfold bitTo
  cases hb : bitN v c with
  | true =>
    have := bitN_ge v c hb
    simp
    omega
  | false => simp
theorem and_bit (v c : Nat) (hv : v < 18446744073709551616) (hc : c < 22) : (bits .and .u64 (v : Int) ((2 ^ c : Nat) : Int) != 0) = bitN v c := by
  have hp : 0 < 2 ^ c := Nat.two_pow_pos c
  rw [u64_and_nat v (2 ^ c) hv (by have := pow22 c hc; omega), nat_bit]
  unfold bitN
  have h : v / 2 ^ c % 2 = 0 ∨ v / 2 ^ c % 2 = 1 := by omega
  rcases h with h | h
  · rw [h]; simp
  · rw [h, Nat.one_mul, Bool.eq_iff_iff, bne_iff_ne]
    simp only [beq_self_eq_true, iff_true]
    omega
theorem andnot_bit (v c : Nat) (hv : v < 18446744073709551616) (hc : c < 22) : bits .andNot .u64 (v : Int) ((2 ^ c : Nat) : Int) = (bitTo v c false : Int) := by
  have h22 := pow22 c hc
  rw [u64_andNot_nat v (2 ^ c) hv (by omega)]
  refine congrArg Int.ofNat (Nat.eq_of_testBit_eq fun d => ?_)
  have e : 18446744073709551615 - 2 ^ c = 2 ^ 64 - (2 ^ c + 1) := by omega
  rw [Nat.testBit_and, e, Nat.testBit_two_pow_sub_succ (by omega), Nat.testBit_two_pow]
  unfold bitTo
  have hbig : 64 ≤ d → v.testBit d = false := fun h => Nat.testBit_lt_two_pow (Nat.lt_of_lt_of_le hv (Nat.pow_le_pow_right (n := 2) (by decide) h))
  cases hb : bitN v c with
  | true =>
    have h2 := bitN_sub v c hb d
    rw [bitN_test, bitN_test] at h2
    simp only [if_true, Bool.false_eq_true, if_false]
    rw [h2]
    by_cases hd : d = c
    · rw [if_pos hd, hd]; simp
    · rw [if_neg hd]
      by_cases h64 : d < 64
      · simp [h64, Ne.symm hd]
      · rw [hbig (by omega)]; simp
  | false =>
    simp only [Bool.false_eq_true, if_false]
    by_cases hd : d = c
    · rw [bitN_test] at hb
      rw [hd, hb]; simp
    · by_cases h64 : d < 64
      · simp [h64, Ne.symm hd]
      · rw [hbig (by omega)]; simp
theorem or_bit (v c : Nat) (hv : v < 18446744073709551616) (hc : c < 22) (hb : bitN v c = false) : bits .or .u64 (v : Int) ((2 ^ c : Nat) : Int) = ((v + 2 ^ c : Nat) : Int) := by
  have h22 := pow22 c hc
  rw [u64_or_nat v (2 ^ c) hv (by omega)]
  refine congrArg Int.ofNat (Nat.eq_of_testBit_eq fun d => ?_)
  have h2 := bitN_add v c hb d
  rw [bitN_test, bitN_test] at h2
  rw [Nat.testBit_or, Nat.testBit_two_pow, h2]
  by_cases hd : d = c
  · rw [if_pos hd, hd]; simp
  · rw [if_neg hd]; simp [Ne.symm hd]
theorem lyN_self (bs : List UInt8) (o : Nat) (h : o + 8 ≤ bs.length) : lyN bs o (wordN bs o) = bs := by
  have e : lowB 8 (numB ((bs.drop o).take 8)) = (bs.drop o).take 8 := by
    have := lowB_numB ((bs.drop o).take 8)
    rwa [List.length_take, List.length_drop, Nat.min_eq_left (by omega)] at this
  unfold lyN wordN
  rw [e, ← List.drop_drop, List.take_append_drop, List.take_append_drop]
/-- What marks a class, all at once. -/
theorem markB_eq (bs : List UInt8) (c : Nat) (hl : 8 ≤ bs.length) : markB bs c = lyN bs 0 (bitTo (wordN bs 0) c (decide (wordN bs (8 + 8 * c) ≠ 0))) := by
  have hs := lyN_self bs 0 (by omega)
  unfold markB bitTo
  by_cases h0 : wordN bs (8 + 8 * c) = 0
  · cases hb : bitN (wordN bs 0) c <;> simp [h0, hs]
  · cases hb : bitN (wordN bs 0) c <;> simp [h0, hs]
/-- A member, by the class of what stands there. -/
theorem memberB_free (bs : List UInt8) (p c : Nat) : memberB bs p (c : Int) = (decide (p ≤ 20000) && (freeI bs (p : Int) == (c : Int))) := by
  unfold memberB freeI
  congr 1
  cases hg : getB bs (p : Int) with
  | none => simp
  | some x =>
    cases hu : x.used with
    | true => simp [hu]
    | false => simp [hu]
/-- Has a member this number there? -/
def memHas (bs : List UInt8) (c v k u : Nat) : Bool := memberB bs v (c : Int) && (wordN bs (v + k) == u)
theorem memberB_in {bs : List UInt8} {p c : Nat} (h : memberB bs p (c : Int) = true) : 184 ≤ p ∧ p + 32 ≤ bs.length := by
  unfold memberB at h
  cases hg : getB bs (p : Int) with
  | none => rw [hg] at h; simp at h
  | some y =>
    obtain ⟨r1, r2, _, r3, r4, _⟩ := getB_some hg
    have := (isSz_iff _).1 r4
    omega
theorem freeI_in {bs : List UInt8} {o : Int} {c : Nat} (h : freeI bs o = (c : Int)) : 184 ≤ o ∧ o + 32 ≤ bs.length ∧ c < 22 := by
  unfold freeI at h
  cases hg : getB bs o with
  | none => rw [hg] at h; dsimp only at h; omega
  | some y =>
    obtain ⟨r1, r2, _, r3, r4, _⟩ := getB_some hg
    have := (isSz_iff _).1 r4
    obtain ⟨d, hd, hd2⟩ := class_nat r4
    rw [hg] at h
    dsimp only at h
    split at h <;> omega
theorem freeI_cases (bs : List UInt8) (o : Int) : freeI bs o < 0 ∨ ∃ c : Nat, freeI bs o = (c : Int) := by
  by_cases h : freeI bs o < 0
  · exact .inl h
  · exact .inr ⟨(freeI bs o).toNat, by omega⟩
end Go.Proofs.Ytbemaoncakcnjaa

/- Blocks one behind the other: what comes of setting them all, of walking, of looking ahead. Plain facts, no program in sight. -/
namespace Go.Proofs.Ytbemaoncakcnjaa

def tagN (x : Bk) : Nat := packN (x.size : Int) x.used
/-- Both tags of a block laid. -/
def setT (bs : List UInt8) (x : Bk) : List UInt8 := lyN (lyN bs x.off (tagN x)) (x.off + x.size - 8) (tagN x)
def setAll (bs : List UInt8) (l : List Bk) : List UInt8 := l.foldl setT bs
/-- One behind the other, from o to e. -/
def tile : Nat → List Bk → Nat → Prop
  | o, [], e => o = e
  | o, x :: r, e => x.off = o ∧ isSz (x.size : Int) = true ∧ tile (o + x.size) r e

theorem tile_mem : ∀ (l : List Bk) (o e : Nat), tile o l e → o ≤ e ∧ ∀ x ∈ l, o ≤ x.off ∧ x.off + x.size ≤ e ∧ isSz (x.size : Int) = true ∧ x.off % 16 = o % 16
  | [], o, e, h => ⟨Nat.le_of_eq h, fun x hx => by cases hx⟩
  | y :: r, o, e, ⟨h1, h2, h3⟩ => by
    obtain ⟨q, h⟩ := tile_mem r _ e h3
    have hs := (isSz_iff _).1 h2
    refine ⟨by omega, fun x hx => ?_⟩
    rcases List.mem_cons.1 hx with rfl | hx
    · exact ⟨by omega, by omega, h2, by omega⟩
    · obtain ⟨a, b, c, d⟩ := h x hx
      exact ⟨by omega, b, c, by omega⟩
/-- Two of them are the same, or apart. -/
theorem tile_apart : ∀ (l : List Bk) (o e : Nat), tile o l e → ∀ x ∈ l, ∀ y ∈ l, x = y ∨ x.off + x.size ≤ y.off ∨ y.off + y.size ≤ x.off
  | [], _, _, _, x, hx, _, _ => by cases hx
  | z :: r, o, e, ⟨h1, h2, h3⟩, x, hx, y, hy => by
    have hm := (tile_mem r _ e h3).2
    rcases List.mem_cons.1 hx with rfl | hx'
    · rcases List.mem_cons.1 hy with rfl | hy'
      · exact .inl rfl
      · have := hm y hy'; exact .inr (.inl (by omega))
    · rcases List.mem_cons.1 hy with rfl | hy'
      · have := hm x hx'; exact .inr (.inr (by omega))
      · exact tile_apart r _ e h3 x hx' y hy' 

section
variable {bs : List UInt8} {x y : Bk}
theorem setT_length (hs : isSz (x.size : Int) = true) (h : x.off + x.size ≤ bs.length) : (setT bs x).length = bs.length := by
  have hs := (isSz_iff _).1 hs
  have e := lyN_length bs x.off (tagN x) (by omega)
  unfold setT
  rw [lyN_length _ _ _ (by omega), e]
theorem setT_same (hs : isSz (x.size : Int) = true) (h : x.off + x.size ≤ bs.length) (p : Nat) (hp : p + 8 ≤ x.off ∨ x.off + x.size ≤ p ∨ (x.off + 8 ≤ p ∧ p + 8 ≤ x.off + x.size - 8)) : wordN (setT bs x) p = wordN bs p := by
  have hs := (isSz_iff _).1 hs
  have e := lyN_length bs x.off (tagN x) (by omega)
  unfold setT
  rw [wordN_other _ _ _ _ (by omega) (by omega), wordN_other _ _ _ _ (by omega) (by omega)]
theorem setT_at (h1 : 184 ≤ x.off) (h2 : x.off % 16 = 8) (h3 : x.off + x.size ≤ bs.length) (hs : isSz (x.size : Int) = true) : getB (setT bs x) (x.off : Int) = some x := by
  have q := (isSz_iff _).1 hs
  have e := lyN_length bs x.off (tagN x) (by omega)
  have ht : tagN x < 18446744073709551616 := by have := packN_lt (x.size : Int) x.used; unfold tagN; omega
  have w1 : wordN (setT bs x) x.off = tagN x := by
    unfold setT
    rw [wordN_other _ _ _ _ (by omega) (by omega), wordN_same _ _ _ (by omega) ht]
  have w2 : wordN (setT bs x) (x.off + x.size - 8) = tagN x := by
    unfold setT
    rw [wordN_same _ _ _ (by omega) ht]
  refine getB_of h1 h2 (by rw [setT_length hs h3]; exact h3) ?_ (by rw [w1, w2])
  rw [w1]
  unfold tagN
  rw [unpN_packN hs]
  rfl
theorem setT_keep (hs : isSz (x.size : Int) = true) (h : x.off + x.size ≤ bs.length) (hy : getB bs (y.off : Int) = some y) (hd : y.off + y.size ≤ x.off ∨ x.off + x.size ≤ y.off) : getB (setT bs x) (y.off : Int) = some y := by
  obtain ⟨_, _, _, g3, g4, _⟩ := getB_some hy
  have q := (isSz_iff _).1 g4
  exact getB_congr bs _ y (setT_length hs h) hy (setT_same hs h _ (by omega)) (setT_same hs h _ (by omega))
end

/-- All set: each stands, what stood ahead of them or behind stands, and other numbers are what they were. -/
theorem setAll_spec : ∀ (l : List Bk) (bs : List UInt8) (o e : Nat), 184 ≤ o → o % 16 = 8 → tile o l e → e ≤ bs.length →
    (setAll bs l).length = bs.length ∧ (∀ x ∈ l, getB (setAll bs l) (x.off : Int) = some x) ∧
    (∀ y, getB bs (y.off : Int) = some y → y.off + y.size ≤ o ∨ e ≤ y.off → getB (setAll bs l) (y.off : Int) = some y) ∧
    (∀ p, p + 8 ≤ o ∨ e ≤ p ∨ (∃ x ∈ l, x.off + 8 ≤ p ∧ p + 8 ≤ x.off + x.size - 8) → wordN (setAll bs l) p = wordN bs p)
  | [], bs, o, e, _, _, _, _ => ⟨rfl, fun x hx => (by cases hx), fun _ hy _ => hy, fun _ _ => rfl⟩
  | z :: r, bs, o, e, ho, ho2, ⟨h1, h2, h3⟩, he => by
    have q := (isSz_iff _).1 h2
    obtain ⟨hoe, hm⟩ := tile_mem r _ e h3
    have hz : z.off + z.size ≤ bs.length := by omega
    have el := setT_length h2 hz
    obtain ⟨i1, i2, i3, i4⟩ := setAll_spec r (setT bs z) (o + z.size) e (by omega) (by omega) h3 (by omega)
    have eq : setAll bs (z :: r) = setAll (setT bs z) r := rfl
    rw [eq]
    refine ⟨i1.trans el, fun x hx => ?_, fun y hy hd => ?_, fun p hp => ?_⟩
    · rcases List.mem_cons.1 hx with rfl | hx
      · exact i3 x (setT_at (by omega) (by omega) hz h2) (.inl (by omega))
      · exact i2 x hx
    · obtain ⟨_, _, _, g3, g4, _⟩ := getB_some hy
      have q2 := (isSz_iff _).1 g4
      exact i3 y (setT_keep h2 hz hy (by omega)) (by omega)
    · rcases hp with hp | hp | ⟨x, hx, a, b⟩
      · rw [i4 p (.inl (by omega)), setT_same h2 hz p (.inl (by omega))]
      · rw [i4 p (.inr (.inl hp)), setT_same h2 hz p (.inr (.inl (by omega)))]
      · rcases List.mem_cons.1 hx with rfl | hx
        · rw [i4 p (.inl (by omega)), setT_same h2 hz p (.inr (.inr ⟨a, b⟩))]
        · have := hm x hx
          rw [i4 p (.inr (.inr ⟨x, hx, a, b⟩)), setT_same h2 hz p (.inr (.inl (by omega)))]

/-- Blocks that stand one behind the other are walked. -/
theorem walkF_tile (bs : List UInt8) : ∀ (l : List Bk) (o k : Nat), tile o l bs.length → (∀ x ∈ l, getB bs (x.off : Int) = some x) → bs.length < o + k → walkF bs k o = some l
  | [], o, k, h, _, hk => by
    have h : o = bs.length := h
    obtain ⟨k, rfl⟩ : ∃ k', k = k' + 1 := ⟨k - 1, by omega⟩
    unfold walkF
    rw [if_neg (by omega)]
  | x :: r, o, k, ⟨h1, h2, h3⟩, hg, hk => by
    have q := (isSz_iff _).1 h2
    have hoe := (tile_mem r _ _ h3).1
    obtain ⟨k, rfl⟩ : ∃ k', k = k' + 1 := ⟨k - 1, by omega⟩
    unfold walkF
    rw [if_pos (by omega), ← h1, hg x (by simp)]
    dsimp only
    rw [h1, walkF_tile bs r (o + x.size) k h3 (fun y hy => hg y (by simp [hy])) (by omega)]
    rfl
theorem walkB_tile {bs : List UInt8} {l : List Bk} (h : tile 184 l bs.length) (hg : ∀ x ∈ l, getB bs (x.off : Int) = some x) : walkB bs = some l := by
  have := (tile_mem l _ _ h).1
  unfold walkB
  rw [if_neg (by omega)]
  exact walkF_tile bs l 184 _ h hg (by omega)
/-- And the other way round: what was walked is one behind the other. -/
theorem walkF_tiles (bs : List UInt8) : ∀ (k o : Nat) (l : List Bk), o ≤ bs.length → walkF bs k o = some l → tile o l bs.length ∧ ∀ x ∈ l, getB bs (x.off : Int) = some x
  | 0, _, _, _, h => by cases h
  | k + 1, o, l, ho, h => by
    unfold walkF at h
    by_cases hlt : o < bs.length
    · rw [if_pos hlt] at h
      cases hg : getB bs (o : Int) with
      | none => rw [hg] at h; cases h
      | some y =>
        rw [hg] at h
        dsimp only at h
        obtain ⟨g0, _, _, g3, g4, _⟩ := getB_some hg
        have g0 : y.off = o := by omega
        cases hr : walkF bs k (o + y.size) with
        | none => rw [hr] at h; cases h
        | some r =>
          rw [hr] at h
          injection h with h
          subst h
          obtain ⟨i1, i2⟩ := walkF_tiles bs k _ r (by omega) hr
          refine ⟨⟨g0, g4, i1⟩, fun x hx => ?_⟩
          rcases List.mem_cons.1 hx with rfl | hx
          · rw [g0]; exact hg
          · exact i2 x hx
    · rw [if_neg hlt] at h
      injection h with h
      subst h
      exact ⟨by show o = bs.length; omega, fun x hx => by cases hx⟩
theorem walkB_tiles {bs : List UInt8} {l : List Bk} (h : walkB bs = some l) : 184 ≤ bs.length ∧ tile 184 l bs.length ∧ ∀ x ∈ l, getB bs (x.off : Int) = some x := by
  unfold walkB at h
  split at h
  · cases h
  · exact ⟨by omega, walkF_tiles bs _ _ l (by omega) h⟩
/-- Blocks in an arena whose head is 0: all lists are empty. -/
theorem lists_none {bs : List UInt8} {P : List Bk} (hl : 184 ≤ bs.length) (hm : bs.length ≤ 16384) (hst : Stands bs P) (hz : ∀ p, p + 8 ≤ 184 → p % 8 = 0 → wordN bs p = 0) : Lists bs P (fun _ => []) where
  len := hl
  small := hm
  st := hst
  head := fun c hc => by rw [hz _ (by omega) (by omega)]; rfl
  bit := fun c hc => by
    rw [hz 0 (by omega) rfl]
    have : ∀ c, bitN 0 c = false := fun c => by unfold bitN; simp
    rw [this]; rfl
  mem := fun c _ o ho => by cases ho
  links := fun c _ => trivial
  nodup := fun c _ => List.nodup_nil
end Go.Proofs.Ytbemaoncakcnjaa

/- The lists made anew, and what is found then. Plain facts, no program in sight. -/
namespace Go.Proofs.Ytbemaoncakcnjaa

/-- Behind the blocks so far: the bytes with one more, if it is free. -/
def rebF (out : List UInt8) (x : Bk) : List UInt8 := if x.used = true then out else (putB out (x.off : Int)).getD out
def rebuildB (bs : List UInt8) : Option (List UInt8) := (walkB bs).map fun l => l.foldl rebF (List.replicate 184 0 ++ bs.drop 184)

/-- A class's free blocks, the last one first. -/
def freeL (l : List Bk) (c : Nat) : List Nat := (l.reverse.filter fun x => !x.used && classI (x.size : Int) == (c : Int)).map Bk.off
theorem freeL_snoc (l : List Bk) (x : Bk) (c : Nat) : freeL (l ++ [x]) c = if x.used = false ∧ classI (x.size : Int) = (c : Int) then x.off :: freeL l c else freeL l c := by
  unfold freeL
  rw [List.reverse_append, List.reverse_singleton, List.singleton_append, List.filter_cons]
  by_cases h : x.used = false ∧ classI (x.size : Int) = (c : Int)
  · rw [if_pos h, if_pos (by simp [h.1, h.2]), List.map_cons]
  · rw [if_neg h, if_neg (by intro h'; apply h; simpa using h')]
theorem freeL_mem {l : List Bk} {c o : Nat} (h : o ∈ freeL l c) : ∃ x ∈ l, x.off = o ∧ x.used = false ∧ classI (x.size : Int) = (c : Int) := by
  unfold freeL at h
  obtain ⟨x, hx, e⟩ := List.mem_map.1 h
  obtain ⟨h1, h2⟩ := List.mem_filter.1 hx
  have h2' : x.used = false ∧ classI (x.size : Int) = (c : Int) := by simpa using h2
  exact ⟨x, List.mem_reverse.1 h1, e, h2'.1, h2'.2⟩
theorem mem_freeL {l : List Bk} {c : Nat} {x : Bk} (h : x ∈ l) (hu : x.used = false) (hc : classI (x.size : Int) = (c : Int)) : x.off ∈ freeL l c := by
  unfold freeL
  exact List.mem_map.2 ⟨x, List.mem_filter.2 ⟨List.mem_reverse.2 h, by simp [hu, hc]⟩, rfl⟩

/-- Free blocks put one after the other. -/
theorem reb_lists {P : List Bk} : ∀ (rest done : List Bk) (bs : List UInt8), (∀ x ∈ rest, x ∈ P) → (done ++ rest).Pairwise (fun x y => x.off ≠ y.off) → Lists bs P (freeL done) →
    Lists (rest.foldl rebF bs) P (freeL (done ++ rest)) ∧ (rest.foldl rebF bs).length = bs.length ∧ Kept P bs (rest.foldl rebF bs)
  | [], done, bs, _, _, h => by rw [List.append_nil]; exact ⟨h, rfl, Kept.refl _ _⟩
  | x :: r, done, bs, hm, hp, h => by
    have e : done ++ x :: r = (done ++ [x]) ++ r := by simp
    have hxP := hm x (by simp)
    rw [e] at hp ⊢
    cases hu : x.used with
    | true =>
      have e1 : rebF bs x = bs := by unfold rebF; rw [if_pos hu]
      have e2 : freeL (done ++ [x]) = freeL done := by
        funext c
        rw [freeL_snoc, if_neg (by rw [hu]; simp)]
      rw [List.foldl_cons, e1]
      exact reb_lists r (done ++ [x]) bs (fun y hy => hm y (by simp [hy])) hp (by rw [e2]; exact h)
    | false =>
      obtain ⟨c, hc, hc22⟩ := class_nat (h.st.facts hxP).2.2.2.2.2
      have hn : x.off ∉ freeL done c := fun hmem => by
        obtain ⟨y, hy, ey, _⟩ := freeL_mem hmem
        have h1 := (List.pairwise_append.1 (List.pairwise_append.1 hp).1).2.2
        exact h1 y hy x (by simp) ey
      obtain ⟨bs', q1, q2, q3, q4⟩ := h.put hxP hu hc hc22 hn
      have e1 : rebF bs x = bs' := by unfold rebF; rw [if_neg (by rw [hu]; simp), q1]; rfl
      have e2 : setL (freeL done) c (x.off :: freeL done c) = freeL (done ++ [x]) := by
        funext d
        rw [freeL_snoc]
        unfold setL
        by_cases hd : d = c
        · subst hd
          rw [if_pos rfl, if_pos ⟨hu, hc⟩]
        · rw [if_neg hd, if_neg (fun h => hd (by have := h.2; omega))]
      rw [List.foldl_cons, e1]
      obtain ⟨i1, i2, i3⟩ := reb_lists r (done ++ [x]) bs' (fun y hy => hm y (by simp [hy])) hp (by rw [← e2]; exact q2)
      exact ⟨i1, i2.trans q3, q4.trans i3⟩

theorem tile_ne : ∀ (l : List Bk) (o e : Nat), tile o l e → l.Pairwise (fun x y => x.off ≠ y.off)
  | [], _, _, _ => List.Pairwise.nil
  | x :: r, o, e, ⟨h1, h2, h3⟩ => by
    have q := (isSz_iff _).1 h2
    refine List.Pairwise.cons (fun y hy => ?_) (tile_ne r _ e h3)
    have := (tile_mem r _ e h3).2 y hy
    omega
theorem numB_zeros (n : Nat) : numB (List.replicate n 0) = 0 := by
  induction n with
  | zero => rfl
  | succ n ih => rw [List.replicate_succ]; simp [numB, ih]
theorem wordN_zeros (bs : List UInt8) (n p : Nat) (h : p + 8 ≤ n) : wordN (List.replicate n 0 ++ bs) p = 0 := by
  unfold wordN
  rw [List.drop_append_of_le_length (by simp; omega), List.take_append_of_le_length (by simp; omega), List.drop_replicate, List.take_replicate, numB_zeros]
theorem head_get (bs : List UInt8) (n i : Nat) (h : n ≤ i) : (List.replicate n (0 : UInt8) ++ bs.drop n)[i]? = bs[i]? := by
  rw [List.getElem?_append_right (by simpa using h), List.length_replicate, List.getElem?_drop]
  congr 1; omega
/-- Blocks that stand one behind the other, the lists made anew: just the free ones, the last first. -/
theorem rebuildB_lists {bs : List UInt8} {l : List Bk} (h : walkB bs = some l) (hm : bs.length ≤ 16384) :
    ∃ out, rebuildB bs = some out ∧ Lists out l (freeL l) ∧ out.length = bs.length ∧ walkB out = some l := by
  obtain ⟨h184, ht, hg⟩ := walkB_tiles h
  have hmem := (tile_mem l _ _ ht).2
  have el : (List.replicate 184 (0 : UInt8) ++ bs.drop 184).length = bs.length := by rw [List.length_append, List.length_replicate, List.length_drop]; omega
  have hst : Stands (List.replicate 184 (0 : UInt8) ++ bs.drop 184) l := by
    refine ⟨fun x hx => ?_, tile_apart l _ _ ht⟩
    obtain ⟨a, b, c, _⟩ := hmem x hx
    have q := (isSz_iff _).1 c
    refine getB_congr bs _ x el (hg x hx) ?_ ?_
    · exact wordN_congr _ _ _ fun i h1 _ => head_get bs 184 i (by omega)
    · exact wordN_congr _ _ _ fun i h1 _ => head_get bs 184 i (by omega)
  have hL := lists_none (by rw [el]; exact h184) (by rw [el]; exact hm) hst (fun p hp _ => wordN_zeros _ _ _ hp)
  have e0 : (fun _ => []) = freeL [] := by funext c; rfl
  rw [e0] at hL
  obtain ⟨i1, i2, _⟩ := reb_lists l [] _ (fun x hx => hx) (by simpa using tile_ne l _ _ ht) hL
  rw [List.nil_append] at i1
  refine ⟨_, by unfold rebuildB; rw [h]; rfl, i1, i2.trans el, ?_⟩
  exact walkB_tile (by rw [i2, el]; exact ht) i1.st.at_

end Go.Proofs.Ytbemaoncakcnjaa
