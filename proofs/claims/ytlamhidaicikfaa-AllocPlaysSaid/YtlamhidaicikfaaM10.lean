/- Texts of mine, joined: Law12e, Law12f, Law12g, OpenD. -/
import Derived.Test.YtlamhidaicikfaaM9

/- The walk of AllocPlays: the head, the beginning of an arena and a heap, the deeds. -/
namespace Go.Proofs.Ytlamhidaicikfaa
open Go.RowKit

/-- A deed of layer 12. -/
structure De where
  what : Int
  n : Int
  m : Int
  raw : Bool
/-- A slice of such. -/
def DeRd (w : World) (B : Nat) (A : Option Addr) (l : List De) : Prop := 0 < l.length → ∃ b o, A = some ⟨b, o, none⟩ ∧ b < B ∧ ∀ j x, l[j]? = some x →
  w.cell? ⟨b, o + j * 4, none⟩ = some (.int .i64 x.what) ∧ w.cell? ⟨b, o + j * 4 + 1, none⟩ = some (.int .i64 x.n) ∧ w.cell? ⟨b, o + j * 4 + 2, none⟩ = some (.int .i64 x.m) ∧ w.cell? ⟨b, o + j * 4 + 3, none⟩ = some (.bool x.raw) ∧
  (-9223372036854775808 ≤ x.what ∧ x.what ≤ 9223372036854775807) ∧ (-9223372036854775808 ≤ x.n ∧ x.n ≤ 9223372036854775807) ∧ (-9223372036854775808 ≤ x.m ∧ x.m ≤ 9223372036854775807)
theorem DeRd.below {w w' : World} {B : Nat} {A : Option Addr} {l : List De} (h : DeRd w B A l) (hb : Below B w w') : DeRd w' B A l := fun hn => by
  obtain ⟨b, o, e, hB, hc⟩ := h hn
  refine ⟨b, o, e, hB, fun j x hx => ?_⟩
  obtain ⟨h0, h1, h2, h3, h4⟩ := hc j x hx
  exact ⟨(hb.cell (p := ⟨b, _, none⟩) hB).trans h0, (hb.cell (p := ⟨b, _, none⟩) hB).trans h1, (hb.cell (p := ⟨b, _, none⟩) hB).trans h2, (hb.cell (p := ⟨b, _, none⟩) hB).trans h3, h4⟩

/-- Bytes of 0 are a heap without blocks. -/
theorem rt_zero {z : List UInt8} (hz : List.replicate 184 (0 : UInt8) = z) (cap : Nat) (hc : 184 ≤ cap) : Rt z ⟨cap, [], [], fun _ => []⟩ := by
  have hl : z.length = 184 := by rw [← hz]; exact List.length_replicate
  have hw0 : ∀ p, p + 8 ≤ 184 → p % 8 = 0 → wordN z p = 0 := fun p hp _ => by
    have := wordN_zeros [] 184 p hp
    rw [List.append_nil, hz] at this
    exact this
  have hwk : walkB z = some [] := walkB_tile (by rw [hl]; rfl) (fun x hx => by cases hx)
  have hli : Lists z [] (fun _ => []) := lists_none (by omega) (by omega) ⟨fun x hx => (by cases hx), fun x hx => (by cases hx)⟩ hw0
  refine ⟨hwk, fun c hc => hli.all hc (Nat.zero_le _), ?_, by show z.length ≤ cap; omega⟩
  have e : freeL [] = fun _ => [] := rfl
  rw [checkB_lists hwk (by rw [e]; exact hli) (by rw [hw0 0 (by omega) rfl]; omega)]
  rfl

section
variable {P : Program} {ops : Array Oper} {Q : Exit → Act → World → Prop} {T : List Nat}
/-- A call that changes nothing, and an operation that yields a value: either may be first. -/
theorem pair_any {X : PT} {a : Act} {w w1 : World} {B : Nat} {i1 i2 : Nat} {d1 d2 : Tmp} {o2 : Oper} {f : FuncId} {args : Array Operand} {tys : Array TypeId} {ty : TypeId} {pos : String} {after : Array Edge} {v1 v2 : Value} {vs : Array Value}
    (hf : ∀ (xs : Array Value) (w : World), (callFunc f xs).run P w = .ok (.enter f xs) w)
    (ho1 : ops[i1]? = some { dst := some d1, op := .call { callee := .value (.func f), args := args, argTypes := tys }, type := ty, pos := pos, after := after, guard := none })
    (ho2 : ops[i2]? = some o2) (hd2 : o2.dst = some d2) (hg2 : ∀ y, Region.wanted o2 y = true) (hne : d1 ≠ d2)
    (hv : args.toList.map a.eval = vs.toList) (hv2 : args.toList.map (a.put (some d2) v2).eval = vs.toList)
    (hc : ∀ W : World, Calls P f vs W (fun e w' => e = .returned v1 ∧ W = w'))
    (hr : ∀ b : Act, (execOp b.eval o2).run P w = .ok (.value v2) w1) (hB : B ≤ w.heap.size) (hb : Below w.heap.size w w1)
    (hK : X.wp P ops Q T B ((a.put (some d1) v1).put (some d2) v2) w1) :
    wpOp P ops Q i1 (fun a'' w'' => Below B w w'' ∧ ∃ B', B ≤ B' ∧ (PT.one [] i2 X).wp P ops Q T B' a'' w'') a w ∧
    wpOp P ops Q i2 (fun a'' w'' => Below B w w'' ∧ ∃ B', B ≤ B' ∧ (PT.one [] i1 X).wp P ops Q T B' a'' w'') a w := by
  refine ⟨?_, ?_⟩
  · refine tail_call hf ho1 rfl hv (R := fun r w' => r = v1 ∧ w' = w) ((hc w).mono ?_) B (Nat.le_refl _) ?_
    · rintro e w' ⟨rfl, rfl⟩
      exact ⟨_, rfl, Below.refl _ _, rfl, rfl⟩
    · rintro v w' _ ⟨rfl, rfl⟩
      refine plan_one (l := []) rfl (wpQuiet_nil ?_)
      exact tail_val2 (some d2) ho2 hd2 (hg2 _) (hr _) (hb.mono hB) ⟨B, Nat.le_refl _, hK⟩
  · refine tail_val2 (some d2) ho2 hd2 (hg2 _) (hr _) (hb.mono hB) ⟨B, Nat.le_refl _, ?_⟩
    refine plan_one (l := []) rfl (wpQuiet_nil ?_)
    refine tail_call hf ho1 rfl hv2 (R := fun r w' => r = v1 ∧ w' = w1) ((hc w1).mono ?_) B (Nat.le_refl _) ?_
    · rintro e w' ⟨rfl, rfl⟩
      exact ⟨_, rfl, Below.refl _ _, rfl, rfl⟩
    · rintro v w' _ ⟨rfl, rfl⟩
      rw [put_swap _ d2 d1 _ _ (fun h => hne h.symm)]
      exact hK
end

def hpZero (cap : Nat) : Hp := ⟨cap, [], [], fun _ => []⟩
def up12A : Hp := ((hpZero 1024).take 32).2
def up12B : Hp := (up12A.take 32).2
def up12C : Hp := (up12B.giveO 184).getD up12B
def up12D : Hp := (up12C.take 32).2
set_option maxHeartbeats 2000000 in
theorem up12_any (HT : TakeK) (HG : GiveK) (w : World) :
    Calls Try.prog 5 #[] w fun e w' => e = .returned (.bool true) ∧ Below w.heap.size w w' := by
  obtain ⟨z, hz⟩ : ∃ z, List.replicate 184 (0 : UInt8) = z := ⟨_, rfl⟩
  have hzl : z.length = 184 := by rw [← hz]; exact List.length_replicate
  have hr0 := rt_zero hz 1024 (by omega)
  have t1 : ((hpZero 1024).take 32).1 = some 184 := by kernel_rfl
  have t2 : (up12A.take 32).1 = some 216 := by kernel_rfl
  have t3 : (up12B.giveO 184).isSome = true := by kernel_rfl
  have t4 : (up12C.take 32).1 = some 184 := by kernel_rfl
  have t5 : (up12D.take 4096).1 = none := by kernel_rfl
  have t3' : up12B.giveO 184 = some up12C := by
    unfold up12C
    cases h : up12B.giveO 184 with
    | none => rw [h] at t3; cases t3
    | some x => rfl
  have c1 : up12A.cap = 1024 := take_cap
  have c2 : up12B.cap = 1024 := take_cap.trans c1
  have c3 : up12C.cap = 1024 := (giveO_cap t3').trans c2
  have c4 : up12D.cap = 1024 := take_cap.trans c3
  have HMK : ∀ W : World, (Instr.makeSlice 28 (.int .i64 184) (.int .i64 184)).run Try.prog W = .ok (.slice (some ⟨W.heap.size, 0, none⟩) 184 184) (W.alloc (.cells (rowB z) 5)) := run_mk0 184 (by omega) z hz
  have f1 : Fill (w.alloc (.cells (rowB z) 5)) w.heap.size 5 z := Fill.made w _ _
  have b1 : Below w.heap.size w (w.alloc (.cells (rowB z) 5)) := (Below.refl _ _).alloc (Nat.le_refl _) _
  have hm := arena_any (w.alloc (.cells (rowB z) 5)) 16 1024 (some ⟨w.heap.size, 0, none⟩) 184 z f1.reads (by omega) (by omega) (by omega) (by omega) (by omega)
  rw [hzl] at hm
  have HM := Lib.hid hm
  have HB1 := Lib.hid b1
  have T1 := Lib.hid t1
  have T2 := Lib.hid t2
  have T3 := Lib.hid t3'
  have T4 := Lib.hid t4
  have T5 := Lib.hid t5
  have C1 := Lib.hid c1
  have C2 := Lib.hid c2
  have C3 := Lib.hid c3
  have C4 := Lib.hid c4
  have R0 := Lib.hid hr0
  have HT := Lib.hid HT
  have HG := Lib.hid HG
  clear hz hzl hr0 t1 t2 t3 t3' t4 t5 c1 c2 c3 c4 f1 b1 hm
  go_enter Try.func5, Try.ntmps5
  go_wp2_with fail
  refine HM.out.mono ?_
  rintro e w1 hmade
  obtain ⟨g, A, c, rfl, hst⟩ := St.made hmade
  have K1 := Lib.hid HB1.out
  have S1 := Lib.hid hst
  clear hmade hst HM HMK
  go_wp2_with fail
  refine ((HT.out w1 g 16 1024 c A z (hpZero 1024) 32 S1.out.ar (by omega) (by omega) rfl R0.out (by omega)).2 rfl).mono ?_
  intro e w2 hT
  unfold TurnedAt at hT
  rw [show ((32 : Int).toNat) = 32 from rfl, T1.out] at hT
  obtain ⟨rfl, o2, hbe, rt2, _⟩ := hT
  obtain ⟨A2, c2, hs2⟩ := S1.out.became hbe
  have S2 := Lib.hid hs2
  have R2 : Hid (Rt o2 up12A) := rt2
  clear hbe rt2 hs2 S1 R0
  dsimp only [errV]
  go_wp2_with fail
  refine ((HT.out w2 g 16 1024 c2 A2 o2 up12A 32 S2.out.ar (by omega) (by omega) C1.out R2.out (by omega)).2 rfl).mono ?_
  intro e w3 hT
  unfold TurnedAt at hT
  rw [show ((32 : Int).toNat) = 32 from rfl, T2.out] at hT
  obtain ⟨rfl, o3, hbe, rt3, _⟩ := hT
  obtain ⟨A3, c3, hs3⟩ := S2.out.became hbe
  have S3 := Lib.hid hs3
  have R3 : Hid (Rt o3 up12B) := rt3
  clear hbe rt3 hs3 S2 R2
  dsimp only [errV]
  go_wp2_with fail
  refine (HG.out w3 g 16 1024 c3 A3 o3 up12B 184 S3.out.ar (by omega) (by omega) C2.out R3.out (by omega)).mono ?_
  intro e w4 hT
  rw [T3.out] at hT
  obtain ⟨rfl, o4, hbe, rt4, _⟩ := hT
  obtain ⟨A4, c4, hs4⟩ := S3.out.became hbe
  have S4 := Lib.hid hs4
  have R4 := Lib.hid rt4
  clear hbe rt4 hs4 S3 R3
  dsimp only [errV]
  go_wp2_with fail
  refine ((HT.out w4 g 16 1024 c4 A4 o4 up12C 32 S4.out.ar (by omega) (by omega) C3.out R4.out (by omega)).2 rfl).mono ?_
  intro e w5 hT
  unfold TurnedAt at hT
  rw [show ((32 : Int).toNat) = 32 from rfl, T4.out] at hT
  obtain ⟨rfl, o5, hbe, rt5, _⟩ := hT
  obtain ⟨A5, c5, hs5⟩ := S4.out.became hbe
  have S5 := Lib.hid hs5
  have R5 : Hid (Rt o5 up12D) := rt5
  clear hbe rt5 hs5 S4 R4
  dsimp only [errV]
  go_wp2_with fail
  refine ((HT.out w5 g 16 1024 c5 A5 o5 up12D 4096 S5.out.ar (by omega) (by omega) C4.out R5.out (by omega)).2 rfl).mono ?_
  intro e w6 hT
  unfold TurnedAt at hT
  rw [show ((4096 : Int).toNat) = 4096 from rfl, T5.out] at hT
  obtain ⟨rfl, hb⟩ := hT
  have S6 := Lib.hid (S5.out.below hb)
  clear hb S5 R5
  dsimp only [errV]
  go_wp2_with fail
  refine (code_err w6 5 (by omega) (by omega)).mono ?_
  rintro e w7 ⟨rfl, rfl⟩
  have hend : Below w.heap.size w w6 := K1.out.trans (S6.out.bel.mono K1.out.size)
  have HE := Lib.hid hend
  clear hend
  go_wp2
  go_ret
  exact ⟨rfl, HE.out⟩
end Go.Proofs.Ytlamhidaicikfaa

/- The walk of AllocPlays. -/
namespace Go.Proofs.Ytlamhidaicikfaa
open Go.RowKit

section
theorem St.lift {w wB W : World} {g base cap c : Nat} {A : Option Addr} {bs : List UInt8} {L : List (Nat × Obj)} (h : St wB W g base cap A c bs L) (hb : Below w.heap.size w wB) : St w W g base cap A c bs L :=
  ⟨hb.trans (h.bel.mono hb.size), h.ar, Nat.le_trans hb.size h.gB, fun a e => Nat.le_trans hb.size (h.aB a e), h.has⟩
set_option maxHeartbeats 400000 in
theorem larena_no (w : World) (base : Nat) (hb : base < 18446744073709551616) (cap : Int) (hc : -9223372036854775808 ≤ cap ∧ cap ≤ 9223372036854775807) (h : cap < 1024 ∨ 16384 < cap) (B : Option Addr) (n k : Nat) :
    Calls Try.prog 6 #[.int .u64 (base : Int), .int .i64 cap, .slice B n k] w fun e w' => e = .returned (.pointer none) ∧ w = w' := by
  have HN := Lib.hid (new_no w base cap hb hc (.inr (.inr h)))
  clear h
  go_enter Try.func6, Try.ntmps6
  go_wp2_with fail
  refine HN.out.mono ?_
  rintro e w1 ⟨rfl, rfl⟩
  go_wp2
  go_ret
  exact ⟨rfl, rfl⟩
/-- A heap without blocks beside an arena of 0. -/
theorem base_facts (nb : Nat) : ∃ base, nb % 288230376151711744 * 16 = base ∧ base % 16 = 0 ∧ base ≤ 4611686018427387904 := ⟨_, rfl, by omega, by omega⟩

set_option maxHeartbeats 2000000 in
theorem apl_no (HT : TakeK) (HG : GiveK) (w : World) (nb : Nat) (hnb : nb < 18446744073709551616) (cap : Int) (hc : -9223372036854775808 ≤ cap ∧ cap ≤ 9223372036854775807) (hbad : cap < 1024 ∨ 16384 < cap) (A1 : Option Addr) (ll k1 : Nat) :
    Calls Try.prog 3 #[.int .u64 (nb : Int), .int .i64 cap, .slice A1 ll k1] w fun e w' => e = .returned (.bool true) ∧ Below w.heap.size w w' := by
  obtain ⟨base, hbase, hb16, hb62⟩ := base_facts nb
  have hba := fun W => lawbase_any W nb hnb
  rw [hbase] at hba
  obtain ⟨z, hz⟩ : ∃ z, List.replicate 184 (0 : UInt8) = z := ⟨_, rfl⟩
  have hmk : ∀ W : World, (Instr.makeSlice 28 (.int .i64 184) (.int .i64 184)).run Try.prog W = .ok (.slice (some ⟨W.heap.size, 0, none⟩) 184 184) (W.alloc (.cells (rowB z) 5)) := run_mk0 184 (by omega) z hz
  have HMK := Lib.hid hmk
  have HBA := Lib.hid hba
  have HUP := Lib.hid (up12_any HT HG w)
  have HAN := Lib.hid (fun W B n k => larena_no W base (by omega) cap hc hbad B n k)
  clear HT HG hba hbase hnb hmk
  go_enter Try.func3, Try.ntmps3
  go_wp2_with fail
  refine HUP.out.mono ?_
  rintro e w1 ⟨rfl, hb⟩
  obtain ⟨wd, hwd⟩ : ∃ wd, w1.drew = wd := ⟨_, rfl⟩
  have HB1 : Hid (Below w.heap.size w wd) := (show Below _ _ _ by rw [← hwd]; exact hb.drew)
  have HWD := Lib.hid hwd
  clear hwd hb HUP
  go_wp2_with fail
  refine wp_region_plan wd.heap.size (.two [0, 2] 1 (.one [] 3 (.one [] 4 (.fin [5]))) 3 (.one [] 1 (.one [] 4 (.fin [5])))) [] (by kernel_rfl) (by kernel_rfl) (by kernel_rfl) (fun _ _ _ _ _ h => h) ?_
  rw [HWD.out]
  refine plan_two (l := ?seg1) ?hseg1 ?_
  case hseg1 => simp only [pick, List.getElem?_toArray, List.getElem?_cons_succ, List.getElem?_cons_zero]; rfl
  repeat (go_big_quiet_step (fail))
  refine wpQuiet_nil ?_
  obtain ⟨w2, hw2⟩ : ∃ w2, wd.alloc (.cells (rowB z) 5) = w2 := ⟨_, rfl⟩
  have b2 : Below wd.heap.size wd w2 := by rw [← hw2]; exact (Below.refl _ _).alloc (Nat.le_refl _) _
  have HB2 := Lib.hid (HB1.out.trans (b2.mono HB1.out.size))
  refine pair_any (d1 := 13) (d2 := 15) (v1 := .int .u64 (base : Int)) (v2 := .slice (some ⟨wd.heap.size, 0, none⟩) 184 184) (vs := #[.int .u64 (nb : Int)]) (w1 := w2) Try.call7 rfl rfl rfl (fun _ => rfl) (by decide) rfl rfl (fun W => (HBA.out W).mono (fun e w' h => ⟨h.1, h.2⟩)) (fun b => by rw [← hw2]; exact mk_run rfl rfl rfl (HMK.out wd)) (Nat.le_refl _) b2 ?_
  simp only [Act.put, List.setIfInBounds_toArray, List.set_cons_zero, List.set_cons_succ]
  clear b2 hw2 HBA HMK HWD HB1
  refine plan_one (l := []) rfl (wpQuiet_nil ?_)
  refine tail_call (vs := #[.int .u64 (base : Int), .int .i64 cap, .slice (some ⟨wd.heap.size, 0, none⟩) 184 184]) Try.call6 rfl rfl rfl (R := fun r w' => r = .pointer none ∧ w' = w2) ((HAN.out w2 _ 184 184).mono ?_) wd.heap.size (Nat.le_refl _) ?_
  · rintro e w' ⟨rfl, rfl⟩
    exact ⟨_, rfl, Below.refl _ _, rfl, rfl⟩
  rintro r w3 _ ⟨rfl, rfl⟩
  refine plan_fin (l := ?la2) (t := []) ?hla2 rfl ?_
  case hla2 => simp only [pick, List.getElem?_toArray, List.getElem?_cons_succ, List.getElem?_cons_zero]; rfl
  simp only [Act.put, List.setIfInBounds_toArray, List.set_cons_zero, List.set_cons_succ]
  repeat (go_big_quiet_step (fail))
  refine wpQuiet_nil ?_
  clear HAN
  rcases hbad with h | h
  · go_wp2
    go_ret
    exact ⟨rfl, HB2.out⟩
  · have h2 : 1024 ≤ cap := by omega
    have h3 : decide (cap ≤ 16384) = false := decide_eq_false (by omega)
    go_wp2
    go_ret
    exact ⟨rfl, HB2.out⟩

set_option maxHeartbeats 2000000 in
theorem apl_long (HT : TakeK) (HG : GiveK) (w : World) (nb : Nat) (hnb : nb < 18446744073709551616) (cap : Nat) (h1 : 1024 ≤ cap) (h2 : cap ≤ 16384) (A1 : Option Addr) (ll k1 : Nat) (hll : 100 < ll) :
    Calls Try.prog 3 #[.int .u64 (nb : Int), .int .i64 (cap : Int), .slice A1 ll k1] w fun e w' => e = .returned (.bool true) ∧ Below w.heap.size w w' := by
  obtain ⟨base, hbase, hb16, hb62⟩ := base_facts nb
  have hba := fun W => lawbase_any W nb hnb
  rw [hbase] at hba
  obtain ⟨z, hz⟩ : ∃ z, List.replicate 184 (0 : UInt8) = z := ⟨_, rfl⟩
  have hzl : z.length = 184 := by rw [← hz]; exact List.length_replicate
  have hr0 := rt_zero hz cap (by omega)
  have hmk : ∀ W : World, (Instr.makeSlice 28 (.int .i64 184) (.int .i64 184)).run Try.prog W = .ok (.slice (some ⟨W.heap.size, 0, none⟩) 184 184) (W.alloc (.cells (rowB z) 5)) := run_mk0 184 (by omega) z hz
  have har := fun (W : World) (B : Option Addr) (k : Nat) (hr : Rd W W.heap.size B 184 z) => arena_any W base cap B k z (by rw [hzl]; exact hr) hb16 hb62 h1 h2 (by omega)
  rw [hzl] at har
  have HMK := Lib.hid hmk
  have HBA := Lib.hid hba
  have HAR := Lib.hid har
  have HZL := Lib.hid hzl
  have R0 := Lib.hid hr0
  have HUP := Lib.hid (up12_any HT HG w)
  have HNW := Lib.hid (fun W => hNew_any W cap)
  have s1 : decide ((100 : Int) < (ll : Int)) = true := decide_eq_true (by omega)
  have s2 : decide ((cap : Int) ≤ 16384) = true := decide_eq_true (by omega)
  have s3 : decide ((1024 : Int) ≤ (cap : Int)) = true := decide_eq_true (by omega)
  clear hba hbase hnb hmk har hz hzl hr0 HT HG
  go_enter Try.func3, Try.ntmps3
  go_wp2_with fail
  refine HUP.out.mono ?_
  rintro e w1 ⟨rfl, hb⟩
  obtain ⟨wd, hwd⟩ : ∃ wd, w1.drew = wd := ⟨_, rfl⟩
  have HB1 : Hid (Below w.heap.size w wd) := (show Below _ _ _ by rw [← hwd]; exact hb.drew)
  have HWD := Lib.hid hwd
  clear hwd hb HUP
  go_wp2_with fail
  refine wp_region_plan wd.heap.size (.two [0, 2] 1 (.one [] 3 (.one [] 4 (.fin [5]))) 3 (.one [] 1 (.one [] 4 (.fin [5])))) [] (by kernel_rfl) (by kernel_rfl) (by kernel_rfl) (fun _ _ _ _ _ h => h) ?_
  rw [HWD.out]
  refine plan_two (l := ?seg1) ?hseg1 ?_
  case hseg1 => simp only [pick, List.getElem?_toArray, List.getElem?_cons_succ, List.getElem?_cons_zero]; rfl
  repeat (go_big_quiet_step (fail))
  refine wpQuiet_nil ?_
  obtain ⟨w2, hw2⟩ : ∃ w2, wd.alloc (.cells (rowB z) 5) = w2 := ⟨_, rfl⟩
  have b2 : Below wd.heap.size wd w2 := by rw [← hw2]; exact (Below.refl _ _).alloc (Nat.le_refl _) _
  have f2 : Fill w2 wd.heap.size 5 z := by rw [← hw2]; exact Fill.made wd _ _
  have hrd := f2.reads
  rw [HZL.out] at hrd
  have HRD := Lib.hid hrd
  have HB2 := Lib.hid (HB1.out.trans (b2.mono HB1.out.size))
  have hs2 := b2.size
  refine pair_any (d1 := 13) (d2 := 15) (v1 := .int .u64 (base : Int)) (v2 := .slice (some ⟨wd.heap.size, 0, none⟩) 184 184) (vs := #[.int .u64 (nb : Int)]) (w1 := w2) Try.call7 rfl rfl rfl (fun _ => rfl) (by decide) rfl rfl (fun W => (HBA.out W).mono (fun e w' h => ⟨h.1, h.2⟩)) (fun b => by rw [← hw2]; exact mk_run rfl rfl rfl (HMK.out wd)) (Nat.le_refl _) b2 ?_
  simp only [Act.put, List.setIfInBounds_toArray, List.set_cons_zero, List.set_cons_succ]
  clear b2 hw2 HBA HMK HWD HB1 f2 hrd
  refine plan_one (l := []) rfl (wpQuiet_nil ?_)
  refine tail_call (vs := #[.int .u64 (base : Int), .int .i64 (cap : Int), .slice (some ⟨wd.heap.size, 0, none⟩) 184 184]) Try.call6 rfl rfl rfl (R := fun r w' => ∃ g A c, r = .pointer (some ⟨g, 0, none⟩) ∧ St w2 w' g base cap A c z []) ((HAR.out w2 _ 184 HRD.out).mono ?_) wd.heap.size (Nat.le_refl _) ?_
  · intro e w' hmade
    obtain ⟨g, A, c, rfl, hst⟩ := St.made hmade
    exact ⟨_, rfl, hst.bel.mono hs2, g, A, c, rfl, hst⟩
  rintro r w3 _ ⟨g, A, c, rfl, hst⟩
  have S3 := Lib.hid (hst.lift HB2.out)
  clear hst HAR HRD HB2 hs2
  refine plan_fin (l := ?la2) (t := []) ?hla2 rfl ?_
  case hla2 => simp only [pick, List.getElem?_toArray, List.getElem?_cons_succ, List.getElem?_cons_zero]; rfl
  simp only [Act.put, List.setIfInBounds_toArray, List.set_cons_zero, List.set_cons_succ]
  repeat (go_big_quiet_step (fail))
  refine wpQuiet_nil ?_
  have HE := Lib.hid S3.out.bel
  go_wp2
  go_ret
  exact ⟨rfl, HE.out⟩

set_option maxHeartbeats 4000000 in
theorem apl_main (HT : TakeK) (HG : GiveK) (HR : TrimK) (HU : UsedK) (HWk : WalkC) (HAl : AllC) (HCk : CheckC) (w : World) (nb : Nat) (hnb : nb < 18446744073709551616) (cap : Nat) (h1 : 1024 ≤ cap) (h2 : cap ≤ 16384) (A1 : Option Addr) (k1 : Nat) (l : List De) (hL : DeRd w w.heap.size A1 l) (hl : l.length ≤ 100) :
    Calls Try.prog 3 #[.int .u64 (nb : Int), .int .i64 (cap : Int), .slice A1 l.length k1] w fun e w' => e = .returned (.bool true) ∧ Below w.heap.size w w' := by
  obtain ⟨ll, hll⟩ : ∃ ll, l.length = ll := ⟨_, rfl⟩
  rw [hll] at hl ⊢
  have s1 : decide ((100 : Int) < (ll : Int)) = false := decide_eq_false (by omega)
  have HLL := Lib.hid hll
  have HL := Lib.hid hL
  clear hll hL
  obtain ⟨base, hbase, hb16, hb62⟩ := base_facts nb
  have hba := fun W => lawbase_any W nb hnb
  rw [hbase] at hba
  obtain ⟨z, hz⟩ : ∃ z, List.replicate 184 (0 : UInt8) = z := ⟨_, rfl⟩
  have hzl : z.length = 184 := by rw [← hz]; exact List.length_replicate
  have hr0 := rt_zero hz cap (by omega)
  have hmk : ∀ W : World, (Instr.makeSlice 28 (.int .i64 184) (.int .i64 184)).run Try.prog W = .ok (.slice (some ⟨W.heap.size, 0, none⟩) 184 184) (W.alloc (.cells (rowB z) 5)) := run_mk0 184 (by omega) z hz
  have har := fun (W : World) (B : Option Addr) (k : Nat) (hr : Rd W W.heap.size B 184 z) => arena_any W base cap B k z (by rw [hzl]; exact hr) hb16 hb62 h1 h2 (by omega)
  rw [hzl] at har
  have HMK := Lib.hid hmk
  have HBA := Lib.hid hba
  have HAR := Lib.hid har
  have HZL := Lib.hid hzl
  have R0 := Lib.hid hr0
  have HUP := Lib.hid (up12_any HT HG w)
  have HNW := Lib.hid (fun W => hNew_any W cap)
  have HT := Lib.hid HT
  have HG := Lib.hid HG
  have HR := Lib.hid HR
  have HU := Lib.hid HU
  have HWk := Lib.hid HWk
  have HAl := Lib.hid HAl
  have HCk := Lib.hid HCk
  clear hba hbase hnb hmk har hz hzl hr0 
  go_enter Try.func3, Try.ntmps3
  go_wp2_with fail
  refine HUP.out.mono ?_
  rintro e w1 ⟨rfl, hb⟩
  obtain ⟨wd, hwd⟩ : ∃ wd, w1.drew = wd := ⟨_, rfl⟩
  have HB1 : Hid (Below w.heap.size w wd) := (show Below _ _ _ by rw [← hwd]; exact hb.drew)
  have HWD := Lib.hid hwd
  clear hwd hb HUP
  go_wp2_with fail
  refine wp_region_plan wd.heap.size (.two [0, 2] 1 (.one [] 3 (.one [] 4 (.fin [5]))) 3 (.one [] 1 (.one [] 4 (.fin [5])))) [] (by kernel_rfl) (by kernel_rfl) (by kernel_rfl) (fun _ _ _ _ _ h => h) ?_
  rw [HWD.out]
  refine plan_two (l := ?seg1) ?hseg1 ?_
  case hseg1 => simp only [pick, List.getElem?_toArray, List.getElem?_cons_succ, List.getElem?_cons_zero]; rfl
  repeat (go_big_quiet_step (fail))
  refine wpQuiet_nil ?_
  obtain ⟨w2, hw2⟩ : ∃ w2, wd.alloc (.cells (rowB z) 5) = w2 := ⟨_, rfl⟩
  have b2 : Below wd.heap.size wd w2 := by rw [← hw2]; exact (Below.refl _ _).alloc (Nat.le_refl _) _
  have f2 : Fill w2 wd.heap.size 5 z := by rw [← hw2]; exact Fill.made wd _ _
  have hrd := f2.reads
  rw [HZL.out] at hrd
  have HRD := Lib.hid hrd
  have HB2 := Lib.hid (HB1.out.trans (b2.mono HB1.out.size))
  have hs2 := b2.size
  refine pair_any (d1 := 13) (d2 := 15) (v1 := .int .u64 (base : Int)) (v2 := .slice (some ⟨wd.heap.size, 0, none⟩) 184 184) (vs := #[.int .u64 (nb : Int)]) (w1 := w2) Try.call7 rfl rfl rfl (fun _ => rfl) (by decide) rfl rfl (fun W => (HBA.out W).mono (fun e w' h => ⟨h.1, h.2⟩)) (fun b => by rw [← hw2]; exact mk_run rfl rfl rfl (HMK.out wd)) (Nat.le_refl _) b2 ?_
  simp only [Act.put, List.setIfInBounds_toArray, List.set_cons_zero, List.set_cons_succ]
  clear b2 hw2 HBA HMK HWD HB1 f2 hrd
  refine plan_one (l := []) rfl (wpQuiet_nil ?_)
  refine tail_call (vs := #[.int .u64 (base : Int), .int .i64 (cap : Int), .slice (some ⟨wd.heap.size, 0, none⟩) 184 184]) Try.call6 rfl rfl rfl (R := fun r w' => ∃ g A c, r = .pointer (some ⟨g, 0, none⟩) ∧ St w2 w' g base cap A c z []) ((HAR.out w2 _ 184 HRD.out).mono ?_) wd.heap.size (Nat.le_refl _) ?_
  · intro e w' hmade
    obtain ⟨g, A, c, rfl, hst⟩ := St.made hmade
    exact ⟨_, rfl, hst.bel.mono hs2, g, A, c, rfl, hst⟩
  rintro r w3 _ ⟨g, A, c, rfl, hst⟩
  have S3 := Lib.hid (hst.lift HB2.out)
  clear hst HAR HRD HB2 hs2
  refine plan_fin (l := ?la2) (t := []) ?hla2 rfl ?_
  case hla2 => simp only [pick, List.getElem?_toArray, List.getElem?_cons_succ, List.getElem?_cons_zero]; rfl
  simp only [Act.put, List.setIfInBounds_toArray, List.set_cons_zero, List.set_cons_succ]
  repeat (go_big_quiet_step (fail))
  refine wpQuiet_nil ?_
  go_wp2_with fail
  refine (HNW.out w3).mono ?_
  rintro e w4 ⟨p, rfl, hm, hb⟩
  obtain ⟨F4, a4⟩ := Al.made S3.out hm hb
  have A4 := Lib.hid a4
  clear hm hb a4 S3 HNW s1
  go_wp2
  go_loopw [10] (fun i wr => ∃ (j : Nat) (A : Option Addr) (c : Nat) (bs : List UInt8) (F : Nat → Prop) (H : Hp), i = .int .i64 (j : Int) ∧ j ≤ ll ∧ Al w wr g base cap A c bs F p H ∧ Rt bs H ∧ H.Dl ∧ H.cap = cap) (fun i _ => ll - (intOf i).toNat)
  case atStart => exact ⟨0, A, c, z, F4, _, rfl, Nat.zero_le _, A4.out, R0.out, rfl, rfl⟩
  case round =>
    obtain ⟨j, A, c, bs, F, H, rfl, hj, ha, hrt, hd, hc⟩ := hrel
    clear A4 R0
    by_cases hlt : j < ll
    · obtain ⟨x, hx⟩ : ∃ x, l[j]? = some x := ⟨l[j]'(by rw [HLL.out]; exact hlt), List.getElem?_eq_getElem _⟩
      obtain ⟨b1, o1, rfl, _, hc1⟩ := (HL.out.below ha.st.bel) (by rw [HLL.out]; omega)
      obtain ⟨q0, q1, q2, q3, _, hn, hm⟩ := hc1 j x hx
      obtain ⟨xw, xn, xm, xr⟩ := x
      dsimp only at q0 q1 q2 q3 hn hm
      have hji : (j : Int) < (ll : Int) := by omega
      have HDO := Lib.hid (ldo_any HT.out HG.out HR.out HU.out ha hrt hc hb62 h2 hd xw xn xm xr hn hm)
      clear hc1 hx ha hrt hd hc hn hm
      go_wp2_with fail
      refine HDO.out.mono ?_
      rintro e w5 ⟨rfl, A5, c5, bs5, F5, H5, ha, hrt, hd, hc⟩
      have HSM := Lib.hid (lsame_any HWk.out HAl.out HCk.out ha hrt hc hb62 h2 hd)
      have A5 := Lib.hid ha
      have R5 := Lib.hid hrt
      have D5 := Lib.hid hd
      have C5 := Lib.hid hc
      clear ha hrt hd hc HDO q0 q1 q2 q3
      go_wp2_with fail
      refine HSM.out.mono ?_
      rintro e w6 ⟨rfl, hb⟩
      have A6 := Lib.hid (A5.out.below hb)
      clear hb HSM A5
      go_wp2
      go_roundw
      case rel => exact ⟨j + 1, _, _, _, _, _, by go_num, by omega, A6.out, R5.out, D5.out, C5.out⟩
      case measure => simp only [intOf]; omega
    · have HE := Lib.hid ha.st.bel
      clear ha hrt hd hc
      go_wp2
      go_ret
      exact ⟨rfl, HE.out⟩
theorem apl_any (HT : TakeK) (HG : GiveK) (HR : TrimK) (HU : UsedK) (HWk : WalkC) (HAl : AllC) (HCk : CheckC) (w : World) (nb : Nat) (hnb : nb < 18446744073709551616) (cap : Int) (hc : -9223372036854775808 ≤ cap ∧ cap ≤ 9223372036854775807) (A1 : Option Addr) (k1 : Nat) (l : List De) (hL : DeRd w w.heap.size A1 l) :
    Calls Try.prog 3 #[.int .u64 (nb : Int), .int .i64 cap, .slice A1 l.length k1] w fun e w' => e = .returned (.bool true) ∧ Below w.heap.size w w' := by
  by_cases hbad : cap < 1024 ∨ 16384 < cap
  · exact apl_no HT HG w nb hnb cap hc hbad A1 _ k1
  · obtain ⟨k, rfl⟩ : ∃ k : Nat, cap = (k : Int) := ⟨cap.toNat, by omega⟩
    rcases Nat.lt_or_ge 100 l.length with hl | hl
    · exact apl_long HT HG w nb hnb k (by omega) (by omega) A1 _ k1 hl
    · exact apl_main HT HG HR HU HWk HAl HCk w nb hnb k (by omega) (by omega) A1 k1 l hL hl
end
end Go.Proofs.Ytlamhidaicikfaa

/- The walk of AllocRoom. -/
namespace Go.Proofs.Ytlamhidaicikfaa
open Go.RowKit

theorem BkRd.tch {S : Nat → Prop} {w w' : World} {B : Nat} {A : Option Addr} {l : List Bk} (h : BkRd w B A l) (hB : B ≤ w.heap.size) (ht : Tch S w w') (hn : ∀ a, A = some a → ¬ S a.block) : BkRd w' B A l := fun h0 => by
  obtain ⟨b, o, rfl, hb, hc⟩ := h h0
  refine ⟨b, o, rfl, hb, fun j x hx => ?_⟩
  obtain ⟨c0, c1, c2⟩ := hc j x hx
  have hk : w'.heap[b]? = w.heap[b]? := ht.block b (by omega) (hn _ rfl)
  exact ⟨(World.cell?_of_block (w := w) (w' := w') (a := ⟨b, _, none⟩) hk).trans c0, (World.cell?_of_block (w := w) (w' := w') (a := ⟨b, _, none⟩) hk).trans c1, (World.cell?_of_block (w := w) (w' := w') (a := ⟨b, _, none⟩) hk).trans c2⟩
/-- Is there a free block with so many bytes? -/
def anyF (l : List Bk) (s : Nat) : Bool := l.any fun x => !x.used && decide (s ≤ x.size)
theorem anyF_take {l : List Bk} {s j : Nat} {x : Bk} (hx : l[j]? = some x) : anyF (l.take (j + 1)) s = (anyF (l.take j) s || (!x.used && decide (s ≤ x.size))) := by
  unfold anyF
  rw [List.take_add_one, hx, List.any_append]
  simp
section
set_option maxRecDepth 100000 in
set_option maxHeartbeats 2000000 in
theorem arm_no (HT : TakeK) (HG : GiveK) (w : World) (cap : Int) (hc : -9223372036854775808 ≤ cap ∧ cap ≤ 9223372036854775807) (hbad : cap < 1024 ∨ 16384 < cap) (A1 : Option Addr) (ll k1 : Nat) (nn : Int) :
    Calls Try.prog 4 #[.int .i64 cap, .slice A1 ll k1, .int .i64 nn] w fun e w' => e = .returned (.bool true) ∧ Below w.heap.size w w' := by
  obtain ⟨z, hz⟩ : ∃ z, List.replicate 184 (0 : UInt8) = z := ⟨_, rfl⟩
  have HMK : ∀ W : World, (Instr.makeSlice 28 (.int .i64 184) (.int .i64 184)).run Try.prog W = .ok (.slice (some ⟨W.heap.size, 0, none⟩) 184 184) (W.alloc (.cells (rowB z) 5)) := run_mk0 184 (by omega) z hz
  have HUP := Lib.hid (up12_any HT HG w)
  have HAN := Lib.hid (fun W B n k => larena_no W 0 (by omega) cap hc hbad B n k)
  clear HT HG
  go_enter Try.func4, Try.ntmps4
  go_wp2_with fail
  refine HUP.out.mono ?_
  rintro e w1 ⟨rfl, hb⟩
  have HB1 := Lib.hid (hb.alloc (Nat.le_trans (Nat.le_refl _) hb.size) (.cells (rowB z) 5))
  clear hb HUP
  go_wp2_with fail
  refine (HAN.out _ _ 184 184).mono ?_
  rintro e w2 ⟨rfl, rfl⟩
  clear HAN HMK
  rcases hbad with h | h
  · go_wp2
    go_ret
    exact ⟨rfl, HB1.out⟩
  · have h2 : 1024 ≤ cap := by omega
    have h3 : decide (cap ≤ 16384) = false := decide_eq_false (by omega)
    go_wp2
    go_ret
    exact ⟨rfl, HB1.out⟩

set_option maxRecDepth 100000 in
set_option maxHeartbeats 2000000 in
theorem arm_long (HT : TakeK) (HG : GiveK) (w : World) (cap : Nat) (h1 : 1024 ≤ cap) (h2 : cap ≤ 16384) (A1 : Option Addr) (ll k1 : Nat) (hll : 100 < ll) (nn : Int) :
    Calls Try.prog 4 #[.int .i64 (cap : Int), .slice A1 ll k1, .int .i64 nn] w fun e w' => e = .returned (.bool true) ∧ Below w.heap.size w w' := by
  obtain ⟨z, hz⟩ : ∃ z, List.replicate 184 (0 : UInt8) = z := ⟨_, rfl⟩
  have hzl : z.length = 184 := by rw [← hz]; exact List.length_replicate
  have hr0 := rt_zero hz cap (by omega)
  have HMK : ∀ W : World, (Instr.makeSlice 28 (.int .i64 184) (.int .i64 184)).run Try.prog W = .ok (.slice (some ⟨W.heap.size, 0, none⟩) 184 184) (W.alloc (.cells (rowB z) 5)) := run_mk0 184 (by omega) z hz
  have har := fun (W : World) (B : Option Addr) (k : Nat) (hr : Rd W W.heap.size B 184 z) => arena_any W 0 cap B k z (by rw [hzl]; exact hr) (by omega) (by omega) h1 h2 (by omega)
  rw [hzl] at har
  have HAR := Lib.hid har
  have HZL := Lib.hid hzl
  have R0 := Lib.hid hr0
  have HUP := Lib.hid (up12_any HT HG w)
  have HNW := Lib.hid (fun W => hNew_any W cap)
  have s1 : decide ((100 : Int) < (ll : Int)) = true := decide_eq_true (by omega)
  have s2 : decide ((cap : Int) ≤ 16384) = true := decide_eq_true (by omega)
  have s3 : decide ((1024 : Int) ≤ (cap : Int)) = true := decide_eq_true (by omega)
  clear har hz hzl hr0 HT HG
  go_enter Try.func4, Try.ntmps4
  go_wp2_with fail
  refine HUP.out.mono ?_
  rintro e w1 ⟨rfl, hb⟩
  obtain ⟨w2, hw2⟩ : ∃ w2, w1.alloc (.cells (rowB z) 5) = w2 := ⟨_, rfl⟩
  have b2 : Below w1.heap.size w1 w2 := by rw [← hw2]; exact (Below.refl _ _).alloc (Nat.le_refl _) _
  have f2 : Fill w2 w1.heap.size 5 z := by rw [← hw2]; exact Fill.made w1 _ _
  have hrd := f2.reads
  rw [HZL.out] at hrd
  have HRD := Lib.hid hrd
  have HB2 := Lib.hid (hb.trans (b2.mono hb.size))
  have HW2 := Lib.hid hw2
  clear b2 f2 hrd hb hw2 HUP
  go_wp2_with (first | (rw [HW2.out]) | fail)
  refine (HAR.out w2 _ 184 HRD.out).mono ?_
  intro e w3 hmade
  obtain ⟨g, A, c, rfl, hst⟩ := St.made hmade
  have S3 := Lib.hid (hst.lift HB2.out)
  clear hst HAR HRD HB2 HMK hmade HW2
  have HE := Lib.hid S3.out.bel
  go_wp2
  go_ret
  exact ⟨rfl, HE.out⟩

set_option maxRecDepth 100000 in
set_option maxHeartbeats 8000000 in
theorem arm_main (HT : TakeK) (HG : GiveK) (HR : TrimK) (HU : UsedK) (HWk : WalkC) (HGt : GetC) (HCk : CheckC) (w : World) (cap : Nat) (h1 : 1024 ≤ cap) (h2 : cap ≤ 16384) (A1 : Option Addr) (k1 : Nat) (l : List De) (hL : DeRd w w.heap.size A1 l) (hl : l.length ≤ 100) (nn : Int) :
    Calls Try.prog 4 #[.int .i64 (cap : Int), .slice A1 l.length k1, .int .i64 nn] w fun e w' => e = .returned (.bool true) ∧ Below w.heap.size w w' := by
  obtain ⟨ll, hll⟩ : ∃ ll, l.length = ll := ⟨_, rfl⟩
  rw [hll] at hl ⊢
  have s1 : decide ((100 : Int) < (ll : Int)) = false := decide_eq_false (by omega)
  have HLL := Lib.hid hll
  have HL := Lib.hid hL
  clear hll hL
  obtain ⟨q, hq⟩ : ∃ q, (nn % ((900 : Nat) : Int)).toNat = q := ⟨_, rfl⟩
  have hq9 : q < 900 := by
    rw [← hq]
    have h1 := Int.emod_nonneg nn (b := ((900 : Nat) : Int)) (by omega)
    have h2 := Int.emod_lt_of_pos nn (b := ((900 : Nat) : Int)) (by omega)
    omega
  have HPK := Lib.hid (fun W => lpick_any nn 900 W (by omega) (by omega) q hq)
  clear hq
  obtain ⟨z, hz⟩ : ∃ z, List.replicate 184 (0 : UInt8) = z := ⟨_, rfl⟩
  have hzl : z.length = 184 := by rw [← hz]; exact List.length_replicate
  have hr0 := rt_zero hz cap (by omega)
  have HMK : ∀ W : World, (Instr.makeSlice 28 (.int .i64 184) (.int .i64 184)).run Try.prog W = .ok (.slice (some ⟨W.heap.size, 0, none⟩) 184 184) (W.alloc (.cells (rowB z) 5)) := run_mk0 184 (by omega) z hz
  have har := fun (W : World) (B : Option Addr) (k : Nat) (hr : Rd W W.heap.size B 184 z) => arena_any W 0 cap B k z (by rw [hzl]; exact hr) (by omega) (by omega) h1 h2 (by omega)
  rw [hzl] at har
  have HAR := Lib.hid har
  have HZL := Lib.hid hzl
  have R0 := Lib.hid hr0
  have HUP := Lib.hid (up12_any HT HG w)
  have HNW := Lib.hid (fun W => hNew_any W cap)
  have HT := Lib.hid HT
  have HG := Lib.hid HG
  have HR := Lib.hid HR
  have HU := Lib.hid HU
  have HWk := Lib.hid HWk
  have HGt := Lib.hid HGt
  have HCk := Lib.hid HCk
  clear har hz hzl hr0 
  go_enter Try.func4, Try.ntmps4
  go_wp2_with fail
  refine HUP.out.mono ?_
  rintro e w1 ⟨rfl, hb⟩
  obtain ⟨w2, hw2⟩ : ∃ w2, w1.alloc (.cells (rowB z) 5) = w2 := ⟨_, rfl⟩
  have b2 : Below w1.heap.size w1 w2 := by rw [← hw2]; exact (Below.refl _ _).alloc (Nat.le_refl _) _
  have f2 : Fill w2 w1.heap.size 5 z := by rw [← hw2]; exact Fill.made w1 _ _
  have hrd := f2.reads
  rw [HZL.out] at hrd
  have HRD := Lib.hid hrd
  have HB2 := Lib.hid (hb.trans (b2.mono hb.size))
  have HW2 := Lib.hid hw2
  clear b2 f2 hrd hb hw2 HUP
  go_wp2_with (first | (rw [HW2.out]) | fail)
  refine (HAR.out w2 _ 184 HRD.out).mono ?_
  intro e w3 hmade
  obtain ⟨g, A, c, rfl, hst⟩ := St.made hmade
  have S3 := Lib.hid (hst.lift HB2.out)
  clear hst HAR HRD HB2 HMK hmade HW2
  go_wp2_with fail
  refine (HNW.out w3).mono ?_
  rintro e w4 ⟨p, rfl, hm, hb⟩
  obtain ⟨F4, a4⟩ := Al.made S3.out hm hb
  have A4 := Lib.hid a4
  clear hm hb a4 S3 HNW s1
  go_wp2
  go_loopw [10] (fun i wr => ∃ (j : Nat) (A : Option Addr) (c : Nat) (bs : List UInt8) (F : Nat → Prop) (H : Hp), i = .int .i64 (j : Int) ∧ j ≤ ll ∧ Al w wr g 0 cap A c bs F p H ∧ Rt bs H ∧ H.Dl ∧ H.cap = cap) (fun i _ => ll - (intOf i).toNat)
  case atStart => exact ⟨0, A, c, z, F4, _, rfl, Nat.zero_le _, A4.out, R0.out, rfl, rfl⟩
  case round =>
    obtain ⟨j, A, c, bs, F, H, rfl, hj, ha, hrt, hd, hc⟩ := hrel
    clear A4 R0
    by_cases hlt : j < ll
    · obtain ⟨x, hx⟩ : ∃ x, l[j]? = some x := ⟨l[j]'(by rw [HLL.out]; exact hlt), List.getElem?_eq_getElem _⟩
      obtain ⟨b1, o1, rfl, _, hc1⟩ := (HL.out.below ha.st.bel) (by rw [HLL.out]; omega)
      obtain ⟨q0, q1, q2, q3, _, hn, hm⟩ := hc1 j x hx
      obtain ⟨xw, xn, xm, xr⟩ := x
      dsimp only at q0 q1 q2 q3 hn hm
      have hji : (j : Int) < (ll : Int) := by omega
      have HDO := Lib.hid (ldo_any HT.out HG.out HR.out HU.out ha hrt hc (by omega) h2 hd xw xn xm xr hn hm)
      clear hc1 hx ha hrt hd hc hn hm
      go_wp2_with fail
      refine HDO.out.mono ?_
      rintro e w5 ⟨rfl, A5, c5, bs5, F5, H5, ha, hrt, hd, hc⟩
      have A5 := Lib.hid ha
      have R5 := Lib.hid hrt
      have D5 := Lib.hid hd
      have C5 := Lib.hid hc
      clear ha hrt hd hc HDO q0 q1 q2 q3
      go_wp2
      go_roundw
      case rel => exact ⟨j + 1, _, _, _, _, _, by go_num, by omega, A5.out, R5.out, D5.out, C5.out⟩
      case measure => simp only [intOf]; omega
    · clear HL HLL
      have hok := hrt.ok (hc ▸ h2) hd
      have hn512 := hok.n
      have hlen : bs.length ≤ 16384 := Nat.le_trans (hc ▸ hrt.len) h2
      have S0 := Lib.hid ha.st
      obtain ⟨s, hs⟩ : ∃ s, 32 + 16 * q = s := ⟨_, rfl⟩
      have hsz : isSz (s : Int) = true := (isSz_iff _).2 (by omega)
      have hs16 : s ≤ 16384 := by omega
      have hroom := hrt.room hsz
      rw [hc] at hroom
      have HWK := Lib.hid (HWk.out wr g 0 cap c A bs (some H.blks) ha.st.ar (by omega) hlen hrt.walk)
      have htk := HT.out
      obtain ⟨L, hLb⟩ : ∃ L, H.blks = L := ⟨_, rfl⟩
      obtain ⟨M, hM⟩ : ∃ M, L.length = M := ⟨_, rfl⟩
      have hti : tile 184 L bs.length := hLb ▸ (walkB_tiles hrt.walk).2.1
      have hwhat : ∀ o, (H.take s).1 = some o → ∃ x ∈ (H.take s).2.blks, x.off = o ∧ x.used = true ∧ s ≤ x.size ∧ x.size < s + 32 ∧ ∀ y ∈ L, y.used = true → y.off + y.size ≤ x.off ∨ x.off + x.size ≤ y.off := fun o ho => hLb ▸ hrt.what hsz ho
      rw [hLb] at HWK hroom hn512
      rw [hM] at hn512
      have HRT := Lib.hid hrt
      have HC := Lib.hid hc
      have HM := Lib.hid hM
      have HLB := Lib.hid hLb
      have HRM : Hid ((H.take s).1.isSome = (anyF L s || decide (s + endU L ≤ cap))) := hroom
      have HSZ := Lib.hid hsz
      have HS := Lib.hid hs
      have HTI := Lib.hid hti
      have HWH := Lib.hid hwhat
      have HLEN := Lib.hid hlen
      have hel : endU L ≤ 16384 := by
        have h1 := endU_tail (l := H.blks) hok.tl hrt.nfree.2.1
        have h2 := hok.le
        rw [hLb] at h1 h2
        omega
      have HEN := Lib.hid hel
      clear ha hrt hd hc hok hel hroom hsz hlen hM hLb hs hti hwhat htk HR HU HG
      go_wp2_with fail
      refine (HPK.out _).mono ?_
      rintro e w5 ⟨rfl, rfl⟩
      have e1 : 32 + 16 * (q : Int) = (s : Int) := by have := HS.out; omega
      have HE1 := Lib.hid e1
      clear e1
      go_wp2_with fail
      refine HWK.out.mono ?_
      rintro e w6 ⟨A7, c7, rfl, hown7, hb6⟩
      dsimp only [Option.getD, Option.isSome, errV] at hown7 ⊢
      have S6 := Lib.hid (S0.out.below hb6)
      have hbk := BkRd.of_own hown7
      have hfar : ∀ a, A7 = some a → ¬ foot g A a.block := fun a ea hf => by
        have h1 := (hown7.lt a.block (by rw [ea]; rfl)).1
        have h2 := S0.out.ar.foot_lt hf
        omega
      rw [HM.out]
      rw [HE1.out]
      have HBK := Lib.hid hbk
      have HFAR := Lib.hid hfar
      obtain ⟨B6, hB6⟩ : ∃ B6, w6.heap.size = B6 := ⟨_, rfl⟩
      have HB6 := Lib.hid hB6
      rw [hB6] at HBK
      clear hown7 hb6 hbk hfar hB6 HWK S0 HPK HE1 HS
      go_wp2
      go_loopw [14, 15, 16] (fun rm en i wr => ∃ j : Nat, rm = .bool (anyF (L.take j) s) ∧ en = .int .i64 ((endU (L.take j) : Nat) : Int) ∧ i = .int .i64 (j : Int) ∧ j ≤ M ∧ Below B6 w6 wr) (fun _ _ i _ => M - (intOf i).toNat)
      case atStart => exact ⟨0, rfl, rfl, rfl, Nat.zero_le _, Below.refl _ _⟩
      case round =>
        obtain ⟨j, rfl, rfl, rfl, hj, hbw⟩ := hrel
        by_cases hlt : j < M
        · obtain ⟨x, hx⟩ : ∃ x, L[j]? = some x := ⟨L[j]'(by rw [HM.out]; exact hlt), List.getElem?_eq_getElem _⟩
          obtain ⟨b1, o1, rfl, hb16, hc1⟩ := (HBK.out.below hbw) (by rw [HM.out]; omega)
          obtain ⟨p0, p1, p2⟩ := hc1 j x hx
          have hst := anyF_take (s := s) hx
          have hse := endU_take hx
          have hxm := (tile_mem _ _ _ HTI.out).2 x (List.mem_of_getElem? hx)
          have hlen := HLEN.out
          have hx1 : x.off ≤ 16384 := by omega
          have hx2 : x.size ≤ 16384 := by omega
          have hji : (j : Int) < (M : Int) := by omega
          obtain ⟨xo, xs, xu⟩ := x
          dsimp only at p0 p1 p2 hst hse hx1 hx2
          have HBW := Lib.hid hbw
          obtain ⟨rm, hrm⟩ : ∃ rm, anyF (L.take j) s = rm := ⟨_, rfl⟩
          obtain ⟨en, hen⟩ : ∃ en, endU (L.take j) = en := ⟨_, rfl⟩
          rw [hrm] at hst ⊢
          rw [hen] at hse ⊢
          have HST := Lib.hid hst
          have HSE := Lib.hid hse
          clear hc1 hx hst hse hxm hbw hrm hen hlen
          have hge := Nat.lt_or_ge xs s
          cases xu with
          | true =>
            have HST2 : Hid (anyF (L.take (j + 1)) s = rm) := (show _ = _ by rw [HST.out]; simp)
            have HSE2 : Hid (endU (L.take (j + 1)) = xo + xs) := (show _ = _ by rw [HSE.out, if_pos rfl])
            clear HST HSE hge
            cases rm
            all_goals
              go_wp2_with fail
              go_quiet (fail)
              have HB2 : Hid (Below B6 w6 (wr.drewN nq)) := ⟨HBW.out.os, HBW.out.tape, HBW.out.output, HBW.out.size, HBW.out.block⟩
              clear HBW p0 p1 p2
              generalize wr.drewN nq = w8 at HB2 ⊢
              go_wp2
              go_roundw
              case rel => exact ⟨j + 1, by rw [HST2.out], by rw [HSE2.out]; go_num, by go_num, by omega, HB2.out⟩
              case measure => simp only [intOf]; omega
          | false =>
            have HSE2 : Hid (endU (L.take (j + 1)) = en) := (show _ = _ by rw [HSE.out, if_neg (by decide)])
            rcases hge with hge | hge
            · have HST2 : Hid (anyF (L.take (j + 1)) s = rm) := (show _ = _ by rw [HST.out, decide_eq_false (by omega)]; simp)
              have hge2 : decide ((s : Int) ≤ (xs : Int)) = false := decide_eq_false (by omega)
              have HG3 : Hid (decide (s ≤ xs) = false) := (show _ = _ from decide_eq_false (by omega))
              clear HST HSE hge
              cases rm
              all_goals
                go_wp2
                go_roundw
                case rel => exact ⟨j + 1, by rw [HST2.out]; try rw [HG3.out], by rw [HSE2.out], by go_num, by omega, HBW.out⟩
                case measure => simp only [intOf]; omega
            · have HST2 : Hid (anyF (L.take (j + 1)) s = true) := (show _ = _ by rw [HST.out, decide_eq_true hge]; simp)
              have hge2 : decide ((s : Int) ≤ (xs : Int)) = true := decide_eq_true (by omega)
              have HG3 : Hid (decide (s ≤ xs) = true) := (show _ = _ from decide_eq_true hge)
              clear HST HSE hge
              cases rm
              all_goals
                go_wp2
                go_roundw
                case rel => exact ⟨j + 1, by rw [HST2.out]; try rw [HG3.out], by rw [HSE2.out], by go_num, by omega, HBW.out⟩
                case measure => simp only [intOf]; omega
        · obtain rfl : M = j := by omega
          obtain ⟨rm, hrm⟩ : ∃ rm, anyF L s = rm := ⟨_, rfl⟩
          obtain ⟨en, hen⟩ : ∃ en, endU L = en := ⟨_, rfl⟩
          rw [List.take_of_length_le (Nat.le_of_eq HM.out), hrm, hen]
          have hroom := HRM.out
          rw [hrm, hen] at hroom
          have S7 := Lib.hid (S6.out.below (by rw [HB6.out]; exact hbw))
          have HBK7 := Lib.hid (HBK.out.below hbw)
          have hs7 : B6 ≤ wr.heap.size := by have := hbw.size; have := HB6.out; omega
          have hen16 : en ≤ 16384 := by rw [← hen]; exact HEN.out
          clear hrm hen hbw S6 HBK HRM HEN
          generalize wr = w7 at *
          cases htk : (H.take s).1 with
          | none =>
            rw [htk] at hroom
            have hrf : rm = false ∧ ¬ s + en ≤ cap := by
              cases rm with
              | true => simp at hroom
              | false => exact ⟨rfl, by simpa using hroom.symm⟩
            obtain ⟨rfl, hno⟩ := hrf
            have d1 : decide ((s : Int) ≤ (cap : Int) - (en : Int)) = false := decide_eq_false (by omega)
            have HTK := Lib.hid htk
            have HTA := Lib.hid ((HT.out w7 g 0 cap c A bs H (s : Int) S7.out.ar (by omega) h2 HC.out HRT.out (by omega)).2 HSZ.out)
            clear htk hroom hno
            go_wp2_with fail
            refine HTA.out.mono ?_
            intro e w8 hT
            rw [Int.toNat_natCast] at hT
            unfold TurnedAt at hT
            rw [HTK.out] at hT
            obtain ⟨rfl, hb⟩ := hT
            have S8 := Lib.hid (S7.out.below hb)
            have HBK8 := Lib.hid ((HBK7.out.below (hb.mono hs7)))
            have hs8 := hb.size
            clear hb HTA S7 HBK7 d1
            dsimp only [errV]
            go_wp2_with fail
            refine (code_err _ 5 (by omega) (by omega)).mono ?_
            rintro e w9 ⟨rfl, rfl⟩
            go_wp2_with fail
            refine (HCk.out w8 g 0 cap c A bs true S8.out.ar (by omega) HLEN.out HRT.out.chk).mono ?_
            rintro e w10 ⟨rfl, hb⟩
            have S10 := Lib.hid (S8.out.below hb)
            have HBK10 := Lib.hid ((HBK8.out.below (hb.mono (Nat.le_trans hs7 hs8))))
            have hs10 := Nat.le_trans hs8 hb.size
            clear hb S8 HBK8
            dsimp only [errV]
            have hwk := HWk.out w10 g 0 cap c A bs (some H.blks) S10.out.ar (by omega) HLEN.out HRT.out.walk
            rw [HLB.out] at hwk
            have HWK := Lib.hid hwk
            clear hwk
            go_wp2_with fail
            refine HWK.out.mono ?_
            rintro e w11 ⟨A9, c9, rfl, hown9, hb⟩
            dsimp only [Option.getD, Option.isSome, errV] at hown9 ⊢
            have S11 := Lib.hid (S10.out.below hb)
            have hbk11 := (HBK10.out.below (hb.mono (Nat.le_trans hs7 hs10))).more (B' := w11.heap.size) (by have := hb.size; omega)
            have hsm := blocks_same w11 A9 A7 c9 c7 L (BkRd.of_own hown9) hbk11 (by rw [HM.out]; omega)
            rw [HM.out] at hsm ⊢
            have HSM := Lib.hid hsm
            clear hown9 hb hbk11 hsm HWK S10 HBK10
            go_wp2_with fail
            refine HSM.out.mono ?_
            rintro e w12 ⟨rfl, hb⟩
            have HE := Lib.hid (S11.out.below hb).bel
            clear hb S11 HSM
            go_wp2
            go_ret
            exact ⟨rfl, HE.out⟩
          | some o =>
            rw [htk] at hroom
            obtain ⟨x, hx1, hx2, hx3, hx4, hx5, hx6⟩ := HWH.out o htk
            have hrr : rm = true ∨ (rm = false ∧ s + en ≤ cap) := by
              cases rm with
              | true => exact .inl rfl
              | false => exact .inr ⟨rfl, by simpa using hroom.symm⟩
            have HTK := Lib.hid htk
            have HTA := Lib.hid ((HT.out w7 g 0 cap c A bs H (s : Int) S7.out.ar (by omega) h2 HC.out HRT.out (by omega)).2 HSZ.out)
            obtain ⟨xo, xs, xu⟩ := x
            dsimp only at hx2 hx3 hx4 hx5 hx6
            subst hx2 hx3
            have HX1 := Lib.hid hx1
            have HX6 := Lib.hid hx6
            have d2 : decide ((xs : Int) < (s : Int)) = false := decide_eq_false (by omega)
            have d2' : decide (xs < s) = false := decide_eq_false (by omega)
            have d3 : decide ((s : Int) + 32 ≤ (xs : Int)) = false := decide_eq_false (by omega)
            have d3' : decide (s + 32 ≤ xs) = false := decide_eq_false (by omega)
            clear htk hroom hx1 hx6
            have hrr2 : ∃ rr : Bool, rr = true ∧ ((rm = true) ∨ (rm = false ∧ decide ((s : Int) ≤ (cap : Int) - (en : Int)) = true)) := ⟨true, rfl, hrr.imp id (fun h => ⟨h.1, decide_eq_true (by omega)⟩)⟩
            obtain ⟨_, _, hr3⟩ := hrr2
            clear hrr
            rcases hr3 with rfl | ⟨rfl, d1⟩
            all_goals
              go_wp2_with fail
              refine HTA.out.mono ?_
              intro e w8 hT
              rw [Int.toNat_natCast] at hT
              unfold TurnedAt at hT
              rw [HTK.out] at hT
              obtain ⟨rfl, out, hbe, rt2, _⟩ := hT
              have hbk8 : BkRd w8 B6 A7 L := by
                obtain ⟨_, _, _, ht8, _⟩ := hbe
                exact HBK7.out.tch hs7 ht8 HFAR.out
              have hs8 : B6 ≤ w8.heap.size := by
                obtain ⟨_, _, _, ht8, _⟩ := hbe
                exact Nat.le_trans hs7 ht8.size
              obtain ⟨A8, c8, hst8⟩ := S7.out.became hbe
              have S8 := Lib.hid hst8
              have HBK8 := Lib.hid hbk8
              have RT2 := Lib.hid rt2
              have hlo : out.length ≤ 16384 := Nat.le_trans rt2.len (by rw [take_cap, HC.out]; exact h2)
              have HLO := Lib.hid hlo
              clear hbe rt2 hst8 hbk8 HTA S7 HBK7 hlo
              dsimp only [errV]
              go_wp2_with fail
              refine (HCk.out w8 g 0 cap c8 A8 out true S8.out.ar (by omega) HLO.out RT2.out.chk).mono ?_
              rintro e w9 ⟨rfl, hb⟩
              have S9 := Lib.hid (S8.out.below hb)
              have HBK9 := Lib.hid (HBK8.out.below (hb.mono hs8))
              have hs9 := Nat.le_trans hs8 hb.size
              clear hb S8 HBK8
              dsimp only [errV]
              have hgx := (walkB_tiles RT2.out.walk).2.2 _ HX1.out
              dsimp only at hgx
              have hot := (tile_mem _ _ _ (walkB_tiles RT2.out.walk).2.1).2 _ HX1.out
              dsimp only at hot
              have hlo := HLO.out
              have hxo : xo + xs ≤ 16384 := by omega
              have HGE := Lib.hid (HGt.out w9 g 0 cap c8 A8 out (xo : Int) _ S9.out.ar (by omega) HLO.out (by omega) hgx)
              clear hgx hot hlo
              obtain ⟨B9, hB9⟩ : ∃ B9, w9.heap.size = B9 := ⟨_, rfl⟩
              go_wp2_with fail
              refine HGE.out.mono ?_
              rintro e wg ⟨rfl, hb⟩
              have S10 := S9.out.below hb
              have hbk10 := HBK9.out.below (hb.mono hs9)
              have hs10 := Nat.le_trans hs9 hb.size
              dsimp only [errV, bkV, Bk.val, Option.isSome]
              obtain ⟨wx, hwx⟩ : ∃ wx, wg.alloc (.cells #[.int .i64 (xo : Int), .int .i64 (xs : Int), .bool true] 43) = wx := ⟨_, rfl⟩
              obtain ⟨gx, hgx⟩ : ∃ gx, wg.heap.size = gx := ⟨_, rfl⟩
              have hbx : Below wg.heap.size wg wx := by rw [← hwx]; exact (Below.refl _ _).alloc (Nat.le_refl _) _
              have hnx : wx.heap[gx]? = some (.cells #[.int .i64 (xo : Int), .int .i64 (xs : Int), .bool true] 43 (0, 0)) := by rw [← hwx, ← hgx]; exact heap_alloc_new wg _
              have SX := Lib.hid (S10.below hbx)
              have HBX := Lib.hid (hbk10.below (hbx.mono hs10))
              have hsx := Nat.le_trans hs10 hbx.size
              have HNX := Lib.hid hnx
              obtain ⟨x0, x1, x2⟩ := (blk_cells hnx).1
              have HWX := Lib.hid hwx
              have HGX := Lib.hid hgx
              clear hb S10 hbk10 hwx hgx hbx hnx S9 HBK9 HGE hs10 hs9 hB9 hs8
              go_wp2_with (first | (rw [HWX.out, HGX.out]) | fail)
              clear x0 x1 x2 d2 d2' d3 d3'
              go_loopw [23] (fun i wr => ∃ j : Nat, i = .int .i64 (j : Int) ∧ j ≤ M ∧ Below wx.heap.size wx wr) (fun i _ => M - (intOf i).toNat)
              case atStart => exact ⟨0, rfl, Nat.zero_le _, Below.refl _ _⟩
              case round =>
                obtain ⟨j, rfl, hj, hbw⟩ := hrel
                by_cases hlt : j < M
                · obtain ⟨y, hy⟩ : ∃ y, L[j]? = some y := ⟨L[j]'(by rw [HM.out]; exact hlt), List.getElem?_eq_getElem _⟩
                  obtain ⟨b1, o1, rfl, hb16, hc1⟩ := (HBX.out.below (hbw.mono hsx)) (by rw [HM.out]; omega)
                  obtain ⟨p0, p1, p2⟩ := hc1 j y hy
                  have h6 := HX6.out y (List.mem_of_getElem? hy)
                  have hym := (tile_mem _ _ _ HTI.out).2 y (List.mem_of_getElem? hy)
                  have hlen := HLEN.out
                  have hy1 : y.off ≤ 16384 := by omega
                  have hy2 : y.size ≤ 16384 := by omega
                  have hji : (j : Int) < (M : Int) := by omega
                  have hnx : wr.heap[gx]? = some (.cells #[.int .i64 (xo : Int), .int .i64 (xs : Int), .bool true] 43 (0, 0)) := (hbw.block gx (heap_lt HNX.out)).trans HNX.out
                  obtain ⟨yo, ys, yu⟩ := y
                  dsimp only at p0 p1 p2 h6 hy1 hy2
                  obtain ⟨wy, hwy⟩ : ∃ wy, wr.alloc (.cells #[.int .i64 (yo : Int), .int .i64 (ys : Int), .bool yu] 43) = wy := ⟨_, rfl⟩
                  obtain ⟨gy, hgy⟩ : ∃ gy, wr.heap.size = gy := ⟨_, rfl⟩
                  have hby : Below wr.heap.size wr wy := by rw [← hwy]; exact (Below.refl _ _).alloc (Nat.le_refl _) _
                  have hny : wy.heap[gy]? = some (.cells #[.int .i64 (yo : Int), .int .i64 (ys : Int), .bool yu] 43 (0, 0)) := by rw [← hwy, ← hgy]; exact heap_alloc_new wr _
                  obtain ⟨y0, y1, y2⟩ := (blk_cells hny).1
                  obtain ⟨x0, x1, x2⟩ := (blk_cells ((hby.block gx (heap_lt hnx)).trans hnx)).1
                  have HBY := Lib.hid (hbw.trans (hby.mono hbw.size))
                  have HWY := Lib.hid hwy
                  have HGY := Lib.hid hgy
                  clear hc1 hy hym hlen hnx hwy hgy hby hny hbw
                  have hcs : yu = false ∨ (yu = true ∧ xo + xs ≤ yo) ∨ (yu = true ∧ yo < xo + xs ∧ yo + ys ≤ xo) := by
                    cases yu with
                    | false => exact .inl rfl
                    | true =>
                      rcases Nat.lt_or_ge yo (xo + xs) with h | h
                      · rcases h6 rfl with h' | h'
                        · exact .inr (.inr ⟨rfl, h, h'⟩)
                        · omega
                      · exact .inr (.inl ⟨rfl, h⟩)
                  clear h6
                  rcases hcs with rfl | ⟨rfl, h7⟩ | ⟨rfl, h7, h8⟩
                  · go_wp2_with (first | (rw [HWY.out, HGY.out]) | fail)
                    go_roundw
                    case rel => exact ⟨j + 1, by go_num, by omega, HBY.out⟩
                    case measure => simp only [intOf]; omega
                  · have d4 : decide ((yo : Int) < (xo : Int) + (xs : Int)) = false := decide_eq_false (by omega)
                    have d4' : decide (yo < xo + xs) = false := decide_eq_false (by omega)
                    clear h7
                    go_wp2_with (first | (rw [HWY.out, HGY.out]) | fail)
                    go_roundw
                    case rel => exact ⟨j + 1, by go_num, by omega, HBY.out⟩
                    case measure => simp only [intOf]; omega
                  · have d4 : decide ((yo : Int) < (xo : Int) + (xs : Int)) = true := decide_eq_true (by omega)
                    have d4' : decide (yo < xo + xs) = true := decide_eq_true (by omega)
                    have d5 : decide ((xo : Int) < (yo : Int) + (ys : Int)) = false := decide_eq_false (by omega)
                    have d5' : decide (xo < yo + ys) = false := decide_eq_false (by omega)
                    clear h7 h8
                    go_wp2_with (first | (rw [HWY.out, HGY.out]) | fail)
                    go_roundw
                    case rel => exact ⟨j + 1, by go_num, by omega, HBY.out⟩
                    case measure => simp only [intOf]; omega
                · have HE := Lib.hid (SX.out.below hbw).bel
                  clear hbw
                  go_wp2
                  go_ret
                  exact ⟨rfl, HE.out⟩

theorem arm_any (HT : TakeK) (HG : GiveK) (HR : TrimK) (HU : UsedK) (HWk : WalkC) (HGt : GetC) (HCk : CheckC) (w : World) (cap : Int) (hc : -9223372036854775808 ≤ cap ∧ cap ≤ 9223372036854775807) (A1 : Option Addr) (k1 : Nat) (l : List De) (hL : DeRd w w.heap.size A1 l) (nn : Int) :
    Calls Try.prog 4 #[.int .i64 cap, .slice A1 l.length k1, .int .i64 nn] w fun e w' => e = .returned (.bool true) ∧ Below w.heap.size w w' := by
  by_cases hbad : cap < 1024 ∨ 16384 < cap
  · exact arm_no HT HG w cap hc hbad A1 _ k1 nn
  · obtain ⟨k, rfl⟩ : ∃ k : Nat, cap = (k : Int) := ⟨cap.toNat, by omega⟩
    rcases Nat.lt_or_ge 100 l.length with hl | hl
    · exact arm_long HT HG w k (by omega) (by omega) A1 _ k1 hl nn
    · exact arm_main HT HG HR HU HWk HGt HCk w k (by omega) (by omega) A1 k1 l hL hl nn
end
end Go.Proofs.Ytlamhidaicikfaa

/- Slices of deeds of layer 12 that came in. -/
namespace Go.Proofs.Ytlamhidaicikfaa
open Go.RowKit Go.ChangeShapes Go.WideShapes Go.Deep

section
variable {H : Type} {enc : TypeId × Value → H} {w : World} {base : Nat} {held : Bool} {fuel : Nat} {A : Option Addr} {len cap : Nat} {x : DataW H × List MemPlace}
set_option maxRecDepth 100000 in
theorem open_des (h : DataW.trod enc Try.prog w base (fun _ => true) held fuel 23 [.slice A len cap] = some x) : ∃ l : List De, l.length = len ∧ DeRd w w.heap.size A l ∧ len ≤ maxLen := by
  have hC : Try.prog.cellsOf 33 = 4 := by kernel_rfl
  have hone : oneCellFields Try.prog (match Try.prog.underlying 33 with
    | some (.struct fs) => fs
    | _ => #[]) = true := by kernel_rfl
  rw [Try.underlying33] at hone
  dsimp only at hone
  rcases open_slice Try.underlying23 h with ⟨hcs, _⟩ | ⟨a, l, c, m, n, D, Pl, hcs, _, hl, hm, hmm, _, hi⟩
  · simp at hcs
    obtain ⟨rfl, rfl, rfl⟩ := hcs
    exact ⟨[], rfl, fun hn => absurd hn (by simp), Nat.zero_le _⟩
  · simp at hcs
    obtain ⟨rfl, rfl, rfl⟩ := hcs
    simp only [if_true] at hmm
    subst hmm
    rw [hC] at hi
    obtain ⟨ds, hd, hp⟩ := list_of (p := fun i (d : De) => w.cell? (a.add (i * 4)) = some (.int .i64 d.what) ∧ w.cell? (a.add (i * 4 + 1)) = some (.int .i64 d.n) ∧ w.cell? (a.add (i * 4 + 2)) = some (.int .i64 d.m) ∧ w.cell? (a.add (i * 4 + 3)) = some (.bool d.raw) ∧
        (-9223372036854775808 ≤ d.what ∧ d.what ≤ 9223372036854775807) ∧ (-9223372036854775808 ≤ d.n ∧ d.n ≤ 9223372036854775807) ∧ (-9223372036854775808 ≤ d.m ∧ d.m ≤ 9223372036854775807)) len (fun i hil => by
      obtain ⟨cs', hc, ht⟩ := hi i (by omega)
      obtain ⟨_, hcl, hat⟩ := World.cells?_some hc
      obtain ⟨xs, n', _, _, _, hlen, hf⟩ := DataW.trod_struct Try.underlying33 ht
      match cs', hcl, xs, hlen with
      | [v0, v1, v2, v3], _, [y0, y1, y2, y3], _ =>
        have g0 := hf 0 _ rfl
        have g1 := hf 1 _ rfl
        have g2 := hf 2 _ rfl
        have g3 := hf 3 _ rfl
        rw [(hone_of hone 0 _ rfl).1, (hone_of hone 0 _ rfl).2] at g0
        rw [(hone_of hone 1 _ rfl).1, (hone_of hone 1 _ rfl).2] at g1
        rw [(hone_of hone 2 _ rfl).1, (hone_of hone 2 _ rfl).2] at g2
        rw [(hone_of hone 3 _ rfl).1, (hone_of hone 3 _ rfl).2] at g3
        simp only [List.drop_zero, List.drop_succ_cons, List.take_succ_cons, List.take_zero, List.getElem?_cons_zero, List.getElem?_cons_succ] at g0 g1 g2 g3
        obtain ⟨n0, h0, _, w0⟩ := DataW.trod_int Try.underlying3 g0
        obtain ⟨n1, h1, _, w1⟩ := DataW.trod_int Try.underlying3 g1
        obtain ⟨n2, h2, _, w2⟩ := DataW.trod_int Try.underlying3 g2
        obtain ⟨u, h3, _⟩ := DataW.trod_bool Try.underlying4 g3
        simp at h0 h1 h2 h3
        subst h0 h1 h2 h3
        have b0 := bounds_i64 w0
        have b1 := bounds_i64 w1
        have b2 := bounds_i64 w2
        have a0 := hat 0 (by omega)
        have a1 := hat 1 (by omega)
        have a2 := hat 2 (by omega)
        have a3 := hat 3 (by omega)
        rw [Go.Deep.add_add] at a0 a1 a2 a3
        exact ⟨⟨n0, n1, n2, u⟩, a0, a1, a2, a3, by dsimp only; omega, by dsimp only; omega, by dsimp only; omega⟩)
    refine ⟨ds, hd, fun hn => ?_, by omega⟩
    obtain ⟨d, hd0⟩ : ∃ d, ds[0]? = some d := ⟨ds[0], List.getElem?_eq_getElem hn⟩
    obtain ⟨h0, _⟩ := hp 0 d hd0
    rw [Nat.zero_mul] at h0
    obtain ⟨b, o, rfl, hlt, e⟩ := add_plain h0
    refine ⟨b, o, rfl, hlt, fun j d hj => ?_⟩
    obtain ⟨h0, h1, h2, h3, h4⟩ := hp j d hj
    rw [e] at h0 h1 h2 h3
    exact ⟨h0, h1, h2, h3, h4⟩
end
end Go.Proofs.Ytlamhidaicikfaa
