/- Texts of mine, joined: Law12e, Law12f, OpenD, Hm11, Spec13, Law13a, Law13b. -/
import Derived.Test.YtdjjbmefaggelaaGreatM8

/- The walk of AllocPlays: the head, the beginning of an arena and a heap, the deeds. -/
namespace Go.Proofs.YtdjjbmefaggelaaGreat
open Go.RowKit

/-- A deed of layer 12. -/
structure De where
  what : Int
  n : Int
  m : Int
  raw : Bool
/-- A slice of such. -/
def DeRd (w : World) (B : Nat) (A : Option Addr) (l : List De) : Prop := 0 < l.length → ∃ b o, A = some ⟨b, o, none⟩ ∧ b < B ∧ ∀ j x, l[j]? = some x →
  w.cell? ⟨b, o + j * 4, none⟩ = some (.int .i64 x.what) ∧ w.cell? ⟨b, o + j * 4 + 1, none⟩ = some (.int .i64 x.n) ∧ w.cell? ⟨b, o + j * 4 + 2, none⟩ = some (.int .i64 x.m) ∧ w.cell? ⟨b, o + j * 4 + 3, none⟩ = some (.bool x.raw) ∧
  (-9223372036854775808 ≤ x.what ∧ x.what ≤ 9223372036854775807) ∧ (-9223372036854775808 ≤ x.n ∧ x.n ≤ 9223372036854775807) ∧ (-9223372036854775808 ≤ x.m ∧ x.m ≤ 9223372036854775807)
theorem DeRd.below {w w' : World} {B : Nat} {A : Option Addr} {l : List De} (h : DeRd w B A l) (hb : Below B w w') : DeRd w' B A l := fun hn => by
  obtain ⟨b, o, e, hB, hc⟩ := h hn
  refine ⟨b, o, e, hB, fun j x hx => ?_⟩
  obtain ⟨h0, h1, h2, h3, h4⟩ := hc j x hx
  exact ⟨(hb.cell (p := ⟨b, _, none⟩) hB).trans h0, (hb.cell (p := ⟨b, _, none⟩) hB).trans h1, (hb.cell (p := ⟨b, _, none⟩) hB).trans h2, (hb.cell (p := ⟨b, _, none⟩) hB).trans h3, h4⟩

/-- Bytes of 0 are a heap without blocks. -/
theorem rt_zero {z : List UInt8} (hz : List.replicate 184 (0 : UInt8) = z) (cap : Nat) (hc : 184 ≤ cap) : Rt z ⟨cap, [], [], fun _ => []⟩ := by
  have hl : z.length = 184 := by rw [← hz]; exact List.length_replicate
  have hw0 : ∀ p, p + 8 ≤ 184 → p % 8 = 0 → wordN z p = 0 := fun p hp _ => by
    have := wordN_zeros [] 184 p hp
    rw [List.append_nil, hz] at this
    exact this
  have hwk : walkB z = some [] := walkB_tile (by rw [hl]; rfl) (fun x hx => by cases hx)
  have hli : Lists z [] (fun _ => []) := lists_none (by omega) (by omega) ⟨fun x hx => (by cases hx), fun x hx => (by cases hx)⟩ hw0
  refine ⟨hwk, fun c hc => hli.all hc (Nat.zero_le _), ?_, by show z.length ≤ cap; omega⟩
  have e : freeL [] = fun _ => [] := rfl
  rw [checkB_lists hwk (by rw [e]; exact hli) (by rw [hw0 0 (by omega) rfl]; omega)]
  rfl

section
variable {P : Program} {ops : Array Oper} {Q : Exit → Act → World → Prop} {T : List Nat}
/-- A call that changes nothing, and an operation that yields a value: either may be first. -/
theorem pair_any {X : PT} {a : Act} {w w1 : World} {B : Nat} {i1 i2 : Nat} {d1 d2 : Tmp} {o2 : Oper} {f : FuncId} {args : Array Operand} {tys : Array TypeId} {ty : TypeId} {pos : String} {after : Array Edge} {v1 v2 : Value} {vs : Array Value}
    (hf : ∀ (xs : Array Value) (w : World), (callFunc f xs).run P w = .ok (.enter f xs) w)
    (ho1 : ops[i1]? = some { dst := some d1, op := .call { callee := .value (.func f), args := args, argTypes := tys }, type := ty, pos := pos, after := after, guard := none })
    (ho2 : ops[i2]? = some o2) (hd2 : o2.dst = some d2) (hg2 : ∀ y, Region.wanted o2 y = true) (hne : d1 ≠ d2)
    (hv : args.toList.map a.eval = vs.toList) (hv2 : args.toList.map (a.put (some d2) v2).eval = vs.toList)
    (hc : ∀ W : World, Calls P f vs W (fun e w' => e = .returned v1 ∧ W = w'))
    (hr : ∀ b : Act, (execOp b.eval o2).run P w = .ok (.value v2) w1) (hB : B ≤ w.heap.size) (hb : Below w.heap.size w w1)
    (hK : X.wp P ops Q T B ((a.put (some d1) v1).put (some d2) v2) w1) :
    wpOp P ops Q i1 (fun a'' w'' => Below B w w'' ∧ ∃ B', B ≤ B' ∧ (PT.one [] i2 X).wp P ops Q T B' a'' w'') a w ∧
    wpOp P ops Q i2 (fun a'' w'' => Below B w w'' ∧ ∃ B', B ≤ B' ∧ (PT.one [] i1 X).wp P ops Q T B' a'' w'') a w := by
  refine ⟨?_, ?_⟩
  · refine tail_call hf ho1 rfl hv (R := fun r w' => r = v1 ∧ w' = w) ((hc w).mono ?_) B (Nat.le_refl _) ?_
    · rintro e w' ⟨rfl, rfl⟩
      exact ⟨_, rfl, Below.refl _ _, rfl, rfl⟩
    · rintro v w' _ ⟨rfl, rfl⟩
      refine plan_one (l := []) rfl (wpQuiet_nil ?_)
      exact tail_val2 (some d2) ho2 hd2 (hg2 _) (hr _) (hb.mono hB) ⟨B, Nat.le_refl _, hK⟩
  · refine tail_val2 (some d2) ho2 hd2 (hg2 _) (hr _) (hb.mono hB) ⟨B, Nat.le_refl _, ?_⟩
    refine plan_one (l := []) rfl (wpQuiet_nil ?_)
    refine tail_call hf ho1 rfl hv2 (R := fun r w' => r = v1 ∧ w' = w1) ((hc w1).mono ?_) B (Nat.le_refl _) ?_
    · rintro e w' ⟨rfl, rfl⟩
      exact ⟨_, rfl, Below.refl _ _, rfl, rfl⟩
    · rintro v w' _ ⟨rfl, rfl⟩
      rw [put_swap _ d2 d1 _ _ (fun h => hne h.symm)]
      exact hK
end

def hpZero (cap : Nat) : Hp := ⟨cap, [], [], fun _ => []⟩
end Go.Proofs.YtdjjbmefaggelaaGreat

/- The walk of AllocPlays. -/
namespace Go.Proofs.YtdjjbmefaggelaaGreat
open Go.RowKit

section
theorem St.lift {w wB W : World} {g base cap c : Nat} {A : Option Addr} {bs : List UInt8} {L : List (Nat × Obj)} (h : St wB W g base cap A c bs L) (hb : Below w.heap.size w wB) : St w W g base cap A c bs L :=
  ⟨hb.trans (h.bel.mono hb.size), h.ar, Nat.le_trans hb.size h.gB, fun a e => Nat.le_trans hb.size (h.aB a e), h.has⟩
set_option maxHeartbeats 400000 in
theorem larena_no (w : World) (base : Nat) (hb : base < 18446744073709551616) (cap : Int) (hc : -9223372036854775808 ≤ cap ∧ cap ≤ 9223372036854775807) (h : cap < 1024 ∨ 16384 < cap) (B : Option Addr) (n k : Nat) :
    Calls Tryz.prog 6 #[.int .u64 (base : Int), .int .i64 cap, .slice B n k] w fun e w' => e = .returned (.pointer none) ∧ w = w' := by
  have HN := Lib.hid (new_no w base cap hb hc (.inr (.inr h)))
  clear h
  go_enter Tryz.func6, Tryz.ntmps6
  go_wp2_with fail
  refine HN.out.mono ?_
  rintro e w1 ⟨rfl, rfl⟩
  go_wp2
  go_ret
  exact ⟨rfl, rfl⟩
/-- A heap without blocks beside an arena of 0. -/
theorem base_facts (nb : Nat) : ∃ base, nb % 288230376151711744 * 16 = base ∧ base % 16 = 0 ∧ base ≤ 4611686018427387904 := ⟨_, rfl, by omega, by omega⟩

end
end Go.Proofs.YtdjjbmefaggelaaGreat

/- Slices of deeds of layer 12 that came in. -/
namespace Go.Proofs.YtdjjbmefaggelaaGreat
open Go.RowKit Go.ChangeShapes Go.WideShapes Go.Deep

section
variable {H : Type} {enc : TypeId × Value → H} {w : World} {base : Nat} {held : Bool} {fuel : Nat} {A : Option Addr} {len cap : Nat} {x : DataW H × List MemPlace}
end
end Go.Proofs.YtdjjbmefaggelaaGreat

/- The contract of the document's heap: Resize. -/
namespace Go.Proofs.YtdjjbmefaggelaaGreat
open Go.RowKit

theorem tail_out {P : Program} {ops : Array Oper} {Q : Exit → Act → World → Prop} {i B : Nat} {o : Oper} {a : Act} {w : World} {K : Act → World → Prop} (ho : ops[i]? = some o) (d : Option Tmp) (hd : o.dst = d) (hw : Region.wanted o (yielded ops a.tmps) = false) (hk : K (a.put d undef) w) : wpOp P ops Q i (fun a'' w'' => Below B w w'' ∧ K a'' w'') a w := by
  unfold wpOp
  simp only [ho]
  rw [if_neg (by simp [hw])]
  subst hd
  exact ⟨Below.refl _ _, hk⟩
theorem take_none_eq {H : Hp} {s : Nat} (h : (H.take s).1 = none) : (H.take s).2 = H := by
  unfold Hp.take at h ⊢
  split
  · rename_i hf; rw [hf] at h; cases h
  · rename_i hf
    rw [hf] at h
    dsimp only at h ⊢
    split
    · rfl
    · rename_i hr
      rw [if_neg hr] at h
      split at h <;> cases h
def Rez (F : Nat → Prop) (w : World) (p : Nat) (r : (Nat × Int) × Hp) (e : Ending) (w' : World) : Prop := e = .returned (.tuple #[.int .i64 (r.1.1 : Int), .int .i64 r.1.2]) ∧ HT F w p r.2 w'
section
variable {F : Nat → Prop} {w w' : World} {p gl : Nat} {H : Hp} {Vb Vd : Value} {cs : List Value}

set_option maxHeartbeats 2000000 in
theorem hrez_u (h : Hm F w p H Vb Vd gl cs) (hok : H.Ok) (N : Nat) (_hf : H.Few N) (_hN : N ≤ 40000) (s : Nat) (_hs : isSz (s : Int) = true) (o : Int) (ho : -9223372036854775808 ≤ o ∧ o ≤ 9223372036854775807) (hu : usedB H.blks o = none) :
    Calls Tryz.prog 14 #[.pointer (some ⟨p, 0, none⟩), .int .i64 o, .int .i64 (s : Int)] w fun e w' => Rez F w p (H.resize o s) e w' := by
  have e : H.resize o s = ((0, 3), H) := by unfold Hp.resize; rw [hu]
  have hn512 := hok.n
  have HU := Lib.hid (husd_any h (by omega) o ho _ hu)
  have HE := Lib.hid e
  have HT0 : Hid (HT F w p H w) := HT.refl ⟨_, _, _, _, h⟩
  clear h hok hu e
  go_enter Tryz.func14, Tryz.ntmps14
  go_wp2_with fail
  refine HU.out.mono ?_
  rintro e w2 ⟨rfl, rfl⟩
  go_wp2
  go_ret2
  refine ⟨?_, ?_⟩
  · rw [HE.out]; rfl
  · rw [HE.out]; exact HT0.out

set_option maxHeartbeats 2000000 in
theorem hrez_c (h : Hm F w p H Vb Vd gl cs) (hok : H.Ok) (N : Nat) (hf : H.Few N) (hN : N ≤ 40000) (s : Nat) (hs : isSz (s : Int) = true) (o : Int) (ho : -9223372036854775808 ≤ o ∧ o ≤ 9223372036854775807) (i : Nat) (hu : usedB H.blks o = some i) (hle : s ≤ (bkAt H.blks i).size) :
    Calls Tryz.prog 14 #[.pointer (some ⟨p, 0, none⟩), .int .i64 o, .int .i64 (s : Int)] w fun e w' => Rez F w p (H.resize o s) e w' := by
  have e : H.resize o s = (((bkAt H.blks i).off, 0), H.cut i s) := by unfold Hp.resize; rw [hu]; dsimp only; rw [if_pos hle]
  have hn512 := hok.n
  obtain ⟨hi, hoff, _⟩ := usedB_at hu
  have HU := Lib.hid (husd_any h (by omega) o ho _ hu)
  have HC := Lib.hid (hcut_any h hok N hf (by omega) i hi s hs)
  have HE := Lib.hid e
  obtain ⟨b1, c1, rfl, _, hnc, _⟩ := own_nn h.ob (by omega)
  have q1 := h.c1
  have d1 := (h.at_n rfl hi).2.1
  obtain ⟨n, hn⟩ : ∃ n, H.blks.length = n := ⟨_, rfl⟩
  rw [hn] at q1 hi hnc hn512
  obtain ⟨xs, hxs⟩ : ∃ xs, (bkAt H.blks i).size = xs := ⟨_, rfl⟩
  rw [hxs] at d1 hle
  have hin : (i : Int) < (n : Int) := by omega
  have hi2 : i ≤ 512 := by omega
  have hle2 : (s : Int) ≤ (xs : Int) := by omega
  have HOFF := Lib.hid hoff
  clear h hok hf hu e hn hxs hoff hs
  go_enter Tryz.func14, Tryz.ntmps14
  go_wp2_with fail
  refine HU.out.mono ?_
  rintro e w2 ⟨rfl, rfl⟩
  dsimp only [ixV]
  go_wp2_with fail
  refine HC.out.mono ?_
  rintro e w3 ⟨rfl, ht⟩
  have HTO := Lib.hid ht
  clear ht HC HU q1 d1
  go_wp2
  go_ret2
  refine ⟨?_, ?_⟩
  · rw [HE.out, ← HOFF.out]; rfl
  · rw [HE.out]; exact HTO.out

set_option maxRecDepth 100000 in
set_option maxHeartbeats 4000000 in
theorem hrez_YB (h : Hm F w p H Vb Vd gl cs) (hok : H.Ok) (N : Nat) (hf : H.Few N) (hN : N ≤ 40000) (s : Nat) (hs : isSz (s : Int) = true) (_hcap : H.cap ≤ 100000) (o : Int) (ho : -9223372036854775808 ≤ o ∧ o ≤ 9223372036854775807) (i : Nat) (hu : usedB H.blks o = some i) (hlt : (bkAt H.blks i).size < s) (hE : i + 1 < H.blks.length) (hU : (bkAt H.blks (i + 1)).used = false) (hb : s ≤ bothN H.blks i) :
    Calls Tryz.prog 14 #[.pointer (some ⟨p, 0, none⟩), .int .i64 o, .int .i64 (s : Int)] w fun e w' => Rez F w p (H.resize o s) e w' := by
  have hn512 := hok.n
  obtain ⟨hi, hoff, _⟩ := usedB_at hu
  have hnx : nextF H.blks i = true := by unfold nextF; rw [hU, decide_eq_true hE]; rfl
  have hbN := both_yes hnx
  have e : H.resize o s = (((bkAt H.blks i).off, 0), (H.widen i).cut i s) := by unfold Hp.resize; rw [hu]; dsimp only; rw [if_neg (by omega), if_pos hb]
  have hss := (isSz_iff _).1 hs
  have hle := hok.le
  obtain ⟨_, hszi, htl⟩ := hok.at_ hi
  have htl1 := (tile_mem _ _ _ htl).1
  have hsz := (isSz_iff _).1 hszi
  have HU := Lib.hid (husd_any h (by omega) o ho _ hu)
  have HLEN := Lib.hid (fun (W : World) (hW : Below w.heap.size w W) => hlen_any (h.below hW) (by omega) (by omega))
  have h2s := (hok.two hE).2
  obtain ⟨k, hk0⟩ : ∃ k, i + 1 = k := ⟨_, rfl⟩
  have HOUT := Lib.hid (fun (W : World) (hW : Below w.heap.size w W) => hout_any (h.below hW) k (by rw [← hk0]; exact hE) (hok.sz (by rw [← hk0]; exact hE)) (fun d hd => Nat.le_trans (hf d hd) (by omega)))
  have hs2 := (isSz_iff _).1 (hok.sz hE)
  have HE := Lib.hid e
  obtain ⟨wd, hwd⟩ : ∃ wd, w.drew = wd := ⟨_, rfl⟩
  have hbd : Below w.heap.size w wd := by rw [← hwd]; exact (Below.refl _ _).drew
  have hd := h.below hbd
  obtain ⟨b1, c1, rfl, _, hnc, _⟩ := own_nn h.ob (by omega)
  have q1 := h.c1
  have r0 := hd.c0
  have hpd := hd.lt
  have d1 := (h.at_n rfl hi).2.1
  have d2 := h.at_n rfl hE
  rw [hU] at d2
  obtain ⟨_, d3, d4⟩ := d2
  have HH := Lib.hid h
  have HD := Lib.hid hd
  have HBD := Lib.hid hbd
  have HWD := Lib.hid hwd
  have HOK := Lib.hid hok
  have HF := Lib.hid hf
  have HS := Lib.hid hs
  have HI := Lib.hid hi
  obtain ⟨xo, hxo⟩ : ∃ xo, (bkAt H.blks i).off = xo := ⟨_, rfl⟩
  obtain ⟨xs, hxs⟩ : ∃ xs, (bkAt H.blks i).size = xs := ⟨_, rfl⟩
  rw [hxo] at htl1 hoff 
  rw [hxs] at d1 hlt hsz htl1 hbN h2s
  subst hoff
  obtain ⟨x2, hx2⟩ : ∃ x2, (bkAt H.blks (i + 1)).size = x2 := ⟨_, rfl⟩
  rw [hx2] at d3 hbN h2s hs2
  obtain ⟨bo, hbo⟩ : ∃ bo, bothN H.blks i = bo := ⟨_, rfl⟩
  rw [hbo] at hbN hb 
  obtain ⟨ll, hll⟩ : ∃ ll, lenB H.blks = ll := ⟨_, rfl⟩
  rw [hll] at htl1 hle HLEN 
  obtain ⟨cap, hcp⟩ : ∃ cap, H.cap = cap := ⟨_, rfl⟩
  rw [hcp] at r0  
  obtain ⟨n, hn⟩ : ∃ n, H.blks.length = n := ⟨_, rfl⟩
  rw [hn] at q1 hi hnc hn512 hE
  have hin : (i : Int) < (n : Int) := by omega
  have hi2 : i ≤ 512 := by omega
  have hlt2 : (xs : Int) < (s : Int) := by omega
  have hie : (i : Int) + 1 < (n : Int) := by omega
  have hk : (i : Int) + 1 = (k : Int) := by omega
  have HK : Hid (k = i + 1) := (show _ = _ by omega)
  rw [← HK.out] at d4 d3
  have hkn : (k : Int) < (n : Int) := by omega
  have hsb : (xs : Int) + (x2 : Int) = (bo : Int) := by omega
  obtain ⟨ob, hob⟩ : ∃ ob : Nat, (xo : Int) + (bo : Int) = (ob : Int) := ⟨xo + bo, by omega⟩
  have g1 : decide ((s : Int) ≤ (bo : Int)) = true := decide_eq_true (by omega)
  have g1' : decide (s ≤ bo) = true := decide_eq_true (by omega)
  have hsb2 : (s : Int) ≤ (bo : Int) := by omega
  have hx0 : 0 < (x2 : Int) := by omega
  have z1 : xo ≤ 16384 := by omega
  have z2 : xs ≤ 16384 := by omega
  have z3 : ll ≤ 16384 := by omega
  have z4 : s ≤ 16384 := by omega
  have z5 : bo ≤ 32768 := by omega
  have z6 : x2 ≤ 16384 := by omega
  have z9 : ob ≤ 65536 := by omega
  have HN := Lib.hid hn
  have HBO := Lib.hid hbo
  have HXO := Lib.hid hxo
  have HXS := Lib.hid hxs
  have HNX := Lib.hid hnx
  have HX2 := Lib.hid hx2
  have HCP : Hid (H.cap = cap) := hcp
  clear h hok hf hu e hn hxo hs hd hbd hwd hbo hll hcp hnx hbN htl1 hle hss hsz htl hszi hlt hb hxs hi hE hx2 hU h2s hs2 hk0
  go_enter Tryz.func14, Tryz.ntmps14
  go_wp2_with fail
  refine HU.out.mono ?_
  rintro e w2 ⟨rfl, rfl⟩
  clear HU
  dsimp only [ixV]
  go_wp2_with fail
  refine (HLEN.out _ (Below.refl _ _)).mono ?_
  rintro e w2 ⟨rfl, rfl⟩
  go_wp2_with fail
  refine wp_region_tail wd.heap.size [([0, 1, 2, 3, 4, 5, 6, 8, 10, 12, 13, 14, 15], 7)] [9, 11, 16, 17, 18] [] (by kernel_rfl) (by kernel_rfl) (by kernel_rfl) (fun _ _ _ _ _ h => h) ?_
  rw [HWD.out]
  refine tail_cons (l := ?segAYB) ?hsegAYB ?_
  case hsegAYB => simp only [pick, List.getElem?_toArray, List.getElem?_cons_succ, List.getElem?_cons_zero]; rfl
  repeat (go_big_quiet_step (fail))
  refine wpQuiet_nil ?_
  refine tail_out rfl (some 84) rfl rfl ⟨wd.heap.size, Nat.le_refl _, ?_⟩
  refine tail_last (l := ?laBYB) (t := []) ?hlaBYB ?htlBYB ?_
  case hlaBYB => simp only [pick, List.getElem?_toArray, List.getElem?_cons_succ, List.getElem?_cons_zero]; rfl
  case htlBYB => rfl
  simp only [Act.put, List.setIfInBounds_toArray, List.set_cons_zero, List.set_cons_succ]
  repeat (go_big_quiet_step (fail))
  refine wpQuiet_nil ?_
  have ZD := Lib.hid ((Hz.start HH.out).below HBD.out)
  go_wp2_with fail
  refine (HOUT.out wd HBD.out).mono ?_
  rintro e w3 ⟨rfl, ht⟩
  obtain ⟨F3, Vb3, Vd3, gl3, cs3, z3⟩ := ZD.out.step ht
  have Z3 := Lib.hid z3
  have e3 : (H.out k).blks.length = n := HN.out
  clear z3 ht HOUT ZD HD HH
  go_wp2_with fail
  refine (hdrop_any Z3.out.hm k (by rw [e3]; omega) (by rw [e3]; omega) HOK.out.dl).mono ?_
  rintro e w4 ⟨rfl, ht⟩
  obtain ⟨F4, Vb4, Vd4, gl4, cs4, z4⟩ := Z3.out.step ht
  have hsw : (H.out k).drop k = H.swallow i := by rw [HK.out]; exact (swallow_yes HNX.out).symm
  rw [hsw] at z4
  clear ht Z3 e3 hsw
  have hwo := HOK.out.widen HI.out
  have lw : (H.swallow i).blks.length = (H.widen i).blks.length := by unfold Hp.widen; exact (List.length_set ..).symm
  obtain ⟨m, hm⟩ : ∃ m, (H.widen i).blks.length = m := ⟨_, rfl⟩
  have him : i < m := by rw [← hm]; exact hwo.2.1
  rw [hm] at lw
  obtain ⟨b4, c4, hV4, _, hnc4, _⟩ := own_nn z4.hm.ob (by omega)
  subst hV4
  rw [lw] at hnc4
  have k1 := z4.hm.c1
  rw [lw] at k1
  have f1 := own_thaw z4.hm.ob (i * 3 + 1)
  obtain ⟨_, k2⟩ : ∃ u, w4.cell? ⟨b4, i * 3 + 1, none⟩ = some u := by
    have hz := z4.hm
    rw [lw] at hz
    exact ⟨_, (hz.at_n lw him).2.1⟩
  have z5 := z4.set (a := ⟨b4, i * 3 + 1, none⟩) (u := .int .i64 (bo : Int)) (z4.hm.fb b4 rfl) (z4.hm.sizeM rfl (by rw [lw]; exact him) bo)
  obtain ⟨w5, hw5⟩ : ∃ w5, w4.setCell ⟨b4, i * 3 + 1, none⟩ (.int .i64 (bo : Int)) = w5 := ⟨_, rfl⟩
  rw [hw5] at z5
  have hwd2 : (H.swallow i).size i bo = H.widen i := by unfold Hp.widen; rw [HBO.out]
  rw [hwd2] at z5
  have HW5 := Lib.hid hw5
  have Z5 := Lib.hid z5
  have hmi : (i : Int) < (m : Int) := by omega
  have HC := Lib.hid (hcut_any z5.hm hwo.1 N HF.out.widen (by omega) i (by rw [hm]; exact him) s HS.out)
  clear z4 z5 hw5 hwd2 hwo hm HBO
  go_wp2_with (first | (rw [HW5.out]) | fail)
  refine HC.out.mono ?_
  rintro e w6 ⟨rfl, ht⟩
  have hto : Rez F w p (H.resize (xo : Int) s) (.returned (.tuple #[.int .i64 (xo : Int), .int .i64 0])) w6 := by
    rw [HE.out]
    exact ⟨by rw [HXO.out], Z5.out.last ht⟩
  have HTO := Lib.hid hto
  clear hto ht HC Z5
  go_wp2
  go_ret2
  exact HTO.out

set_option maxRecDepth 100000 in
set_option maxHeartbeats 4000000 in
theorem hrez_EF (h : Hm F w p H Vb Vd gl cs) (hok : H.Ok) (N : Nat) (hf : H.Few N) (_hN : N ≤ 40000) (s : Nat) (hs : isSz (s : Int) = true) (_hcap : H.cap ≤ 100000) (o : Int) (ho : -9223372036854775808 ≤ o ∧ o ≤ 9223372036854775807) (i : Nat) (hu : usedB H.blks o = some i) (hlt : (bkAt H.blks i).size < s) (hE : H.blks.length ≤ i + 1) (hb : bothN H.blks i < s) (he : (bkAt H.blks i).off + bothN H.blks i = lenB H.blks) (hfit : lenB H.blks + s - bothN H.blks i ≤ H.cap) :
    Calls Tryz.prog 14 #[.pointer (some ⟨p, 0, none⟩), .int .i64 o, .int .i64 (s : Int)] w fun e w' => Rez F w p (H.resize o s) e w' := by
  have hn512 := hok.n
  obtain ⟨hi, hoff, _⟩ := usedB_at hu
  have hnx : nextF H.blks i = false := by unfold nextF; rw [decide_eq_false (by omega)]; rfl
  have hbN := both_no hnx
  have hg : growsB H i s = true := by unfold growsB; rw [decide_eq_true he, decide_eq_true hfit]; rfl
  have e : H.resize o s = (((bkAt H.blks i).off, 0), (H.widen i).size i s) := by unfold Hp.resize; rw [hu]; dsimp only; rw [if_neg (by omega), if_neg (by omega), if_pos hg]
  have hss := (isSz_iff _).1 hs
  have hle := hok.le
  obtain ⟨_, hszi, htl⟩ := hok.at_ hi
  have htl1 := (tile_mem _ _ _ htl).1
  have hsz := (isSz_iff _).1 hszi
  have HU := Lib.hid (husd_any h (by omega) o ho _ hu)
  have HLEN := Lib.hid (fun (W : World) (hW : Below w.heap.size w W) => hlen_any (h.below hW) (by omega) (by omega))
  have HE := Lib.hid e
  obtain ⟨wd, hwd⟩ : ∃ wd, w.drew = wd := ⟨_, rfl⟩
  have hbd : Below w.heap.size w wd := by rw [← hwd]; exact (Below.refl _ _).drew
  have hd := h.below hbd
  obtain ⟨b1, c1, rfl, _, hnc, _⟩ := own_nn h.ob (by omega)
  have q1 := h.c1
  have r0 := hd.c0
  have hpd := hd.lt
  have d1 := (h.at_n rfl hi).2.1
  have HH := Lib.hid h
  have HD := Lib.hid hd
  have HBD := Lib.hid hbd
  have HWD := Lib.hid hwd
  have HOK := Lib.hid hok
  have HF := Lib.hid hf
  have HS := Lib.hid hs
  have HI := Lib.hid hi
  obtain ⟨xo, hxo⟩ : ∃ xo, (bkAt H.blks i).off = xo := ⟨_, rfl⟩
  obtain ⟨xs, hxs⟩ : ∃ xs, (bkAt H.blks i).size = xs := ⟨_, rfl⟩
  rw [hxo] at htl1 hoff he
  rw [hxs] at d1 hlt hsz htl1 hbN
  subst hoff
  obtain ⟨bo, hbo⟩ : ∃ bo, bothN H.blks i = bo := ⟨_, rfl⟩
  rw [hbo] at hbN hb he hfit
  obtain ⟨ll, hll⟩ : ∃ ll, lenB H.blks = ll := ⟨_, rfl⟩
  rw [hll] at htl1 hle HLEN he hfit
  obtain ⟨cap, hcp⟩ : ∃ cap, H.cap = cap := ⟨_, rfl⟩
  rw [hcp] at r0  hfit
  obtain ⟨n, hn⟩ : ∃ n, H.blks.length = n := ⟨_, rfl⟩
  rw [hn] at q1 hi hnc hn512 hE
  have hin : (i : Int) < (n : Int) := by omega
  have hi2 : i ≤ 512 := by omega
  have hlt2 : (xs : Int) < (s : Int) := by omega
  have hie : (n : Int) ≤ (i : Int) + 1 := by omega
  have hbb : bo = xs := hbN
  have hbb2 : xs = bo := hbb.symm
  subst hbb2
  have hend : (xo : Int) + (xs : Int) = (ll : Int) := by omega
  have g1 : decide ((s : Int) ≤ (xs : Int)) = false := decide_eq_false (by omega)
  have g1' : decide (s ≤ xs) = false := decide_eq_false (by omega)
  have hsb2 : (xs : Int) < (s : Int) := by omega
  obtain ⟨ls, hls⟩ : ∃ ls : Nat, (ll : Int) + (s : Int) = (ls : Int) := ⟨ll + s, by omega⟩
  obtain ⟨lb, hlb⟩ : ∃ lb : Nat, (ls : Int) - (xs : Int) = (lb : Int) := ⟨ll + s - xs, by omega⟩
  have g2 : decide ((lb : Int) ≤ (cap : Int)) = true := decide_eq_true (by omega)
  have g2' : decide (lb ≤ cap) = true := decide_eq_true (by omega)
  have z1 : xo ≤ 16384 := by omega
  have z2 : xs ≤ 16384 := by omega
  have z3 : ll ≤ 16384 := by omega
  have z4 : s ≤ 16384 := by omega
  have z7 : ls ≤ 32768 := by omega
  have z8 : lb ≤ 32768 := by omega
  have HN := Lib.hid hn
  have HBO := Lib.hid hbo
  have HXO := Lib.hid hxo
  have HXS := Lib.hid hxs
  have HNX := Lib.hid hnx
  have HCP : Hid (H.cap = cap) := hcp
  clear h hok hf hu e hn hxo hs hd hbd hwd hbo hll hcp hnx hbN htl1 hle hss hsz htl hszi hlt hb hxs hi hE he hfit hg
  go_enter Tryz.func14, Tryz.ntmps14
  go_wp2_with fail
  refine HU.out.mono ?_
  rintro e w2 ⟨rfl, rfl⟩
  clear HU
  dsimp only [ixV]
  go_wp2_with fail
  refine (HLEN.out _ (Below.refl _ _)).mono ?_
  rintro e w2 ⟨rfl, rfl⟩
  go_wp2_with fail
  refine wp_region_tail wd.heap.size [([0, 1, 2, 3, 4, 5, 6, 8, 10, 12, 13, 14, 15], 7)] [9, 11, 16, 17, 18] [] (by kernel_rfl) (by kernel_rfl) (by kernel_rfl) (fun _ _ _ _ _ h => h) ?_
  rw [HWD.out]
  have t1 : ∀ z : LaterB wd.heap.size wd, z.val.cell? ⟨p, 0, none⟩ = some (.int .i64 (cap : Int)) := fun z => (z.ext.cell (p := ⟨p, 0, none⟩) hpd).trans r0
  refine tail_cons (l := ?segAEF) ?hsegAEF ?_
  case hsegAEF => simp only [pick, List.getElem?_toArray, List.getElem?_cons_succ, List.getElem?_cons_zero]; rfl
  repeat (go_big_quiet_step (fail))
  refine wpQuiet_nil ?_
  clear t1
  refine tail_call (vs := #[.pointer (some ⟨p, 0, none⟩)]) Tryz.call38 rfl rfl rfl (R := fun r w' => r = .int .i64 (ll : Int) ∧ w' = wd) ((HLEN.out wd HBD.out).mono ?_) wd.heap.size (Nat.le_refl _) ?_
  · rintro e w' ⟨rfl, rfl⟩
    exact ⟨_, rfl, Below.refl _ _, rfl, rfl⟩
  rintro r w11 _ ⟨rfl, hw11⟩
  have hw11' := hw11.symm
  subst hw11'
  refine tail_last (l := ?laBEF) (t := []) ?hlaBEF ?htlBEF ?_
  case hlaBEF => simp only [pick, List.getElem?_toArray, List.getElem?_cons_succ, List.getElem?_cons_zero]; rfl
  case htlBEF => rfl
  simp only [Act.put, List.setIfInBounds_toArray, List.set_cons_zero, List.set_cons_succ]
  repeat (go_big_quiet_step (fail))
  refine wpQuiet_nil ?_
  have ZD := Lib.hid ((Hz.start HH.out).below HBD.out)
  have z4 := ZD.out
  have hsw : H = H.swallow i := (swallow_no HNX.out).symm
  have z4 : Hz F w p F wd (H.swallow i) _ _ _ _ := hsw ▸ z4
  clear hsw ZD HD HH
  have hwo := HOK.out.widen HI.out
  have lw : (H.swallow i).blks.length = (H.widen i).blks.length := by unfold Hp.widen; exact (List.length_set ..).symm
  obtain ⟨m, hm⟩ : ∃ m, (H.widen i).blks.length = m := ⟨_, rfl⟩
  have him : i < m := by rw [← hm]; exact hwo.2.1
  rw [hm] at lw
  obtain ⟨b4, c4, hV4, _, hnc4, _⟩ := own_nn z4.hm.ob (by omega)
  rw [hV4] at z4
  rw [lw] at hnc4
  have k1 := z4.hm.c1
  rw [lw] at k1
  have f1 := own_thaw z4.hm.ob (i * 3 + 1)
  obtain ⟨_, k2⟩ : ∃ u, wd.cell? ⟨b4, i * 3 + 1, none⟩ = some u := by
    have hz := z4.hm
    rw [lw] at hz
    exact ⟨_, (hz.at_n lw him).2.1⟩
  have z5 := z4.set (a := ⟨b4, i * 3 + 1, none⟩) (u := .int .i64 (xs : Int)) (z4.hm.fb b4 rfl) (z4.hm.sizeM rfl (by rw [lw]; exact him) xs)
  obtain ⟨w5, hw5⟩ : ∃ w5, wd.setCell ⟨b4, i * 3 + 1, none⟩ (.int .i64 (xs : Int)) = w5 := ⟨_, rfl⟩
  rw [hw5] at z5
  have hwd2 : (H.swallow i).size i xs = H.widen i := by unfold Hp.widen; rw [HBO.out]
  rw [hwd2] at z5
  have HW5 := Lib.hid hw5
  have Z5 := Lib.hid z5
  have hmi : (i : Int) < (m : Int) := by omega
  have k3 := z5.hm.c1
  rw [lw] at k3
  have f2 := own_thaw z5.hm.ob (i * 3 + 1)
  obtain ⟨_, k4⟩ : ∃ u, w5.cell? ⟨b4, i * 3 + 1, none⟩ = some u := by
    have hz := z5.hm
    rw [lw] at hz
    exact ⟨_, (hz.at_n hm him).2.1⟩
  have z6 := z5.set (a := ⟨b4, i * 3 + 1, none⟩) (u := .int .i64 (s : Int)) (z5.hm.fb b4 rfl) (z5.hm.sizeM (by rw [lw, hm]) (by rw [hm]; exact him) s)
  obtain ⟨w6, hw6⟩ : ∃ w6, w5.setCell ⟨b4, i * 3 + 1, none⟩ (.int .i64 (s : Int)) = w6 := ⟨_, rfl⟩
  rw [hw6] at z6
  have HW6 := Lib.hid hw6
  have hto : Rez F w p (H.resize (xo : Int) s) (.returned (.tuple #[.int .i64 (xo : Int), .int .i64 0])) w6 := by
    rw [HE.out]
    exact ⟨by rw [HXO.out], z6.fin⟩
  have HTO := Lib.hid hto
  clear z4 z5 z6 hw5 hw6 hwd2 hwo hm Z5 hto HBO
  go_wp2_with (first | (rw [HW5.out]) | (rw [HW6.out]) | fail)
  go_ret2
  exact HTO.out

set_option maxRecDepth 100000 in
set_option maxHeartbeats 4000000 in
theorem hrez_YF (h : Hm F w p H Vb Vd gl cs) (hok : H.Ok) (N : Nat) (hf : H.Few N) (_hN : N ≤ 40000) (s : Nat) (hs : isSz (s : Int) = true) (_hcap : H.cap ≤ 100000) (o : Int) (ho : -9223372036854775808 ≤ o ∧ o ≤ 9223372036854775807) (i : Nat) (hu : usedB H.blks o = some i) (hlt : (bkAt H.blks i).size < s) (hE : i + 1 < H.blks.length) (hU : (bkAt H.blks (i + 1)).used = false) (hb : bothN H.blks i < s) (he : (bkAt H.blks i).off + bothN H.blks i = lenB H.blks) (hfit : lenB H.blks + s - bothN H.blks i ≤ H.cap) :
    Calls Tryz.prog 14 #[.pointer (some ⟨p, 0, none⟩), .int .i64 o, .int .i64 (s : Int)] w fun e w' => Rez F w p (H.resize o s) e w' := by
  have hn512 := hok.n
  obtain ⟨hi, hoff, _⟩ := usedB_at hu
  have hnx : nextF H.blks i = true := by unfold nextF; rw [hU, decide_eq_true hE]; rfl
  have hbN := both_yes hnx
  have hg : growsB H i s = true := by unfold growsB; rw [decide_eq_true he, decide_eq_true hfit]; rfl
  have e : H.resize o s = (((bkAt H.blks i).off, 0), (H.widen i).size i s) := by unfold Hp.resize; rw [hu]; dsimp only; rw [if_neg (by omega), if_neg (by omega), if_pos hg]
  have hss := (isSz_iff _).1 hs
  have hle := hok.le
  obtain ⟨_, hszi, htl⟩ := hok.at_ hi
  have htl1 := (tile_mem _ _ _ htl).1
  have hsz := (isSz_iff _).1 hszi
  have HU := Lib.hid (husd_any h (by omega) o ho _ hu)
  have HLEN := Lib.hid (fun (W : World) (hW : Below w.heap.size w W) => hlen_any (h.below hW) (by omega) (by omega))
  have h2s := (hok.two hE).2
  obtain ⟨k, hk0⟩ : ∃ k, i + 1 = k := ⟨_, rfl⟩
  have HOUT := Lib.hid (fun (W : World) (hW : Below w.heap.size w W) => hout_any (h.below hW) k (by rw [← hk0]; exact hE) (hok.sz (by rw [← hk0]; exact hE)) (fun d hd => Nat.le_trans (hf d hd) (by omega)))
  have hs2 := (isSz_iff _).1 (hok.sz hE)
  have HE := Lib.hid e
  obtain ⟨wd, hwd⟩ : ∃ wd, w.drew = wd := ⟨_, rfl⟩
  have hbd : Below w.heap.size w wd := by rw [← hwd]; exact (Below.refl _ _).drew
  have hd := h.below hbd
  obtain ⟨b1, c1, rfl, _, hnc, _⟩ := own_nn h.ob (by omega)
  have q1 := h.c1
  have r0 := hd.c0
  have hpd := hd.lt
  have d1 := (h.at_n rfl hi).2.1
  have d2 := h.at_n rfl hE
  rw [hU] at d2
  obtain ⟨_, d3, d4⟩ := d2
  have HH := Lib.hid h
  have HD := Lib.hid hd
  have HBD := Lib.hid hbd
  have HWD := Lib.hid hwd
  have HOK := Lib.hid hok
  have HF := Lib.hid hf
  have HS := Lib.hid hs
  have HI := Lib.hid hi
  obtain ⟨xo, hxo⟩ : ∃ xo, (bkAt H.blks i).off = xo := ⟨_, rfl⟩
  obtain ⟨xs, hxs⟩ : ∃ xs, (bkAt H.blks i).size = xs := ⟨_, rfl⟩
  rw [hxo] at htl1 hoff he
  rw [hxs] at d1 hlt hsz htl1 hbN h2s
  subst hoff
  obtain ⟨x2, hx2⟩ : ∃ x2, (bkAt H.blks (i + 1)).size = x2 := ⟨_, rfl⟩
  rw [hx2] at d3 hbN h2s hs2
  obtain ⟨bo, hbo⟩ : ∃ bo, bothN H.blks i = bo := ⟨_, rfl⟩
  rw [hbo] at hbN hb he hfit
  obtain ⟨ll, hll⟩ : ∃ ll, lenB H.blks = ll := ⟨_, rfl⟩
  rw [hll] at htl1 hle HLEN he hfit
  obtain ⟨cap, hcp⟩ : ∃ cap, H.cap = cap := ⟨_, rfl⟩
  rw [hcp] at r0  hfit
  obtain ⟨n, hn⟩ : ∃ n, H.blks.length = n := ⟨_, rfl⟩
  rw [hn] at q1 hi hnc hn512 hE
  have hin : (i : Int) < (n : Int) := by omega
  have hi2 : i ≤ 512 := by omega
  have hlt2 : (xs : Int) < (s : Int) := by omega
  have hie : (i : Int) + 1 < (n : Int) := by omega
  have hk : (i : Int) + 1 = (k : Int) := by omega
  have HK : Hid (k = i + 1) := (show _ = _ by omega)
  rw [← HK.out] at d4 d3
  have hkn : (k : Int) < (n : Int) := by omega
  have hsb : (xs : Int) + (x2 : Int) = (bo : Int) := by omega
  have hend : (xo : Int) + (bo : Int) = (ll : Int) := by omega
  have g1 : decide ((s : Int) ≤ (bo : Int)) = false := decide_eq_false (by omega)
  have g1' : decide (s ≤ bo) = false := decide_eq_false (by omega)
  have hsb2 : (bo : Int) < (s : Int) := by omega
  obtain ⟨ls, hls⟩ : ∃ ls : Nat, (ll : Int) + (s : Int) = (ls : Int) := ⟨ll + s, by omega⟩
  obtain ⟨lb, hlb⟩ : ∃ lb : Nat, (ls : Int) - (bo : Int) = (lb : Int) := ⟨ll + s - bo, by omega⟩
  have g2 : decide ((lb : Int) ≤ (cap : Int)) = true := decide_eq_true (by omega)
  have g2' : decide (lb ≤ cap) = true := decide_eq_true (by omega)
  have hx0 : 0 < (x2 : Int) := by omega
  have z1 : xo ≤ 16384 := by omega
  have z2 : xs ≤ 16384 := by omega
  have z3 : ll ≤ 16384 := by omega
  have z4 : s ≤ 16384 := by omega
  have z5 : bo ≤ 32768 := by omega
  have z6 : x2 ≤ 16384 := by omega
  have z7 : ls ≤ 32768 := by omega
  have z8 : lb ≤ 32768 := by omega
  have HN := Lib.hid hn
  have HBO := Lib.hid hbo
  have HXO := Lib.hid hxo
  have HXS := Lib.hid hxs
  have HNX := Lib.hid hnx
  have HX2 := Lib.hid hx2
  have HCP : Hid (H.cap = cap) := hcp
  clear h hok hf hu e hn hxo hs hd hbd hwd hbo hll hcp hnx hbN htl1 hle hss hsz htl hszi hlt hb hxs hi hE hx2 hU h2s hs2 hk0 he hfit hg
  go_enter Tryz.func14, Tryz.ntmps14
  go_wp2_with fail
  refine HU.out.mono ?_
  rintro e w2 ⟨rfl, rfl⟩
  clear HU
  dsimp only [ixV]
  go_wp2_with fail
  refine (HLEN.out _ (Below.refl _ _)).mono ?_
  rintro e w2 ⟨rfl, rfl⟩
  go_wp2_with fail
  refine wp_region_tail wd.heap.size [([0, 1, 2, 3, 4, 5, 6, 8, 10, 12, 13, 14, 15], 7)] [9, 11, 16, 17, 18] [] (by kernel_rfl) (by kernel_rfl) (by kernel_rfl) (fun _ _ _ _ _ h => h) ?_
  rw [HWD.out]
  have t1 : ∀ z : LaterB wd.heap.size wd, z.val.cell? ⟨p, 0, none⟩ = some (.int .i64 (cap : Int)) := fun z => (z.ext.cell (p := ⟨p, 0, none⟩) hpd).trans r0
  refine tail_cons (l := ?segAYF) ?hsegAYF ?_
  case hsegAYF => simp only [pick, List.getElem?_toArray, List.getElem?_cons_succ, List.getElem?_cons_zero]; rfl
  repeat (go_big_quiet_step (fail))
  refine wpQuiet_nil ?_
  clear t1
  refine tail_call (vs := #[.pointer (some ⟨p, 0, none⟩)]) Tryz.call38 rfl rfl rfl (R := fun r w' => r = .int .i64 (ll : Int) ∧ w' = wd) ((HLEN.out wd HBD.out).mono ?_) wd.heap.size (Nat.le_refl _) ?_
  · rintro e w' ⟨rfl, rfl⟩
    exact ⟨_, rfl, Below.refl _ _, rfl, rfl⟩
  rintro r w11 _ ⟨rfl, hw11⟩
  have hw11' := hw11.symm
  subst hw11'
  refine tail_last (l := ?laBYF) (t := []) ?hlaBYF ?htlBYF ?_
  case hlaBYF => simp only [pick, List.getElem?_toArray, List.getElem?_cons_succ, List.getElem?_cons_zero]; rfl
  case htlBYF => rfl
  simp only [Act.put, List.setIfInBounds_toArray, List.set_cons_zero, List.set_cons_succ]
  repeat (go_big_quiet_step (fail))
  refine wpQuiet_nil ?_
  have ZD := Lib.hid ((Hz.start HH.out).below HBD.out)
  go_wp2_with fail
  refine (HOUT.out wd HBD.out).mono ?_
  rintro e w3 ⟨rfl, ht⟩
  obtain ⟨F3, Vb3, Vd3, gl3, cs3, z3⟩ := ZD.out.step ht
  have Z3 := Lib.hid z3
  have e3 : (H.out k).blks.length = n := HN.out
  clear z3 ht HOUT ZD HD HH
  go_wp2_with fail
  refine (hdrop_any Z3.out.hm k (by rw [e3]; omega) (by rw [e3]; omega) HOK.out.dl).mono ?_
  rintro e w4 ⟨rfl, ht⟩
  obtain ⟨F4, Vb4, Vd4, gl4, cs4, z4⟩ := Z3.out.step ht
  have hsw : (H.out k).drop k = H.swallow i := by rw [HK.out]; exact (swallow_yes HNX.out).symm
  rw [hsw] at z4
  clear ht Z3 e3 hsw
  have hwo := HOK.out.widen HI.out
  have lw : (H.swallow i).blks.length = (H.widen i).blks.length := by unfold Hp.widen; exact (List.length_set ..).symm
  obtain ⟨m, hm⟩ : ∃ m, (H.widen i).blks.length = m := ⟨_, rfl⟩
  have him : i < m := by rw [← hm]; exact hwo.2.1
  rw [hm] at lw
  obtain ⟨b4, c4, hV4, _, hnc4, _⟩ := own_nn z4.hm.ob (by omega)
  subst hV4
  rw [lw] at hnc4
  have k1 := z4.hm.c1
  rw [lw] at k1
  have f1 := own_thaw z4.hm.ob (i * 3 + 1)
  obtain ⟨_, k2⟩ : ∃ u, w4.cell? ⟨b4, i * 3 + 1, none⟩ = some u := by
    have hz := z4.hm
    rw [lw] at hz
    exact ⟨_, (hz.at_n lw him).2.1⟩
  have z5 := z4.set (a := ⟨b4, i * 3 + 1, none⟩) (u := .int .i64 (bo : Int)) (z4.hm.fb b4 rfl) (z4.hm.sizeM rfl (by rw [lw]; exact him) bo)
  obtain ⟨w5, hw5⟩ : ∃ w5, w4.setCell ⟨b4, i * 3 + 1, none⟩ (.int .i64 (bo : Int)) = w5 := ⟨_, rfl⟩
  rw [hw5] at z5
  have hwd2 : (H.swallow i).size i bo = H.widen i := by unfold Hp.widen; rw [HBO.out]
  rw [hwd2] at z5
  have HW5 := Lib.hid hw5
  have Z5 := Lib.hid z5
  have hmi : (i : Int) < (m : Int) := by omega
  have k3 := z5.hm.c1
  rw [lw] at k3
  have f2 := own_thaw z5.hm.ob (i * 3 + 1)
  obtain ⟨_, k4⟩ : ∃ u, w5.cell? ⟨b4, i * 3 + 1, none⟩ = some u := by
    have hz := z5.hm
    rw [lw] at hz
    exact ⟨_, (hz.at_n hm him).2.1⟩
  have z6 := z5.set (a := ⟨b4, i * 3 + 1, none⟩) (u := .int .i64 (s : Int)) (z5.hm.fb b4 rfl) (z5.hm.sizeM (by rw [lw, hm]) (by rw [hm]; exact him) s)
  obtain ⟨w6, hw6⟩ : ∃ w6, w5.setCell ⟨b4, i * 3 + 1, none⟩ (.int .i64 (s : Int)) = w6 := ⟨_, rfl⟩
  rw [hw6] at z6
  have HW6 := Lib.hid hw6
  have hto : Rez F w p (H.resize (xo : Int) s) (.returned (.tuple #[.int .i64 (xo : Int), .int .i64 0])) w6 := by
    rw [HE.out]
    exact ⟨by rw [HXO.out], z6.fin⟩
  have HTO := Lib.hid hto
  clear z4 z5 z6 hw5 hw6 hwd2 hwo hm Z5 hto HBO
  go_wp2_with (first | (rw [HW5.out]) | (rw [HW6.out]) | fail)
  go_ret2
  exact HTO.out

set_option maxRecDepth 100000 in
set_option maxHeartbeats 4000000 in
theorem hrez_E3N (h : Hm F w p H Vb Vd gl cs) (hok : H.Ok) (N : Nat) (hf : H.Few N) (hN : N ≤ 40000) (s : Nat) (hs : isSz (s : Int) = true) (hcap : H.cap ≤ 100000) (hL : H.Listed) (o : Int) (ho : -9223372036854775808 ≤ o ∧ o ≤ 9223372036854775807) (i : Nat) (hu : usedB H.blks o = some i) (hlt : (bkAt H.blks i).size < s) (hE : H.blks.length ≤ i + 1) (hb : bothN H.blks i < s) (he : (bkAt H.blks i).off + bothN H.blks i = lenB H.blks) (hfit : ¬ lenB H.blks + s - bothN H.blks i ≤ H.cap) (htk : (H.take s).1 = none) :
    Calls Tryz.prog 14 #[.pointer (some ⟨p, 0, none⟩), .int .i64 o, .int .i64 (s : Int)] w fun e w' => Rez F w p (H.resize o s) e w' := by
  have hn512 := hok.n
  obtain ⟨hi, hoff, _⟩ := usedB_at hu
  have hnx : nextF H.blks i = false := by unfold nextF; rw [decide_eq_false (by omega)]; rfl
  have hbN := both_no hnx
  have hg : growsB H i s = false := by unfold growsB; rw [decide_eq_false hfit, Bool.and_false]
  have e : H.resize o s = ((0, 5), H) := by unfold Hp.resize; rw [hu]; dsimp only; rw [if_neg (by omega), if_neg (by omega), hg, if_neg (by decide), htk]
  have hss := (isSz_iff _).1 hs
  have hle := hok.le
  obtain ⟨_, hszi, htl⟩ := hok.at_ hi
  have htl1 := (tile_mem _ _ _ htl).1
  have hsz := (isSz_iff _).1 hszi
  have HU := Lib.hid (husd_any h (by omega) o ho _ hu)
  have HLEN := Lib.hid (fun (W : World) (hW : Below w.heap.size w W) => hlen_any (h.below hW) (by omega) (by omega))
  have HE := Lib.hid e
  obtain ⟨wd, hwd⟩ : ∃ wd, w.drew = wd := ⟨_, rfl⟩
  have hbd : Below w.heap.size w wd := by rw [← hwd]; exact (Below.refl _ _).drew
  have hd := h.below hbd
  obtain ⟨b1, c1, rfl, _, hnc, _⟩ := own_nn h.ob (by omega)
  have q1 := h.c1
  have r0 := hd.c0
  have hpd := hd.lt
  have d1 := (h.at_n rfl hi).2.1
  have HH := Lib.hid h
  have HD := Lib.hid hd
  have HBD := Lib.hid hbd
  have HWD := Lib.hid hwd
  have HOK := Lib.hid hok
  have HF := Lib.hid hf
  have HS := Lib.hid hs
  have HI := Lib.hid hi
  obtain ⟨xo, hxo⟩ : ∃ xo, (bkAt H.blks i).off = xo := ⟨_, rfl⟩
  obtain ⟨xs, hxs⟩ : ∃ xs, (bkAt H.blks i).size = xs := ⟨_, rfl⟩
  rw [hxo] at htl1 hoff he
  rw [hxs] at d1 hlt hsz htl1 hbN
  subst hoff
  obtain ⟨bo, hbo⟩ : ∃ bo, bothN H.blks i = bo := ⟨_, rfl⟩
  rw [hbo] at hbN hb he hfit
  obtain ⟨ll, hll⟩ : ∃ ll, lenB H.blks = ll := ⟨_, rfl⟩
  rw [hll] at htl1 hle HLEN he hfit
  obtain ⟨cap, hcp⟩ : ∃ cap, H.cap = cap := ⟨_, rfl⟩
  rw [hcp] at r0 hcap hfit
  obtain ⟨n, hn⟩ : ∃ n, H.blks.length = n := ⟨_, rfl⟩
  rw [hn] at q1 hi hnc hn512 hE
  have hin : (i : Int) < (n : Int) := by omega
  have hi2 : i ≤ 512 := by omega
  have hlt2 : (xs : Int) < (s : Int) := by omega
  have hie : (n : Int) ≤ (i : Int) + 1 := by omega
  have hbb : bo = xs := hbN
  have hbb2 : xs = bo := hbb.symm
  subst hbb2
  have hend : (xo : Int) + (xs : Int) = (ll : Int) := by omega
  have g1 : decide ((s : Int) ≤ (xs : Int)) = false := decide_eq_false (by omega)
  have g1' : decide (s ≤ xs) = false := decide_eq_false (by omega)
  have hsb2 : (xs : Int) < (s : Int) := by omega
  obtain ⟨ls, hls⟩ : ∃ ls : Nat, (ll : Int) + (s : Int) = (ls : Int) := ⟨ll + s, by omega⟩
  obtain ⟨lb, hlb⟩ : ∃ lb : Nat, (ls : Int) - (xs : Int) = (lb : Int) := ⟨ll + s - xs, by omega⟩
  have g2 : decide ((lb : Int) ≤ (cap : Int)) = false := decide_eq_false (by omega)
  have g2' : decide (lb ≤ cap) = false := decide_eq_false (by omega)
  have z1 : xo ≤ 16384 := by omega
  have z2 : xs ≤ 16384 := by omega
  have z3 : ll ≤ 16384 := by omega
  have z4 : s ≤ 16384 := by omega
  have z7 : ls ≤ 32768 := by omega
  have z8 : lb ≤ 32768 := by omega
  have HN := Lib.hid hn
  have HBO := Lib.hid hbo
  have HXO := Lib.hid hxo
  have HXS := Lib.hid hxs
  have HNX := Lib.hid hnx
  have HTKE := Lib.hid htk
  have HLI := Lib.hid hL
  have HCP : Hid (H.cap = cap) := hcp
  clear h hok hf hu e hn hxo hs hd hbd hwd hbo hll hcp hnx hbN htl1 hle hss hsz htl hszi hlt hb hxs hi hE he hfit hg htk hL
  go_enter Tryz.func14, Tryz.ntmps14
  go_wp2_with fail
  refine HU.out.mono ?_
  rintro e w2 ⟨rfl, rfl⟩
  clear HU
  dsimp only [ixV]
  go_wp2_with fail
  refine (HLEN.out _ (Below.refl _ _)).mono ?_
  rintro e w2 ⟨rfl, rfl⟩
  go_wp2_with fail
  refine wp_region_tail wd.heap.size [([0, 1, 2, 3, 4, 5, 6, 8, 10, 12, 13, 14, 15], 7)] [9, 11, 16, 17, 18] [] (by kernel_rfl) (by kernel_rfl) (by kernel_rfl) (fun _ _ _ _ _ h => h) ?_
  rw [HWD.out]
  have t1 : ∀ z : LaterB wd.heap.size wd, z.val.cell? ⟨p, 0, none⟩ = some (.int .i64 (cap : Int)) := fun z => (z.ext.cell (p := ⟨p, 0, none⟩) hpd).trans r0
  refine tail_cons (l := ?segAE3N) ?hsegAE3N ?_
  case hsegAE3N => simp only [pick, List.getElem?_toArray, List.getElem?_cons_succ, List.getElem?_cons_zero]; rfl
  repeat (go_big_quiet_step (fail))
  refine wpQuiet_nil ?_
  clear t1
  refine tail_call (vs := #[.pointer (some ⟨p, 0, none⟩)]) Tryz.call38 rfl rfl rfl (R := fun r w' => r = .int .i64 (ll : Int) ∧ w' = wd) ((HLEN.out wd HBD.out).mono ?_) wd.heap.size (Nat.le_refl _) ?_
  · rintro e w' ⟨rfl, rfl⟩
    exact ⟨_, rfl, Below.refl _ _, rfl, rfl⟩
  rintro r w11 _ ⟨rfl, hw11⟩
  have hw11' := hw11.symm
  subst hw11'
  refine tail_last (l := ?laBE3N) (t := []) ?hlaBE3N ?htlBE3N ?_
  case hlaBE3N => simp only [pick, List.getElem?_toArray, List.getElem?_cons_succ, List.getElem?_cons_zero]; rfl
  case htlBE3N => rfl
  simp only [Act.put, List.setIfInBounds_toArray, List.set_cons_zero, List.set_cons_succ]
  repeat (go_big_quiet_step (fail))
  refine wpQuiet_nil ?_
  have ZD := Lib.hid ((Hz.start HH.out).below HBD.out)
  have HTA := Lib.hid (hTake_any HD.out HOK.out N HF.out (by omega) HLI.out s HS.out (by rw [HCP.out]; exact hcap))
  clear HD HH
  go_wp2_with fail
  refine HTA.out.mono ?_
  rintro e w3 ⟨rfl, ht⟩
  rw [HTKE.out]
  dsimp only [badT, Option.isSome, Option.getD]
  clear HTA
  have hsame := take_none_eq HTKE.out
  rw [hsame] at ht
  have hto : Rez F w p (H.resize (xo : Int) s) (.returned (.tuple #[.int .i64 0, .int .i64 5])) w3 := by
    rw [HE.out]
    exact ⟨rfl, ZD.out.last ht⟩
  have HTO := Lib.hid hto
  clear hto ht hsame ZD
  go_wp2
  go_ret2
  exact HTO.out

set_option maxRecDepth 100000 in
set_option maxHeartbeats 4000000 in
theorem hrez_E3S (h : Hm F w p H Vb Vd gl cs) (hok : H.Ok) (N : Nat) (hf : H.Few N) (hN : N ≤ 40000) (s : Nat) (hs : isSz (s : Int) = true) (hL : H.Listed) (o : Int) (ho : -9223372036854775808 ≤ o ∧ o ≤ 9223372036854775807) (i : Nat) (hu : usedB H.blks o = some i) (hlt : (bkAt H.blks i).size < s) (hE : H.blks.length ≤ i + 1) (hb : bothN H.blks i < s) (he : (bkAt H.blks i).off + bothN H.blks i = lenB H.blks) (hfit : ¬ lenB H.blks + s - bothN H.blks i ≤ H.cap) (hc16 : H.cap ≤ 16384) (q : Nat) (htk : (H.take s).1 = some q) (iq io : Nat) (hiq : atB (q : Int) (H.take s).2.blks = some iq) (hio : atB o (H.take s).2.blks = some io) :
    Calls Tryz.prog 14 #[.pointer (some ⟨p, 0, none⟩), .int .i64 o, .int .i64 (s : Int)] w fun e w' => Rez F w p (H.resize o s) e w' := by
  have hn512 := hok.n
  obtain ⟨hi, hoff, _⟩ := usedB_at hu
  have hcap : H.cap ≤ 100000 := by omega
  have hnx : nextF H.blks i = false := by unfold nextF; rw [decide_eq_false (by omega)]; rfl
  have hbN := both_no hnx
  have hg : growsB H i s = false := by unfold growsB; rw [decide_eq_false hfit, Bool.and_false]
  have e : H.resize o s = ((q, 0), (((H.take s).2.moveD (q : Int) o).giveO o).getD ((H.take s).2.moveD (q : Int) o)) := by unfold Hp.resize; rw [hu]; dsimp only; rw [if_neg (by omega), if_neg (by omega), hg, if_neg (by decide), htk]
  have hss := (isSz_iff _).1 hs
  have hle := hok.le
  obtain ⟨_, hszi, htl⟩ := hok.at_ hi
  have htl1 := (tile_mem _ _ _ htl).1
  have hsz := (isSz_iff _).1 hszi
  have HU := Lib.hid (husd_any h (by omega) o ho _ hu)
  have HLEN := Lib.hid (fun (W : World) (hW : Below w.heap.size w W) => hlen_any (h.below hW) (by omega) (by omega))
  have HE := Lib.hid e
  obtain ⟨wd, hwd⟩ : ∃ wd, w.drew = wd := ⟨_, rfl⟩
  have hbd : Below w.heap.size w wd := by rw [← hwd]; exact (Below.refl _ _).drew
  have hd := h.below hbd
  obtain ⟨b1, c1, rfl, _, hnc, _⟩ := own_nn h.ob (by omega)
  have q1 := h.c1
  have r0 := hd.c0
  have hpd := hd.lt
  have d1 := (h.at_n rfl hi).2.1
  have HH := Lib.hid h
  have HD := Lib.hid hd
  have HBD := Lib.hid hbd
  have HWD := Lib.hid hwd
  have HOK := Lib.hid hok
  have HF := Lib.hid hf
  have HS := Lib.hid hs
  have HI := Lib.hid hi
  obtain ⟨xo, hxo⟩ : ∃ xo, (bkAt H.blks i).off = xo := ⟨_, rfl⟩
  obtain ⟨xs, hxs⟩ : ∃ xs, (bkAt H.blks i).size = xs := ⟨_, rfl⟩
  rw [hxo] at htl1 hoff he
  rw [hxs] at d1 hlt hsz htl1 hbN
  subst hoff
  obtain ⟨bo, hbo⟩ : ∃ bo, bothN H.blks i = bo := ⟨_, rfl⟩
  rw [hbo] at hbN hb he hfit
  obtain ⟨ll, hll⟩ : ∃ ll, lenB H.blks = ll := ⟨_, rfl⟩
  rw [hll] at htl1 hle HLEN he hfit
  obtain ⟨cap, hcp⟩ : ∃ cap, H.cap = cap := ⟨_, rfl⟩
  rw [hcp] at r0 hcap hfit
  obtain ⟨n, hn⟩ : ∃ n, H.blks.length = n := ⟨_, rfl⟩
  rw [hn] at q1 hi hnc hn512 hE
  have hin : (i : Int) < (n : Int) := by omega
  have hi2 : i ≤ 512 := by omega
  have hlt2 : (xs : Int) < (s : Int) := by omega
  have hie : (n : Int) ≤ (i : Int) + 1 := by omega
  have hbb : bo = xs := hbN
  have hbb2 : xs = bo := hbb.symm
  subst hbb2
  have hend : (xo : Int) + (xs : Int) = (ll : Int) := by omega
  have g1 : decide ((s : Int) ≤ (xs : Int)) = false := decide_eq_false (by omega)
  have g1' : decide (s ≤ xs) = false := decide_eq_false (by omega)
  have hsb2 : (xs : Int) < (s : Int) := by omega
  obtain ⟨ls, hls⟩ : ∃ ls : Nat, (ll : Int) + (s : Int) = (ls : Int) := ⟨ll + s, by omega⟩
  obtain ⟨lb, hlb⟩ : ∃ lb : Nat, (ls : Int) - (xs : Int) = (lb : Int) := ⟨ll + s - xs, by omega⟩
  have g2 : decide ((lb : Int) ≤ (cap : Int)) = false := decide_eq_false (by omega)
  have g2' : decide (lb ≤ cap) = false := decide_eq_false (by omega)
  have z1 : xo ≤ 16384 := by omega
  have z2 : xs ≤ 16384 := by omega
  have z3 : ll ≤ 16384 := by omega
  have z4 : s ≤ 16384 := by omega
  have z7 : ls ≤ 32768 := by omega
  have z8 : lb ≤ 32768 := by omega
  have HN := Lib.hid hn
  have HBO := Lib.hid hbo
  have HXO := Lib.hid hxo
  have HXS := Lib.hid hxs
  have HNX := Lib.hid hnx
  have HTKE := Lib.hid htk
  have HLI := Lib.hid hL
  have HIQ := Lib.hid hiq
  have HIO := Lib.hid hio
  have HCP : Hid (H.cap = cap) := hcp
  clear h hok hf hu e hn hxo hs hd hbd hwd hbo hll hcp hnx hbN htl1 hle hss hsz htl hszi hlt hb hxs hi hE he hfit hg htk hL hiq hio
  go_enter Tryz.func14, Tryz.ntmps14
  go_wp2_with fail
  refine HU.out.mono ?_
  rintro e w2 ⟨rfl, rfl⟩
  clear HU
  dsimp only [ixV]
  go_wp2_with fail
  refine (HLEN.out _ (Below.refl _ _)).mono ?_
  rintro e w2 ⟨rfl, rfl⟩
  go_wp2_with fail
  refine wp_region_tail wd.heap.size [([0, 1, 2, 3, 4, 5, 6, 8, 10, 12, 13, 14, 15], 7)] [9, 11, 16, 17, 18] [] (by kernel_rfl) (by kernel_rfl) (by kernel_rfl) (fun _ _ _ _ _ h => h) ?_
  rw [HWD.out]
  have t1 : ∀ z : LaterB wd.heap.size wd, z.val.cell? ⟨p, 0, none⟩ = some (.int .i64 (cap : Int)) := fun z => (z.ext.cell (p := ⟨p, 0, none⟩) hpd).trans r0
  refine tail_cons (l := ?segAE3S) ?hsegAE3S ?_
  case hsegAE3S => simp only [pick, List.getElem?_toArray, List.getElem?_cons_succ, List.getElem?_cons_zero]; rfl
  repeat (go_big_quiet_step (fail))
  refine wpQuiet_nil ?_
  clear t1
  refine tail_call (vs := #[.pointer (some ⟨p, 0, none⟩)]) Tryz.call38 rfl rfl rfl (R := fun r w' => r = .int .i64 (ll : Int) ∧ w' = wd) ((HLEN.out wd HBD.out).mono ?_) wd.heap.size (Nat.le_refl _) ?_
  · rintro e w' ⟨rfl, rfl⟩
    exact ⟨_, rfl, Below.refl _ _, rfl, rfl⟩
  rintro r w11 _ ⟨rfl, hw11⟩
  have hw11' := hw11.symm
  subst hw11'
  refine tail_last (l := ?laBE3S) (t := []) ?hlaBE3S ?htlBE3S ?_
  case hlaBE3S => simp only [pick, List.getElem?_toArray, List.getElem?_cons_succ, List.getElem?_cons_zero]; rfl
  case htlBE3S => rfl
  simp only [Act.put, List.setIfInBounds_toArray, List.set_cons_zero, List.set_cons_succ]
  repeat (go_big_quiet_step (fail))
  refine wpQuiet_nil ?_
  have ZD := Lib.hid ((Hz.start HH.out).below HBD.out)
  have HTA := Lib.hid (hTake_any HD.out HOK.out N HF.out (by omega) HLI.out s HS.out (by rw [HCP.out]; exact hcap))
  clear HD HH
  go_wp2_with fail
  refine HTA.out.mono ?_
  rintro e w3 ⟨rfl, ht⟩
  rw [HTKE.out]
  dsimp only [badT, Option.isSome, Option.getD]
  clear HTA
  obtain ⟨F3, Vb3, Vd3, gl3, cs3, z3⟩ := ZD.out.step ht
  have ok3 := HOK.out.take hc16 HS.out
  have fw3 : (H.take s).2.Few (N + 1) := HF.out.take
  have hq16 : q ≤ 100000 := by
    obtain ⟨g1, g2⟩ := atB_at HIQ.out
    have g3 := (tile_mem _ _ _ (ok3.at_ g1).2.2).1
    have g4 := ok3.le
    omega
  obtain ⟨H3, hH3⟩ : ∃ H3, (H.take s).2 = H3 := ⟨_, rfl⟩
  have HIQ3 : Hid (atB (q : Int) H3.blks = some iq) := (show _ = _ by rw [← hH3]; exact HIQ.out)
  have HIO3 : Hid (atB (xo : Int) H3.blks = some io) := (show _ = _ by rw [← hH3]; exact HIO.out)
  have HE3 : Hid (H.resize (xo : Int) s = ((q, 0), ((H3.moveD (q : Int) (xo : Int)).giveO (xo : Int)).getD (H3.moveD (q : Int) (xo : Int)))) := (show _ = _ by rw [← hH3]; exact HE.out)
  rw [hH3] at z3 ok3 fw3
  obtain ⟨wx, hwx⟩ : ∃ wx, w3.drew = wx := ⟨_, rfl⟩
  have hbx : Below w3.heap.size w3 wx := by rw [← hwx]; exact (Below.refl _ _).drew
  have zx := z3.below hbx
  have hn3 := ok3.n
  have l1 := (atB_at HIQ3.out).1
  have l2 := (atB_at HIO3.out).1
  obtain ⟨bd, cd, rfl, _, hncd, _⟩ := own_nn zx.hm.od (by rw [ok3.dl]; omega)
  obtain ⟨dn, hdn⟩ : ∃ dn, H3.ds.length = dn := ⟨_, rfl⟩
  have hdn3 := ok3.dl
  rw [hdn] at hdn3 hncd
  rw [hdn] at zx
  have k1 := zx.hm.c2
  have hodx := zx.hm.od
  rw [hdn] at hodx
  obtain ⟨dv, k2, k3⟩ := own_cell1 hodx (j := io) (by omega)
  obtain ⟨_, k4, _⟩ := own_cell1 hodx (j := iq) (by omega)
  have f1 := own_thaw hodx iq
  have hsl := zx.hm.sl
  have hgd : (H3.ds.getD io nilD).1 = dv := by
    rw [List.getElem?_map] at k3
    rw [List.getD_eq_getElem?_getD]
    cases h' : H3.ds[io]? with
    | none => rw [h'] at k3; cases k3
    | some y => rw [h'] at k3; injection k3
  have hslv : ∃ A n c, (H3.ds.getD io nilD).1 = Value.slice A n c := by
    rw [List.getD_eq_getElem?_getD]
    cases h' : H3.ds[io]? with
    | none => exact ⟨_, _, _, rfl⟩
    | some y => exact hsl y (List.mem_of_getElem? h')
  have hmv : H3.moveD (q : Int) (xo : Int) = H3.copyD iq io := by unfold Hp.moveD; rw [HIQ3.out, HIO3.out]
  have z4 := zx.set (a := ⟨bd, iq, none⟩) (u := (H3.ds.getD io nilD).1) (zx.hm.fd bd rfl) (zx.hm.dcell (by rw [hdn]) (H3.ds.getD io nilD) hslv)
  have z4 : Hz F w p F3 (wx.setCell ⟨bd, iq, none⟩ (H3.ds.getD io nilD).1) (H3.copyD iq io) Vb3 (.slice (some ⟨bd, 0, none⟩) dn cd) gl3 cs3 := z4
  rw [hgd, ← hmv] at z4
  obtain ⟨w4, hw4⟩ : ∃ w4, wx.setCell ⟨bd, iq, none⟩ dv = w4 := ⟨_, rfl⟩
  rw [hw4] at z4
  have bl4 : (H3.moveD (q : Int) (xo : Int)).blks = H3.blks := by rw [hmv]; rfl
  have ok4 : (H3.moveD (q : Int) (xo : Int)).Ok := ⟨by rw [bl4]; exact ok3.tl, by rw [bl4]; exact ok3.le, by rw [hmv]; show (H3.ds.set _ _).length = _; rw [List.length_set]; exact ok3.dl⟩
  have fw4 : (H3.moveD (q : Int) (xo : Int)).Few (N + 1) := by rw [hmv]; exact fw3
  have HGV := Lib.hid (hGive_any z4.hm ok4 (N + 1) fw4 (by omega) (xo : Int) ho)
  have HA1 := Lib.hid (hat_any zx.hm (by omega) (q : Int) (by omega) _ HIQ3.out)
  have HA2 := Lib.hid (hat_any zx.hm (by omega) (xo : Int) ho _ HIO3.out)
  have hpx := zx.hm.lt
  have hbdx : bd < wx.heap.size := own_lt hodx rfl
  have Z4 := Lib.hid z4
  have Hw11 := Lib.hid hwx
  have HW4 := Lib.hid hw4
  obtain ⟨Av, nv, cv, hdv⟩ := hslv
  rw [hgd] at hdv
  subst hdv
  have hi1 : (iq : Int) < (dn : Int) := by omega
  have hi2' : (io : Int) < (dn : Int) := by omega
  clear z3 zx z4 ok3 fw3 ok4 fw4 hH3 hwx hbx hodx hsl hgd hmv hw4 bl4 hn3 l1 l2 hdn3 ht ZD HIQ HIO HIQ3 HIO3 hdn k3
  go_wp2_with fail
  refine wp_region_tail wx.heap.size [([0, 1, 2, 3, 4, 5, 7, 8, 9, 10, 11, 12], 6), ([], 13)] [14, 15, 16] [17] (by kernel_rfl) (by kernel_rfl) (by kernel_rfl) (fun _ _ _ _ _ h => h) ?_
  rw [Hw11.out]
  have t1 : ∀ z : LaterB wx.heap.size wx, z.val.cell? ⟨p, 2, none⟩ = some (.slice (some ⟨bd, 0, none⟩) dn cd) := fun z => (z.ext.cell (p := ⟨p, 2, none⟩) hpx).trans k1
  refine tail_cons (l := ?segCE3S) ?hsegCE3S ?_
  case hsegCE3S => simp only [pick, List.getElem?_toArray, List.getElem?_cons_succ, List.getElem?_cons_zero]; rfl
  repeat (go_big_quiet_step (fail))
  refine wpQuiet_nil ?_
  clear t1
  refine tail_call (vs := #[.pointer (some ⟨p, 0, none⟩), .int .i64 (q : Int)]) Tryz.call41 rfl rfl rfl (R := fun r w' => r = .int .i64 (iq : Int) ∧ w' = wx) (HA1.out.mono ?_) wx.heap.size (Nat.le_refl _) ?_
  · rintro e w' ⟨rfl, rfl⟩
    exact ⟨_, rfl, Below.refl _ _, rfl, rfl⟩
  rintro r w11 _ ⟨rfl, rfl⟩
  refine tail_cons (l := []) rfl ?_
  refine wpQuiet_nil ?_
  refine tail_call (vs := #[.pointer (some ⟨p, 0, none⟩), .int .i64 (xo : Int)]) Tryz.call41 rfl rfl rfl (R := fun r w' => r = .int .i64 (io : Int) ∧ w' = w11) (HA2.out.mono ?_) w11.heap.size (Nat.le_refl _) ?_
  · rintro e w' ⟨rfl, rfl⟩
    exact ⟨_, rfl, Below.refl _ _, rfl, rfl⟩
  rintro r w12 _ ⟨rfl, rfl⟩
  refine tail_last (l := ?laEE3S) (t := ?tlEE3S) ?hlaEE3S ?htlEE3S ?_
  case hlaEE3S => simp only [pick, List.getElem?_toArray, List.getElem?_cons_succ, List.getElem?_cons_zero]; rfl
  case htlEE3S => simp only [pick, List.getElem?_toArray, List.getElem?_cons_succ, List.getElem?_cons_zero]; rfl
  simp only [Act.put, List.setIfInBounds_toArray, List.set_cons_zero, List.set_cons_succ]
  have t2 : ∀ z : LaterB w12.heap.size w12, z.val.cell? ⟨bd, io, none⟩ = some (.slice Av nv cv) := fun z => (z.ext.cell (p := ⟨bd, io, none⟩) hbdx).trans k2
  repeat (go_big_quiet_step (fail))
  refine wpQuiet_nil ?_
  clear t2
  go_wp2_with (first | (rw [HW4.out]) | fail)
  refine HGV.out.mono ?_
  rintro e w5 ⟨rfl, ht⟩
  have hto : Rez F w p (H.resize (xo : Int) s) (.returned (.tuple #[.int .i64 (q : Int), .int .i64 0])) w5 := by
    rw [HE3.out]
    exact ⟨rfl, Z4.out.last ht⟩
  have HTO := Lib.hid hto
  clear hto ht HGV Z4 k1 k2 k4 f1
  go_wp2
  go_ret2
  exact HTO.out

set_option maxRecDepth 100000 in
set_option maxHeartbeats 4000000 in
theorem hrez_U2N (h : Hm F w p H Vb Vd gl cs) (hok : H.Ok) (N : Nat) (hf : H.Few N) (hN : N ≤ 40000) (s : Nat) (hs : isSz (s : Int) = true) (hcap : H.cap ≤ 100000) (hL : H.Listed) (o : Int) (ho : -9223372036854775808 ≤ o ∧ o ≤ 9223372036854775807) (i : Nat) (hu : usedB H.blks o = some i) (hlt : (bkAt H.blks i).size < s) (hE : i + 1 < H.blks.length) (hU : (bkAt H.blks (i + 1)).used = true) (hb : bothN H.blks i < s) (he : (bkAt H.blks i).off + bothN H.blks i ≠ lenB H.blks) (htk : (H.take s).1 = none) :
    Calls Tryz.prog 14 #[.pointer (some ⟨p, 0, none⟩), .int .i64 o, .int .i64 (s : Int)] w fun e w' => Rez F w p (H.resize o s) e w' := by
  have hn512 := hok.n
  obtain ⟨hi, hoff, _⟩ := usedB_at hu
  have hnx : nextF H.blks i = false := by unfold nextF; rw [hU, Bool.not_true, Bool.and_false]
  have hbN := both_no hnx
  have hg : growsB H i s = false := by unfold growsB; rw [decide_eq_false he]; rfl
  have e : H.resize o s = ((0, 5), H) := by unfold Hp.resize; rw [hu]; dsimp only; rw [if_neg (by omega), if_neg (by omega), hg, if_neg (by decide), htk]
  have hss := (isSz_iff _).1 hs
  have hle := hok.le
  obtain ⟨_, hszi, htl⟩ := hok.at_ hi
  have htl1 := (tile_mem _ _ _ htl).1
  have hsz := (isSz_iff _).1 hszi
  have HU := Lib.hid (husd_any h (by omega) o ho _ hu)
  have HLEN := Lib.hid (fun (W : World) (hW : Below w.heap.size w W) => hlen_any (h.below hW) (by omega) (by omega))
  have HE := Lib.hid e
  obtain ⟨wd, hwd⟩ : ∃ wd, w.drew = wd := ⟨_, rfl⟩
  have hbd : Below w.heap.size w wd := by rw [← hwd]; exact (Below.refl _ _).drew
  have hd := h.below hbd
  obtain ⟨b1, c1, rfl, _, hnc, _⟩ := own_nn h.ob (by omega)
  have q1 := h.c1
  have r0 := hd.c0
  have hpd := hd.lt
  have d1 := (h.at_n rfl hi).2.1
  have d2 := h.at_n rfl hE
  rw [hU] at d2
  obtain ⟨_, d3, d4⟩ := d2
  have HH := Lib.hid h
  have HD := Lib.hid hd
  have HBD := Lib.hid hbd
  have HWD := Lib.hid hwd
  have HOK := Lib.hid hok
  have HF := Lib.hid hf
  have HS := Lib.hid hs
  have HI := Lib.hid hi
  obtain ⟨xo, hxo⟩ : ∃ xo, (bkAt H.blks i).off = xo := ⟨_, rfl⟩
  obtain ⟨xs, hxs⟩ : ∃ xs, (bkAt H.blks i).size = xs := ⟨_, rfl⟩
  rw [hxo] at htl1 hoff he
  rw [hxs] at d1 hlt hsz htl1 hbN
  subst hoff
  obtain ⟨bo, hbo⟩ : ∃ bo, bothN H.blks i = bo := ⟨_, rfl⟩
  rw [hbo] at hbN hb he
  obtain ⟨ll, hll⟩ : ∃ ll, lenB H.blks = ll := ⟨_, rfl⟩
  rw [hll] at htl1 hle HLEN he
  obtain ⟨cap, hcp⟩ : ∃ cap, H.cap = cap := ⟨_, rfl⟩
  rw [hcp] at r0 hcap 
  obtain ⟨n, hn⟩ : ∃ n, H.blks.length = n := ⟨_, rfl⟩
  rw [hn] at q1 hi hnc hn512 hE
  have hin : (i : Int) < (n : Int) := by omega
  have hi2 : i ≤ 512 := by omega
  have hlt2 : (xs : Int) < (s : Int) := by omega
  have hie : (i : Int) + 1 < (n : Int) := by omega
  obtain ⟨k, hk⟩ : ∃ k : Nat, (i : Int) + 1 = (k : Int) := ⟨i + 1, by omega⟩
  have HK : Hid (k = i + 1) := (show _ = _ by omega)
  rw [← HK.out] at d4 d3
  have hkn : (k : Int) < (n : Int) := by omega
  have hbb : bo = xs := hbN
  have hbb2 : xs = bo := hbb.symm
  subst hbb2
  obtain ⟨ob, hob⟩ : ∃ ob : Nat, (xo : Int) + (xs : Int) = (ob : Int) := ⟨xo + xs, by omega⟩
  have hne : ((ob : Int) == (ll : Int)) = false := by rw [beq_eq_false_iff_ne]; omega
  have hne2 : (ob == ll) = false := by rw [beq_eq_false_iff_ne]; omega
  have g1 : decide ((s : Int) ≤ (xs : Int)) = false := decide_eq_false (by omega)
  have g1' : decide (s ≤ xs) = false := decide_eq_false (by omega)
  have hsb2 : (xs : Int) < (s : Int) := by omega
  have z1 : xo ≤ 16384 := by omega
  have z2 : xs ≤ 16384 := by omega
  have z3 : ll ≤ 16384 := by omega
  have z4 : s ≤ 16384 := by omega
  have z9 : ob ≤ 65536 := by omega
  have HN := Lib.hid hn
  have HBO := Lib.hid hbo
  have HXO := Lib.hid hxo
  have HXS := Lib.hid hxs
  have HNX := Lib.hid hnx
  have HTKE := Lib.hid htk
  have HLI := Lib.hid hL
  have HCP : Hid (H.cap = cap) := hcp
  clear h hok hf hu e hn hxo hs hd hbd hwd hbo hll hcp hnx hbN htl1 hle hss hsz htl hszi hlt hb hxs hi hE hU he hg htk hL
  go_enter Tryz.func14, Tryz.ntmps14
  go_wp2_with fail
  refine HU.out.mono ?_
  rintro e w2 ⟨rfl, rfl⟩
  clear HU
  dsimp only [ixV]
  go_wp2_with fail
  refine (HLEN.out _ (Below.refl _ _)).mono ?_
  rintro e w2 ⟨rfl, rfl⟩
  go_wp2_with fail
  refine wp_region_tail wd.heap.size [([0, 1, 2, 3, 4, 5, 6, 8, 10, 12, 13, 14, 15], 7)] [9, 11, 16, 17, 18] [] (by kernel_rfl) (by kernel_rfl) (by kernel_rfl) (fun _ _ _ _ _ h => h) ?_
  rw [HWD.out]
  refine tail_cons (l := ?segAU2N) ?hsegAU2N ?_
  case hsegAU2N => simp only [pick, List.getElem?_toArray, List.getElem?_cons_succ, List.getElem?_cons_zero]; rfl
  repeat (go_big_quiet_step (fail))
  refine wpQuiet_nil ?_
  refine tail_out rfl (some 84) rfl rfl ⟨wd.heap.size, Nat.le_refl _, ?_⟩
  refine tail_last (l := ?laBU2N) (t := []) ?hlaBU2N ?htlBU2N ?_
  case hlaBU2N => simp only [pick, List.getElem?_toArray, List.getElem?_cons_succ, List.getElem?_cons_zero]; rfl
  case htlBU2N => rfl
  simp only [Act.put, List.setIfInBounds_toArray, List.set_cons_zero, List.set_cons_succ]
  repeat (go_big_quiet_step (fail))
  refine wpQuiet_nil ?_
  have ZD := Lib.hid ((Hz.start HH.out).below HBD.out)
  have HTA := Lib.hid (hTake_any HD.out HOK.out N HF.out (by omega) HLI.out s HS.out (by rw [HCP.out]; exact hcap))
  clear HD HH
  go_wp2_with fail
  refine HTA.out.mono ?_
  rintro e w3 ⟨rfl, ht⟩
  rw [HTKE.out]
  dsimp only [badT, Option.isSome, Option.getD]
  clear HTA
  have hsame := take_none_eq HTKE.out
  rw [hsame] at ht
  have hto : Rez F w p (H.resize (xo : Int) s) (.returned (.tuple #[.int .i64 0, .int .i64 5])) w3 := by
    rw [HE.out]
    exact ⟨rfl, ZD.out.last ht⟩
  have HTO := Lib.hid hto
  clear hto ht hsame ZD
  go_wp2
  go_ret2
  exact HTO.out

set_option maxRecDepth 100000 in
set_option maxHeartbeats 4000000 in
theorem hrez_U2S (h : Hm F w p H Vb Vd gl cs) (hok : H.Ok) (N : Nat) (hf : H.Few N) (hN : N ≤ 40000) (s : Nat) (hs : isSz (s : Int) = true) (hL : H.Listed) (o : Int) (ho : -9223372036854775808 ≤ o ∧ o ≤ 9223372036854775807) (i : Nat) (hu : usedB H.blks o = some i) (hlt : (bkAt H.blks i).size < s) (hE : i + 1 < H.blks.length) (hU : (bkAt H.blks (i + 1)).used = true) (hb : bothN H.blks i < s) (he : (bkAt H.blks i).off + bothN H.blks i ≠ lenB H.blks) (hc16 : H.cap ≤ 16384) (q : Nat) (htk : (H.take s).1 = some q) (iq io : Nat) (hiq : atB (q : Int) (H.take s).2.blks = some iq) (hio : atB o (H.take s).2.blks = some io) :
    Calls Tryz.prog 14 #[.pointer (some ⟨p, 0, none⟩), .int .i64 o, .int .i64 (s : Int)] w fun e w' => Rez F w p (H.resize o s) e w' := by
  have hn512 := hok.n
  obtain ⟨hi, hoff, _⟩ := usedB_at hu
  have hcap : H.cap ≤ 100000 := by omega
  have hnx : nextF H.blks i = false := by unfold nextF; rw [hU, Bool.not_true, Bool.and_false]
  have hbN := both_no hnx
  have hg : growsB H i s = false := by unfold growsB; rw [decide_eq_false he]; rfl
  have e : H.resize o s = ((q, 0), (((H.take s).2.moveD (q : Int) o).giveO o).getD ((H.take s).2.moveD (q : Int) o)) := by unfold Hp.resize; rw [hu]; dsimp only; rw [if_neg (by omega), if_neg (by omega), hg, if_neg (by decide), htk]
  have hss := (isSz_iff _).1 hs
  have hle := hok.le
  obtain ⟨_, hszi, htl⟩ := hok.at_ hi
  have htl1 := (tile_mem _ _ _ htl).1
  have hsz := (isSz_iff _).1 hszi
  have HU := Lib.hid (husd_any h (by omega) o ho _ hu)
  have HLEN := Lib.hid (fun (W : World) (hW : Below w.heap.size w W) => hlen_any (h.below hW) (by omega) (by omega))
  have HE := Lib.hid e
  obtain ⟨wd, hwd⟩ : ∃ wd, w.drew = wd := ⟨_, rfl⟩
  have hbd : Below w.heap.size w wd := by rw [← hwd]; exact (Below.refl _ _).drew
  have hd := h.below hbd
  obtain ⟨b1, c1, rfl, _, hnc, _⟩ := own_nn h.ob (by omega)
  have q1 := h.c1
  have r0 := hd.c0
  have hpd := hd.lt
  have d1 := (h.at_n rfl hi).2.1
  have d2 := h.at_n rfl hE
  rw [hU] at d2
  obtain ⟨_, d3, d4⟩ := d2
  have HH := Lib.hid h
  have HD := Lib.hid hd
  have HBD := Lib.hid hbd
  have HWD := Lib.hid hwd
  have HOK := Lib.hid hok
  have HF := Lib.hid hf
  have HS := Lib.hid hs
  have HI := Lib.hid hi
  obtain ⟨xo, hxo⟩ : ∃ xo, (bkAt H.blks i).off = xo := ⟨_, rfl⟩
  obtain ⟨xs, hxs⟩ : ∃ xs, (bkAt H.blks i).size = xs := ⟨_, rfl⟩
  rw [hxo] at htl1 hoff he
  rw [hxs] at d1 hlt hsz htl1 hbN
  subst hoff
  obtain ⟨bo, hbo⟩ : ∃ bo, bothN H.blks i = bo := ⟨_, rfl⟩
  rw [hbo] at hbN hb he
  obtain ⟨ll, hll⟩ : ∃ ll, lenB H.blks = ll := ⟨_, rfl⟩
  rw [hll] at htl1 hle HLEN he
  obtain ⟨cap, hcp⟩ : ∃ cap, H.cap = cap := ⟨_, rfl⟩
  rw [hcp] at r0 hcap 
  obtain ⟨n, hn⟩ : ∃ n, H.blks.length = n := ⟨_, rfl⟩
  rw [hn] at q1 hi hnc hn512 hE
  have hin : (i : Int) < (n : Int) := by omega
  have hi2 : i ≤ 512 := by omega
  have hlt2 : (xs : Int) < (s : Int) := by omega
  have hie : (i : Int) + 1 < (n : Int) := by omega
  obtain ⟨k, hk⟩ : ∃ k : Nat, (i : Int) + 1 = (k : Int) := ⟨i + 1, by omega⟩
  have HK : Hid (k = i + 1) := (show _ = _ by omega)
  rw [← HK.out] at d4 d3
  have hkn : (k : Int) < (n : Int) := by omega
  have hbb : bo = xs := hbN
  have hbb2 : xs = bo := hbb.symm
  subst hbb2
  obtain ⟨ob, hob⟩ : ∃ ob : Nat, (xo : Int) + (xs : Int) = (ob : Int) := ⟨xo + xs, by omega⟩
  have hne : ((ob : Int) == (ll : Int)) = false := by rw [beq_eq_false_iff_ne]; omega
  have hne2 : (ob == ll) = false := by rw [beq_eq_false_iff_ne]; omega
  have g1 : decide ((s : Int) ≤ (xs : Int)) = false := decide_eq_false (by omega)
  have g1' : decide (s ≤ xs) = false := decide_eq_false (by omega)
  have hsb2 : (xs : Int) < (s : Int) := by omega
  have z1 : xo ≤ 16384 := by omega
  have z2 : xs ≤ 16384 := by omega
  have z3 : ll ≤ 16384 := by omega
  have z4 : s ≤ 16384 := by omega
  have z9 : ob ≤ 65536 := by omega
  have HN := Lib.hid hn
  have HBO := Lib.hid hbo
  have HXO := Lib.hid hxo
  have HXS := Lib.hid hxs
  have HNX := Lib.hid hnx
  have HTKE := Lib.hid htk
  have HLI := Lib.hid hL
  have HIQ := Lib.hid hiq
  have HIO := Lib.hid hio
  have HCP : Hid (H.cap = cap) := hcp
  clear h hok hf hu e hn hxo hs hd hbd hwd hbo hll hcp hnx hbN htl1 hle hss hsz htl hszi hlt hb hxs hi hE hU he hg htk hL hiq hio
  go_enter Tryz.func14, Tryz.ntmps14
  go_wp2_with fail
  refine HU.out.mono ?_
  rintro e w2 ⟨rfl, rfl⟩
  clear HU
  dsimp only [ixV]
  go_wp2_with fail
  refine (HLEN.out _ (Below.refl _ _)).mono ?_
  rintro e w2 ⟨rfl, rfl⟩
  go_wp2_with fail
  refine wp_region_tail wd.heap.size [([0, 1, 2, 3, 4, 5, 6, 8, 10, 12, 13, 14, 15], 7)] [9, 11, 16, 17, 18] [] (by kernel_rfl) (by kernel_rfl) (by kernel_rfl) (fun _ _ _ _ _ h => h) ?_
  rw [HWD.out]
  refine tail_cons (l := ?segAU2S) ?hsegAU2S ?_
  case hsegAU2S => simp only [pick, List.getElem?_toArray, List.getElem?_cons_succ, List.getElem?_cons_zero]; rfl
  repeat (go_big_quiet_step (fail))
  refine wpQuiet_nil ?_
  refine tail_out rfl (some 84) rfl rfl ⟨wd.heap.size, Nat.le_refl _, ?_⟩
  refine tail_last (l := ?laBU2S) (t := []) ?hlaBU2S ?htlBU2S ?_
  case hlaBU2S => simp only [pick, List.getElem?_toArray, List.getElem?_cons_succ, List.getElem?_cons_zero]; rfl
  case htlBU2S => rfl
  simp only [Act.put, List.setIfInBounds_toArray, List.set_cons_zero, List.set_cons_succ]
  repeat (go_big_quiet_step (fail))
  refine wpQuiet_nil ?_
  have ZD := Lib.hid ((Hz.start HH.out).below HBD.out)
  have HTA := Lib.hid (hTake_any HD.out HOK.out N HF.out (by omega) HLI.out s HS.out (by rw [HCP.out]; exact hcap))
  clear HD HH
  go_wp2_with fail
  refine HTA.out.mono ?_
  rintro e w3 ⟨rfl, ht⟩
  rw [HTKE.out]
  dsimp only [badT, Option.isSome, Option.getD]
  clear HTA
  obtain ⟨F3, Vb3, Vd3, gl3, cs3, z3⟩ := ZD.out.step ht
  have ok3 := HOK.out.take hc16 HS.out
  have fw3 : (H.take s).2.Few (N + 1) := HF.out.take
  have hq16 : q ≤ 100000 := by
    obtain ⟨g1, g2⟩ := atB_at HIQ.out
    have g3 := (tile_mem _ _ _ (ok3.at_ g1).2.2).1
    have g4 := ok3.le
    omega
  obtain ⟨H3, hH3⟩ : ∃ H3, (H.take s).2 = H3 := ⟨_, rfl⟩
  have HIQ3 : Hid (atB (q : Int) H3.blks = some iq) := (show _ = _ by rw [← hH3]; exact HIQ.out)
  have HIO3 : Hid (atB (xo : Int) H3.blks = some io) := (show _ = _ by rw [← hH3]; exact HIO.out)
  have HE3 : Hid (H.resize (xo : Int) s = ((q, 0), ((H3.moveD (q : Int) (xo : Int)).giveO (xo : Int)).getD (H3.moveD (q : Int) (xo : Int)))) := (show _ = _ by rw [← hH3]; exact HE.out)
  rw [hH3] at z3 ok3 fw3
  obtain ⟨wx, hwx⟩ : ∃ wx, w3.drew = wx := ⟨_, rfl⟩
  have hbx : Below w3.heap.size w3 wx := by rw [← hwx]; exact (Below.refl _ _).drew
  have zx := z3.below hbx
  have hn3 := ok3.n
  have l1 := (atB_at HIQ3.out).1
  have l2 := (atB_at HIO3.out).1
  obtain ⟨bd, cd, rfl, _, hncd, _⟩ := own_nn zx.hm.od (by rw [ok3.dl]; omega)
  obtain ⟨dn, hdn⟩ : ∃ dn, H3.ds.length = dn := ⟨_, rfl⟩
  have hdn3 := ok3.dl
  rw [hdn] at hdn3 hncd
  rw [hdn] at zx
  have k1 := zx.hm.c2
  have hodx := zx.hm.od
  rw [hdn] at hodx
  obtain ⟨dv, k2, k3⟩ := own_cell1 hodx (j := io) (by omega)
  obtain ⟨_, k4, _⟩ := own_cell1 hodx (j := iq) (by omega)
  have f1 := own_thaw hodx iq
  have hsl := zx.hm.sl
  have hgd : (H3.ds.getD io nilD).1 = dv := by
    rw [List.getElem?_map] at k3
    rw [List.getD_eq_getElem?_getD]
    cases h' : H3.ds[io]? with
    | none => rw [h'] at k3; cases k3
    | some y => rw [h'] at k3; injection k3
  have hslv : ∃ A n c, (H3.ds.getD io nilD).1 = Value.slice A n c := by
    rw [List.getD_eq_getElem?_getD]
    cases h' : H3.ds[io]? with
    | none => exact ⟨_, _, _, rfl⟩
    | some y => exact hsl y (List.mem_of_getElem? h')
  have hmv : H3.moveD (q : Int) (xo : Int) = H3.copyD iq io := by unfold Hp.moveD; rw [HIQ3.out, HIO3.out]
  have z4 := zx.set (a := ⟨bd, iq, none⟩) (u := (H3.ds.getD io nilD).1) (zx.hm.fd bd rfl) (zx.hm.dcell (by rw [hdn]) (H3.ds.getD io nilD) hslv)
  have z4 : Hz F w p F3 (wx.setCell ⟨bd, iq, none⟩ (H3.ds.getD io nilD).1) (H3.copyD iq io) Vb3 (.slice (some ⟨bd, 0, none⟩) dn cd) gl3 cs3 := z4
  rw [hgd, ← hmv] at z4
  obtain ⟨w4, hw4⟩ : ∃ w4, wx.setCell ⟨bd, iq, none⟩ dv = w4 := ⟨_, rfl⟩
  rw [hw4] at z4
  have bl4 : (H3.moveD (q : Int) (xo : Int)).blks = H3.blks := by rw [hmv]; rfl
  have ok4 : (H3.moveD (q : Int) (xo : Int)).Ok := ⟨by rw [bl4]; exact ok3.tl, by rw [bl4]; exact ok3.le, by rw [hmv]; show (H3.ds.set _ _).length = _; rw [List.length_set]; exact ok3.dl⟩
  have fw4 : (H3.moveD (q : Int) (xo : Int)).Few (N + 1) := by rw [hmv]; exact fw3
  have HGV := Lib.hid (hGive_any z4.hm ok4 (N + 1) fw4 (by omega) (xo : Int) ho)
  have HA1 := Lib.hid (hat_any zx.hm (by omega) (q : Int) (by omega) _ HIQ3.out)
  have HA2 := Lib.hid (hat_any zx.hm (by omega) (xo : Int) ho _ HIO3.out)
  have hpx := zx.hm.lt
  have hbdx : bd < wx.heap.size := own_lt hodx rfl
  have Z4 := Lib.hid z4
  have Hw11 := Lib.hid hwx
  have HW4 := Lib.hid hw4
  obtain ⟨Av, nv, cv, hdv⟩ := hslv
  rw [hgd] at hdv
  subst hdv
  have hi1 : (iq : Int) < (dn : Int) := by omega
  have hi2' : (io : Int) < (dn : Int) := by omega
  clear z3 zx z4 ok3 fw3 ok4 fw4 hH3 hwx hbx hodx hsl hgd hmv hw4 bl4 hn3 l1 l2 hdn3 ht ZD HIQ HIO HIQ3 HIO3 hdn k3
  go_wp2_with fail
  refine wp_region_tail wx.heap.size [([0, 1, 2, 3, 4, 5, 7, 8, 9, 10, 11, 12], 6), ([], 13)] [14, 15, 16] [17] (by kernel_rfl) (by kernel_rfl) (by kernel_rfl) (fun _ _ _ _ _ h => h) ?_
  rw [Hw11.out]
  have t1 : ∀ z : LaterB wx.heap.size wx, z.val.cell? ⟨p, 2, none⟩ = some (.slice (some ⟨bd, 0, none⟩) dn cd) := fun z => (z.ext.cell (p := ⟨p, 2, none⟩) hpx).trans k1
  refine tail_cons (l := ?segCU2S) ?hsegCU2S ?_
  case hsegCU2S => simp only [pick, List.getElem?_toArray, List.getElem?_cons_succ, List.getElem?_cons_zero]; rfl
  repeat (go_big_quiet_step (fail))
  refine wpQuiet_nil ?_
  clear t1
  refine tail_call (vs := #[.pointer (some ⟨p, 0, none⟩), .int .i64 (q : Int)]) Tryz.call41 rfl rfl rfl (R := fun r w' => r = .int .i64 (iq : Int) ∧ w' = wx) (HA1.out.mono ?_) wx.heap.size (Nat.le_refl _) ?_
  · rintro e w' ⟨rfl, rfl⟩
    exact ⟨_, rfl, Below.refl _ _, rfl, rfl⟩
  rintro r w11 _ ⟨rfl, rfl⟩
  refine tail_cons (l := []) rfl ?_
  refine wpQuiet_nil ?_
  refine tail_call (vs := #[.pointer (some ⟨p, 0, none⟩), .int .i64 (xo : Int)]) Tryz.call41 rfl rfl rfl (R := fun r w' => r = .int .i64 (io : Int) ∧ w' = w11) (HA2.out.mono ?_) w11.heap.size (Nat.le_refl _) ?_
  · rintro e w' ⟨rfl, rfl⟩
    exact ⟨_, rfl, Below.refl _ _, rfl, rfl⟩
  rintro r w12 _ ⟨rfl, rfl⟩
  refine tail_last (l := ?laEU2S) (t := ?tlEU2S) ?hlaEU2S ?htlEU2S ?_
  case hlaEU2S => simp only [pick, List.getElem?_toArray, List.getElem?_cons_succ, List.getElem?_cons_zero]; rfl
  case htlEU2S => simp only [pick, List.getElem?_toArray, List.getElem?_cons_succ, List.getElem?_cons_zero]; rfl
  simp only [Act.put, List.setIfInBounds_toArray, List.set_cons_zero, List.set_cons_succ]
  have t2 : ∀ z : LaterB w12.heap.size w12, z.val.cell? ⟨bd, io, none⟩ = some (.slice Av nv cv) := fun z => (z.ext.cell (p := ⟨bd, io, none⟩) hbdx).trans k2
  repeat (go_big_quiet_step (fail))
  refine wpQuiet_nil ?_
  clear t2
  go_wp2_with (first | (rw [HW4.out]) | fail)
  refine HGV.out.mono ?_
  rintro e w5 ⟨rfl, ht⟩
  have hto : Rez F w p (H.resize (xo : Int) s) (.returned (.tuple #[.int .i64 (q : Int), .int .i64 0])) w5 := by
    rw [HE3.out]
    exact ⟨rfl, Z4.out.last ht⟩
  have HTO := Lib.hid hto
  clear hto ht HGV Z4 k1 k2 k4 f1
  go_wp2
  go_ret2
  exact HTO.out

set_option maxRecDepth 100000 in
set_option maxHeartbeats 4000000 in
theorem hrez_Y2N (h : Hm F w p H Vb Vd gl cs) (hok : H.Ok) (N : Nat) (hf : H.Few N) (hN : N ≤ 40000) (s : Nat) (hs : isSz (s : Int) = true) (hcap : H.cap ≤ 100000) (hL : H.Listed) (o : Int) (ho : -9223372036854775808 ≤ o ∧ o ≤ 9223372036854775807) (i : Nat) (hu : usedB H.blks o = some i) (hlt : (bkAt H.blks i).size < s) (hE : i + 1 < H.blks.length) (hU : (bkAt H.blks (i + 1)).used = false) (hb : bothN H.blks i < s) (he : (bkAt H.blks i).off + bothN H.blks i ≠ lenB H.blks) (htk : (H.take s).1 = none) :
    Calls Tryz.prog 14 #[.pointer (some ⟨p, 0, none⟩), .int .i64 o, .int .i64 (s : Int)] w fun e w' => Rez F w p (H.resize o s) e w' := by
  have hn512 := hok.n
  obtain ⟨hi, hoff, _⟩ := usedB_at hu
  have hnx : nextF H.blks i = true := by unfold nextF; rw [hU, decide_eq_true hE]; rfl
  have hbN := both_yes hnx
  have hg : growsB H i s = false := by unfold growsB; rw [decide_eq_false he]; rfl
  have e : H.resize o s = ((0, 5), H) := by unfold Hp.resize; rw [hu]; dsimp only; rw [if_neg (by omega), if_neg (by omega), hg, if_neg (by decide), htk]
  have hss := (isSz_iff _).1 hs
  have hle := hok.le
  obtain ⟨_, hszi, htl⟩ := hok.at_ hi
  have htl1 := (tile_mem _ _ _ htl).1
  have hsz := (isSz_iff _).1 hszi
  have HU := Lib.hid (husd_any h (by omega) o ho _ hu)
  have HLEN := Lib.hid (fun (W : World) (hW : Below w.heap.size w W) => hlen_any (h.below hW) (by omega) (by omega))
  have h2s := (hok.two hE).2
  obtain ⟨k, hk0⟩ : ∃ k, i + 1 = k := ⟨_, rfl⟩
  have HOUT := Lib.hid (fun (W : World) (hW : Below w.heap.size w W) => hout_any (h.below hW) k (by rw [← hk0]; exact hE) (hok.sz (by rw [← hk0]; exact hE)) (fun d hd => Nat.le_trans (hf d hd) (by omega)))
  have hs2 := (isSz_iff _).1 (hok.sz hE)
  have HE := Lib.hid e
  obtain ⟨wd, hwd⟩ : ∃ wd, w.drew = wd := ⟨_, rfl⟩
  have hbd : Below w.heap.size w wd := by rw [← hwd]; exact (Below.refl _ _).drew
  have hd := h.below hbd
  obtain ⟨b1, c1, rfl, _, hnc, _⟩ := own_nn h.ob (by omega)
  have q1 := h.c1
  have r0 := hd.c0
  have hpd := hd.lt
  have d1 := (h.at_n rfl hi).2.1
  have d2 := h.at_n rfl hE
  rw [hU] at d2
  obtain ⟨_, d3, d4⟩ := d2
  have HH := Lib.hid h
  have HD := Lib.hid hd
  have HBD := Lib.hid hbd
  have HWD := Lib.hid hwd
  have HOK := Lib.hid hok
  have HF := Lib.hid hf
  have HS := Lib.hid hs
  have HI := Lib.hid hi
  obtain ⟨xo, hxo⟩ : ∃ xo, (bkAt H.blks i).off = xo := ⟨_, rfl⟩
  obtain ⟨xs, hxs⟩ : ∃ xs, (bkAt H.blks i).size = xs := ⟨_, rfl⟩
  rw [hxo] at htl1 hoff he
  rw [hxs] at d1 hlt hsz htl1 hbN h2s
  subst hoff
  obtain ⟨x2, hx2⟩ : ∃ x2, (bkAt H.blks (i + 1)).size = x2 := ⟨_, rfl⟩
  rw [hx2] at d3 hbN h2s hs2
  obtain ⟨bo, hbo⟩ : ∃ bo, bothN H.blks i = bo := ⟨_, rfl⟩
  rw [hbo] at hbN hb he
  obtain ⟨ll, hll⟩ : ∃ ll, lenB H.blks = ll := ⟨_, rfl⟩
  rw [hll] at htl1 hle HLEN he
  obtain ⟨cap, hcp⟩ : ∃ cap, H.cap = cap := ⟨_, rfl⟩
  rw [hcp] at r0 hcap 
  obtain ⟨n, hn⟩ : ∃ n, H.blks.length = n := ⟨_, rfl⟩
  rw [hn] at q1 hi hnc hn512 hE
  have hin : (i : Int) < (n : Int) := by omega
  have hi2 : i ≤ 512 := by omega
  have hlt2 : (xs : Int) < (s : Int) := by omega
  have hie : (i : Int) + 1 < (n : Int) := by omega
  have hk : (i : Int) + 1 = (k : Int) := by omega
  have HK : Hid (k = i + 1) := (show _ = _ by omega)
  rw [← HK.out] at d4 d3
  have hkn : (k : Int) < (n : Int) := by omega
  have hsb : (xs : Int) + (x2 : Int) = (bo : Int) := by omega
  obtain ⟨ob, hob⟩ : ∃ ob : Nat, (xo : Int) + (bo : Int) = (ob : Int) := ⟨xo + bo, by omega⟩
  have hne : ((ob : Int) == (ll : Int)) = false := by rw [beq_eq_false_iff_ne]; omega
  have hne2 : (ob == ll) = false := by rw [beq_eq_false_iff_ne]; omega
  have g1 : decide ((s : Int) ≤ (bo : Int)) = false := decide_eq_false (by omega)
  have g1' : decide (s ≤ bo) = false := decide_eq_false (by omega)
  have hsb2 : (bo : Int) < (s : Int) := by omega
  have hx0 : 0 < (x2 : Int) := by omega
  have z1 : xo ≤ 16384 := by omega
  have z2 : xs ≤ 16384 := by omega
  have z3 : ll ≤ 16384 := by omega
  have z4 : s ≤ 16384 := by omega
  have z5 : bo ≤ 32768 := by omega
  have z6 : x2 ≤ 16384 := by omega
  have z9 : ob ≤ 65536 := by omega
  have HN := Lib.hid hn
  have HBO := Lib.hid hbo
  have HXO := Lib.hid hxo
  have HXS := Lib.hid hxs
  have HNX := Lib.hid hnx
  have HX2 := Lib.hid hx2
  have HTKE := Lib.hid htk
  have HLI := Lib.hid hL
  have HCP : Hid (H.cap = cap) := hcp
  clear h hok hf hu e hn hxo hs hd hbd hwd hbo hll hcp hnx hbN htl1 hle hss hsz htl hszi hlt hb hxs hi hE hx2 hU h2s hs2 hk0 he hg htk hL
  go_enter Tryz.func14, Tryz.ntmps14
  go_wp2_with fail
  refine HU.out.mono ?_
  rintro e w2 ⟨rfl, rfl⟩
  clear HU
  dsimp only [ixV]
  go_wp2_with fail
  refine (HLEN.out _ (Below.refl _ _)).mono ?_
  rintro e w2 ⟨rfl, rfl⟩
  go_wp2_with fail
  refine wp_region_tail wd.heap.size [([0, 1, 2, 3, 4, 5, 6, 8, 10, 12, 13, 14, 15], 7)] [9, 11, 16, 17, 18] [] (by kernel_rfl) (by kernel_rfl) (by kernel_rfl) (fun _ _ _ _ _ h => h) ?_
  rw [HWD.out]
  refine tail_cons (l := ?segAY2N) ?hsegAY2N ?_
  case hsegAY2N => simp only [pick, List.getElem?_toArray, List.getElem?_cons_succ, List.getElem?_cons_zero]; rfl
  repeat (go_big_quiet_step (fail))
  refine wpQuiet_nil ?_
  refine tail_out rfl (some 84) rfl rfl ⟨wd.heap.size, Nat.le_refl _, ?_⟩
  refine tail_last (l := ?laBY2N) (t := []) ?hlaBY2N ?htlBY2N ?_
  case hlaBY2N => simp only [pick, List.getElem?_toArray, List.getElem?_cons_succ, List.getElem?_cons_zero]; rfl
  case htlBY2N => rfl
  simp only [Act.put, List.setIfInBounds_toArray, List.set_cons_zero, List.set_cons_succ]
  repeat (go_big_quiet_step (fail))
  refine wpQuiet_nil ?_
  have ZD := Lib.hid ((Hz.start HH.out).below HBD.out)
  have HTA := Lib.hid (hTake_any HD.out HOK.out N HF.out (by omega) HLI.out s HS.out (by rw [HCP.out]; exact hcap))
  clear HD HH HOUT
  go_wp2_with fail
  refine HTA.out.mono ?_
  rintro e w3 ⟨rfl, ht⟩
  rw [HTKE.out]
  dsimp only [badT, Option.isSome, Option.getD]
  clear HTA
  have hsame := take_none_eq HTKE.out
  rw [hsame] at ht
  have hto : Rez F w p (H.resize (xo : Int) s) (.returned (.tuple #[.int .i64 0, .int .i64 5])) w3 := by
    rw [HE.out]
    exact ⟨rfl, ZD.out.last ht⟩
  have HTO := Lib.hid hto
  clear hto ht hsame ZD
  go_wp2
  go_ret2
  exact HTO.out

set_option maxRecDepth 100000 in
set_option maxHeartbeats 4000000 in
theorem hrez_Y2S (h : Hm F w p H Vb Vd gl cs) (hok : H.Ok) (N : Nat) (hf : H.Few N) (hN : N ≤ 40000) (s : Nat) (hs : isSz (s : Int) = true) (hL : H.Listed) (o : Int) (ho : -9223372036854775808 ≤ o ∧ o ≤ 9223372036854775807) (i : Nat) (hu : usedB H.blks o = some i) (hlt : (bkAt H.blks i).size < s) (hE : i + 1 < H.blks.length) (hU : (bkAt H.blks (i + 1)).used = false) (hb : bothN H.blks i < s) (he : (bkAt H.blks i).off + bothN H.blks i ≠ lenB H.blks) (hc16 : H.cap ≤ 16384) (q : Nat) (htk : (H.take s).1 = some q) (iq io : Nat) (hiq : atB (q : Int) (H.take s).2.blks = some iq) (hio : atB o (H.take s).2.blks = some io) :
    Calls Tryz.prog 14 #[.pointer (some ⟨p, 0, none⟩), .int .i64 o, .int .i64 (s : Int)] w fun e w' => Rez F w p (H.resize o s) e w' := by
  have hn512 := hok.n
  obtain ⟨hi, hoff, _⟩ := usedB_at hu
  have hcap : H.cap ≤ 100000 := by omega
  have hnx : nextF H.blks i = true := by unfold nextF; rw [hU, decide_eq_true hE]; rfl
  have hbN := both_yes hnx
  have hg : growsB H i s = false := by unfold growsB; rw [decide_eq_false he]; rfl
  have e : H.resize o s = ((q, 0), (((H.take s).2.moveD (q : Int) o).giveO o).getD ((H.take s).2.moveD (q : Int) o)) := by unfold Hp.resize; rw [hu]; dsimp only; rw [if_neg (by omega), if_neg (by omega), hg, if_neg (by decide), htk]
  have hss := (isSz_iff _).1 hs
  have hle := hok.le
  obtain ⟨_, hszi, htl⟩ := hok.at_ hi
  have htl1 := (tile_mem _ _ _ htl).1
  have hsz := (isSz_iff _).1 hszi
  have HU := Lib.hid (husd_any h (by omega) o ho _ hu)
  have HLEN := Lib.hid (fun (W : World) (hW : Below w.heap.size w W) => hlen_any (h.below hW) (by omega) (by omega))
  have h2s := (hok.two hE).2
  obtain ⟨k, hk0⟩ : ∃ k, i + 1 = k := ⟨_, rfl⟩
  have HOUT := Lib.hid (fun (W : World) (hW : Below w.heap.size w W) => hout_any (h.below hW) k (by rw [← hk0]; exact hE) (hok.sz (by rw [← hk0]; exact hE)) (fun d hd => Nat.le_trans (hf d hd) (by omega)))
  have hs2 := (isSz_iff _).1 (hok.sz hE)
  have HE := Lib.hid e
  obtain ⟨wd, hwd⟩ : ∃ wd, w.drew = wd := ⟨_, rfl⟩
  have hbd : Below w.heap.size w wd := by rw [← hwd]; exact (Below.refl _ _).drew
  have hd := h.below hbd
  obtain ⟨b1, c1, rfl, _, hnc, _⟩ := own_nn h.ob (by omega)
  have q1 := h.c1
  have r0 := hd.c0
  have hpd := hd.lt
  have d1 := (h.at_n rfl hi).2.1
  have d2 := h.at_n rfl hE
  rw [hU] at d2
  obtain ⟨_, d3, d4⟩ := d2
  have HH := Lib.hid h
  have HD := Lib.hid hd
  have HBD := Lib.hid hbd
  have HWD := Lib.hid hwd
  have HOK := Lib.hid hok
  have HF := Lib.hid hf
  have HS := Lib.hid hs
  have HI := Lib.hid hi
  obtain ⟨xo, hxo⟩ : ∃ xo, (bkAt H.blks i).off = xo := ⟨_, rfl⟩
  obtain ⟨xs, hxs⟩ : ∃ xs, (bkAt H.blks i).size = xs := ⟨_, rfl⟩
  rw [hxo] at htl1 hoff he
  rw [hxs] at d1 hlt hsz htl1 hbN h2s
  subst hoff
  obtain ⟨x2, hx2⟩ : ∃ x2, (bkAt H.blks (i + 1)).size = x2 := ⟨_, rfl⟩
  rw [hx2] at d3 hbN h2s hs2
  obtain ⟨bo, hbo⟩ : ∃ bo, bothN H.blks i = bo := ⟨_, rfl⟩
  rw [hbo] at hbN hb he
  obtain ⟨ll, hll⟩ : ∃ ll, lenB H.blks = ll := ⟨_, rfl⟩
  rw [hll] at htl1 hle HLEN he
  obtain ⟨cap, hcp⟩ : ∃ cap, H.cap = cap := ⟨_, rfl⟩
  rw [hcp] at r0 hcap 
  obtain ⟨n, hn⟩ : ∃ n, H.blks.length = n := ⟨_, rfl⟩
  rw [hn] at q1 hi hnc hn512 hE
  have hin : (i : Int) < (n : Int) := by omega
  have hi2 : i ≤ 512 := by omega
  have hlt2 : (xs : Int) < (s : Int) := by omega
  have hie : (i : Int) + 1 < (n : Int) := by omega
  have hk : (i : Int) + 1 = (k : Int) := by omega
  have HK : Hid (k = i + 1) := (show _ = _ by omega)
  rw [← HK.out] at d4 d3
  have hkn : (k : Int) < (n : Int) := by omega
  have hsb : (xs : Int) + (x2 : Int) = (bo : Int) := by omega
  obtain ⟨ob, hob⟩ : ∃ ob : Nat, (xo : Int) + (bo : Int) = (ob : Int) := ⟨xo + bo, by omega⟩
  have hne : ((ob : Int) == (ll : Int)) = false := by rw [beq_eq_false_iff_ne]; omega
  have hne2 : (ob == ll) = false := by rw [beq_eq_false_iff_ne]; omega
  have g1 : decide ((s : Int) ≤ (bo : Int)) = false := decide_eq_false (by omega)
  have g1' : decide (s ≤ bo) = false := decide_eq_false (by omega)
  have hsb2 : (bo : Int) < (s : Int) := by omega
  have hx0 : 0 < (x2 : Int) := by omega
  have z1 : xo ≤ 16384 := by omega
  have z2 : xs ≤ 16384 := by omega
  have z3 : ll ≤ 16384 := by omega
  have z4 : s ≤ 16384 := by omega
  have z5 : bo ≤ 32768 := by omega
  have z6 : x2 ≤ 16384 := by omega
  have z9 : ob ≤ 65536 := by omega
  have HN := Lib.hid hn
  have HBO := Lib.hid hbo
  have HXO := Lib.hid hxo
  have HXS := Lib.hid hxs
  have HNX := Lib.hid hnx
  have HX2 := Lib.hid hx2
  have HTKE := Lib.hid htk
  have HLI := Lib.hid hL
  have HIQ := Lib.hid hiq
  have HIO := Lib.hid hio
  have HCP : Hid (H.cap = cap) := hcp
  clear h hok hf hu e hn hxo hs hd hbd hwd hbo hll hcp hnx hbN htl1 hle hss hsz htl hszi hlt hb hxs hi hE hx2 hU h2s hs2 hk0 he hg htk hL hiq hio
  go_enter Tryz.func14, Tryz.ntmps14
  go_wp2_with fail
  refine HU.out.mono ?_
  rintro e w2 ⟨rfl, rfl⟩
  clear HU
  dsimp only [ixV]
  go_wp2_with fail
  refine (HLEN.out _ (Below.refl _ _)).mono ?_
  rintro e w2 ⟨rfl, rfl⟩
  go_wp2_with fail
  refine wp_region_tail wd.heap.size [([0, 1, 2, 3, 4, 5, 6, 8, 10, 12, 13, 14, 15], 7)] [9, 11, 16, 17, 18] [] (by kernel_rfl) (by kernel_rfl) (by kernel_rfl) (fun _ _ _ _ _ h => h) ?_
  rw [HWD.out]
  refine tail_cons (l := ?segAY2S) ?hsegAY2S ?_
  case hsegAY2S => simp only [pick, List.getElem?_toArray, List.getElem?_cons_succ, List.getElem?_cons_zero]; rfl
  repeat (go_big_quiet_step (fail))
  refine wpQuiet_nil ?_
  refine tail_out rfl (some 84) rfl rfl ⟨wd.heap.size, Nat.le_refl _, ?_⟩
  refine tail_last (l := ?laBY2S) (t := []) ?hlaBY2S ?htlBY2S ?_
  case hlaBY2S => simp only [pick, List.getElem?_toArray, List.getElem?_cons_succ, List.getElem?_cons_zero]; rfl
  case htlBY2S => rfl
  simp only [Act.put, List.setIfInBounds_toArray, List.set_cons_zero, List.set_cons_succ]
  repeat (go_big_quiet_step (fail))
  refine wpQuiet_nil ?_
  have ZD := Lib.hid ((Hz.start HH.out).below HBD.out)
  have HTA := Lib.hid (hTake_any HD.out HOK.out N HF.out (by omega) HLI.out s HS.out (by rw [HCP.out]; exact hcap))
  clear HD HH HOUT
  go_wp2_with fail
  refine HTA.out.mono ?_
  rintro e w3 ⟨rfl, ht⟩
  rw [HTKE.out]
  dsimp only [badT, Option.isSome, Option.getD]
  clear HTA
  obtain ⟨F3, Vb3, Vd3, gl3, cs3, z3⟩ := ZD.out.step ht
  have ok3 := HOK.out.take hc16 HS.out
  have fw3 : (H.take s).2.Few (N + 1) := HF.out.take
  have hq16 : q ≤ 100000 := by
    obtain ⟨g1, g2⟩ := atB_at HIQ.out
    have g3 := (tile_mem _ _ _ (ok3.at_ g1).2.2).1
    have g4 := ok3.le
    omega
  obtain ⟨H3, hH3⟩ : ∃ H3, (H.take s).2 = H3 := ⟨_, rfl⟩
  have HIQ3 : Hid (atB (q : Int) H3.blks = some iq) := (show _ = _ by rw [← hH3]; exact HIQ.out)
  have HIO3 : Hid (atB (xo : Int) H3.blks = some io) := (show _ = _ by rw [← hH3]; exact HIO.out)
  have HE3 : Hid (H.resize (xo : Int) s = ((q, 0), ((H3.moveD (q : Int) (xo : Int)).giveO (xo : Int)).getD (H3.moveD (q : Int) (xo : Int)))) := (show _ = _ by rw [← hH3]; exact HE.out)
  rw [hH3] at z3 ok3 fw3
  obtain ⟨wx, hwx⟩ : ∃ wx, w3.drew = wx := ⟨_, rfl⟩
  have hbx : Below w3.heap.size w3 wx := by rw [← hwx]; exact (Below.refl _ _).drew
  have zx := z3.below hbx
  have hn3 := ok3.n
  have l1 := (atB_at HIQ3.out).1
  have l2 := (atB_at HIO3.out).1
  obtain ⟨bd, cd, rfl, _, hncd, _⟩ := own_nn zx.hm.od (by rw [ok3.dl]; omega)
  obtain ⟨dn, hdn⟩ : ∃ dn, H3.ds.length = dn := ⟨_, rfl⟩
  have hdn3 := ok3.dl
  rw [hdn] at hdn3 hncd
  rw [hdn] at zx
  have k1 := zx.hm.c2
  have hodx := zx.hm.od
  rw [hdn] at hodx
  obtain ⟨dv, k2, k3⟩ := own_cell1 hodx (j := io) (by omega)
  obtain ⟨_, k4, _⟩ := own_cell1 hodx (j := iq) (by omega)
  have f1 := own_thaw hodx iq
  have hsl := zx.hm.sl
  have hgd : (H3.ds.getD io nilD).1 = dv := by
    rw [List.getElem?_map] at k3
    rw [List.getD_eq_getElem?_getD]
    cases h' : H3.ds[io]? with
    | none => rw [h'] at k3; cases k3
    | some y => rw [h'] at k3; injection k3
  have hslv : ∃ A n c, (H3.ds.getD io nilD).1 = Value.slice A n c := by
    rw [List.getD_eq_getElem?_getD]
    cases h' : H3.ds[io]? with
    | none => exact ⟨_, _, _, rfl⟩
    | some y => exact hsl y (List.mem_of_getElem? h')
  have hmv : H3.moveD (q : Int) (xo : Int) = H3.copyD iq io := by unfold Hp.moveD; rw [HIQ3.out, HIO3.out]
  have z4 := zx.set (a := ⟨bd, iq, none⟩) (u := (H3.ds.getD io nilD).1) (zx.hm.fd bd rfl) (zx.hm.dcell (by rw [hdn]) (H3.ds.getD io nilD) hslv)
  have z4 : Hz F w p F3 (wx.setCell ⟨bd, iq, none⟩ (H3.ds.getD io nilD).1) (H3.copyD iq io) Vb3 (.slice (some ⟨bd, 0, none⟩) dn cd) gl3 cs3 := z4
  rw [hgd, ← hmv] at z4
  obtain ⟨w4, hw4⟩ : ∃ w4, wx.setCell ⟨bd, iq, none⟩ dv = w4 := ⟨_, rfl⟩
  rw [hw4] at z4
  have bl4 : (H3.moveD (q : Int) (xo : Int)).blks = H3.blks := by rw [hmv]; rfl
  have ok4 : (H3.moveD (q : Int) (xo : Int)).Ok := ⟨by rw [bl4]; exact ok3.tl, by rw [bl4]; exact ok3.le, by rw [hmv]; show (H3.ds.set _ _).length = _; rw [List.length_set]; exact ok3.dl⟩
  have fw4 : (H3.moveD (q : Int) (xo : Int)).Few (N + 1) := by rw [hmv]; exact fw3
  have HGV := Lib.hid (hGive_any z4.hm ok4 (N + 1) fw4 (by omega) (xo : Int) ho)
  have HA1 := Lib.hid (hat_any zx.hm (by omega) (q : Int) (by omega) _ HIQ3.out)
  have HA2 := Lib.hid (hat_any zx.hm (by omega) (xo : Int) ho _ HIO3.out)
  have hpx := zx.hm.lt
  have hbdx : bd < wx.heap.size := own_lt hodx rfl
  have Z4 := Lib.hid z4
  have Hw11 := Lib.hid hwx
  have HW4 := Lib.hid hw4
  obtain ⟨Av, nv, cv, hdv⟩ := hslv
  rw [hgd] at hdv
  subst hdv
  have hi1 : (iq : Int) < (dn : Int) := by omega
  have hi2' : (io : Int) < (dn : Int) := by omega
  clear z3 zx z4 ok3 fw3 ok4 fw4 hH3 hwx hbx hodx hsl hgd hmv hw4 bl4 hn3 l1 l2 hdn3 ht ZD HIQ HIO HIQ3 HIO3 hdn k3
  go_wp2_with fail
  refine wp_region_tail wx.heap.size [([0, 1, 2, 3, 4, 5, 7, 8, 9, 10, 11, 12], 6), ([], 13)] [14, 15, 16] [17] (by kernel_rfl) (by kernel_rfl) (by kernel_rfl) (fun _ _ _ _ _ h => h) ?_
  rw [Hw11.out]
  have t1 : ∀ z : LaterB wx.heap.size wx, z.val.cell? ⟨p, 2, none⟩ = some (.slice (some ⟨bd, 0, none⟩) dn cd) := fun z => (z.ext.cell (p := ⟨p, 2, none⟩) hpx).trans k1
  refine tail_cons (l := ?segCY2S) ?hsegCY2S ?_
  case hsegCY2S => simp only [pick, List.getElem?_toArray, List.getElem?_cons_succ, List.getElem?_cons_zero]; rfl
  repeat (go_big_quiet_step (fail))
  refine wpQuiet_nil ?_
  clear t1
  refine tail_call (vs := #[.pointer (some ⟨p, 0, none⟩), .int .i64 (q : Int)]) Tryz.call41 rfl rfl rfl (R := fun r w' => r = .int .i64 (iq : Int) ∧ w' = wx) (HA1.out.mono ?_) wx.heap.size (Nat.le_refl _) ?_
  · rintro e w' ⟨rfl, rfl⟩
    exact ⟨_, rfl, Below.refl _ _, rfl, rfl⟩
  rintro r w11 _ ⟨rfl, rfl⟩
  refine tail_cons (l := []) rfl ?_
  refine wpQuiet_nil ?_
  refine tail_call (vs := #[.pointer (some ⟨p, 0, none⟩), .int .i64 (xo : Int)]) Tryz.call41 rfl rfl rfl (R := fun r w' => r = .int .i64 (io : Int) ∧ w' = w11) (HA2.out.mono ?_) w11.heap.size (Nat.le_refl _) ?_
  · rintro e w' ⟨rfl, rfl⟩
    exact ⟨_, rfl, Below.refl _ _, rfl, rfl⟩
  rintro r w12 _ ⟨rfl, rfl⟩
  refine tail_last (l := ?laEY2S) (t := ?tlEY2S) ?hlaEY2S ?htlEY2S ?_
  case hlaEY2S => simp only [pick, List.getElem?_toArray, List.getElem?_cons_succ, List.getElem?_cons_zero]; rfl
  case htlEY2S => simp only [pick, List.getElem?_toArray, List.getElem?_cons_succ, List.getElem?_cons_zero]; rfl
  simp only [Act.put, List.setIfInBounds_toArray, List.set_cons_zero, List.set_cons_succ]
  have t2 : ∀ z : LaterB w12.heap.size w12, z.val.cell? ⟨bd, io, none⟩ = some (.slice Av nv cv) := fun z => (z.ext.cell (p := ⟨bd, io, none⟩) hbdx).trans k2
  repeat (go_big_quiet_step (fail))
  refine wpQuiet_nil ?_
  clear t2
  go_wp2_with (first | (rw [HW4.out]) | fail)
  refine HGV.out.mono ?_
  rintro e w5 ⟨rfl, ht⟩
  have hto : Rez F w p (H.resize (xo : Int) s) (.returned (.tuple #[.int .i64 (q : Int), .int .i64 0])) w5 := by
    rw [HE3.out]
    exact ⟨rfl, Z4.out.last ht⟩
  have HTO := Lib.hid hto
  clear hto ht HGV Z4 k1 k2 k4 f1
  go_wp2
  go_ret2
  exact HTO.out

set_option maxRecDepth 100000 in
set_option maxHeartbeats 4000000 in
theorem hrez_Y3N (h : Hm F w p H Vb Vd gl cs) (hok : H.Ok) (N : Nat) (hf : H.Few N) (hN : N ≤ 40000) (s : Nat) (hs : isSz (s : Int) = true) (hcap : H.cap ≤ 100000) (hL : H.Listed) (o : Int) (ho : -9223372036854775808 ≤ o ∧ o ≤ 9223372036854775807) (i : Nat) (hu : usedB H.blks o = some i) (hlt : (bkAt H.blks i).size < s) (hE : i + 1 < H.blks.length) (hU : (bkAt H.blks (i + 1)).used = false) (hb : bothN H.blks i < s) (he : (bkAt H.blks i).off + bothN H.blks i = lenB H.blks) (hfit : ¬ lenB H.blks + s - bothN H.blks i ≤ H.cap) (htk : (H.take s).1 = none) :
    Calls Tryz.prog 14 #[.pointer (some ⟨p, 0, none⟩), .int .i64 o, .int .i64 (s : Int)] w fun e w' => Rez F w p (H.resize o s) e w' := by
  have hn512 := hok.n
  obtain ⟨hi, hoff, _⟩ := usedB_at hu
  have hnx : nextF H.blks i = true := by unfold nextF; rw [hU, decide_eq_true hE]; rfl
  have hbN := both_yes hnx
  have hg : growsB H i s = false := by unfold growsB; rw [decide_eq_false hfit, Bool.and_false]
  have e : H.resize o s = ((0, 5), H) := by unfold Hp.resize; rw [hu]; dsimp only; rw [if_neg (by omega), if_neg (by omega), hg, if_neg (by decide), htk]
  have hss := (isSz_iff _).1 hs
  have hle := hok.le
  obtain ⟨_, hszi, htl⟩ := hok.at_ hi
  have htl1 := (tile_mem _ _ _ htl).1
  have hsz := (isSz_iff _).1 hszi
  have HU := Lib.hid (husd_any h (by omega) o ho _ hu)
  have HLEN := Lib.hid (fun (W : World) (hW : Below w.heap.size w W) => hlen_any (h.below hW) (by omega) (by omega))
  have h2s := (hok.two hE).2
  obtain ⟨k, hk0⟩ : ∃ k, i + 1 = k := ⟨_, rfl⟩
  have HOUT := Lib.hid (fun (W : World) (hW : Below w.heap.size w W) => hout_any (h.below hW) k (by rw [← hk0]; exact hE) (hok.sz (by rw [← hk0]; exact hE)) (fun d hd => Nat.le_trans (hf d hd) (by omega)))
  have hs2 := (isSz_iff _).1 (hok.sz hE)
  have HE := Lib.hid e
  obtain ⟨wd, hwd⟩ : ∃ wd, w.drew = wd := ⟨_, rfl⟩
  have hbd : Below w.heap.size w wd := by rw [← hwd]; exact (Below.refl _ _).drew
  have hd := h.below hbd
  obtain ⟨b1, c1, rfl, _, hnc, _⟩ := own_nn h.ob (by omega)
  have q1 := h.c1
  have r0 := hd.c0
  have hpd := hd.lt
  have d1 := (h.at_n rfl hi).2.1
  have d2 := h.at_n rfl hE
  rw [hU] at d2
  obtain ⟨_, d3, d4⟩ := d2
  have HH := Lib.hid h
  have HD := Lib.hid hd
  have HBD := Lib.hid hbd
  have HWD := Lib.hid hwd
  have HOK := Lib.hid hok
  have HF := Lib.hid hf
  have HS := Lib.hid hs
  have HI := Lib.hid hi
  obtain ⟨xo, hxo⟩ : ∃ xo, (bkAt H.blks i).off = xo := ⟨_, rfl⟩
  obtain ⟨xs, hxs⟩ : ∃ xs, (bkAt H.blks i).size = xs := ⟨_, rfl⟩
  rw [hxo] at htl1 hoff he
  rw [hxs] at d1 hlt hsz htl1 hbN h2s
  subst hoff
  obtain ⟨x2, hx2⟩ : ∃ x2, (bkAt H.blks (i + 1)).size = x2 := ⟨_, rfl⟩
  rw [hx2] at d3 hbN h2s hs2
  obtain ⟨bo, hbo⟩ : ∃ bo, bothN H.blks i = bo := ⟨_, rfl⟩
  rw [hbo] at hbN hb he hfit
  obtain ⟨ll, hll⟩ : ∃ ll, lenB H.blks = ll := ⟨_, rfl⟩
  rw [hll] at htl1 hle HLEN he hfit
  obtain ⟨cap, hcp⟩ : ∃ cap, H.cap = cap := ⟨_, rfl⟩
  rw [hcp] at r0 hcap hfit
  obtain ⟨n, hn⟩ : ∃ n, H.blks.length = n := ⟨_, rfl⟩
  rw [hn] at q1 hi hnc hn512 hE
  have hin : (i : Int) < (n : Int) := by omega
  have hi2 : i ≤ 512 := by omega
  have hlt2 : (xs : Int) < (s : Int) := by omega
  have hie : (i : Int) + 1 < (n : Int) := by omega
  have hk : (i : Int) + 1 = (k : Int) := by omega
  have HK : Hid (k = i + 1) := (show _ = _ by omega)
  rw [← HK.out] at d4 d3
  have hkn : (k : Int) < (n : Int) := by omega
  have hsb : (xs : Int) + (x2 : Int) = (bo : Int) := by omega
  have hend : (xo : Int) + (bo : Int) = (ll : Int) := by omega
  have g1 : decide ((s : Int) ≤ (bo : Int)) = false := decide_eq_false (by omega)
  have g1' : decide (s ≤ bo) = false := decide_eq_false (by omega)
  have hsb2 : (bo : Int) < (s : Int) := by omega
  obtain ⟨ls, hls⟩ : ∃ ls : Nat, (ll : Int) + (s : Int) = (ls : Int) := ⟨ll + s, by omega⟩
  obtain ⟨lb, hlb⟩ : ∃ lb : Nat, (ls : Int) - (bo : Int) = (lb : Int) := ⟨ll + s - bo, by omega⟩
  have g2 : decide ((lb : Int) ≤ (cap : Int)) = false := decide_eq_false (by omega)
  have g2' : decide (lb ≤ cap) = false := decide_eq_false (by omega)
  have hx0 : 0 < (x2 : Int) := by omega
  have z1 : xo ≤ 16384 := by omega
  have z2 : xs ≤ 16384 := by omega
  have z3 : ll ≤ 16384 := by omega
  have z4 : s ≤ 16384 := by omega
  have z5 : bo ≤ 32768 := by omega
  have z6 : x2 ≤ 16384 := by omega
  have z7 : ls ≤ 32768 := by omega
  have z8 : lb ≤ 32768 := by omega
  have HN := Lib.hid hn
  have HBO := Lib.hid hbo
  have HXO := Lib.hid hxo
  have HXS := Lib.hid hxs
  have HNX := Lib.hid hnx
  have HX2 := Lib.hid hx2
  have HTKE := Lib.hid htk
  have HLI := Lib.hid hL
  have HCP : Hid (H.cap = cap) := hcp
  clear h hok hf hu e hn hxo hs hd hbd hwd hbo hll hcp hnx hbN htl1 hle hss hsz htl hszi hlt hb hxs hi hE hx2 hU h2s hs2 hk0 he hfit hg htk hL
  go_enter Tryz.func14, Tryz.ntmps14
  go_wp2_with fail
  refine HU.out.mono ?_
  rintro e w2 ⟨rfl, rfl⟩
  clear HU
  dsimp only [ixV]
  go_wp2_with fail
  refine (HLEN.out _ (Below.refl _ _)).mono ?_
  rintro e w2 ⟨rfl, rfl⟩
  go_wp2_with fail
  refine wp_region_tail wd.heap.size [([0, 1, 2, 3, 4, 5, 6, 8, 10, 12, 13, 14, 15], 7)] [9, 11, 16, 17, 18] [] (by kernel_rfl) (by kernel_rfl) (by kernel_rfl) (fun _ _ _ _ _ h => h) ?_
  rw [HWD.out]
  have t1 : ∀ z : LaterB wd.heap.size wd, z.val.cell? ⟨p, 0, none⟩ = some (.int .i64 (cap : Int)) := fun z => (z.ext.cell (p := ⟨p, 0, none⟩) hpd).trans r0
  refine tail_cons (l := ?segAY3N) ?hsegAY3N ?_
  case hsegAY3N => simp only [pick, List.getElem?_toArray, List.getElem?_cons_succ, List.getElem?_cons_zero]; rfl
  repeat (go_big_quiet_step (fail))
  refine wpQuiet_nil ?_
  clear t1
  refine tail_call (vs := #[.pointer (some ⟨p, 0, none⟩)]) Tryz.call38 rfl rfl rfl (R := fun r w' => r = .int .i64 (ll : Int) ∧ w' = wd) ((HLEN.out wd HBD.out).mono ?_) wd.heap.size (Nat.le_refl _) ?_
  · rintro e w' ⟨rfl, rfl⟩
    exact ⟨_, rfl, Below.refl _ _, rfl, rfl⟩
  rintro r w11 _ ⟨rfl, hw11⟩
  have hw11' := hw11.symm
  subst hw11'
  refine tail_last (l := ?laBY3N) (t := []) ?hlaBY3N ?htlBY3N ?_
  case hlaBY3N => simp only [pick, List.getElem?_toArray, List.getElem?_cons_succ, List.getElem?_cons_zero]; rfl
  case htlBY3N => rfl
  simp only [Act.put, List.setIfInBounds_toArray, List.set_cons_zero, List.set_cons_succ]
  repeat (go_big_quiet_step (fail))
  refine wpQuiet_nil ?_
  have ZD := Lib.hid ((Hz.start HH.out).below HBD.out)
  have HTA := Lib.hid (hTake_any HD.out HOK.out N HF.out (by omega) HLI.out s HS.out (by rw [HCP.out]; exact hcap))
  clear HD HH HOUT
  go_wp2_with fail
  refine HTA.out.mono ?_
  rintro e w3 ⟨rfl, ht⟩
  rw [HTKE.out]
  dsimp only [badT, Option.isSome, Option.getD]
  clear HTA
  have hsame := take_none_eq HTKE.out
  rw [hsame] at ht
  have hto : Rez F w p (H.resize (xo : Int) s) (.returned (.tuple #[.int .i64 0, .int .i64 5])) w3 := by
    rw [HE.out]
    exact ⟨rfl, ZD.out.last ht⟩
  have HTO := Lib.hid hto
  clear hto ht hsame ZD
  go_wp2
  go_ret2
  exact HTO.out

set_option maxRecDepth 100000 in
set_option maxHeartbeats 4000000 in
theorem hrez_Y3S (h : Hm F w p H Vb Vd gl cs) (hok : H.Ok) (N : Nat) (hf : H.Few N) (hN : N ≤ 40000) (s : Nat) (hs : isSz (s : Int) = true) (hL : H.Listed) (o : Int) (ho : -9223372036854775808 ≤ o ∧ o ≤ 9223372036854775807) (i : Nat) (hu : usedB H.blks o = some i) (hlt : (bkAt H.blks i).size < s) (hE : i + 1 < H.blks.length) (hU : (bkAt H.blks (i + 1)).used = false) (hb : bothN H.blks i < s) (he : (bkAt H.blks i).off + bothN H.blks i = lenB H.blks) (hfit : ¬ lenB H.blks + s - bothN H.blks i ≤ H.cap) (hc16 : H.cap ≤ 16384) (q : Nat) (htk : (H.take s).1 = some q) (iq io : Nat) (hiq : atB (q : Int) (H.take s).2.blks = some iq) (hio : atB o (H.take s).2.blks = some io) :
    Calls Tryz.prog 14 #[.pointer (some ⟨p, 0, none⟩), .int .i64 o, .int .i64 (s : Int)] w fun e w' => Rez F w p (H.resize o s) e w' := by
  have hn512 := hok.n
  obtain ⟨hi, hoff, _⟩ := usedB_at hu
  have hcap : H.cap ≤ 100000 := by omega
  have hnx : nextF H.blks i = true := by unfold nextF; rw [hU, decide_eq_true hE]; rfl
  have hbN := both_yes hnx
  have hg : growsB H i s = false := by unfold growsB; rw [decide_eq_false hfit, Bool.and_false]
  have e : H.resize o s = ((q, 0), (((H.take s).2.moveD (q : Int) o).giveO o).getD ((H.take s).2.moveD (q : Int) o)) := by unfold Hp.resize; rw [hu]; dsimp only; rw [if_neg (by omega), if_neg (by omega), hg, if_neg (by decide), htk]
  have hss := (isSz_iff _).1 hs
  have hle := hok.le
  obtain ⟨_, hszi, htl⟩ := hok.at_ hi
  have htl1 := (tile_mem _ _ _ htl).1
  have hsz := (isSz_iff _).1 hszi
  have HU := Lib.hid (husd_any h (by omega) o ho _ hu)
  have HLEN := Lib.hid (fun (W : World) (hW : Below w.heap.size w W) => hlen_any (h.below hW) (by omega) (by omega))
  have h2s := (hok.two hE).2
  obtain ⟨k, hk0⟩ : ∃ k, i + 1 = k := ⟨_, rfl⟩
  have HOUT := Lib.hid (fun (W : World) (hW : Below w.heap.size w W) => hout_any (h.below hW) k (by rw [← hk0]; exact hE) (hok.sz (by rw [← hk0]; exact hE)) (fun d hd => Nat.le_trans (hf d hd) (by omega)))
  have hs2 := (isSz_iff _).1 (hok.sz hE)
  have HE := Lib.hid e
  obtain ⟨wd, hwd⟩ : ∃ wd, w.drew = wd := ⟨_, rfl⟩
  have hbd : Below w.heap.size w wd := by rw [← hwd]; exact (Below.refl _ _).drew
  have hd := h.below hbd
  obtain ⟨b1, c1, rfl, _, hnc, _⟩ := own_nn h.ob (by omega)
  have q1 := h.c1
  have r0 := hd.c0
  have hpd := hd.lt
  have d1 := (h.at_n rfl hi).2.1
  have d2 := h.at_n rfl hE
  rw [hU] at d2
  obtain ⟨_, d3, d4⟩ := d2
  have HH := Lib.hid h
  have HD := Lib.hid hd
  have HBD := Lib.hid hbd
  have HWD := Lib.hid hwd
  have HOK := Lib.hid hok
  have HF := Lib.hid hf
  have HS := Lib.hid hs
  have HI := Lib.hid hi
  obtain ⟨xo, hxo⟩ : ∃ xo, (bkAt H.blks i).off = xo := ⟨_, rfl⟩
  obtain ⟨xs, hxs⟩ : ∃ xs, (bkAt H.blks i).size = xs := ⟨_, rfl⟩
  rw [hxo] at htl1 hoff he
  rw [hxs] at d1 hlt hsz htl1 hbN h2s
  subst hoff
  obtain ⟨x2, hx2⟩ : ∃ x2, (bkAt H.blks (i + 1)).size = x2 := ⟨_, rfl⟩
  rw [hx2] at d3 hbN h2s hs2
  obtain ⟨bo, hbo⟩ : ∃ bo, bothN H.blks i = bo := ⟨_, rfl⟩
  rw [hbo] at hbN hb he hfit
  obtain ⟨ll, hll⟩ : ∃ ll, lenB H.blks = ll := ⟨_, rfl⟩
  rw [hll] at htl1 hle HLEN he hfit
  obtain ⟨cap, hcp⟩ : ∃ cap, H.cap = cap := ⟨_, rfl⟩
  rw [hcp] at r0 hcap hfit
  obtain ⟨n, hn⟩ : ∃ n, H.blks.length = n := ⟨_, rfl⟩
  rw [hn] at q1 hi hnc hn512 hE
  have hin : (i : Int) < (n : Int) := by omega
  have hi2 : i ≤ 512 := by omega
  have hlt2 : (xs : Int) < (s : Int) := by omega
  have hie : (i : Int) + 1 < (n : Int) := by omega
  have hk : (i : Int) + 1 = (k : Int) := by omega
  have HK : Hid (k = i + 1) := (show _ = _ by omega)
  rw [← HK.out] at d4 d3
  have hkn : (k : Int) < (n : Int) := by omega
  have hsb : (xs : Int) + (x2 : Int) = (bo : Int) := by omega
  have hend : (xo : Int) + (bo : Int) = (ll : Int) := by omega
  have g1 : decide ((s : Int) ≤ (bo : Int)) = false := decide_eq_false (by omega)
  have g1' : decide (s ≤ bo) = false := decide_eq_false (by omega)
  have hsb2 : (bo : Int) < (s : Int) := by omega
  obtain ⟨ls, hls⟩ : ∃ ls : Nat, (ll : Int) + (s : Int) = (ls : Int) := ⟨ll + s, by omega⟩
  obtain ⟨lb, hlb⟩ : ∃ lb : Nat, (ls : Int) - (bo : Int) = (lb : Int) := ⟨ll + s - bo, by omega⟩
  have g2 : decide ((lb : Int) ≤ (cap : Int)) = false := decide_eq_false (by omega)
  have g2' : decide (lb ≤ cap) = false := decide_eq_false (by omega)
  have hx0 : 0 < (x2 : Int) := by omega
  have z1 : xo ≤ 16384 := by omega
  have z2 : xs ≤ 16384 := by omega
  have z3 : ll ≤ 16384 := by omega
  have z4 : s ≤ 16384 := by omega
  have z5 : bo ≤ 32768 := by omega
  have z6 : x2 ≤ 16384 := by omega
  have z7 : ls ≤ 32768 := by omega
  have z8 : lb ≤ 32768 := by omega
  have HN := Lib.hid hn
  have HBO := Lib.hid hbo
  have HXO := Lib.hid hxo
  have HXS := Lib.hid hxs
  have HNX := Lib.hid hnx
  have HX2 := Lib.hid hx2
  have HTKE := Lib.hid htk
  have HLI := Lib.hid hL
  have HIQ := Lib.hid hiq
  have HIO := Lib.hid hio
  have HCP : Hid (H.cap = cap) := hcp
  clear h hok hf hu e hn hxo hs hd hbd hwd hbo hll hcp hnx hbN htl1 hle hss hsz htl hszi hlt hb hxs hi hE hx2 hU h2s hs2 hk0 he hfit hg htk hL hiq hio
  go_enter Tryz.func14, Tryz.ntmps14
  go_wp2_with fail
  refine HU.out.mono ?_
  rintro e w2 ⟨rfl, rfl⟩
  clear HU
  dsimp only [ixV]
  go_wp2_with fail
  refine (HLEN.out _ (Below.refl _ _)).mono ?_
  rintro e w2 ⟨rfl, rfl⟩
  go_wp2_with fail
  refine wp_region_tail wd.heap.size [([0, 1, 2, 3, 4, 5, 6, 8, 10, 12, 13, 14, 15], 7)] [9, 11, 16, 17, 18] [] (by kernel_rfl) (by kernel_rfl) (by kernel_rfl) (fun _ _ _ _ _ h => h) ?_
  rw [HWD.out]
  have t1 : ∀ z : LaterB wd.heap.size wd, z.val.cell? ⟨p, 0, none⟩ = some (.int .i64 (cap : Int)) := fun z => (z.ext.cell (p := ⟨p, 0, none⟩) hpd).trans r0
  refine tail_cons (l := ?segAY3S) ?hsegAY3S ?_
  case hsegAY3S => simp only [pick, List.getElem?_toArray, List.getElem?_cons_succ, List.getElem?_cons_zero]; rfl
  repeat (go_big_quiet_step (fail))
  refine wpQuiet_nil ?_
  clear t1
  refine tail_call (vs := #[.pointer (some ⟨p, 0, none⟩)]) Tryz.call38 rfl rfl rfl (R := fun r w' => r = .int .i64 (ll : Int) ∧ w' = wd) ((HLEN.out wd HBD.out).mono ?_) wd.heap.size (Nat.le_refl _) ?_
  · rintro e w' ⟨rfl, rfl⟩
    exact ⟨_, rfl, Below.refl _ _, rfl, rfl⟩
  rintro r w11 _ ⟨rfl, hw11⟩
  have hw11' := hw11.symm
  subst hw11'
  refine tail_last (l := ?laBY3S) (t := []) ?hlaBY3S ?htlBY3S ?_
  case hlaBY3S => simp only [pick, List.getElem?_toArray, List.getElem?_cons_succ, List.getElem?_cons_zero]; rfl
  case htlBY3S => rfl
  simp only [Act.put, List.setIfInBounds_toArray, List.set_cons_zero, List.set_cons_succ]
  repeat (go_big_quiet_step (fail))
  refine wpQuiet_nil ?_
  have ZD := Lib.hid ((Hz.start HH.out).below HBD.out)
  have HTA := Lib.hid (hTake_any HD.out HOK.out N HF.out (by omega) HLI.out s HS.out (by rw [HCP.out]; exact hcap))
  clear HD HH HOUT
  go_wp2_with fail
  refine HTA.out.mono ?_
  rintro e w3 ⟨rfl, ht⟩
  rw [HTKE.out]
  dsimp only [badT, Option.isSome, Option.getD]
  clear HTA
  obtain ⟨F3, Vb3, Vd3, gl3, cs3, z3⟩ := ZD.out.step ht
  have ok3 := HOK.out.take hc16 HS.out
  have fw3 : (H.take s).2.Few (N + 1) := HF.out.take
  have hq16 : q ≤ 100000 := by
    obtain ⟨g1, g2⟩ := atB_at HIQ.out
    have g3 := (tile_mem _ _ _ (ok3.at_ g1).2.2).1
    have g4 := ok3.le
    omega
  obtain ⟨H3, hH3⟩ : ∃ H3, (H.take s).2 = H3 := ⟨_, rfl⟩
  have HIQ3 : Hid (atB (q : Int) H3.blks = some iq) := (show _ = _ by rw [← hH3]; exact HIQ.out)
  have HIO3 : Hid (atB (xo : Int) H3.blks = some io) := (show _ = _ by rw [← hH3]; exact HIO.out)
  have HE3 : Hid (H.resize (xo : Int) s = ((q, 0), ((H3.moveD (q : Int) (xo : Int)).giveO (xo : Int)).getD (H3.moveD (q : Int) (xo : Int)))) := (show _ = _ by rw [← hH3]; exact HE.out)
  rw [hH3] at z3 ok3 fw3
  obtain ⟨wx, hwx⟩ : ∃ wx, w3.drew = wx := ⟨_, rfl⟩
  have hbx : Below w3.heap.size w3 wx := by rw [← hwx]; exact (Below.refl _ _).drew
  have zx := z3.below hbx
  have hn3 := ok3.n
  have l1 := (atB_at HIQ3.out).1
  have l2 := (atB_at HIO3.out).1
  obtain ⟨bd, cd, rfl, _, hncd, _⟩ := own_nn zx.hm.od (by rw [ok3.dl]; omega)
  obtain ⟨dn, hdn⟩ : ∃ dn, H3.ds.length = dn := ⟨_, rfl⟩
  have hdn3 := ok3.dl
  rw [hdn] at hdn3 hncd
  rw [hdn] at zx
  have k1 := zx.hm.c2
  have hodx := zx.hm.od
  rw [hdn] at hodx
  obtain ⟨dv, k2, k3⟩ := own_cell1 hodx (j := io) (by omega)
  obtain ⟨_, k4, _⟩ := own_cell1 hodx (j := iq) (by omega)
  have f1 := own_thaw hodx iq
  have hsl := zx.hm.sl
  have hgd : (H3.ds.getD io nilD).1 = dv := by
    rw [List.getElem?_map] at k3
    rw [List.getD_eq_getElem?_getD]
    cases h' : H3.ds[io]? with
    | none => rw [h'] at k3; cases k3
    | some y => rw [h'] at k3; injection k3
  have hslv : ∃ A n c, (H3.ds.getD io nilD).1 = Value.slice A n c := by
    rw [List.getD_eq_getElem?_getD]
    cases h' : H3.ds[io]? with
    | none => exact ⟨_, _, _, rfl⟩
    | some y => exact hsl y (List.mem_of_getElem? h')
  have hmv : H3.moveD (q : Int) (xo : Int) = H3.copyD iq io := by unfold Hp.moveD; rw [HIQ3.out, HIO3.out]
  have z4 := zx.set (a := ⟨bd, iq, none⟩) (u := (H3.ds.getD io nilD).1) (zx.hm.fd bd rfl) (zx.hm.dcell (by rw [hdn]) (H3.ds.getD io nilD) hslv)
  have z4 : Hz F w p F3 (wx.setCell ⟨bd, iq, none⟩ (H3.ds.getD io nilD).1) (H3.copyD iq io) Vb3 (.slice (some ⟨bd, 0, none⟩) dn cd) gl3 cs3 := z4
  rw [hgd, ← hmv] at z4
  obtain ⟨w4, hw4⟩ : ∃ w4, wx.setCell ⟨bd, iq, none⟩ dv = w4 := ⟨_, rfl⟩
  rw [hw4] at z4
  have bl4 : (H3.moveD (q : Int) (xo : Int)).blks = H3.blks := by rw [hmv]; rfl
  have ok4 : (H3.moveD (q : Int) (xo : Int)).Ok := ⟨by rw [bl4]; exact ok3.tl, by rw [bl4]; exact ok3.le, by rw [hmv]; show (H3.ds.set _ _).length = _; rw [List.length_set]; exact ok3.dl⟩
  have fw4 : (H3.moveD (q : Int) (xo : Int)).Few (N + 1) := by rw [hmv]; exact fw3
  have HGV := Lib.hid (hGive_any z4.hm ok4 (N + 1) fw4 (by omega) (xo : Int) ho)
  have HA1 := Lib.hid (hat_any zx.hm (by omega) (q : Int) (by omega) _ HIQ3.out)
  have HA2 := Lib.hid (hat_any zx.hm (by omega) (xo : Int) ho _ HIO3.out)
  have hpx := zx.hm.lt
  have hbdx : bd < wx.heap.size := own_lt hodx rfl
  have Z4 := Lib.hid z4
  have Hw11 := Lib.hid hwx
  have HW4 := Lib.hid hw4
  obtain ⟨Av, nv, cv, hdv⟩ := hslv
  rw [hgd] at hdv
  subst hdv
  have hi1 : (iq : Int) < (dn : Int) := by omega
  have hi2' : (io : Int) < (dn : Int) := by omega
  clear z3 zx z4 ok3 fw3 ok4 fw4 hH3 hwx hbx hodx hsl hgd hmv hw4 bl4 hn3 l1 l2 hdn3 ht ZD HIQ HIO HIQ3 HIO3 hdn k3
  go_wp2_with fail
  refine wp_region_tail wx.heap.size [([0, 1, 2, 3, 4, 5, 7, 8, 9, 10, 11, 12], 6), ([], 13)] [14, 15, 16] [17] (by kernel_rfl) (by kernel_rfl) (by kernel_rfl) (fun _ _ _ _ _ h => h) ?_
  rw [Hw11.out]
  have t1 : ∀ z : LaterB wx.heap.size wx, z.val.cell? ⟨p, 2, none⟩ = some (.slice (some ⟨bd, 0, none⟩) dn cd) := fun z => (z.ext.cell (p := ⟨p, 2, none⟩) hpx).trans k1
  refine tail_cons (l := ?segCY3S) ?hsegCY3S ?_
  case hsegCY3S => simp only [pick, List.getElem?_toArray, List.getElem?_cons_succ, List.getElem?_cons_zero]; rfl
  repeat (go_big_quiet_step (fail))
  refine wpQuiet_nil ?_
  clear t1
  refine tail_call (vs := #[.pointer (some ⟨p, 0, none⟩), .int .i64 (q : Int)]) Tryz.call41 rfl rfl rfl (R := fun r w' => r = .int .i64 (iq : Int) ∧ w' = wx) (HA1.out.mono ?_) wx.heap.size (Nat.le_refl _) ?_
  · rintro e w' ⟨rfl, rfl⟩
    exact ⟨_, rfl, Below.refl _ _, rfl, rfl⟩
  rintro r w11 _ ⟨rfl, rfl⟩
  refine tail_cons (l := []) rfl ?_
  refine wpQuiet_nil ?_
  refine tail_call (vs := #[.pointer (some ⟨p, 0, none⟩), .int .i64 (xo : Int)]) Tryz.call41 rfl rfl rfl (R := fun r w' => r = .int .i64 (io : Int) ∧ w' = w11) (HA2.out.mono ?_) w11.heap.size (Nat.le_refl _) ?_
  · rintro e w' ⟨rfl, rfl⟩
    exact ⟨_, rfl, Below.refl _ _, rfl, rfl⟩
  rintro r w12 _ ⟨rfl, rfl⟩
  refine tail_last (l := ?laEY3S) (t := ?tlEY3S) ?hlaEY3S ?htlEY3S ?_
  case hlaEY3S => simp only [pick, List.getElem?_toArray, List.getElem?_cons_succ, List.getElem?_cons_zero]; rfl
  case htlEY3S => simp only [pick, List.getElem?_toArray, List.getElem?_cons_succ, List.getElem?_cons_zero]; rfl
  simp only [Act.put, List.setIfInBounds_toArray, List.set_cons_zero, List.set_cons_succ]
  have t2 : ∀ z : LaterB w12.heap.size w12, z.val.cell? ⟨bd, io, none⟩ = some (.slice Av nv cv) := fun z => (z.ext.cell (p := ⟨bd, io, none⟩) hbdx).trans k2
  repeat (go_big_quiet_step (fail))
  refine wpQuiet_nil ?_
  clear t2
  go_wp2_with (first | (rw [HW4.out]) | fail)
  refine HGV.out.mono ?_
  rintro e w5 ⟨rfl, ht⟩
  have hto : Rez F w p (H.resize (xo : Int) s) (.returned (.tuple #[.int .i64 (q : Int), .int .i64 0])) w5 := by
    rw [HE3.out]
    exact ⟨rfl, Z4.out.last ht⟩
  have HTO := Lib.hid hto
  clear hto ht HGV Z4 k1 k2 k4 f1
  go_wp2
  go_ret2
  exact HTO.out

theorem hrez_any (h : Hm F w p H Vb Vd gl cs) (hok : H.Ok) (N : Nat) (hf : H.Few N) (hN : N ≤ 40000) (s : Nat) (hs : isSz (s : Int) = true) (hc16 : H.cap ≤ 16384) (hL : H.Listed) (o : Int) (ho : -9223372036854775808 ≤ o ∧ o ≤ 9223372036854775807)
    (hmv : ∀ i q, usedB H.blks o = some i → (H.take s).1 = some q → ∃ iq io, atB (q : Int) (H.take s).2.blks = some iq ∧ atB o (H.take s).2.blks = some io) :
    Calls Tryz.prog 14 #[.pointer (some ⟨p, 0, none⟩), .int .i64 o, .int .i64 (s : Int)] w fun e w' => Rez F w p (H.resize o s) e w' := by
  have hcap : H.cap ≤ 100000 := by omega
  cases hu : usedB H.blks o with
  | none => exact hrez_u h hok N hf hN s hs o ho hu
  | some i =>
    obtain ⟨hi, _, _⟩ := usedB_at hu
    by_cases hle : s ≤ (bkAt H.blks i).size
    · exact hrez_c h hok N hf hN s hs o ho i hu hle
    · have hlt : (bkAt H.blks i).size < s := by omega
      rcases Nat.lt_or_ge (i + 1) H.blks.length with hE | hE
      · cases hU : (bkAt H.blks (i + 1)).used with
        | true =>
          have hnx : nextF H.blks i = false := by unfold nextF; rw [hU, Bool.not_true, Bool.and_false]
          have hb := both_no hnx
          have h2 := hok.two hE
          have h3 := (tile_mem _ _ _ (hok.at_ hE).2.2).1
          have h4 := (isSz_iff _).1 (hok.sz hE)
          have he : (bkAt H.blks i).off + bothN H.blks i ≠ lenB H.blks := by omega
          cases htk : (H.take s).1 with
          | none => exact hrez_U2N h hok N hf hN s hs hcap hL o ho i hu hlt hE hU (by omega) he htk
          | some q =>
            obtain ⟨iq, io, hiq, hio⟩ := hmv i q hu htk
            exact hrez_U2S h hok N hf hN s hs hL o ho i hu hlt hE hU (by omega) he hc16 q htk iq io hiq hio
        | false =>
          by_cases hb : s ≤ bothN H.blks i
          · exact hrez_YB h hok N hf hN s hs hcap o ho i hu hlt hE hU hb
          · by_cases he : (bkAt H.blks i).off + bothN H.blks i = lenB H.blks
            · by_cases hfit : lenB H.blks + s - bothN H.blks i ≤ H.cap
              · exact hrez_YF h hok N hf hN s hs hcap o ho i hu hlt hE hU (by omega) he hfit
              · cases htk : (H.take s).1 with
                | none => exact hrez_Y3N h hok N hf hN s hs hcap hL o ho i hu hlt hE hU (by omega) he hfit htk
                | some q =>
                  obtain ⟨iq, io, hiq, hio⟩ := hmv i q hu htk
                  exact hrez_Y3S h hok N hf hN s hs hL o ho i hu hlt hE hU (by omega) he hfit hc16 q htk iq io hiq hio
            · cases htk : (H.take s).1 with
              | none => exact hrez_Y2N h hok N hf hN s hs hcap hL o ho i hu hlt hE hU (by omega) he htk
              | some q =>
                obtain ⟨iq, io, hiq, hio⟩ := hmv i q hu htk
                exact hrez_Y2S h hok N hf hN s hs hL o ho i hu hlt hE hU (by omega) he hc16 q htk iq io hiq hio
      · have hnx : nextF H.blks i = false := by unfold nextF; rw [decide_eq_false (by omega)]; rfl
        have hb := both_no hnx
        have h2 := last_end hok (k := i) (by omega)
        have he : (bkAt H.blks i).off + bothN H.blks i = lenB H.blks := by omega
        by_cases hfit : lenB H.blks + s - bothN H.blks i ≤ H.cap
        · exact hrez_EF h hok N hf hN s hs hcap o ho i hu hlt hE (by omega) he hfit
        · cases htk : (H.take s).1 with
          | none => exact hrez_E3N h hok N hf hN s hs hcap hL o ho i hu hlt hE (by omega) he hfit htk
          | some q =>
            obtain ⟨iq, io, hiq, hio⟩ := hmv i q hu htk
            exact hrez_E3S h hok N hf hN s hs hL o ho i hu hlt hE (by omega) he hfit hc16 q htk iq io hiq hio
end
end Go.Proofs.YtdjjbmefaggelaaGreat

/- What the program's resize (layer 13) is to tell. -/
namespace Go.Proofs.YtdjjbmefaggelaaGreat
open Go.RowKit

/-- What the block held it holds, where it stands now, as far as both go. -/
def Moved (H : Hp) (bs : List UInt8) (o : Int) (H' : Hp) (out : List UInt8) (p : Nat) : Prop :=
  ∀ x ∈ H.blks, x.used = true → (x.off : Int) = o → ∀ y ∈ H'.blks, y.used = true → y.off = p → ∀ i, 8 ≤ i → i + 8 < x.size → i + 8 < y.size → out[p + i]? = bs[x.off + i]?
def RezTold (g base cap : Nat) (A : Option Addr) (bs : List UInt8) (H : Hp) (o : Int) (r : (Nat × Int) × Hp) (w : World) (e : Ending) (w' : World) : Prop :=
  (r.1.2 = 0 → e = .returned (.tuple #[.int .i64 (r.1.1 : Int), errV true 0]) ∧ ∃ out, Became 88 g base cap A out w w' ∧ Rt out r.2 ∧ Held H bs r.2 out ∧ Moved H bs o r.2 out r.1.1) ∧
  (r.1.2 ≠ 0 → e = .returned (.tuple #[.int .i64 0, errV false r.1.2]) ∧ Below w.heap.size w w')
def ResizeK : Prop := ∀ (w : World) (g base cap c : Nat) (A : Option Addr) (bs : List UInt8) (H : Hp) (o s : Int), Ar w 88 g base cap A c bs → base ≤ 4611686018427387904 → cap ≤ 16384 → H.cap = cap → Rt bs H → (-9223372036854775808 ≤ o ∧ o ≤ 9223372036854775807) → (-9223372036854775808 ≤ s ∧ s ≤ 9223372036854775807) →
  (isSz s = false → Calls Tryz.prog 12 #[.pointer (some ⟨g, 0, none⟩), .int .i64 o, .int .i64 s] w fun e w' => e = .returned (.tuple #[.int .i64 0, errV false 1]) ∧ Below w.heap.size w w') ∧
  (isSz s = true → Calls Tryz.prog 12 #[.pointer (some ⟨g, 0, none⟩), .int .i64 o, .int .i64 s] w fun e w' => RezTold g base cap A bs H o (H.resize o s.toNat) w e w')
/-- The number of a resize's error is none, or one of two. -/
theorem resize_err (H : Hp) (o : Int) (s : Nat) : (H.resize o s).1.2 = 0 ∨ ((H.resize o s).1 = (0, 3) ∧ (H.resize o s).2 = H) ∨ ((H.resize o s).1 = (0, 5) ∧ (H.resize o s).2 = H) := by
  unfold Hp.resize
  split
  · exact .inr (.inl ⟨rfl, rfl⟩)
  · split
    · exact .inl rfl
    · split
      · exact .inl rfl
      · split
        · exact .inl rfl
        · split
          · exact .inr (.inr ⟨rfl, rfl⟩)
          · exact .inl rfl
end Go.Proofs.YtdjjbmefaggelaaGreat

/- The head of layer 13's laws; slices of steps. -/
namespace Go.Proofs.YtdjjbmefaggelaaGreat
open Go.RowKit

def up13A : Hp := ((hpZero 1024).take 32).2
def up13B : Hp := (up13A.resize 184 64).2
def up13C : Hp := (up13B.take 32).2
def up13D : Hp := (up13C.resize 184 96).2
set_option maxRecDepth 100000 in
set_option maxHeartbeats 2000000 in
theorem up13_any (HT : TakeK) (HG : ResizeK) (w : World) :
    Calls Tryz.prog 5 #[] w fun e w' => e = .returned (.bool true) ∧ Below w.heap.size w w' := by
  obtain ⟨z, hz⟩ : ∃ z, List.replicate 184 (0 : UInt8) = z := ⟨_, rfl⟩
  have hzl : z.length = 184 := by rw [← hz]; exact List.length_replicate
  have hr0 := rt_zero hz 1024 (by omega)
  have t1 : ((hpZero 1024).take 32).1 = some 184 := by kernel_rfl
  have t2 : (up13A.resize 184 64).1 = (184, 0) := by kernel_rfl
  have t3 : (up13B.take 32).1 = some 248 := by kernel_rfl
  have t4 : (up13C.resize 184 96).1 = (280, 0) := by kernel_rfl
  have t5 : (up13D.resize 184 96).1 = (0, 3) := by kernel_rfl
  have c1 : up13A.cap = 1024 := take_cap
  have c2 : up13B.cap = 1024 := resize_cap.trans c1
  have c3 : up13C.cap = 1024 := take_cap.trans c2
  have c4 : up13D.cap = 1024 := resize_cap.trans c3
  have HMK : ∀ W : World, (Instr.makeSlice 28 (.int .i64 184) (.int .i64 184)).run Tryz.prog W = .ok (.slice (some ⟨W.heap.size, 0, none⟩) 184 184) (W.alloc (.cells (rowB z) 5)) := run_mk0 184 (by omega) z hz
  have f1 : Fill (w.alloc (.cells (rowB z) 5)) w.heap.size 5 z := Fill.made w _ _
  have b1 : Below w.heap.size w (w.alloc (.cells (rowB z) 5)) := (Below.refl _ _).alloc (Nat.le_refl _) _
  have hm := arena_any (w.alloc (.cells (rowB z) 5)) 16 1024 (some ⟨w.heap.size, 0, none⟩) 184 z f1.reads (by omega) (by omega) (by omega) (by omega) (by omega)
  rw [hzl] at hm
  have HM := Lib.hid hm
  have HB1 := Lib.hid b1
  have T1 := Lib.hid t1
  have T2 := Lib.hid t2
  have T3 := Lib.hid t3
  have T4 := Lib.hid t4
  have T5 := Lib.hid t5
  have C1 := Lib.hid c1
  have C2 := Lib.hid c2
  have C3 := Lib.hid c3
  have C4 := Lib.hid c4
  have R0 := Lib.hid hr0
  have HT := Lib.hid HT
  have HG := Lib.hid HG
  clear hz hzl hr0 t1 t2 t3 t4 t5 c1 c2 c3 c4 f1 b1 hm
  go_enter Tryz.func5, Tryz.ntmps5
  go_wp2_with fail
  refine HM.out.mono ?_
  rintro e w1 hmade
  obtain ⟨g, A, c, rfl, hst⟩ := St.made hmade
  have K1 := Lib.hid HB1.out
  have S1 := Lib.hid hst
  clear hmade hst HM HMK
  go_wp2_with fail
  refine ((HT.out w1 g 16 1024 c A z (hpZero 1024) 32 S1.out.ar (by omega) (by omega) rfl R0.out (by omega)).2 rfl).mono ?_
  intro e w2 hT
  unfold TurnedAt at hT
  rw [show ((32 : Int).toNat) = 32 from rfl, T1.out] at hT
  obtain ⟨rfl, o2, hbe, rt2, _⟩ := hT
  obtain ⟨A2, c2, hs2⟩ := S1.out.became hbe
  have S2 := Lib.hid hs2
  have R2 : Hid (Rt o2 up13A) := rt2
  clear hbe rt2 hs2 S1 R0
  dsimp only [errV]
  go_wp2_with fail
  refine ((HG.out w2 g 16 1024 c2 A2 o2 up13A 184 64 S2.out.ar (by omega) (by omega) C1.out R2.out (by omega) (by omega)).2 rfl).mono ?_
  intro e w3 hT
  have hT := hT.1 (by rw [show ((64 : Int).toNat) = 64 from rfl, T2.out])
  rw [show ((64 : Int).toNat) = 64 from rfl, T2.out] at hT
  obtain ⟨rfl, o3, hbe, rt3, _⟩ := hT
  obtain ⟨A3, c3, hs3⟩ := S2.out.became hbe
  have S3 := Lib.hid hs3
  have R3 : Hid (Rt o3 up13B) := rt3
  clear hbe rt3 hs3 S2 R2
  dsimp only [errV]
  go_wp2_with fail
  refine ((HT.out w3 g 16 1024 c3 A3 o3 up13B 32 S3.out.ar (by omega) (by omega) C2.out R3.out (by omega)).2 rfl).mono ?_
  intro e w4 hT
  unfold TurnedAt at hT
  rw [show ((32 : Int).toNat) = 32 from rfl, T3.out] at hT
  obtain ⟨rfl, o4, hbe, rt4, _⟩ := hT
  obtain ⟨A4, c4, hs4⟩ := S3.out.became hbe
  have S4 := Lib.hid hs4
  have R4 : Hid (Rt o4 up13C) := rt4
  clear hbe rt4 hs4 S3 R3
  dsimp only [errV]
  go_wp2_with fail
  refine ((HG.out w4 g 16 1024 c4 A4 o4 up13C 184 96 S4.out.ar (by omega) (by omega) C3.out R4.out (by omega) (by omega)).2 rfl).mono ?_
  intro e w5 hT
  have hT := hT.1 (by rw [show ((96 : Int).toNat) = 96 from rfl, T4.out])
  rw [show ((96 : Int).toNat) = 96 from rfl, T4.out] at hT
  obtain ⟨rfl, o5, hbe, rt5, _⟩ := hT
  obtain ⟨A5, c5, hs5⟩ := S4.out.became hbe
  have S5 := Lib.hid hs5
  have R5 : Hid (Rt o5 up13D) := rt5
  clear hbe rt5 hs5 S4 R4
  dsimp only [errV]
  go_wp2_with fail
  refine ((HG.out w5 g 16 1024 c5 A5 o5 up13D 184 96 S5.out.ar (by omega) (by omega) C4.out R5.out (by omega) (by omega)).2 rfl).mono ?_
  intro e w6 hT
  have hT := hT.2 (by rw [show ((96 : Int).toNat) = 96 from rfl, T5.out]; decide)
  rw [show ((96 : Int).toNat) = 96 from rfl, T5.out] at hT
  obtain ⟨rfl, hb⟩ := hT
  have S6 := Lib.hid (S5.out.below hb)
  clear hb S5 R5
  dsimp only [errV]
  go_wp2_with fail
  refine (code_err w6 3 (by omega) (by omega)).mono ?_
  rintro e w7 ⟨rfl, rfl⟩
  have hend : Below w.heap.size w w6 := K1.out.trans (S6.out.bel.mono K1.out.size)
  have HE := Lib.hid hend
  clear hend
  go_wp2
  go_ret
  exact ⟨rfl, HE.out⟩

/-- A step of layer 13. -/
structure Sp where
  d : De
  re : Bool
/-- A slice of such. -/
def SpRd (w : World) (B : Nat) (A : Option Addr) (l : List Sp) : Prop := 0 < l.length → ∃ b o, A = some ⟨b, o, none⟩ ∧ b < B ∧ ∀ j x, l[j]? = some x →
  w.cell? ⟨b, o + j * 5, none⟩ = some (.int .i64 x.d.what) ∧ w.cell? ⟨b, o + j * 5 + 1, none⟩ = some (.int .i64 x.d.n) ∧ w.cell? ⟨b, o + j * 5 + 2, none⟩ = some (.int .i64 x.d.m) ∧ w.cell? ⟨b, o + j * 5 + 3, none⟩ = some (.bool x.d.raw) ∧ w.cell? ⟨b, o + j * 5 + 4, none⟩ = some (.bool x.re) ∧
  (-9223372036854775808 ≤ x.d.what ∧ x.d.what ≤ 9223372036854775807) ∧ (-9223372036854775808 ≤ x.d.n ∧ x.d.n ≤ 9223372036854775807) ∧ (-9223372036854775808 ≤ x.d.m ∧ x.d.m ≤ 9223372036854775807)
theorem SpRd.below {w w' : World} {B : Nat} {A : Option Addr} {l : List Sp} (h : SpRd w B A l) (hb : Below B w w') : SpRd w' B A l := fun hn => by
  obtain ⟨b, o, e, hB, hc⟩ := h hn
  refine ⟨b, o, e, hB, fun j x hx => ?_⟩
  obtain ⟨h0, h1, h2, h3, h4, h5⟩ := hc j x hx
  exact ⟨(hb.cell (p := ⟨b, _, none⟩) hB).trans h0, (hb.cell (p := ⟨b, _, none⟩) hB).trans h1, (hb.cell (p := ⟨b, _, none⟩) hB).trans h2, (hb.cell (p := ⟨b, _, none⟩) hB).trans h3, (hb.cell (p := ⟨b, _, none⟩) hB).trans h4, h5⟩
end Go.Proofs.YtdjjbmefaggelaaGreat

/- The walk of ResizePlays. -/
namespace Go.Proofs.YtdjjbmefaggelaaGreat
open Go.RowKit

section
set_option maxHeartbeats 2000000 in
theorem rpl_no (HT : TakeK) (HZ : ResizeK) (w : World) (nb : Nat) (hnb : nb < 18446744073709551616) (cap : Int) (hc : -9223372036854775808 ≤ cap ∧ cap ≤ 9223372036854775807) (hbad : cap < 1024 ∨ 16384 < cap) (A1 : Option Addr) (ll k1 : Nat) :
    Calls Tryz.prog 3 #[.int .u64 (nb : Int), .int .i64 cap, .slice A1 ll k1] w fun e w' => e = .returned (.bool true) ∧ Below w.heap.size w w' := by
  obtain ⟨base, hbase, hb16, hb62⟩ := base_facts nb
  have hba := fun W => lawbase_any W nb hnb
  rw [hbase] at hba
  obtain ⟨z, hz⟩ : ∃ z, List.replicate 184 (0 : UInt8) = z := ⟨_, rfl⟩
  have hmk : ∀ W : World, (Instr.makeSlice 28 (.int .i64 184) (.int .i64 184)).run Tryz.prog W = .ok (.slice (some ⟨W.heap.size, 0, none⟩) 184 184) (W.alloc (.cells (rowB z) 5)) := run_mk0 184 (by omega) z hz
  have HMK := Lib.hid hmk
  have HBA := Lib.hid hba
  have HUP := Lib.hid (up13_any HT HZ w)
  have HAN := Lib.hid (fun W B n k => larena_no W base (by omega) cap hc hbad B n k)
  clear HT HZ hba hbase hnb hmk
  go_enter Tryz.func3, Tryz.ntmps3
  go_wp2_with fail
  refine HUP.out.mono ?_
  rintro e w1 ⟨rfl, hb⟩
  obtain ⟨wd, hwd⟩ : ∃ wd, w1.drew = wd := ⟨_, rfl⟩
  have HB1 : Hid (Below w.heap.size w wd) := (show Below _ _ _ by rw [← hwd]; exact hb.drew)
  have HWD := Lib.hid hwd
  clear hwd hb HUP
  go_wp2_with fail
  refine wp_region_plan wd.heap.size (.two [0, 2] 1 (.one [] 3 (.one [] 4 (.fin [5]))) 3 (.one [] 1 (.one [] 4 (.fin [5])))) [] (by kernel_rfl) (by kernel_rfl) (by kernel_rfl) (fun _ _ _ _ _ h => h) ?_
  rw [HWD.out]
  refine plan_two (l := ?seg1) ?hseg1 ?_
  case hseg1 => simp only [pick, List.getElem?_toArray, List.getElem?_cons_succ, List.getElem?_cons_zero]; rfl
  repeat (go_big_quiet_step (fail))
  refine wpQuiet_nil ?_
  obtain ⟨w2, hw2⟩ : ∃ w2, wd.alloc (.cells (rowB z) 5) = w2 := ⟨_, rfl⟩
  have b2 : Below wd.heap.size wd w2 := by rw [← hw2]; exact (Below.refl _ _).alloc (Nat.le_refl _) _
  have HB2 := Lib.hid (HB1.out.trans (b2.mono HB1.out.size))
  refine pair_any (d1 := 20) (d2 := 22) (v1 := .int .u64 (base : Int)) (v2 := .slice (some ⟨wd.heap.size, 0, none⟩) 184 184) (vs := #[.int .u64 (nb : Int)]) (w1 := w2) Tryz.call7 rfl rfl rfl (fun _ => rfl) (by decide) rfl rfl (fun W => (HBA.out W).mono (fun e w' h => ⟨h.1, h.2⟩)) (fun b => by rw [← hw2]; exact mk_run rfl rfl rfl (HMK.out wd)) (Nat.le_refl _) b2 ?_
  simp only [Act.put, List.setIfInBounds_toArray, List.set_cons_zero, List.set_cons_succ]
  clear b2 hw2 HBA HMK HWD HB1
  refine plan_one (l := []) rfl (wpQuiet_nil ?_)
  refine tail_call (vs := #[.int .u64 (base : Int), .int .i64 cap, .slice (some ⟨wd.heap.size, 0, none⟩) 184 184]) Tryz.call6 rfl rfl rfl (R := fun r w' => r = .pointer none ∧ w' = w2) ((HAN.out w2 _ 184 184).mono ?_) wd.heap.size (Nat.le_refl _) ?_
  · rintro e w' ⟨rfl, rfl⟩
    exact ⟨_, rfl, Below.refl _ _, rfl, rfl⟩
  rintro r w3 _ ⟨rfl, rfl⟩
  refine plan_fin (l := ?la2) (t := []) ?hla2 rfl ?_
  case hla2 => simp only [pick, List.getElem?_toArray, List.getElem?_cons_succ, List.getElem?_cons_zero]; rfl
  simp only [Act.put, List.setIfInBounds_toArray, List.set_cons_zero, List.set_cons_succ]
  repeat (go_big_quiet_step (fail))
  refine wpQuiet_nil ?_
  clear HAN
  rcases hbad with h | h
  · go_wp2
    go_ret
    exact ⟨rfl, HB2.out⟩
  · have h2 : 1024 ≤ cap := by omega
    have h3 : decide (cap ≤ 16384) = false := decide_eq_false (by omega)
    go_wp2
    go_ret
    exact ⟨rfl, HB2.out⟩

set_option maxHeartbeats 2000000 in
theorem rpl_long (HT : TakeK) (HZ : ResizeK) (w : World) (nb : Nat) (hnb : nb < 18446744073709551616) (cap : Nat) (h1 : 1024 ≤ cap) (h2 : cap ≤ 16384) (A1 : Option Addr) (ll k1 : Nat) (hll : 100 < ll) :
    Calls Tryz.prog 3 #[.int .u64 (nb : Int), .int .i64 (cap : Int), .slice A1 ll k1] w fun e w' => e = .returned (.bool true) ∧ Below w.heap.size w w' := by
  obtain ⟨base, hbase, hb16, hb62⟩ := base_facts nb
  have hba := fun W => lawbase_any W nb hnb
  rw [hbase] at hba
  obtain ⟨z, hz⟩ : ∃ z, List.replicate 184 (0 : UInt8) = z := ⟨_, rfl⟩
  have hzl : z.length = 184 := by rw [← hz]; exact List.length_replicate
  have hr0 := rt_zero hz cap (by omega)
  have hmk : ∀ W : World, (Instr.makeSlice 28 (.int .i64 184) (.int .i64 184)).run Tryz.prog W = .ok (.slice (some ⟨W.heap.size, 0, none⟩) 184 184) (W.alloc (.cells (rowB z) 5)) := run_mk0 184 (by omega) z hz
  have har := fun (W : World) (B : Option Addr) (k : Nat) (hr : Rd W W.heap.size B 184 z) => arena_any W base cap B k z (by rw [hzl]; exact hr) hb16 hb62 h1 h2 (by omega)
  rw [hzl] at har
  have HMK := Lib.hid hmk
  have HBA := Lib.hid hba
  have HAR := Lib.hid har
  have HZL := Lib.hid hzl
  have R0 := Lib.hid hr0
  have HUP := Lib.hid (up13_any HT HZ w)
  have HNW := Lib.hid (fun W => hNew_any W cap)
  have s1 : decide ((100 : Int) < (ll : Int)) = true := decide_eq_true (by omega)
  have s2 : decide ((cap : Int) ≤ 16384) = true := decide_eq_true (by omega)
  have s3 : decide ((1024 : Int) ≤ (cap : Int)) = true := decide_eq_true (by omega)
  clear hba hbase hnb hmk har hz hzl hr0 HT HZ
  go_enter Tryz.func3, Tryz.ntmps3
  go_wp2_with fail
  refine HUP.out.mono ?_
  rintro e w1 ⟨rfl, hb⟩
  obtain ⟨wd, hwd⟩ : ∃ wd, w1.drew = wd := ⟨_, rfl⟩
  have HB1 : Hid (Below w.heap.size w wd) := (show Below _ _ _ by rw [← hwd]; exact hb.drew)
  have HWD := Lib.hid hwd
  clear hwd hb HUP
  go_wp2_with fail
  refine wp_region_plan wd.heap.size (.two [0, 2] 1 (.one [] 3 (.one [] 4 (.fin [5]))) 3 (.one [] 1 (.one [] 4 (.fin [5])))) [] (by kernel_rfl) (by kernel_rfl) (by kernel_rfl) (fun _ _ _ _ _ h => h) ?_
  rw [HWD.out]
  refine plan_two (l := ?seg1) ?hseg1 ?_
  case hseg1 => simp only [pick, List.getElem?_toArray, List.getElem?_cons_succ, List.getElem?_cons_zero]; rfl
  repeat (go_big_quiet_step (fail))
  refine wpQuiet_nil ?_
  obtain ⟨w2, hw2⟩ : ∃ w2, wd.alloc (.cells (rowB z) 5) = w2 := ⟨_, rfl⟩
  have b2 : Below wd.heap.size wd w2 := by rw [← hw2]; exact (Below.refl _ _).alloc (Nat.le_refl _) _
  have f2 : Fill w2 wd.heap.size 5 z := by rw [← hw2]; exact Fill.made wd _ _
  have hrd := f2.reads
  rw [HZL.out] at hrd
  have HRD := Lib.hid hrd
  have HB2 := Lib.hid (HB1.out.trans (b2.mono HB1.out.size))
  have hs2 := b2.size
  refine pair_any (d1 := 20) (d2 := 22) (v1 := .int .u64 (base : Int)) (v2 := .slice (some ⟨wd.heap.size, 0, none⟩) 184 184) (vs := #[.int .u64 (nb : Int)]) (w1 := w2) Tryz.call7 rfl rfl rfl (fun _ => rfl) (by decide) rfl rfl (fun W => (HBA.out W).mono (fun e w' h => ⟨h.1, h.2⟩)) (fun b => by rw [← hw2]; exact mk_run rfl rfl rfl (HMK.out wd)) (Nat.le_refl _) b2 ?_
  simp only [Act.put, List.setIfInBounds_toArray, List.set_cons_zero, List.set_cons_succ]
  clear b2 hw2 HBA HMK HWD HB1 f2 hrd
  refine plan_one (l := []) rfl (wpQuiet_nil ?_)
  refine tail_call (vs := #[.int .u64 (base : Int), .int .i64 (cap : Int), .slice (some ⟨wd.heap.size, 0, none⟩) 184 184]) Tryz.call6 rfl rfl rfl (R := fun r w' => ∃ g A c, r = .pointer (some ⟨g, 0, none⟩) ∧ St w2 w' g base cap A c z []) ((HAR.out w2 _ 184 HRD.out).mono ?_) wd.heap.size (Nat.le_refl _) ?_
  · intro e w' hmade
    obtain ⟨g, A, c, rfl, hst⟩ := St.made hmade
    exact ⟨_, rfl, hst.bel.mono hs2, g, A, c, rfl, hst⟩
  rintro r w3 _ ⟨g, A, c, rfl, hst⟩
  have S3 := Lib.hid (hst.lift HB2.out)
  clear hst HAR HRD HB2 hs2
  refine plan_fin (l := ?la2) (t := []) ?hla2 rfl ?_
  case hla2 => simp only [pick, List.getElem?_toArray, List.getElem?_cons_succ, List.getElem?_cons_zero]; rfl
  simp only [Act.put, List.setIfInBounds_toArray, List.set_cons_zero, List.set_cons_succ]
  repeat (go_big_quiet_step (fail))
  refine wpQuiet_nil ?_
  have HE := Lib.hid S3.out.bel
  go_wp2
  go_ret
  exact ⟨rfl, HE.out⟩

set_option maxRecDepth 100000 in
set_option maxHeartbeats 16000000 in
theorem rpl_main (HT : TakeK) (HGv : GiveK) (HR : TrimK) (HU : UsedK) (HZ : ResizeK) (HWk : WalkC) (HAl : AllC) (HCk : CheckC) (w : World) (nb : Nat) (hnb : nb < 18446744073709551616) (cap : Nat) (h1 : 1024 ≤ cap) (h2 : cap ≤ 16384) (A1 : Option Addr) (k1 : Nat) (l : List Sp) (hL : SpRd w w.heap.size A1 l) (hl : l.length ≤ 100) :
    Calls Tryz.prog 3 #[.int .u64 (nb : Int), .int .i64 (cap : Int), .slice A1 l.length k1] w fun e w' => e = .returned (.bool true) ∧ Below w.heap.size w w' := by
  obtain ⟨ll, hll⟩ : ∃ ll, l.length = ll := ⟨_, rfl⟩
  rw [hll] at hl ⊢
  have s1 : decide ((100 : Int) < (ll : Int)) = false := decide_eq_false (by omega)
  have HLL := Lib.hid hll
  have HL := Lib.hid hL
  clear hll hL
  obtain ⟨base, hbase, hb16, hb62⟩ := base_facts nb
  have hba := fun W => lawbase_any W nb hnb
  rw [hbase] at hba
  obtain ⟨z, hz⟩ : ∃ z, List.replicate 184 (0 : UInt8) = z := ⟨_, rfl⟩
  have hzl : z.length = 184 := by rw [← hz]; exact List.length_replicate
  have hr0 := rt_zero hz cap (by omega)
  have hmk : ∀ W : World, (Instr.makeSlice 28 (.int .i64 184) (.int .i64 184)).run Tryz.prog W = .ok (.slice (some ⟨W.heap.size, 0, none⟩) 184 184) (W.alloc (.cells (rowB z) 5)) := run_mk0 184 (by omega) z hz
  have har := fun (W : World) (B : Option Addr) (k : Nat) (hr : Rd W W.heap.size B 184 z) => arena_any W base cap B k z (by rw [hzl]; exact hr) hb16 hb62 h1 h2 (by omega)
  rw [hzl] at har
  have HMK := Lib.hid hmk
  have HBA := Lib.hid hba
  have HAR := Lib.hid har
  have HZL := Lib.hid hzl
  have R0 := Lib.hid hr0
  have HUP := Lib.hid (up13_any HT HZ w)
  have HNW := Lib.hid (fun W => hNew_any W cap)
  have HT := Lib.hid HT
  have HGv := Lib.hid HGv
  have HZ := Lib.hid HZ
  have HR := Lib.hid HR
  have HU := Lib.hid HU
  have HWk := Lib.hid HWk
  have HAl := Lib.hid HAl
  have HCk := Lib.hid HCk
  clear hba hbase hnb hmk har hz hzl hr0 
  go_enter Tryz.func3, Tryz.ntmps3
  go_wp2_with fail
  refine HUP.out.mono ?_
  rintro e w1 ⟨rfl, hb⟩
  obtain ⟨wd, hwd⟩ : ∃ wd, w1.drew = wd := ⟨_, rfl⟩
  have HB1 : Hid (Below w.heap.size w wd) := (show Below _ _ _ by rw [← hwd]; exact hb.drew)
  have HWD := Lib.hid hwd
  clear hwd hb HUP
  go_wp2_with fail
  refine wp_region_plan wd.heap.size (.two [0, 2] 1 (.one [] 3 (.one [] 4 (.fin [5]))) 3 (.one [] 1 (.one [] 4 (.fin [5])))) [] (by kernel_rfl) (by kernel_rfl) (by kernel_rfl) (fun _ _ _ _ _ h => h) ?_
  rw [HWD.out]
  refine plan_two (l := ?seg1) ?hseg1 ?_
  case hseg1 => simp only [pick, List.getElem?_toArray, List.getElem?_cons_succ, List.getElem?_cons_zero]; rfl
  repeat (go_big_quiet_step (fail))
  refine wpQuiet_nil ?_
  obtain ⟨w2, hw2⟩ : ∃ w2, wd.alloc (.cells (rowB z) 5) = w2 := ⟨_, rfl⟩
  have b2 : Below wd.heap.size wd w2 := by rw [← hw2]; exact (Below.refl _ _).alloc (Nat.le_refl _) _
  have f2 : Fill w2 wd.heap.size 5 z := by rw [← hw2]; exact Fill.made wd _ _
  have hrd := f2.reads
  rw [HZL.out] at hrd
  have HRD := Lib.hid hrd
  have HB2 := Lib.hid (HB1.out.trans (b2.mono HB1.out.size))
  have hs2 := b2.size
  refine pair_any (d1 := 20) (d2 := 22) (v1 := .int .u64 (base : Int)) (v2 := .slice (some ⟨wd.heap.size, 0, none⟩) 184 184) (vs := #[.int .u64 (nb : Int)]) (w1 := w2) Tryz.call7 rfl rfl rfl (fun _ => rfl) (by decide) rfl rfl (fun W => (HBA.out W).mono (fun e w' h => ⟨h.1, h.2⟩)) (fun b => by rw [← hw2]; exact mk_run rfl rfl rfl (HMK.out wd)) (Nat.le_refl _) b2 ?_
  simp only [Act.put, List.setIfInBounds_toArray, List.set_cons_zero, List.set_cons_succ]
  clear b2 hw2 HBA HMK HWD HB1 f2 hrd
  refine plan_one (l := []) rfl (wpQuiet_nil ?_)
  refine tail_call (vs := #[.int .u64 (base : Int), .int .i64 (cap : Int), .slice (some ⟨wd.heap.size, 0, none⟩) 184 184]) Tryz.call6 rfl rfl rfl (R := fun r w' => ∃ g A c, r = .pointer (some ⟨g, 0, none⟩) ∧ St w2 w' g base cap A c z []) ((HAR.out w2 _ 184 HRD.out).mono ?_) wd.heap.size (Nat.le_refl _) ?_
  · intro e w' hmade
    obtain ⟨g, A, c, rfl, hst⟩ := St.made hmade
    exact ⟨_, rfl, hst.bel.mono hs2, g, A, c, rfl, hst⟩
  rintro r w3 _ ⟨g, A, c, rfl, hst⟩
  have S3 := Lib.hid (hst.lift HB2.out)
  clear hst HAR HRD HB2 hs2
  refine plan_fin (l := ?la2) (t := []) ?hla2 rfl ?_
  case hla2 => simp only [pick, List.getElem?_toArray, List.getElem?_cons_succ, List.getElem?_cons_zero]; rfl
  simp only [Act.put, List.setIfInBounds_toArray, List.set_cons_zero, List.set_cons_succ]
  repeat (go_big_quiet_step (fail))
  refine wpQuiet_nil ?_
  go_wp2_with fail
  refine (HNW.out w3).mono ?_
  rintro e w4 ⟨p, rfl, hm, hb⟩
  obtain ⟨F4, a4⟩ := Al.made S3.out hm hb
  have A4 := Lib.hid a4
  clear hm hb a4 S3 HNW s1
  go_wp2
  go_loopw [10] (fun i wr => ∃ (j : Nat) (A : Option Addr) (c : Nat) (bs : List UInt8) (F : Nat → Prop) (H : Hp), i = .int .i64 (j : Int) ∧ j ≤ ll ∧ Al w wr g base cap A c bs F p H ∧ Rt bs H ∧ H.Dl ∧ H.cap = cap) (fun i _ => ll - (intOf i).toNat)
  case atStart => exact ⟨0, A, c, z, F4, _, rfl, Nat.zero_le _, A4.out, R0.out, rfl, rfl⟩
  case round =>
    obtain ⟨j, A, c, bs, F, H, rfl, hj, ha, hrt, hd, hc⟩ := hrel
    clear A4 R0
    by_cases hlt : j < ll
    · obtain ⟨x, hx⟩ : ∃ x, l[j]? = some x := ⟨l[j]'(by rw [HLL.out]; exact hlt), List.getElem?_eq_getElem _⟩
      obtain ⟨b1, o1, rfl, hb1, hc1⟩ := (HL.out.below ha.st.bel) (by rw [HLL.out]; omega)
      obtain ⟨q0, q1, q2, q3, q4, _, hn, hm⟩ := hc1 j x hx
      obtain ⟨⟨xw, xn, xm, xr⟩, xe⟩ := x
      dsimp only at q0 q1 q2 q3 q4 hn hm
      have hji : (j : Int) < (ll : Int) := by omega
      obtain ⟨w5, hw5⟩ : ∃ w5, wr.alloc (.cells #[.int .i64 xw, .int .i64 xn, .int .i64 xm, .bool xr] 32) = w5 := ⟨_, rfl⟩
      have hb5 : Below wr.heap.size wr w5 := by rw [← hw5]; exact (Below.refl _ _).alloc (Nat.le_refl _) _
      obtain ⟨gd, hgd⟩ : ∃ gd, wr.heap.size = gd := ⟨_, rfl⟩
      have hnd : w5.heap[gd]? = some (.cells #[.int .i64 xw, .int .i64 xn, .int .i64 xm, .bool xr] 32 (0, 0)) := by rw [← hw5, ← hgd]; exact heap_alloc_new wr _
      have hgdlt := heap_lt hnd
      have a5 := ha.below hb5
      have hblt : b1 < wr.heap.size := Nat.lt_of_lt_of_le hb1 ha.size
      have p4 := (hb5.cell (p := ⟨b1, o1 + j * 5 + 4, none⟩) hblt).trans q4
      have r0 : w5.cell? ⟨gd, 0, none⟩ = some (.int .i64 xw) := by rw [cell_of_row w5 gd 0 _ _ (0, 0) hnd]; rfl
      have r1 : w5.cell? ⟨gd, 1, none⟩ = some (.int .i64 xn) := by rw [cell_of_row w5 gd 1 _ _ (0, 0) hnd]; rfl
      have r2 : w5.cell? ⟨gd, 2, none⟩ = some (.int .i64 xm) := by rw [cell_of_row w5 gd 2 _ _ (0, 0) hnd]; rfl
      have r3 : w5.cell? ⟨gd, 3, none⟩ = some (.bool xr) := by rw [cell_of_row w5 gd 3 _ _ (0, 0) hnd]; rfl
      have HW5 := Lib.hid hw5
      have HGD := Lib.hid hgd
      have hok := hrt.ok (hc ▸ h2) hd
      cases xe with
      | false =>
        have HDO := Lib.hid (ldo_any HT.out HGv.out HR.out HU.out a5 hrt hc hb62 h2 hd xw xn xm xr hn hm)
        clear hc1 hx ha hrt hd hc hn hm hok a5 hnd hgdlt hb5 hw5 hgd hblt hb1
        go_wp2_with (first | (rw [HW5.out, HGD.out]) | fail)
        refine HDO.out.mono ?_
        rintro e w6 ⟨rfl, A6, c6, bs6, F6, H6, ha, hrt, hd, hc⟩
        have A6 := Lib.hid ha
        have R6 := Lib.hid hrt
        have D6 := Lib.hid hd
        have C6 := Lib.hid hc
        clear ha hrt hd hc HDO q0 q1 q2 q3 q4 p4 r0 r1 r2 r3
        go_wp2
        go_roundw
        case rel => exact ⟨j + 1, _, _, _, _, _, by go_num, by omega, A6.out, R6.out, D6.out, C6.out⟩
        case measure => simp only [intOf]; omega
      | true =>
        have ho := oN_ok hok xn xr hn
        have hsb := sizeN_ok xm xr hm
        have hn512 := hok.n
        have HSZ := Lib.hid (fun w => lsize_any w xm hm xr)
        obtain ⟨o, hO⟩ : ∃ o, oN H xn xr = o := ⟨_, rfl⟩
        rw [hO] at ho
        obtain ⟨s, hS⟩ : ∃ s, sizeN xm xr = s := ⟨_, rfl⟩
        rw [hS] at hsb HSZ
        have HA5 := Lib.hid a5
        have HND := Lib.hid hnd
        have HRT := Lib.hid hrt
        have HOK := Lib.hid hok
        have HD := Lib.hid hd
        have HC := Lib.hid hc
        have HUS : Hid (xr = false → ∀ W, Below w5.heap.size w5 W → Calls Tryz.prog 10 #[.pointer (some ⟨p, 0, none⟩), .int .i64 xn] W fun e w' => e = .returned (.int .i64 o) ∧ Below W.heap.size W w') := fun hr W hW => by
          obtain ⟨Vb, Vd, gl, cs, hmm⟩ := (a5.below hW).hm
          subst hr
          have e : ((usedN H.blks xn : Nat) : Int) = o := hO
          rw [← e]
          exact lused_any hmm (by omega) xn
        have HOR : Hid (xr = true → xn = o) := fun hr => by subst hr; exact hO
        clear hc1 hx ha hrt hd hc hn hm hok a5 hb5 hw5 hgd hblt hb1 hO hS hn512 hnd hgdlt
        cases xr
        · have HUs := Lib.hid (HUS.out rfl _ (Below.refl _ _))
          go_wp2_with (first | (rw [HW5.out, HGD.out]) | fail)
          refine HUs.out.mono ?_
          rintro e w6 ⟨rfl, hb⟩
          have s2 := (hb.cell (p := ⟨gd, 2, none⟩) (heap_lt HND.out)).trans r2
          have s3 := (hb.cell (p := ⟨gd, 3, none⟩) (heap_lt HND.out)).trans r3
          have a6 := HA5.out.below hb
          clear hb r0 r1 r2 r3 HUs
          have A6 := Lib.hid a6
          clear HA5 HUS
          go_wp2_with fail
          refine (HSZ.out _).mono ?_
          rintro e w7 ⟨rfl, rfl⟩
          clear HSZ
          cases hs : isSz s with
          | false =>
            obtain ⟨cl, hcl⟩ : ∃ cl, classI s = cl := ⟨_, rfl⟩
            have hcn : cl < 0 := by rw [← hcl]; exact (classI_neg s).2 hs
            have hcb := classI_bounds s
            rw [hcl] at hcb
            have HCL := Lib.hid (fun w => rclass_any w s hsb cl hcl)
            have HSA := Lib.hid hs
            clear hs hcl
            go_wp2_with fail
            refine ((HZ.out w6 g base cap c A bs H o s A6.out.st.ar hb62 h2 HC.out HRT.out ho hsb).1 HSA.out).mono ?_
            rintro e w8 ⟨rfl, hb⟩
            have A8 := Lib.hid (A6.out.below hb)
            clear hb A6
            dsimp only [errV]
            go_wp2_with fail
            refine (HCL.out _).mono ?_
            rintro e w9 ⟨rfl, rfl⟩
            go_wp2_with fail
            refine (code_err _ 1 (by omega) (by omega)).mono ?_
            rintro e w9 ⟨rfl, rfl⟩
            go_wp2_with fail
            refine (lsame_any HWk.out HAl.out HCk.out A8.out HRT.out HC.out hb62 h2 HD.out).mono ?_
            rintro e w10 ⟨rfl, hb⟩
            have A10 := Lib.hid (A8.out.below hb)
            clear hb A8 HCL
            go_wp2
            go_roundw
            case rel => exact ⟨j + 1, _, _, _, _, _, by go_num, by omega, A10.out, HRT.out, HD.out, HC.out⟩
            case measure => simp only [intOf]; omega
          | true =>
            have hsn := is_nat hs
            obtain ⟨tt, ht⟩ : ∃ tt, s.toNat = tt := ⟨_, rfl⟩
            rw [ht] at hsn
            subst hsn
            obtain ⟨cl, hcl, hcl22⟩ : ∃ c : Nat, classI (tt : Int) = (c : Int) ∧ c < 22 := class_nat (x := ⟨0, tt, false⟩) hs
            have hcn : 0 ≤ (cl : Int) := by omega
            have HCL := Lib.hid (fun w => rclass_any w (tt : Int) hsb (cl : Int) hcl)
            have HSS := Lib.hid hs
            have herr := resize_err H o tt
            have hdl := HD.out.resize (s := tt) (o := o)
            have hcp := (resize_cap (H := H) (s := tt) (o := o)).trans HC.out
            have HDL := Lib.hid hdl
            have HCP := Lib.hid hcp
            clear hs hcl ht hdl hcp
            go_wp2_with fail
            refine ((HZ.out w6 g base cap c A bs H o (tt : Int) A6.out.st.ar hb62 h2 HC.out HRT.out ho hsb).2 HSS.out).mono ?_
            intro e w8 hT
            rw [Int.toNat_natCast] at hT
            rcases herr with herr | ⟨herr, hsame⟩ | ⟨herr, hsame⟩
            · obtain ⟨rfl, out, hbe, rt2, _⟩ := hT.1 herr
              obtain ⟨A8', c8, a8⟩ := A6.out.became hbe
              have A8 := Lib.hid a8
              have RT2 := Lib.hid rt2
              obtain ⟨Vb, Vd, gl, cs, hmm⟩ := a8.hm
              have HRZ := Lib.hid (hrez_any hmm HOK.out 1024 HRT.out.few (by omega) tt HSS.out (by rw [HC.out]; exact h2) HRT.out.listed o ho (HRT.out.moves HSS.out))
              have HER := Lib.hid herr
              obtain ⟨pq, hpq⟩ : ∃ pq, (H.resize o tt).1.1 = pq := ⟨_, rfl⟩
              have HPQ := Lib.hid hpq
              rw [hpq]
              clear hbe rt2 a8 hmm A6 hT herr hpq
              dsimp only [errV]
              go_wp2_with fail
              refine (HCL.out _).mono ?_
              rintro e w9 ⟨rfl, rfl⟩
              go_wp2_with fail
              refine HRZ.out.mono ?_
              rintro e w10 ⟨rfl, ht⟩
              rw [HER.out, HPQ.out]
              obtain ⟨F9, a9⟩ := A8.out.turn ht
              have A9 := Lib.hid a9
              clear ht a9 HRZ A8
              go_wp2_with fail
              refine (code_nil _).mono ?_
              rintro e w9 ⟨rfl, rfl⟩
              go_wp2_with fail
              refine (lsame_any HWk.out HAl.out HCk.out A9.out RT2.out HCP.out hb62 h2 HDL.out).mono ?_
              rintro e w10 ⟨rfl, hb⟩
              have A10 := Lib.hid (A9.out.below hb)
              clear hb A9
              go_wp2
              go_roundw
              case rel => exact ⟨j + 1, _, _, _, _, _, by go_num, by omega, A10.out, RT2.out, HDL.out, HCP.out⟩
              case measure => simp only [intOf]; omega
            · obtain ⟨rfl, hb⟩ := hT.2 (by rw [herr]; decide)
              have a8 := A6.out.below hb
              have A8 := Lib.hid a8
              obtain ⟨Vb, Vd, gl, cs, hmm⟩ := a8.hm
              have HRZ := Lib.hid (hrez_any hmm HOK.out 1024 HRT.out.few (by omega) tt HSS.out (by rw [HC.out]; exact h2) HRT.out.listed o ho (HRT.out.moves HSS.out))
              have HER := Lib.hid herr
              have HSAME := Lib.hid hsame
              rw [herr]
              clear hb a8 hmm A6 hT herr hsame
              dsimp only [errV]
              go_wp2_with fail
              refine (HCL.out _).mono ?_
              rintro e w9 ⟨rfl, rfl⟩
              go_wp2_with fail
              refine HRZ.out.mono ?_
              rintro e w10 ⟨rfl, ht⟩
              rw [HER.out]
              rw [HSAME.out] at ht
              obtain ⟨F9, a9⟩ := A8.out.turn ht
              have A9 := Lib.hid a9
              clear ht a9 HRZ A8
              dsimp only
              go_wp2_with fail
              refine (code_err _ 3 (by omega) (by omega)).mono ?_
              rintro e w9 ⟨rfl, rfl⟩
              go_wp2_with fail
              refine (lsame_any HWk.out HAl.out HCk.out A9.out HRT.out HC.out hb62 h2 HD.out).mono ?_
              rintro e w10 ⟨rfl, hb⟩
              have A10 := Lib.hid (A9.out.below hb)
              clear hb A9
              go_wp2
              go_roundw
              case rel => exact ⟨j + 1, _, _, _, _, _, by go_num, by omega, A10.out, HRT.out, HD.out, HC.out⟩
              case measure => simp only [intOf]; omega
            · obtain ⟨rfl, hb⟩ := hT.2 (by rw [herr]; decide)
              have a8 := A6.out.below hb
              have A8 := Lib.hid a8
              obtain ⟨Vb, Vd, gl, cs, hmm⟩ := a8.hm
              have HRZ := Lib.hid (hrez_any hmm HOK.out 1024 HRT.out.few (by omega) tt HSS.out (by rw [HC.out]; exact h2) HRT.out.listed o ho (HRT.out.moves HSS.out))
              have HER := Lib.hid herr
              have HSAME := Lib.hid hsame
              rw [herr]
              clear hb a8 hmm A6 hT herr hsame
              dsimp only [errV]
              go_wp2_with fail
              refine (HCL.out _).mono ?_
              rintro e w9 ⟨rfl, rfl⟩
              go_wp2_with fail
              refine HRZ.out.mono ?_
              rintro e w10 ⟨rfl, ht⟩
              rw [HER.out]
              rw [HSAME.out] at ht
              obtain ⟨F9, a9⟩ := A8.out.turn ht
              have A9 := Lib.hid a9
              clear ht a9 HRZ A8
              dsimp only
              go_wp2_with fail
              refine (code_err _ 5 (by omega) (by omega)).mono ?_
              rintro e w9 ⟨rfl, rfl⟩
              go_wp2_with fail
              refine (lsame_any HWk.out HAl.out HCk.out A9.out HRT.out HC.out hb62 h2 HD.out).mono ?_
              rintro e w10 ⟨rfl, hb⟩
              have A10 := Lib.hid (A9.out.below hb)
              clear hb A9
              go_wp2
              go_roundw
              case rel => exact ⟨j + 1, _, _, _, _, _, by go_num, by omega, A10.out, HRT.out, HD.out, HC.out⟩
              case measure => simp only [intOf]; omega
        · have hxo := HOR.out rfl
          subst hxo
          go_wp2_with (first | (rw [HW5.out, HGD.out]) | fail)
          have a6 := HA5.out
          have A6 := Lib.hid a6
          clear HA5 HUS
          refine (HSZ.out _).mono ?_
          rintro e w7 ⟨rfl, rfl⟩
          clear HSZ
          cases hs : isSz s with
          | false =>
            obtain ⟨cl, hcl⟩ : ∃ cl, classI s = cl := ⟨_, rfl⟩
            have hcn : cl < 0 := by rw [← hcl]; exact (classI_neg s).2 hs
            have hcb := classI_bounds s
            rw [hcl] at hcb
            have HCL := Lib.hid (fun w => rclass_any w s hsb cl hcl)
            have HSA := Lib.hid hs
            clear hs hcl
            go_wp2_with fail
            refine ((HZ.out w5 g base cap c A bs H xn s A6.out.st.ar hb62 h2 HC.out HRT.out ho hsb).1 HSA.out).mono ?_
            rintro e w8 ⟨rfl, hb⟩
            have A8 := Lib.hid (A6.out.below hb)
            clear hb A6
            dsimp only [errV]
            go_wp2_with fail
            refine (HCL.out _).mono ?_
            rintro e w9 ⟨rfl, rfl⟩
            go_wp2_with fail
            refine (code_err _ 1 (by omega) (by omega)).mono ?_
            rintro e w9 ⟨rfl, rfl⟩
            go_wp2_with fail
            refine (lsame_any HWk.out HAl.out HCk.out A8.out HRT.out HC.out hb62 h2 HD.out).mono ?_
            rintro e w10 ⟨rfl, hb⟩
            have A10 := Lib.hid (A8.out.below hb)
            clear hb A8 HCL
            go_wp2
            go_roundw
            case rel => exact ⟨j + 1, _, _, _, _, _, by go_num, by omega, A10.out, HRT.out, HD.out, HC.out⟩
            case measure => simp only [intOf]; omega
          | true =>
            have hsn := is_nat hs
            obtain ⟨tt, ht⟩ : ∃ tt, s.toNat = tt := ⟨_, rfl⟩
            rw [ht] at hsn
            subst hsn
            obtain ⟨cl, hcl, hcl22⟩ : ∃ c : Nat, classI (tt : Int) = (c : Int) ∧ c < 22 := class_nat (x := ⟨0, tt, false⟩) hs
            have hcn : 0 ≤ (cl : Int) := by omega
            have HCL := Lib.hid (fun w => rclass_any w (tt : Int) hsb (cl : Int) hcl)
            have HSS := Lib.hid hs
            have herr := resize_err H xn tt
            have hdl := HD.out.resize (s := tt) (o := xn)
            have hcp := (resize_cap (H := H) (s := tt) (o := xn)).trans HC.out
            have HDL := Lib.hid hdl
            have HCP := Lib.hid hcp
            clear hs hcl ht hdl hcp
            go_wp2_with fail
            refine ((HZ.out w5 g base cap c A bs H xn (tt : Int) A6.out.st.ar hb62 h2 HC.out HRT.out ho hsb).2 HSS.out).mono ?_
            intro e w8 hT
            rw [Int.toNat_natCast] at hT
            rcases herr with herr | ⟨herr, hsame⟩ | ⟨herr, hsame⟩
            · obtain ⟨rfl, out, hbe, rt2, _⟩ := hT.1 herr
              obtain ⟨A8', c8, a8⟩ := A6.out.became hbe
              have A8 := Lib.hid a8
              have RT2 := Lib.hid rt2
              obtain ⟨Vb, Vd, gl, cs, hmm⟩ := a8.hm
              have HRZ := Lib.hid (hrez_any hmm HOK.out 1024 HRT.out.few (by omega) tt HSS.out (by rw [HC.out]; exact h2) HRT.out.listed xn ho (HRT.out.moves HSS.out))
              have HER := Lib.hid herr
              obtain ⟨pq, hpq⟩ : ∃ pq, (H.resize xn tt).1.1 = pq := ⟨_, rfl⟩
              have HPQ := Lib.hid hpq
              rw [hpq]
              clear hbe rt2 a8 hmm A6 hT herr hpq
              dsimp only [errV]
              go_wp2_with fail
              refine (HCL.out _).mono ?_
              rintro e w9 ⟨rfl, rfl⟩
              go_wp2_with fail
              refine HRZ.out.mono ?_
              rintro e w10 ⟨rfl, ht⟩
              rw [HER.out, HPQ.out]
              obtain ⟨F9, a9⟩ := A8.out.turn ht
              have A9 := Lib.hid a9
              clear ht a9 HRZ A8
              go_wp2_with fail
              refine (code_nil _).mono ?_
              rintro e w9 ⟨rfl, rfl⟩
              go_wp2_with fail
              refine (lsame_any HWk.out HAl.out HCk.out A9.out RT2.out HCP.out hb62 h2 HDL.out).mono ?_
              rintro e w10 ⟨rfl, hb⟩
              have A10 := Lib.hid (A9.out.below hb)
              clear hb A9
              go_wp2
              go_roundw
              case rel => exact ⟨j + 1, _, _, _, _, _, by go_num, by omega, A10.out, RT2.out, HDL.out, HCP.out⟩
              case measure => simp only [intOf]; omega
            · obtain ⟨rfl, hb⟩ := hT.2 (by rw [herr]; decide)
              have a8 := A6.out.below hb
              have A8 := Lib.hid a8
              obtain ⟨Vb, Vd, gl, cs, hmm⟩ := a8.hm
              have HRZ := Lib.hid (hrez_any hmm HOK.out 1024 HRT.out.few (by omega) tt HSS.out (by rw [HC.out]; exact h2) HRT.out.listed xn ho (HRT.out.moves HSS.out))
              have HER := Lib.hid herr
              have HSAME := Lib.hid hsame
              rw [herr]
              clear hb a8 hmm A6 hT herr hsame
              dsimp only [errV]
              go_wp2_with fail
              refine (HCL.out _).mono ?_
              rintro e w9 ⟨rfl, rfl⟩
              go_wp2_with fail
              refine HRZ.out.mono ?_
              rintro e w10 ⟨rfl, ht⟩
              rw [HER.out]
              rw [HSAME.out] at ht
              obtain ⟨F9, a9⟩ := A8.out.turn ht
              have A9 := Lib.hid a9
              clear ht a9 HRZ A8
              dsimp only
              go_wp2_with fail
              refine (code_err _ 3 (by omega) (by omega)).mono ?_
              rintro e w9 ⟨rfl, rfl⟩
              go_wp2_with fail
              refine (lsame_any HWk.out HAl.out HCk.out A9.out HRT.out HC.out hb62 h2 HD.out).mono ?_
              rintro e w10 ⟨rfl, hb⟩
              have A10 := Lib.hid (A9.out.below hb)
              clear hb A9
              go_wp2
              go_roundw
              case rel => exact ⟨j + 1, _, _, _, _, _, by go_num, by omega, A10.out, HRT.out, HD.out, HC.out⟩
              case measure => simp only [intOf]; omega
            · obtain ⟨rfl, hb⟩ := hT.2 (by rw [herr]; decide)
              have a8 := A6.out.below hb
              have A8 := Lib.hid a8
              obtain ⟨Vb, Vd, gl, cs, hmm⟩ := a8.hm
              have HRZ := Lib.hid (hrez_any hmm HOK.out 1024 HRT.out.few (by omega) tt HSS.out (by rw [HC.out]; exact h2) HRT.out.listed xn ho (HRT.out.moves HSS.out))
              have HER := Lib.hid herr
              have HSAME := Lib.hid hsame
              rw [herr]
              clear hb a8 hmm A6 hT herr hsame
              dsimp only [errV]
              go_wp2_with fail
              refine (HCL.out _).mono ?_
              rintro e w9 ⟨rfl, rfl⟩
              go_wp2_with fail
              refine HRZ.out.mono ?_
              rintro e w10 ⟨rfl, ht⟩
              rw [HER.out]
              rw [HSAME.out] at ht
              obtain ⟨F9, a9⟩ := A8.out.turn ht
              have A9 := Lib.hid a9
              clear ht a9 HRZ A8
              dsimp only
              go_wp2_with fail
              refine (code_err _ 5 (by omega) (by omega)).mono ?_
              rintro e w9 ⟨rfl, rfl⟩
              go_wp2_with fail
              refine (lsame_any HWk.out HAl.out HCk.out A9.out HRT.out HC.out hb62 h2 HD.out).mono ?_
              rintro e w10 ⟨rfl, hb⟩
              have A10 := Lib.hid (A9.out.below hb)
              clear hb A9
              go_wp2
              go_roundw
              case rel => exact ⟨j + 1, _, _, _, _, _, by go_num, by omega, A10.out, HRT.out, HD.out, HC.out⟩
              case measure => simp only [intOf]; omega
    · have HSM := Lib.hid (lsame_any HWk.out HAl.out HCk.out ha hrt hc hb62 h2 hd)
      have HB := Lib.hid ha.st
      clear ha hrt hd hc
      go_wp2_with fail
      refine HSM.out.mono ?_
      rintro e w6 ⟨rfl, hb⟩
      have HE := Lib.hid (HB.out.below hb).bel
      clear hb HSM HB
      go_wp2
      go_ret
      exact ⟨rfl, HE.out⟩
theorem rpl_any (HT : TakeK) (HG : GiveK) (HR : TrimK) (HU : UsedK) (HZ : ResizeK) (HWk : WalkC) (HAl : AllC) (HCk : CheckC) (w : World) (nb : Nat) (hnb : nb < 18446744073709551616) (cap : Int) (hc : -9223372036854775808 ≤ cap ∧ cap ≤ 9223372036854775807) (A1 : Option Addr) (k1 : Nat) (l : List Sp) (hL : SpRd w w.heap.size A1 l) :
    Calls Tryz.prog 3 #[.int .u64 (nb : Int), .int .i64 cap, .slice A1 l.length k1] w fun e w' => e = .returned (.bool true) ∧ Below w.heap.size w w' := by
  by_cases hbad : cap < 1024 ∨ 16384 < cap
  · exact rpl_no HT HZ w nb hnb cap hc hbad A1 _ k1
  · obtain ⟨k, rfl⟩ : ∃ k : Nat, cap = (k : Int) := ⟨cap.toNat, by omega⟩
    rcases Nat.lt_or_ge 100 l.length with hl | hl
    · exact rpl_long HT HZ w nb hnb k (by omega) (by omega) A1 _ k1 hl
    · exact rpl_main HT HG HR HU HZ HWk HAl HCk w nb hnb k (by omega) (by omega) A1 k1 l hL hl
end
end Go.Proofs.YtdjjbmefaggelaaGreat
