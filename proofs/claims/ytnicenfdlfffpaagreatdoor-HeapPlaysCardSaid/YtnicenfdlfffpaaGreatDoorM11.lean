/- Texts of mine, joined. -/
import Derived.Maps.AppendAt
import Derived.Test.YtnicenfdlfffpaaGreatDoorM10
set_option maxRecDepth 100000
set_option maxHeartbeats 1000000
namespace Go.Proofs.YtnicenfdlfffpaaGreatDoor
open Go.RowKit
def adi (l : List Cl) (most : Nat) : Bool := decide (l.length <= most) && l.all fun x => decide (x.b.length <= 2000)
theorem ah1 (w : World) (A : Option Addr) (k : Nat) (l : List Cl) (hL : ClRd w w.heap.size A l) (hm : l.length <= 9223372036854775807) (most : Nat) (h1 : most <= 1000) :
 Calls Tryz.prog 8 #[.slice A l.length k, .int .i64 (most : Int)] w fun e w' => e = .returned (.int .i64 (if adi l most = true then 1 else 0)) /\ w = w' := by
 by_cases hl : most < l.length
 · have e : adi l most = false := by unfold adi; rw [decide_eq_false (by omega)]; rfl
   rw [e]; have g1 : decide (most < l.length) = true := decide_eq_true hl; clear e hL; go_enter Tryz.func8, Tryz.ntmps8
   go_wp2
   go_ret
   exact ⟨rfl, rfl⟩
 · have g1 : decide (most < l.length) = false := decide_eq_false hl; have HE : Hid (∀ j, (∀ i x, i < j -> l[i]? = some x -> x.b.length <= 2000) -> (j = l.length -> adi l most = true) /\ ∀ x, l[j]? = some x -> 2000 < x.b.length -> adi l most = false) := fun j hj => by
    refine ⟨fun e => ?_, fun x hx hb => ?_⟩
    · unfold adi; rw [decide_eq_true (by omega), Bool.true_and, List.all_eq_true]; intro x hx; obtain ⟨i, hi⟩ := List.mem_iff_getElem?.1 hx; exact decide_eq_true (hj i x (by have := aa5 hi; omega) hi)
    · unfold adi; have : (l.all fun x => decide (x.b.length <= 2000)) = false := by
       rw [List.all_eq_false]; exact ⟨x, List.mem_of_getElem? hx, by simp; omega⟩
      rw [this, Bool.and_false]
   obtain ⟨n, hn⟩ := nmE l.length; rw [hn] at g1 hl hm ⊢; have HN := hE0 hn; obtain ⟨v, hv⟩ : ∃ v : Int, (if adi l most = true then (1 : Int) else 0) = v := ⟨_, rfl⟩; have HV := hE0 hv; rw [hv]; have HL := hE0 hL; clear hL hn hv; go_enter Tryz.func8, Tryz.ntmps8
   go_wp2
   go_loopw [5] (fun i wr => ∃ j : Nat, i = .int .i64 (j : Int) /\ j <= n /\ (∀ i x, i < j -> l[i]? = some x -> x.b.length <= 2000) /\ w = wr) (fun i _ => n - (intOf i).toNat)
   case atStart => exact ⟨0, rfl, Nat.zero_le _, fun i x hi => absurd hi (Nat.not_lt_zero _), rfl⟩
   case round =>
    obtain ⟨j, rfl, hj, hs, rfl⟩ := hrel; obtain ⟨hE1, hE2⟩ := HE.out j hs; by_cases hlt : j < n
    · obtain ⟨x, hx⟩ : ∃ x, l[j]? = some x := ⟨l[j]'(by rw [HN.out]; exact hlt), List.getElem?_eq_getElem _⟩; obtain ⟨b, o, rfl, _, hc⟩ := HL.out (by rw [HN.out]; omega); obtain ⟨⟨c0, c1, c2, c3, c4, c5, c6⟩, _⟩ := hc j x hx; have hE3 := hE2 x hx; obtain ⟨bl, hbl⟩ := nmE x.b.length; rw [hbl] at c6 hE3; have HX := hE0 hx; have HBL := hE0 hbl; have HS := hE0 hs; by_cases hb : 2000 < bl
      · have g3 : decide ((2000 : Int) < (bl : Int)) = true := decide_eq_true (by omega); have e := hE3 hb; have HV0 : Hid (v = 0) := (show v = 0 by rw [<- HV.out, e]; rfl); clear hE1 hE2 hE3 hc hx hbl hs e; go_wp2
        go_ret
        rw [HV0.out]; exact ⟨rfl, rfl⟩
      · have g3 : decide ((2000 : Int) < (bl : Int)) = false := decide_eq_false (by omega); have HS2 : Hid (∀ i z, i < j + 1 -> l[i]? = some z -> z.b.length <= 2000) := fun i z hi hz => by
         by_cases e : i < j
         · exact HS.out i z e hz
         · obtain rfl : i = j := by omega
           rw [HX.out] at hz; injection hz with hz; rw [<- hz, HBL.out]; omega
        clear hE1 hE2 hE3 hc hx hbl hs; go_wp2
        go_roundw
        case rel => exact ⟨j + 1, by go_num, by omega, HS2.out, trivial⟩
        case measure => simp only [intOf]; omega
    · have e := hE1 (by rw [HN.out]; omega); have HV1 : Hid (v = 1) := (show v = 1 by rw [<- HV.out, e]; rfl); clear hE1 hE2 hs e; go_wp2
      go_ret
      rw [HV1.out]; exact ⟨rfl, rfl⟩
theorem anJ (w : World) (r : Rp) (A1 A2 : Option Addr) (c1 c2 : Nat) (h1 : Rd w w.heap.size A1 r.b.length r.b) (h2 : Rd w w.heap.size A2 r.b.length r.b) :
 Calls Tryz.prog 13 #[rpV r A1 c1, rpV r A2 c2] w fun e w' => e = .returned (.bool true) /\ Below w.heap.size w w' := by
 obtain ⟨rk, rh, rn, rb, ⟨s0, s1, s2, s3, s4⟩⟩ := r; unfold rpV aek; dsimp only at h1 h2 ⊢; obtain ⟨bl, hbl⟩ := nmE rb.length; rw [hbl] at h1 h2 ⊢; obtain ⟨w1, hw1⟩ := nmE (w.alloc (.cells #[.int .i64 rk, .int .u64 (rh : Int), .int .u64 (rn : Int), .slice A1 bl c1, .int .i64 (s0 : Int), .int .i64 (s1 : Int), .int .i64 (s2 : Int), .int .i64 (s3 : Int), .int .i64 (s4 : Int)] 45)); obtain ⟨w2, hw2⟩ := nmE (w1.alloc (.cells #[.int .i64 rk, .int .u64 (rh : Int), .int .u64 (rn : Int), .slice A2 bl c2, .int .i64 (s0 : Int), .int .i64 (s1 : Int), .int .i64 (s2 : Int), .int .i64 (s3 : Int), .int .i64 (s4 : Int)] 45)); have b1 := abE hw1; have b2 := abE hw2; have n1 := anE hw1; have n2 := anE hw2; have m2 := (b2.block _ (aab n1)).trans n1; have b12 := b1.trans (b2.mono b1.size); obtain ⟨⟨y0, y1, y2, y3, y4, y5, y6, y7, y8⟩, _⟩ := aah m2; obtain ⟨⟨z0, z1, z2, z3, z4, z5, z6, z7, z8⟩, _⟩ := aah n2; have hy := aaa m2; have hz := aaa n2; have q1 := ah7 (c := c1) ((h1.below b12).more b12.size); have q2 := ah7 (c := c2) ((h2.below b12).more b12.size); have HB := hE0 b12; have HW1 := hE0 hw1; have HW2 := hE0 hw2; clear h1 h2 hw1 hw2 b1 b2 n1 n2 m2 b12 hbl; go_enter Tryz.func13, Tryz.ntmps13
 go_wp2_with (first | (rw [HW1.out]) | (rw [HW2.out]) | fail)
 go_ret
 exact ⟨rfl, HB.out⟩
theorem apf : (Tryz.prog.info? 22).map (fun i => (i.zero, i.size, i.bytes)) = some (some (.int .u64 0), 1, 8) := by kernel_rfl
theorem Tl.own {w : World} {B : Nat} {A : Option Addr} {c : Nat} {told : List Nat} (h : w.ownsRow B 22 1 (.slice A told.length c) told.length (told.map uV)) : Tl w B A told := fun hn => by
 rcases h.2 with ⟨h', _⟩ | ⟨g, _, _, h', _⟩
 · injection h' with _ e _; omega
 · injection h' with e; subst e; refine ⟨g, rfl, (h.lt g rfl).1, (h.lt g rfl).2, fun j v hv => ?_⟩; have := h.cellAt j (by have := aa5 hv; omega); rw [this, List.getElem?_map, hv]; rfl
def Oth (w : World) (k : Nat) : Prop := ∃ cs ty, w.heap[k]? = some (.cells cs ty (0, 0)) /\ ty ≠ 69 /\ ty ≠ 79 /\ ty ≠ 5
section
variable {B : Nat} {w w' : World} {q g base cap c : Nat} {A : Option Addr} {bs : List UInt8} {H H' : Hp} {k : Nat}
theorem PH.oth (h : PH w q g base cap A c bs H) (ho : Oth w k) : ¬ (k = q \/ abg g A k) := by
 obtain ⟨cs, ty, hk, n1, n2, n3⟩ := ho; rintro (rfl | rfl | ⟨a, ea, rfl⟩)
 · have h1 := h.obj; rw [hk] at h1; injection h1 with h1; injection h1 with _ h2 _; exact n1 h2
 · have h1 := h.ar.obj; rw [hk] at h1; injection h1 with h1; injection h1 with _ h2 _; exact n2 h2
 · obtain ⟨h', e, cur, hg, _⟩ := h.ar.row ea; subst e; rw [hk] at hg; injection hg with hg; injection hg with _ h2 _; exact n3 h2
theorem PH.keepO (h : PH w q g base cap A c bs H) {S : Nat -> Prop} (ht : Tch S w w') (hS : ∀ k, (k = q \/ abg g A k) -> ¬ S k) : PH w' q g base cap A c bs H :=
 ⟨(ht.block q h.lt (hS q (.inl rfl))).trans h.obj, h.ar.tch ht (fun k hk => hS k (.inr hk)), h.rd, h.cp, h.c16, h.b62⟩
theorem Hv.keepO (h : Hv B w q g base cap A c bs H) {S : Nat -> Prop} (ht : Tch S w w') (hS : ∀ k, (k = q \/ abg g A k) -> ¬ S k) : Hv B w' q g base cap A c bs H := ⟨h.ph.keepO ht hS, h.qB, h.gB, h.aB⟩
theorem PH.locO (h : PH w q g base cap A c bs H) (ht : Tch (abg g A) w w') {cs : Array Value} {ty : TypeId} (hk : w.heap[k]? = some (.cells cs ty (0, 0))) (n1 : ty ≠ 69) (n2 : ty ≠ 79) (n3 : ty ≠ 5) : w'.heap[k]? = some (.cells cs ty (0, 0)) :=
 (ht.block k (aab hk) (fun hf => h.oth ⟨cs, ty, hk, n1, n2, n3⟩ (.inr hf))).trans hk
theorem PH.ownO (h : PH w q g base cap A c bs H) (ht : Tch (abg g A) w w') {n : Nat} {ty : TypeId} {v : Value} {xs : List Value} (ho : w.ownsRow B ty 1 v n xs) (n1 : ty ≠ 69) (n2 : ty ≠ 79) (n3 : ty ≠ 5) : w'.ownsRow B ty 1 v n xs := by
 refine ⟨ho.1, ?_⟩; rcases ho.2 with h2 | ⟨g', cap', cur, hv, hg, hh, r⟩
 · exact .inl h2
 · exact .inr ⟨g', cap', cur, hv, hg, h.locO ht hh n1 n2 n3, r⟩
end
section
variable {B : Nat} {w w' : World} {cap q1 g1 c1 q2 g2 c2 : Nat} {A1 A2 : Option Addr} {b1 b2 : List UInt8} {H1 H2 H' : Hp}
theorem Hv.own_lt {q g base c : Nat} {A : Option Addr} {bs : List UInt8} {H : Hp} (h : Hv B w q g base cap A c bs H) {k : Nat} (hk : k = q \/ abg g A k) : k < w.heap.size := by
 rcases hk with rfl | hk
 · exact h.ph.lt
 · exact h.ph.ar.foot_lt hk
end
section
variable {H : Hp}
end
section
variable {bs : List UInt8} {H : Hp}
theorem an7 (h : RtD bs H) (hc : H.cap <= 16384) (n : Nat) (x : UInt8) : (H.get n x).1.1 < 18446744073709551616 := by
 unfold Hp.get
 cases hs : abW n with
 | none => exact Nat.zero_lt_succ _
 | some s =>
  dsimp only
  cases hq : (H.take s).1 with
  | none => exact Nat.zero_lt_succ _
  | some o =>
   dsimp only; obtain ⟨y, y1, y2, y3, y4, y5, y6⟩ := h.rt.what (ach hs) hq; have hok := (h.rt.ok hc h.dl).take hc (ach hs); have hm := (aai _ _ _ hok.tl).2 y y1; have := hok.le; omega
theorem amb (h : RtD bs H) (hc : H.cap <= 16384) (n m : Nat) : (H.calloc n m).1.1 < 18446744073709551616 := by
 unfold Hp.calloc; split
 · exact Nat.zero_lt_succ _
 · exact an7 h hc _ _
theorem akm (h : RtD bs H) (hc : H.cap <= 16384) (p n : Nat) : (H.realloc p n).1.1 < 18446744073709551616 := by
 unfold Hp.realloc; split
 · exact Nat.zero_lt_succ _
 · cases hs : abW n with
   | none => exact Nat.zero_lt_succ _
   | some s =>
    dsimp only; split
    · rename_i he; dsimp only; rcases aeD he with e | e
      · rename_i hh; obtain ⟨h8, h2, _⟩ := abO hh; omega
      · obtain ⟨y, y1, y2, y3, y4, y5, y6⟩ := h.rt.what (ach hs) e; have hok := (h.rt.ok hc h.dl).take hc (ach hs); have hm := (aai _ _ _ hok.tl).2 y y1; have := hok.le; omega
    · exact Nat.zero_lt_succ _
end
theorem apg {w : World} {B n c : Nat} {A : Option Addr} {xs : List Value} (h : w.ownsRow B 22 1 (.slice A n c) n xs) {k : Nat} (hk : (Value.slice A n c).ownBlock = some k) : Oth w k := by
 rcases h.2 with ⟨h', _⟩ | ⟨g', cap', cur, hv, hg, hh, r⟩
 · injection h' with e _ _; subst e
   cases hk
 · injection hv with e _ _; subst e; have e2 : g' = k := by simpa [Value.ownBlock] using hk
   subst e2; exact ⟨_, _, hh, by decide, by decide, by decide⟩
section
variable {w w' : World} {q g base cap c : Nat} {A : Option Addr} {bs out : List UInt8} {H H' : Hp}
theorem aph (h : PH w q g base cap A c bs H) (hE : ET w) (h0 : ¬ abg g A 0) (op : Nat) (hop : op < 9) (p n m a bl k : Nat) (B : Option Addr) (b : List UInt8) (hp : p < 18446744073709551616) (hn : n < 18446744073709551616) (hm : m < 18446744073709551616) (ha : a < 18446744073709551616) (hbl : b.length = bl) (hr : Rd w w.heap.size B b.length b) (hb6 : bl <= 1000000) :
 Calls Tryz.prog 11 #[.pointer (some ⟨q, 0, none⟩), aa6 (op : Int) p n m a B bl k] w fun e w' => adx (H.doC (op : Int) p n m a b).1 w e w' /\ PTurn g base cap A (H.doC (op : Int) p n m a b).2 w w' := by
 have ho : op = 0 \/ op = 1 \/ op = 2 \/ op = 3 \/ op = 4 \/ op = 5 \/ op = 6 \/ op = 7 \/ op = 8 := by omega
 rcases ho with rfl | rfl | rfl | rfl | rfl | rfl | rfl | rfl | rfl
 · exact aqw h hE h0 p n m a bl k B b
 · exact aqx h hE h0 p n m a bl k B b hn
 · exact aqy h hE h0 p n m a bl k B b hn hm
 · exact aqz h hE h0 p n m a bl k B b hp
 · exact aqA h hE h0 p n m a bl k B b hp hn
 · exact aqB h hE h0 p n m a bl k B b hp
 · exact aqC h hE h0 p n m a bl k B b hp ha hn
 · exact aqD h hE h0 p n m a bl k B b hp ha hbl hr hb6
 · exact aqE h hE h0 p n m a bl k B b
theorem ag5 (op : Int) (q n m p : Nat) (b : List UInt8) (h : op = 5 \/ op = 6 \/ op = 7) : H.doC op q n m p b = H.heldC op q n p b := by
 unfold Hp.doC; rw [if_neg (by omega), if_neg (by omega), if_neg (by omega), if_neg (by omega), if_pos h]
theorem Rt.atTake (h : Rt bs H) {s o : Nat} (hs : aaG (s : Int) = true) (hx : (H.take s).1 = some o) : ∃ i, atB (o : Int) (H.take s).2.blks = some i := by
 obtain ⟨y, y1, y2, _⟩ := h.what hs hx; obtain ⟨i, hi⟩ := ado y1; rw [y2] at hi; exact ⟨i, hi⟩
theorem RtD.held_le (h : RtD bs H) {p i : Nat} (hh : H.handleB p = some i) : (H.ds.getD i aaR).2.length <= 100000 := by
 obtain ⟨_, _, hu⟩ := abO hh; obtain ⟨h1, h2, h3⟩ := acI hu; have hdl : i < H.ds.length := by rw [h.dl]; exact h1
 have ha : H.At i (aag H.blks i) (H.ds.getD i aaR) := ⟨aax h1, by rw [List.getD_eq_getElem?_getD, List.getElem?_eq_getElem hdl]; rfl⟩; obtain ⟨e, _⟩ := h.ho i _ _ ha h3; have := h.rt.sz (List.mem_of_getElem? (aax h1)); omega
theorem api {F G : Nat -> Prop} {p : Nat} (h : Hd F G w p H) (rd : RtD bs H) (hc : H.cap <= 16384) (op : Nat) (hop : op < 9) (q n m a bl k : Nat) (B : Option Addr) (b : List UInt8) (hR : RtD out (H.doC (op : Int) q n m a b).2) (hcap : (H.doC (op : Int) q n m a b).2.cap <= 16384) (hq : q < 18446744073709551616) (hn : n < 18446744073709551616) (ha : a < 18446744073709551616) (hbl : b.length = bl) (hr : Rd w w.heap.size B b.length b) (hb6 : bl <= 100000) (hBG : ∀ x, B = some x -> 0 < b.length -> ¬ G x.block) :
 Calls Tryz.prog 12 #[.pointer (some ⟨p, 0, none⟩), aa6 (op : Int) q n m a B bl k] w fun e w' => acs F G w p (H.doC (op : Int) q n m a b) e w' := by
 have hok := rd.rt.ok hc rd.dl; have hD : ∀ i, H.handleB q = some i -> (H.ds.getD i aaR).2.length <= 100000 := fun i hi => rd.held_le hi; have ho : op = 0 \/ op = 1 \/ op = 2 \/ op = 3 \/ op = 4 \/ op = 5 \/ op = 6 \/ op = 7 \/ op = 8 := by omega
 rcases ho with rfl | rfl | rfl | rfl | rfl | rfl | rfl | rfl | rfl
 · have e := anB (H := H) q n m a b; have e : H.doC ((0 : Nat) : Int) q n m a b = _ := e; rw [e]; exact aqI h q n m a bl k B
 · have e : H.doC ((1 : Nat) : Int) q n m a b = _ := anC (H := H) q n m a b; rw [e]; exact aqF h q n m a bl k B (H.get n 165) (fun W hb => agU (h.below hb) hok 1024 rd.rt.few (by omega) rd.rt.listed hc n hn 165 (fun s o hs hx => rd.rt.atTake (ach hs) hx))
 · have e : H.doC ((2 : Nat) : Int) q n m a b = _ := anD (H := H) q n m a b; rw [e]; exact aqG h q n m a bl k B (H.calloc n m) (fun W hb => aiR (h.below hb) hok 1024 rd.rt.few (by omega) rd.rt.listed hc n m hn (fun s o hs hx => rd.rt.atTake hs hx))
 · have e : H.doC ((3 : Nat) : Int) q n m a b = _ := anF (H := H) q n m a b; rw [e]; refine aqM h q n m a bl k B hok hq 1024 rd.rt.few (by omega) (H.freeP q).2 (H.freeP q).1 ?_; unfold Hp.freeP
   cases hh : H.handleB q with
   | none => exact ⟨rfl, rfl⟩
   | some i => exact ⟨rfl, rfl, alj⟩
 · have e : H.doC ((4 : Nat) : Int) q n m a b = _ := anG (H := H) q n m a b; rw [e] at hR hcap ⊢; refine aqH h q n m a bl k B (H.realloc q n) (fun W hb => ahN (h.below hb) hok 1024 rd.rt.few (by omega) rd.rt.listed hc q n hq hn (fun i hh s hs o hx => ?_) (fun i hh s hs he => ?_))
   · have hsz := ach hs; obtain ⟨_, _, hu⟩ := abO hh; obtain ⟨⟨iq, h1⟩, io, x0, h2, h3, _⟩ := rd.rt.movesU hsz (o := (q : Int) - 8) (hok.take hc hsz).one_ i o hu hx; exact ⟨iq, io, h1, h2, h3⟩
   · have hsz := ach hs; obtain ⟨y, y1, y2, y3, y4⟩ := rd.rt.rezHas hok hsz he; obtain ⟨j, hj⟩ := ado y1; rw [y3] at hj; refine ⟨?_, j, hj⟩; rw [af6 hh hs he hj] at hR hcap; have hok2 := hR.rt.ok hcap hR.dl; exact ⟨hok2.tl, hok2.le, rd.dl.resize⟩
 · have e : H.doC ((5 : Nat) : Int) q n m a b = _ := ag5 5 q n m a b (by omega); rw [e]; subst hbl; exact aqJ h q n m a b.length k B (H.heldC 5 q n a b) (fun W hb => ahZ (h.below hb) hok 5 q n m a B b k (.inl rfl) hq hn ha hD)
 · have e : H.doC ((6 : Nat) : Int) q n m a b = _ := ag5 6 q n m a b (by omega); rw [e]; subst hbl; exact aqK h q n m a b.length k B (H.heldC 6 q n a b) (fun W hb => ahZ (h.below hb) hok 6 q n m a B b k (.inr rfl) hq hn ha hD)
 · have e : H.doC ((7 : Nat) : Int) q n m a b = _ := ag5 7 q n m a b (by omega); rw [e]; subst hbl; exact aqL h q n m a b.length k B (H.heldC 7 q n a b) (fun W hb => akj (h.below hb) hok q n m a B b k hq ha hD hb6 ((hr.below hb).more hb.size) hBG)
 · have e : H.doC ((8 : Nat) : Int) q n m a b = _ := anH (H := H) q n m a b; rw [e]; refine aqN h q n m a bl k B H.stats (fun W hb => ?_); obtain ⟨Vb, Vd, gl, cs, hmm⟩ := (h.below hb).hm; exact ai0 hmm (by have := hok.le; omega) (by have := hok.n; omega) (fun x hx => by have := rd.rt.sz hx; omega)
theorem an8 {H1 H2 : Hp} (e : H1.str = H2.str) : H1.cap = H2.cap /\ H1.blks = H2.blks /\ H1.lists = H2.lists /\ H1.ds.map akp = H2.ds.map akp := by
 unfold Hp.str at e; injection e with e1 e2 e3 e4; exact ⟨e1, e2, e4, e3⟩
theorem RtD.str {H1 H2 : Hp} (h : RtD bs H1) (e : H1.str = H2.str) : RtD bs H2 := by
 obtain ⟨e1, e2, e3, e4⟩ := an8 e; have hl : H1.ds.length = H2.ds.length := by have := congrArg List.length e4; rwa [List.length_map, List.length_map] at this
 refine ⟨⟨by rw [<- e2]; exact h.rt.walk, fun c hc => by rw [<- e3]; exact h.rt.all_ c hc, h.rt.chk, by rw [<- e1]; exact h.rt.len⟩, ?_, fun j x d ha hu => ?_⟩
 · show H2.ds.length = H2.blks.length; rw [<- hl, <- e2]; exact h.dl
 · have hj : j < H1.ds.length := by rw [hl]; exact aa5 ha.2
   have e5 : (H1.ds.map akp)[j]? = (H2.ds.map akp)[j]? := by rw [e4]
   rw [List.getElem?_map, List.getElem?_map, ha.2, List.getElem?_eq_getElem hj] at e5; have e6 : akp H1.ds[j] = akp d := Option.some.inj e5; have e7 : (akp H1.ds[j]).2 = (akp d).2 := by rw [e6]
   have e7 : H1.ds[j].2 = d.2 := e7; have h5 := h.ho j x H1.ds[j] ⟨by rw [e2]; exact ha.1, List.getElem?_eq_getElem hj⟩ hu; rw [e7] at h5; exact h5
theorem PH.str {H1 H2 : Hp} (h : PH w q g base cap A c bs H1) (e : H1.str = H2.str) : PH w q g base cap A c bs H2 :=
 ⟨h.obj, h.ar, h.rd.str e, by rw [<- (an8 e).1]; exact h.cp, h.c16, h.b62⟩
theorem apj {op : Nat} (hop : op < 9) {p n m a : Nat} {b : List UInt8} : (H.doC (op : Int) p n m a b).2.cap = H.cap := by
 have ho : op = 0 \/ op = 1 \/ op = 2 \/ op = 3 \/ op = 4 \/ op = 5 \/ op = 6 \/ op = 7 \/ op = 8 := by omega
 rcases ho with rfl | rfl | rfl | rfl | rfl | rfl | rfl | rfl | rfl
 · have e : H.doC ((0 : Nat) : Int) p n m a b = _ := anB (H := H) p n m a b; rw [e]
 · have e : H.doC ((1 : Nat) : Int) p n m a b = _ := anC (H := H) p n m a b; rw [e]; exact ai2
 · have e : H.doC ((2 : Nat) : Int) p n m a b = _ := anD (H := H) p n m a b; rw [e]; exact calloc_cap
 · have e : H.doC ((3 : Nat) : Int) p n m a b = _ := anF (H := H) p n m a b; rw [e]; exact al5
 · have e : H.doC ((4 : Nat) : Int) p n m a b = _ := anG (H := H) p n m a b; rw [e]; exact ai3
 · have e : H.doC ((5 : Nat) : Int) p n m a b = _ := apc (H := H) p n m a b; rw [e]
 · have e : H.doC ((6 : Nat) : Int) p n m a b = _ := apd (H := H) p n m a b; rw [e]
 · have e : H.doC ((7 : Nat) : Int) p n m a b = _ := ape (H := H) p n m a b; rw [e]; exact akk
 · have e : H.doC ((8 : Nat) : Int) p n m a b = _ := anH (H := H) p n m a b; rw [e]
theorem ap3 (h : RtD bs H) (hc : H.cap <= 16384) {op : Nat} (hop : op < 9) (p n m a : Nat) (b : List UInt8) : (H.doC (op : Int) p n m a b).1.hd < 18446744073709551616 := by
 have ho : op = 0 \/ op = 1 \/ op = 2 \/ op = 3 \/ op = 4 \/ op = 5 \/ op = 6 \/ op = 7 \/ op = 8 := by omega
 rcases ho with rfl | rfl | rfl | rfl | rfl | rfl | rfl | rfl | rfl
 · have e : H.doC ((0 : Nat) : Int) p n m a b = _ := anB (H := H) p n m a b; rw [e]; exact Nat.zero_lt_succ _
 · have e : H.doC ((1 : Nat) : Int) p n m a b = _ := anC (H := H) p n m a b; rw [e]; exact an7 h hc n 165
 · have e : H.doC ((2 : Nat) : Int) p n m a b = _ := anD (H := H) p n m a b; rw [e]; exact amb h hc n m
 · have e : H.doC ((3 : Nat) : Int) p n m a b = _ := anF (H := H) p n m a b; rw [e]; exact Nat.zero_lt_succ _
 · have e : H.doC ((4 : Nat) : Int) p n m a b = _ := anG (H := H) p n m a b; rw [e]; exact akm h hc p n
 · have e : H.doC ((5 : Nat) : Int) p n m a b = _ := apc (H := H) p n m a b; rw [e]; exact Nat.zero_lt_succ _
 · have e : H.doC ((6 : Nat) : Int) p n m a b = _ := apd (H := H) p n m a b; rw [e]; exact Nat.zero_lt_succ _
 · have e : H.doC ((7 : Nat) : Int) p n m a b = _ := ape (H := H) p n m a b; rw [e]; exact Nat.zero_lt_succ _
 · have e : H.doC ((8 : Nat) : Int) p n m a b = _ := anH (H := H) p n m a b; rw [e]; exact Nat.zero_lt_succ _
end
structure Pw (B : Nat) (w : World) (q g base cap : Nat) (A : Option Addr) (c : Nat) (bs : List UInt8) (H1 : Hp) (F G : Nat -> Prop) (p : Nat) (H2 : Hp) : Prop where
 hv : Hv B w q g base cap A c bs H1
 hd : Hd F G w p H2
 lo : ∀ k, F k \/ G k -> B <= k
 dj : ∀ k, (k = q \/ abg g A k) -> ¬ (F k \/ G k)
section
variable {B : Nat} {w w' : World} {q g base cap c p : Nat} {A : Option Addr} {bs : List UInt8} {H1 H2 H' : Hp} {F G : Nat -> Prop}
theorem Hd.fg_lt {k : Nat} (h : Hd F G w p H2) (hk : F k \/ G k) : k < w.heap.size := hk.elim (h.fl k) (h.gl k)
theorem Pw.below (h : Pw B w q g base cap A c bs H1 F G p H2) (hb : Below w.heap.size w w') : Pw B w' q g base cap A c bs H1 F G p H2 := ⟨h.hv.below hb, h.hd.below hb, h.lo, h.dj⟩
theorem Pw.one (h : Pw B w q g base cap A c bs H1 F G p H2) (hB : B <= w.heap.size) (ht : PTurn g base cap A H' w w') (hc : H'.cap = cap) : ∃ A' c' bs', Pw B w' q g base cap A' c' bs' H' F G p H2 /\ Tch (abg g A) w w' := by
 obtain ⟨A', c', bs', v, t, k⟩ := h.hv.turn hB ht hc; refine ⟨A', c', bs', ⟨v, h.hd.tch t (fun k hk hf => h.dj k (.inr hf) (.inl hk)) (fun k hk hf => h.dj k (.inr hf) (.inr hk)), h.lo, fun k hk hk2 => ?_⟩, t⟩; rcases hk with rfl | rfl | ⟨a, e, rfl⟩
 · exact h.dj _ (.inl rfl) hk2
 · exact h.dj _ (.inr (.inl rfl)) hk2
 · rcases k with k | k
   · exact h.dj _ (.inr (.inr ⟨a, k ▸ e, rfl⟩)) hk2
   · have h3 := k a e; have h4 := h.hd.fg_lt hk2; omega
theorem Pw.two (h : Pw B w q g base cap A c bs H1 F G p H2) (hB : B <= w.heap.size) (ht : Ht F G w p H' w') : ∃ F' G', Pw B w' q g base cap A c bs H1 F' G' p H' /\ Tch (fun k => F k \/ G k) w w' /\ ∀ k, F' k \/ G' k -> (F k \/ G k) \/ w.heap.size <= k := by
 obtain ⟨F', G', d, t, f⟩ := ht; refine ⟨F', G', ⟨h.hv.keepO t (fun k hk hs => h.dj k hk hs), d, fun k hk => ?_, fun k hk hk2 => ?_⟩, t, f⟩
 · rcases f k hk with h' | h'
   · exact h.lo k h'
   · omega
 · rcases f k hk2 with h' | h'
   · exact h.dj k hk h'
   · have := h.hv.own_lt hk; omega
theorem Pw.same (h : Pw B w q g base cap A c bs H1 F G p H2) (e : H1.str = H2.str) : Pw B w q g base cap A c bs H2 F G p H2 := ⟨⟨h.hv.ph.str e, h.hv.qB, h.hv.gB, h.hv.aB⟩, h.hd, h.lo, h.dj⟩
end
section
variable {B : Nat} {w w' w1 wB : World} {q g base cap c p : Nat} {A : Option Addr} {bs out : List UInt8} {H H1 H2 H' : Hp} {F G : Nat -> Prop}
theorem Pw.made (hv : Hv B w q g base cap A c bs (adQ cap)) (hm : HM (fun k => w.heap.size <= k) w1 p (adQ cap)) (hb : Below w.heap.size w w1) (hB : B <= w.heap.size) : ∃ F G, Pw B w1 q g base cap A c bs (adQ cap) F G p (adQ cap) := by
 obtain ⟨F2, h2, s2, l2⟩ := HM.tight hm; refine ⟨F2, fun _ => False, ⟨hv.below hb, ⟨h2, (fun d hd => by cases hd), List.Pairwise.nil, fun k hk => hk.elim, fun k hk => hk.elim, l2⟩, fun k hk => ?_, fun k hk hk2 => ?_⟩⟩
 · rcases hk with hk | hk
   · exact Nat.le_trans hB (s2 k hk)
   · exact hk.elim
 · rcases hk2 with hk2 | hk2
   · have h1 := s2 k hk2; have := hv.own_lt hk; omega
   · exact hk2.elim
theorem Pw.al {g2 base2 cap2 c2 : Nat} {A2 : Option Addr} {bs2 : List UInt8} (h : Pw wB.heap.size w q g base cap A c bs H1 F G p H) (hbel : Below wB.heap.size wB w) (a2 : Ar w1 79 g2 base2 cap2 A2 c2 bs2) (hb : Below w.heap.size w w1) (k1 : w.heap.size <= g2) (k2 : ∀ a, A2 = some a -> w.heap.size <= a.block) :
 Al wB w1 g2 base2 cap2 A2 c2 bs2 F p H :=
 ⟨⟨hbel.trans (hb.mono hbel.size), a2, Nat.le_trans hbel.size k1, fun a e => Nat.le_trans hbel.size (k2 a e), fun q hq => by cases hq⟩, h.hd.hm.below hb, fun k hk => h.lo k (.inl hk), fun k hk => Nat.lt_of_lt_of_le (h.hd.fl k hk) hb.size, fun k hk hf => by
  have h1 := h.hd.fl k hk; rcases hf with rfl | ⟨a, e, rfl⟩
  · omega
  · have := k2 a e; omega⟩
theorem Pw.became (h : Pw B w q g base cap A c bs H1 F G p H2) (hB : B <= w.heap.size) (hb : Became 79 g base cap A out w w') (rd : RtD out H') (hc : H'.cap = cap) : ∃ A' c', Pw B w' q g base cap A' c' out H' F G p H2 /\ Tch (abg g A) w w' := by
 obtain ⟨A', c', v, t, k⟩ := h.hv.ph.became hb rd hc; refine ⟨A', c', ⟨⟨v, h.hv.qB, h.hv.gB, fun a e => ?_⟩, h.hd.tch t (fun k hk hf => h.dj k (.inr hf) (.inl hk)) (fun k hk hf => h.dj k (.inr hf) (.inr hk)), h.lo, fun k hk hk2 => ?_⟩, t⟩
 · rcases k with k | k
   · exact h.hv.aB a (k ▸ e)
   · exact Nat.le_trans hB (k a e)
 · rcases hk with rfl | rfl | ⟨a, e, rfl⟩
   · exact h.dj _ (.inl rfl) hk2
   · exact h.dj _ (.inr (.inl rfl)) hk2
   · rcases k with k | k
     · exact h.dj _ (.inr (.inr ⟨a, k ▸ e, rfl⟩)) hk2
     · have h3 := k a e; have h4 := h.hd.fg_lt hk2; omega
theorem Rt.swap {X Y : Hp} (h : Rt bs X) (e1 : X.blks = Y.blks) (e2 : ∀ d, d < 22 -> X.lists d = Y.lists d) (hl : bs.length <= Y.cap) : Rt bs Y :=
 ⟨by rw [<- e1]; exact h.walk, fun d hd => by rw [<- e2 d hd]; exact h.all_ d hd, h.chk, hl⟩
theorem Rt.alike {X Y : Hp} (hx : Rt bs X) (hy : Rt bs Y) : X.blks = Y.blks /\ ∀ d, d < 22 -> X.lists d = Y.lists d :=
 ⟨Option.some.inj (hx.walk.symm.trans hy.walk), fun d hd => Option.some.inj ((hx.all_ d hd).symm.trans (hy.all_ d hd))⟩
theorem acQ (H : Hp) : H.rebuild.blks = H.blks /\ H.rebuild.ds = H.ds /\ H.rebuild.cap = H.cap := acY H _
theorem Pw.reb (h : Pw B w q g base cap A c bs H1 F G p H) (hB : B <= w.heap.size) (ht : HT F w p H.rebuild w') : ∃ F' G', Pw B w' q g base cap A c bs H1 F' G' p H.rebuild /\ Tch (fun k => F k \/ G k) w w' /\ ∀ k, F' k \/ G' k -> (F k \/ G k) \/ w.heap.size <= k := by
 have e := (acQ H).2.1; exact h.two hB (h.hd.ht ht (fun d hd => .inl (by rwa [e] at hd)) (by rw [e]; exact h.hd.sep))
theorem Pw.low (h : Pw B w q g base cap A c bs H1 F G p H2) (hB : B <= w.heap.size) (ht : Tch (fun k => F k \/ G k) w w') : Below B w w' := ht.below (fun k hk => h.lo k hk) hB
theorem HM.capped (h : HM F w p H) (n : Nat) : HM F (w.setCell ⟨p, 0, none⟩ (.int .i64 (n : Int))) p (H.capped n) := by
 obtain ⟨Vb, Vd, gl, cs, h⟩ := h; have hk := amD w p 0 (.int .i64 (n : Int)); have hg : gl ≠ p := fun e => by
  have h1 := h.obj; rw [<- e, h.row] at h1; injection h1 with h1; injection h1 with _ h1 _; exact absurd h1 (by decide)
 refine ⟨Vb, Vd, gl, cs, ?_, aaD h.ob (fun k e => hk k (abz h.ob h.obj (by decide) k e)), aaD h.od (fun k e => hk k (abz h.od h.obj (by decide) k e)), (hk gl hg).trans h.row, h.len, fun d hd => ?_, h.fp, h.fl, h.fb, h.fd, h.fi, h.sl⟩
 · have := heap_setCell_same w p 0 _ _ (.int .i64 (n : Int)) h.obj; rw [this]; rfl
 · obtain ⟨v, hv, ho⟩ := h.at_ d hd; exact ⟨v, hv, aaD ho (fun k e => hk k (abz ho h.obj (by decide) k e))⟩
theorem Pw.mcap (h : Pw B w q g base cap A c bs H1 F G p H) (n : Nat) : Pw B (w.setCell ⟨p, 0, none⟩ (.int .i64 (n : Int))) q g base cap A c bs H1 F G p (H.capped n) /\ Tch (fun k => F k \/ G k) w (w.setCell ⟨p, 0, none⟩ (.int .i64 (n : Int))) := by
 obtain ⟨Vb, Vd, gl, cs, hmm⟩ := h.hd.hm; have fp : F p := hmm.fp; have t : Tch (fun k => k = p) w (w.setCell ⟨p, 0, none⟩ (.int .i64 (n : Int))) := Tch.set (S := fun k => k = p) w ⟨p, 0, none⟩ _ rfl; have t2 : Tch (fun k => F k \/ G k) w (w.setCell ⟨p, 0, none⟩ (.int .i64 (n : Int))) := Tch.set (S := fun k => F k \/ G k) w ⟨p, 0, none⟩ _ (.inl fp); have hG : ∀ k, G k -> ¬ k = p := fun k hk e => h.hd.gf k hk (e ▸ fp); refine ⟨⟨h.hv.keepO t2 (fun k hk hs => h.dj k hk hs), ⟨h.hd.hm.capped n, fun d hd => ?_, h.hd.sep, h.hd.gf, fun k hk => Nat.lt_of_lt_of_le (h.hd.gl k hk) t.size, fun k hk => Nat.lt_of_lt_of_le (h.hd.fl k hk) t.size⟩, h.lo, h.dj⟩, t2⟩; refine (h.hd.dat d hd).imp id fun ⟨b, c', e, g', o⟩ => ⟨b, c', e, g', aaD o fun k hk => ?_⟩; rw [e] at hk; injection hk with hk; have hk : b = k := hk; subst hk; exact t.block b (h.hd.gl b g') (hG b g')
theorem Pw.wide {n : Nat} (h : Pw B w q g base cap A c bs H1 F G p H) (hB : B <= w.heap.size) (ht : PTurn g base n A (H1.capped n) w w') (h2 : n <= 16384) : ∃ A' c' out, Pw B w' q g base n A' c' out (H1.capped n) F G p H /\ Tch (abg g A) w w' := by
 obtain ⟨out, ⟨A', c', ar, t, k⟩, rd⟩ := ht; refine ⟨A', c', out, ⟨⟨⟨(t.block q h.hv.ph.lt h.hv.ph.ap).trans h.hv.ph.obj, ar, rd, rfl, h2, h.hv.ph.b62⟩, h.hv.qB, h.hv.gB, fun a e => ?_⟩, h.hd.tch t (fun k hk hf => h.dj k (.inr hf) (.inl hk)) (fun k hk hf => h.dj k (.inr hf) (.inr hk)), h.lo, fun k hk hk2 => ?_⟩, t⟩
 · rcases k with k | k
   · exact h.hv.aB a (k ▸ e)
   · exact Nat.le_trans hB (k a e)
 · rcases hk with rfl | rfl | ⟨a, e, rfl⟩
   · exact h.dj _ (.inl rfl) hk2
   · exact h.dj _ (.inr (.inl rfl)) hk2
   · rcases k with k | k
     · exact h.dj _ (.inr (.inr ⟨a, k ▸ e, rfl⟩)) hk2
     · have h3 := k a e; have h4 := h.hd.fg_lt hk2; omega
end
theorem afE {ops : Array Oper} {rest : List Oper} {o : Oper} {a : Act} {w : World} {Q : Exit -> Act -> World -> Prop} (hgd : o.guard = none) (s x : Operand) (ho : o.op = .call { callee := .builtin .append, args := #[s, x], argTypes := #[35, 35] })
 (base : Nat) (v : Value) (n : Nat) (bs : List Nat) (hs : a.eval s = v) (hown : w.ownsRow base 22 1 v n (bs.map uV))
 (ad : Addr) (c : Nat) (u : Nat) (hx : a.eval x = .slice (some ad) 1 c) (hr : w.cell? ad = some (uV u))
 (hb : n + 1 <= 1000000) (hbase : base <= w.heap.size)
 (h : ∀ v' w', w'.ownsRow base 22 1 v' (n + 1) ((bs ++ [u]).map uV) -> w.grownBy w' v.ownBlock -> (v'.ownBlock = v.ownBlock \/ v'.ownBlock = some w.heap.size) -> wpList Tryz.prog ops Q rest (a.put o.dst v') w') : wpList Tryz.prog ops Q (o :: rest) a w := by
 obtain ⟨i0, hi, hz0, hz1, hz2⟩ := info_parts apf; refine wpList_append_own_at w hgd s x 35 ho base 22 i0 (.int .u64 0) 1 8 Tryz.underlying35 hi hz0 hz1 hz2 rfl (by decide) v n _ hs hown ad 1 c ([u].map uV) hx (by simp) (fun j y hy => ?_) (fun y hy => ?_) (by unfold maxLen; omega) (by omega) hbase ?_
 · cases j with
   | zero =>
    simp at hy; subst hy; have e : ad.add 0 = ad := by unfold Addr.add; split <;> simp_all
    rw [e]; exact hr
   | succ j => simp at hy
 · simp at hy; subst hy; rfl
 · intro v' w' h1 h2 _ h4; exact h v' w' (by simpa using h1) h2 h4
section
variable {B : Nat} {w w' : World} {q g base cap c p : Nat} {A : Option Addr} {bs : List UInt8} {H1 H2 : Hp} {F G : Nat -> Prop}
theorem Pw.tchO (h : Pw B w q g base cap A c bs H1 F G p H2) {S : Nat -> Prop} (ht : Tch S w w') (hS : ∀ k, S k -> Oth w k) (hS2 : ∀ k, S k -> ¬ (F k \/ G k)) : Pw B w' q g base cap A c bs H1 F G p H2 :=
 ⟨h.hv.keepO ht (fun k hk hs => h.hv.ph.oth (hS k hs) hk), h.hd.tch ht (fun k hk hs => hS2 k hs (.inl hk)) (fun k hk hs => hS2 k hs (.inr hk)), h.lo, h.dj⟩
end
end Go.Proofs.YtnicenfdlfffpaaGreatDoor
