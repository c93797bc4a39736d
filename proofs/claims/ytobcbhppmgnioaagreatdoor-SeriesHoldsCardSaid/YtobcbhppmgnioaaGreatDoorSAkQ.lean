/- Products of intervals hold the products of what lies in them; quotients rise. -/
import Derived.Test.YtobcbhppmgnioaaGreatDoorSAkM
import Derived.Test.YtobcbhppmgnioaaGreatDoorSAm2
namespace Go.Proofs.YtobcbhppmgnioaaGreatDoor
set_option linter.unusedSimpArgs false
set_option linter.unusedVariables false
open Go.RowKit Nx
section
section
variable {x y u v p q : Int}
theorem mn_left {a b c : Int} (h : a ≤ b) (hc : 0 ≤ c) : c * a ≤ c * b := Int.mul_le_mul_of_nonneg_left h hc
theorem mn_right {a b c : Int} (h : a ≤ b) (hc : 0 ≤ c) : a * c ≤ b * c := Int.mul_le_mul_of_nonneg_right h hc
theorem mp_left {a b c : Int} (h : a ≤ b) (hc : c ≤ 0) : c * b ≤ c * a := Int.mul_le_mul_of_nonpos_left hc h
theorem mp_right {a b c : Int} (h : a ≤ b) (hc : c ≤ 0) : b * c ≤ a * c := Int.mul_le_mul_of_nonpos_right h hc
theorem corner1 (h1 : x ≤ p) (h3 : u ≤ q) (hx : 0 ≤ x) (hu : 0 ≤ u) : x * u ≤ p * q := Int.le_trans (mn_right h1 hu) (mn_left h3 (by omega))
theorem corner2 (h1 : x ≤ p) (h2 : p ≤ y) (h3 : u ≤ q) (hx : 0 ≤ x) (hu : u < 0) : y * u ≤ p * q := Int.le_trans (mp_right h2 (by omega)) (mn_left h3 (by omega))
theorem corner3 (h1 : x ≤ p) (h3 : u ≤ q) (h4 : q ≤ v) (hx : x < 0) (hu : 0 ≤ u) : x * v ≤ p * q := Int.le_trans (mp_left h4 (by omega)) (mn_right h1 (by omega))
theorem corner4 (h2 : p ≤ y) (h4 : q ≤ v) (hy : y ≤ 0) (hv : v ≤ 0) : y * v ≤ p * q := Int.le_trans (mp_left h4 hy) (mp_right h2 (by omega))
theorem corner5 (h1 : x ≤ p) (h2 : p ≤ y) (h3 : u ≤ q) (h4 : q ≤ v) (hx : x < 0) (hu : u < 0) (hn : ¬ (y ≤ 0 ∧ v ≤ 0)) : y * u ≤ p * q ∨ x * v ≤ p * q := by
 by_cases hp : 0 ≤ p
 ·left
  exact Int.le_trans (mp_right h2 (by omega)) (mn_left h3 hp)
 ·by_cases hq : 0 ≤ q
  ·right
   exact Int.le_trans (mp_left h4 (by omega)) (mn_right h1 hq)
  ·have hpq : 0 ≤ p * q := Int.mul_nonneg_of_nonpos_of_nonpos (by omega) (by omega)
   by_cases hy : y ≤ 0
   ·right
    have : x * v ≤ 0 := by have := mn_right (c := v) (show x ≤ 0 by omega) (by omega); rw [Int.zero_mul] at this; exact this
    omega
   ·left
    have : y * u ≤ 0 := by have := mn_left (c := y) (show u ≤ 0 by omega) (by omega); rw [Int.mul_zero] at this; exact this
    omega
end
theorem sign_at {E : Nat} (a : Q) : (0 ≤ signq a ↔ 0 ≤ a.at E) ∧ (signq a ≤ 0 ↔ a.at E ≤ 0) := by
 rw [signq_at (E := E)]
 split
 ·constructor <;> constructor <;> intro h <;> omega
 ·split <;> constructor <;> constructor <;> intro h <;> omega
theorem least_le {E : Nat} {X Y U V a b : Q} (lX : -(E : Int) ≤ X.e) (lY : -(E : Int) ≤ Y.e) (lU : -(E : Int) ≤ U.e) (lV : -(E : Int) ≤ V.e)
  (h1 : X.at E ≤ a.at E) (h2 : a.at E ≤ Y.at E) (h3 : U.at E ≤ b.at E) (h4 : b.at E ≤ V.at E) : (leastQ X Y U V).at (E + E) ≤ a.at E * b.at E := by
 unfold leastQ
 obtain ⟨x0, _⟩ := sign_at (E := E) X
 obtain ⟨u0, _⟩ := sign_at (E := E) U
 obtain ⟨_, y0⟩ := sign_at (E := E) Y
 obtain ⟨_, v0⟩ := sign_at (E := E) V
 by_cases hx : signq X ≥ 0
 ·rw [decide_eq_true hx]
  by_cases hu : signq U ≥ 0
  ·rw [decide_eq_true hu]
   show (times X U).at (E + E) ≤ _
   rw [at_times lX lU]; exact corner1 h1 h3 (x0.1 hx) (u0.1 hu)
  ·rw [decide_eq_false hu]
   show (times Y U).at (E + E) ≤ _
   rw [at_times lY lU]; exact corner2 h1 h2 h3 (x0.1 hx) (Int.not_le.1 fun h => hu (u0.2 h))
 ·rw [decide_eq_false hx]
  have hx' : X.at E < 0 := Int.not_le.1 fun h => hx (x0.2 h)
  by_cases hu : signq U ≥ 0
  ·rw [decide_eq_true hu]
   show (times X V).at (E + E) ≤ _
   rw [at_times lX lV]; exact corner3 h1 h3 h4 hx' (u0.1 hu)
  ·rw [decide_eq_false hu]
   have hu' : U.at E < 0 := Int.not_le.1 fun h => hu (u0.2 h)
   by_cases hn : Y.at E ≤ 0 ∧ V.at E ≤ 0
   ·rw [decide_eq_true (y0.2 hn.1), decide_eq_true (v0.2 hn.2)]
    show (times Y V).at (E + E) ≤ _
    rw [at_times lY lV]; exact corner4 h2 h4 hn.1 hn.2
   ·have hb : (decide (signq Y ≤ 0) && decide (signq V ≤ 0)) = false := by
     rw [Bool.and_eq_false_iff, decide_eq_false_iff_not, decide_eq_false_iff_not, y0, v0]
     omega
    rw [hb]
    have c := corner5 h1 h2 h3 h4 hx' hu' hn
    rw [← at_times lY lU, ← at_times lX lV] at c
    have l1 := low_times lY lU
    have l2 := low_times lX lV
    have k1 := cmp_le (E := E + E) l1 l2
    have k2 := cmp_ge (E := E + E) l1 l2
    cases hc : decide (cmpq (times Y U) (times X V) < 0)
    ·have hc := of_decide_eq_false hc
     have := k2.1 (by omega)
     show (times X V).at (E + E) ≤ _
     omega
    ·have hc := of_decide_eq_true hc
     have := k1.1 (by omega)
     show (times Y U).at (E + E) ≤ _
     omega
theorem great_ge {E : Nat} {X Y U V a b : Q} (cX : Canon X) (cY : Canon Y) (ca : Canon a) (lX : -(E : Int) ≤ X.e) (lY : -(E : Int) ≤ Y.e) (lU : -(E : Int) ≤ U.e) (lV : -(E : Int) ≤ V.e)
  (h1 : X.at E ≤ a.at E) (h2 : a.at E ≤ Y.at E) (h3 : U.at E ≤ b.at E) (h4 : b.at E ≤ V.at E) : a.at E * b.at E ≤ (greatQ X Y U V).at (E + E) := by
 have hl : Canon (leastQ Y.neg X.neg U V) := by
  rcases least_in Y.neg X.neg U V with h | h | h | h <;> rw [h] <;> exact ofz_canon _ _
 unfold greatQ
 rw [at_neg hl]
 have := least_le (a := a.neg) (b := b) (E := E) (by rw [e_neg cY]; exact lY) (by rw [e_neg cX]; exact lX) lU lV (by rw [at_neg cY, at_neg ca]; omega) (by rw [at_neg cX, at_neg ca]; omega) h3 h4
 rw [at_neg ca, Int.neg_mul] at this
 omega
end
section
theorem fits_rnd {k p : Nat} {up : Bool} {q : Q} (h : Bd k q) (hp : 1 ≤ p) (h2 : p ≤ 256) (hk : 2 * k + 257 ≤ 65536) : Fits (rnd p up q) := by
 have hb := bd_rnd (p := p) (up := up) h
 exact fits_few (Nat.le_trans (nbits_rnd up q hp) h2) (by have := hb.2.1; omega) (by have := hb.2.2; omega)
theorem qx_cmp {a b : Q} (ha : Valid a) (hb : Valid b) : cmpx (qx a) (qx b) = cmpq a b := by
 rw [cmpx_q (qx_ok ha).1 (qx_ok hb).1, (qx_ok ha).2.2, (qx_ok hb).2.2]
theorem ends_ok {a b : Q} (va : Valid a) (vb : Valid b) (h : cmpq a b ≤ 0) : endsQ a b = (⟨qx a, qx b⟩, 0) ∧ Good ⟨qx a, qx b⟩ := by
 refine ⟨by unfold endsQ; rw [res_ok va.2, res_ok vb.2]; rfl, ?_, (qx_ok va).2.1, (qx_ok vb).2.1⟩
 unfold okJ
 show ((qx a).ok && (qx b).ok && decide (cmpx (qx a) (qx b) ≤ 0)) = true
 rw [(qx_ok va).1, (qx_ok vb).1, qx_cmp va vb, decide_eq_true h]; rfl
theorem ends_has {a b r : Q} (va : Valid a) (vb : Valid b) (vr : Valid r) (h1 : cmpq a r ≤ 0) (h2 : cmpq r b ≤ 0) (h : cmpq a b ≤ 0) : hasJ ⟨qx a, qx b⟩ (qx r) = true := by
 unfold hasJ
 rw [(ends_ok va vb h).2.1, (qx_ok vr).1]
 show (true && true && decide (cmpx (qx a) (qx r) ≤ 0) && decide (cmpx (qx r) (qx b) ≤ 0)) = true
 rw [qx_cmp va vr, qx_cmp vr vb, decide_eq_true h1, decide_eq_true h2]; rfl
theorem ends_in {a b c d : Q} (va : Valid a) (vb : Valid b) (vc : Valid c) (vd : Valid d) (h1 : cmpq a c ≤ 0) (h2 : cmpq d b ≤ 0) (h : cmpq c d ≤ 0) (h' : cmpq a b ≤ 0) : inJ ⟨qx c, qx d⟩ ⟨qx a, qx b⟩ = true := by
 unfold inJ
 rw [(ends_ok va vb h').2.1, (ends_ok vc vd h).2.1]
 simp only [qx_cmp va vc, qx_cmp vd vb]
 rw [decide_eq_true h1, decide_eq_true h2]; rfl
theorem out_ok {p E : Nat} {L G : Q} (_ : 1 ≤ p) (lL : -(E : Int) ≤ L.e) (lG : -(E : Int) ≤ G.e) (h : L.at E ≤ G.at E) : cmpq (rnd p false L) (rnd p true G) ≤ 0 :=
 (cmp_le (E := E) (rnd_low lL) (rnd_low lG)).2 (Int.le_trans (rnd_down lL) (Int.le_trans h (rnd_up lG)))
theorem out_has {p E : Nat} {L r : Q} (lL : -(E : Int) ≤ L.e) (lr : -(E : Int) ≤ r.e) (h : L.at E ≤ r.at E) : cmpq (rnd p false L) r ≤ 0 :=
 (cmp_le (E := E) (rnd_low lL) lr).2 (Int.le_trans (rnd_down lL) h)
theorem out_has' {p E : Nat} {G r : Q} (lG : -(E : Int) ≤ G.e) (lr : -(E : Int) ≤ r.e) (h : r.at E ≤ G.at E) : cmpq r (rnd p true G) ≤ 0 :=
 (cmp_le (E := E) lr (rnd_low lG)).2 (Int.le_trans h (rnd_up lG))
theorem out_mono {p E : Nat} {up : Bool} {L M : Q} (hp : 1 ≤ p) (lL : -(E : Int) ≤ L.e) (lM : -(E : Int) ≤ M.e) (h : L.at E ≤ M.at E) : cmpq (rnd p up L) (rnd p up M) ≤ 0 :=
 (cmp_le (E := E) (rnd_low lL) (rnd_low lM)).2 (rnd_mono hp lL lM h)
end
section
section
variable {z : Int} {E K : Nat} {L G L' G' r : Q}
theorem val_rnd {up : Bool} (hz : prl z = true) (h : Bd K L) (hK : 2 * K + 257 ≤ 65536) : Valid (rnd z.toNat up L) := ⟨rnd_canon _ _ _, fits_rnd h (by have := (prl_two hz).1; omega) (prl_two hz).2 hK⟩
theorem less (hz : prl z = true) (bL : Bd K L) (bG : Bd K G) (bL' : Bd K L') (bG' : Bd K G') (hK : 2 * K + 257 ≤ 65536) (lL : -(E : Int) ≤ L.e) (lG : -(E : Int) ≤ G.e) (lL' : -(E : Int) ≤ L'.e) (lG' : -(E : Int) ≤ G'.e)
  (h1 : L.at E ≤ L'.at E) (h2 : L'.at E ≤ G'.at E) (h3 : G'.at E ≤ G.at E) :
  ∃ s t, endsQ (rnd z.toNat false L) (rnd z.toNat true G) = (s, 0) ∧ endsQ (rnd z.toNat false L') (rnd z.toNat true G') = (t, 0) ∧ inJ t s = true := by
 have hp : 1 ≤ z.toNat := by have := (prl_two hz).1; omega
 have va := val_rnd (up := false) hz bL hK
 have vb := val_rnd (up := true) hz bG hK
 have vc := val_rnd (up := false) hz bL' hK
 have vd := val_rnd (up := true) hz bG' hK
 have hc := out_ok (p := z.toNat) hp lL lG (Int.le_trans h1 (Int.le_trans h2 h3))
 have hc' := out_ok (p := z.toNat) hp lL' lG' h2
 exact ⟨_, _, (ends_ok va vb hc).1, (ends_ok vc vd hc').1, ends_in va vb vc vd (out_mono hp lL lL' h1) (out_mono hp lG' lG h3) hc' hc⟩
end
section
variable {j j1 : J} {z : Int}
theorem op0 (h : okJ j = true) (h1 : okJ j1 = true) (hz : prl z = true) : opQ 0 j j1 z = endsQ (rnd z.toNat false (plus j.lo.q j1.lo.q)) (rnd z.toNat true (plus j.hi.q j1.hi.q)) := by
 unfold opQ; rw [h, h1, prl_prb, hz]; rfl
theorem op2 (h : okJ j = true) (h1 : okJ j1 = true) (hz : prl z = true) : opQ 2 j j1 z = endsQ (rnd z.toNat false (leastQ j.lo.q j.hi.q j1.lo.q j1.hi.q)) (rnd z.toNat true (greatQ j.lo.q j.hi.q j1.lo.q j1.hi.q)) := by
 unfold opQ; rw [h, h1, prl_prb, hz]; rfl
variable {x y : X} {k : Nat}
theorem low_least {E : Nat} {x y u v : Q} (hx : -(E : Int) ≤ x.e) (hy : -(E : Int) ≤ y.e) (hu : -(E : Int) ≤ u.e) (hv : -(E : Int) ≤ v.e) : -((E + E : Nat) : Int) ≤ (leastQ x y u v).e := by
 rcases least_in x y u v with h | h | h | h <;> rw [h]
 ·exact low_times hx hu
 ·exact low_times hy hu
 ·exact low_times hx hv
 ·exact low_times hy hv
theorem least_canon (x y u v : Q) : Canon (leastQ x y u v) := by
 rcases least_in x y u v with h | h | h | h <;> rw [h] <;> exact ofz_canon _ _
theorem low_great {E : Nat} {x y u v : Q} (cx : Canon x) (cy : Canon y) (hx : -(E : Int) ≤ x.e) (hy : -(E : Int) ≤ y.e) (hu : -(E : Int) ≤ u.e) (hv : -(E : Int) ≤ v.e) : -((E + E : Nat) : Int) ≤ (greatQ x y u v).e := by
 unfold greatQ
 rw [e_neg (least_canon _ _ _ _)]
 exact low_least (by rw [e_neg cy]; exact hy) (by rw [e_neg cx]; exact hx) hu hv
end
end
end Go.Proofs.YtobcbhppmgnioaaGreatDoor
