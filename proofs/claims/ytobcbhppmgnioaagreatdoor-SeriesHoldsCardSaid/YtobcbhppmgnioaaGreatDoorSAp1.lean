/- Sums of products of small intervals, rounded at each step: they hold the exact sums. -/
import Derived.Test.YtobcbhppmgnioaaGreatDoorSAkQ
import Derived.Test.YtobcbhppmgnioaaGreatDoorSAo1
namespace Go.Proofs.YtobcbhppmgnioaaGreatDoor
open Go.RowKit Nx
set_option linter.unusedVariables false
set_option linter.unusedSimpArgs false
def Bn (l h : Nat) (q : Q) : Prop := -(l : Int) ≤ q.e ∧ -(2 ^ (h + l) : Int) ≤ q.at l ∧ q.at l ≤ 2 ^ (h + l)
theorem two_le {a b : Nat} (h : a ≤ b) : (2 ^ a : Int) ≤ 2 ^ b := by
 have := Nat.pow_le_pow_right (show 0 < 2 by omega) h
 exact_mod_cast this
theorem at_ab2 (l : Nat) (q : Q) : q.at l = (q.m : Int) * 2 ^ (q.e + l).toNat ∨ q.at l = -((q.m : Int) * 2 ^ (q.e + l).toNat) := by
 unfold Q.at Q.z
 cases q.s
 ·exact .inl rfl
 ·refine .inr ?_
  show -(q.m : Int) * _ = _
  rw [Int.neg_mul]
theorem bn_of_bd {k : Nat} {q : Q} (h : Bd k q) : Bn k (2 * k) q := by
 have h1 : (q.m : Int) * 2 ^ (q.e + k).toNat ≤ 2 ^ (2 * k + k) := by
  have e1 : (q.e + k).toNat ≤ 2 * k := by have := h.2.2; omega
  have e2 : q.m * 2 ^ (q.e + k).toNat ≤ 2 ^ k * 2 ^ (2 * k) := Nat.mul_le_mul (Nat.le_of_lt h.1) (Nat.pow_le_pow_right (by omega) e1)
  rw [← Nat.pow_add, show k + 2 * k = 2 * k + k by omega] at e2
  exact_mod_cast e2
 have h0 : (0 : Int) ≤ (q.m : Int) * 2 ^ (q.e + k).toNat := Int.mul_nonneg (Int.natCast_nonneg _) (Int.le_of_lt (Int.pow_pos (by omega)))
 have h2 : (0 : Int) < 2 ^ (2 * k + k) := Int.pow_pos (by omega)
 refine ⟨h.2.1, ?_⟩
 rcases at_ab2 k q with e | e <;> rw [e] <;> constructor <;> omega
theorem Bn.mono {l h h' : Nat} {q : Q} (hb : Bn l h q) (hh : h ≤ h') : Bn l h' q := by
 have := two_le (show h + l ≤ h' + l by omega)
 exact ⟨hb.1, by have := hb.2.1; omega, by have := hb.2.2; omega⟩
theorem bn_plus {l h : Nat} {a b : Q} (ha : Bn l h a) (hb : Bn l h b) : Bn l (h + 1) (plus a b) := by
 have e : (2 ^ (h + 1 + l) : Int) = 2 ^ (h + l) + 2 ^ (h + l) := by
  rw [show h + 1 + l = (h + l) + 1 by omega, Int.pow_succ]; omega
 refine ⟨low_plus ha.1 hb.1, ?_⟩
 rw [at_plus ha.1 hb.1, e]
 have := ha.2; have := hb.2
 constructor <;> omega
theorem mul_abs {a b A B : Int} (h1 : -A ≤ a) (h2 : a ≤ A) (h3 : -B ≤ b) (h4 : b ≤ B) : -(A * B) ≤ a * b ∧ a * b ≤ A * B := by
 have hA : a.natAbs ≤ A.natAbs := by omega
 have hB : b.natAbs ≤ B.natAbs := by omega
 have h := Nat.mul_le_mul hA hB
 rw [← Int.natAbs_mul, ← Int.natAbs_mul] at h
 have h5 : 0 ≤ A * B := Int.mul_nonneg (by omega) (by omega)
 generalize a * b = p at h
 generalize A * B = q at h h5
 omega
theorem bn_times {l h l' h' : Nat} {a b : Q} (ha : Bn l h a) (hb : Bn l' h' b) : Bn (l + l') (h + h') (times a b) := by
 have e : (2 ^ (h + h' + (l + l')) : Int) = 2 ^ (h + l) * 2 ^ (h' + l') := by
  rw [← Int.pow_add, show h + h' + (l + l') = h + l + (h' + l') by omega]
 refine ⟨low_times ha.1 hb.1, ?_⟩
 rw [at_times ha.1 hb.1, e]
 exact mul_abs ha.2.1 ha.2.2 hb.2.1 hb.2.2
theorem bn_neg {l h : Nat} {a : Q} (hc : Canon a) (ha : Bn l h a) : Bn l h a.neg := by
 refine ⟨by rw [e_neg hc]; exact ha.1, ?_⟩
 rw [at_neg hc]
 have := ha.2
 constructor <;> omega
theorem bn_least {l h l' h' : Nat} {x y u v : Q} (hx : Bn l h x) (hy : Bn l h y) (hu : Bn l' h' u) (hv : Bn l' h' v) : Bn (l + l') (h + h') (leastQ x y u v) := by
 rcases least_in x y u v with e | e | e | e <;> rw [e]
 ·exact bn_times hx hu
 ·exact bn_times hy hu
 ·exact bn_times hx hv
 ·exact bn_times hy hv
theorem bn_great {l h l' h' : Nat} {x y u v : Q} (cx : Canon x) (cy : Canon y) (hx : Bn l h x) (hy : Bn l h y) (hu : Bn l' h' u) (hv : Bn l' h' v) : Bn (l + l') (h + h') (greatQ x y u v) := by
 unfold greatQ
 exact bn_neg (least_canon _ _ _ _) (bn_least (bn_neg cy hy) (bn_neg cx hx) hu hv)
theorem bn_bd {l h : Nat} {q : Q} (hc : Canon q) (hq : Bn l h q) : Bd (h + l + 1) q := by
 by_cases hm : q.m = 0
 ·rw [hc.1 hm]
  exact ⟨Nat.two_pow_pos _, by show -((h + l + 1 : Nat) : Int) ≤ 0; omega, by show (0 : Int) ≤ ((h + l + 1 : Nat) : Int); omega⟩
 ·have hn : q.m * 2 ^ (q.e + l).toNat ≤ 2 ^ (h + l) := by
   have h0 : (0 : Int) ≤ (q.m : Int) * 2 ^ (q.e + l).toNat := Int.mul_nonneg (Int.natCast_nonneg _) (Int.le_of_lt (Int.pow_pos (by omega)))
   have h1 : (q.m : Int) * 2 ^ (q.e + l).toNat ≤ 2 ^ (h + l) := by
    have := hq.2
    rcases at_ab2 l q with e | e <;> rw [e] at this <;> omega
   exact_mod_cast h1
  have h1 : 1 ≤ 2 ^ (q.e + l).toNat := Nat.one_le_two_pow
  have h2 : q.m ≤ 2 ^ (h + l) := Nat.le_trans (by have := Nat.mul_le_mul_left q.m h1; omega) hn
  have h3 : 2 ^ (q.e + l).toNat ≤ 2 ^ (h + l) := Nat.le_trans (by have := Nat.mul_le_mul_right (2 ^ (q.e + l).toNat) (show 1 ≤ q.m by omega); omega) hn
  have h4 : (q.e + l).toNat ≤ h + l := (Nat.pow_le_pow_iff_right (by omega)).1 h3
  refine ⟨Nat.lt_of_le_of_lt h2 (Nat.pow_lt_pow_right (by omega) (by omega)), by have := hq.1; omega, by have := hq.1; omega⟩
theorem canon_one (s : Bool) (e : Int) : Canon ⟨s, 1, e⟩ := ⟨fun h => absurd h (show ¬ (1 : Nat) = 0 by decide), fun _ => rfl⟩
theorem bn_rnd {l h p : Nat} {up : Bool} {q : Q} (hp : 1 ≤ p) (hq : Bn l h q) : Bn l h (rnd p up q) := by
 have nb : nbits 1 ≤ p := by
  have : nbits 1 ≤ 1 := nbits_le (by decide)
  omega
 have eT : (⟨false, 1, (h : Int)⟩ : Q).at l = 2 ^ (h + l) := by
  show (1 : Int) * 2 ^ ((h : Int) + l).toNat = _
  rw [Int.one_mul, show ((h : Int) + l).toNat = h + l by omega]
 have eS : (⟨true, 1, (h : Int)⟩ : Q).at l = -(2 ^ (h + l)) := by
  show (-1 : Int) * 2 ^ ((h : Int) + l).toNat = _
  rw [show ((h : Int) + l).toNat = h + l by omega]; omega
 have lT : -(l : Int) ≤ (h : Int) := by omega
 have t1 := out_mono (E := l) (up := up) hp hq.1 (show -(l : Int) ≤ (⟨false, 1, (h : Int)⟩ : Q).e from lT) (by rw [eT]; exact hq.2.2)
 have t2 := out_mono (E := l) (up := up) hp (show -(l : Int) ≤ (⟨true, 1, (h : Int)⟩ : Q).e from lT) hq.1 (by rw [eS]; exact hq.2.1)
 rw [rnd_id (q := ⟨false, 1, (h : Int)⟩) (canon_one _ _) nb] at t1
 rw [rnd_id (q := ⟨true, 1, (h : Int)⟩) (canon_one _ _) nb] at t2
 have t1 := (cmp_le (E := l) (rnd_low hq.1) (show -(l : Int) ≤ (⟨false, 1, (h : Int)⟩ : Q).e from lT)).1 t1
 have t2 := (cmp_le (E := l) (show -(l : Int) ≤ (⟨true, 1, (h : Int)⟩ : Q).e from lT) (rnd_low hq.1)).1 t2
 rw [eT] at t1
 rw [eS] at t2
 exact ⟨rnd_low hq.1, t2, t1⟩
def BnJ (l h : Nat) (j : J) : Prop := Bn l h j.lo.q ∧ Bn l h j.hi.q
theorem hold2 {z : Int} {E l h : Nat} {L G r : Q} (hz : prl z = true) (nL : Bn l h L) (nG : Bn l h G) (cL : Canon L) (cG : Canon G) (hb : h + l ≤ 4000) (lL : -(E : Int) ≤ L.e) (lG : -(E : Int) ≤ G.e) (lr : -(E : Int) ≤ r.e) (vr : Valid r) (h1 : L.at E ≤ r.at E) (h2 : r.at E ≤ G.at E) :
  ∃ s, endsQ (rnd z.toNat false L) (rnd z.toNat true G) = (s, 0) ∧ Good s ∧ BnJ l h s ∧ hasJ s (qx r) = true := by
 have hp : 1 ≤ z.toNat := by have := (prl_two hz).1; omega
 have va := val_rnd (up := false) hz (bn_bd cL nL) (by omega)
 have vb := val_rnd (up := true) hz (bn_bd cG nG) (by omega)
 have hc := out_ok (p := z.toNat) hp lL lG (Int.le_trans h1 h2)
 refine ⟨_, (ends_ok va vb hc).1, (ends_ok va vb hc).2, ⟨?_, ?_⟩, ends_has va vb vr (out_has lL lr h1) (out_has' lG lr h2) hc⟩
 ·rw [(qx_ok va).2.2]; exact bn_rnd hp nL
 ·rw [(qx_ok vb).2.2]; exact bn_rnd hp nG
theorem plus_zero {t : Q} (hc : Canon t) : plus q0 t = t := by
 have h1 : -(t.e.natAbs : Int) ≤ t.e := by omega
 have h0 : -(t.e.natAbs : Int) ≤ q0.e := by show _ ≤ (0 : Int); omega
 refine at_inj (E := t.e.natAbs) (ofz_canon _ _) hc (low_plus h0 h1) h1 ?_
 rw [at_plus h0 h1]
 show q0.at _ + _ = _
 unfold Q.at Q.z
 simp [q0]
theorem bn_q0 (l h : Nat) : Bn l h q0 := by
 have hp : (0 : Int) ≤ 2 ^ (h + l) := Int.le_of_lt (Int.pow_pos (by omega))
 have h0 : q0.at l = 0 := Int.zero_mul _
 refine ⟨by show _ ≤ (0 : Int); omega, ?_⟩
 rw [h0]
 constructor <;> omega
def sq (X Y : Nat → Q) : Nat → Q
 | 0 => q0
 | k + 1 => plus (sq X Y k) (times (X k) (Y k))
theorem dot_hold {z : Int} {js ks : Nat → J} {xs ys : Nat → X} {n : Nat} (hz : prl z = true) (h : ∀ k, k < n → Good (js k) ∧ FewJ (js k) ∧ Good (ks k) ∧ FewJ (ks k) ∧ GX (xs k) ∧ GX (ys k) ∧ hasJ (js k) (xs k) = true ∧ hasJ (ks k) (ys k) = true ∧ Bd 132 (xs k).q ∧ Bd 132 (ys k).q) (hn : n ≤ 100) :
  ∀ k, k ≤ n → Valid (sq (fun k => (xs k).q) (fun k => (ys k).q) k) ∧ Bn 264 (528 + k) (sq (fun k => (xs k).q) (fun k => (ys k).q) k) ∧ (1 ≤ k → ∃ s, totN zJ (fun k => mulJ (js k) (ks k) z) (fun s x => addJ s x z) k = (s, 0) ∧ Good s ∧ BnJ 16 (32 + k) s ∧ hasJ s (qx (sq (fun k => (xs k).q) (fun k => (ys k).q) k)) = true) := by
 intro k
 induction k with
 | zero => intro _; exact ⟨valid0, bn_q0 _ _, fun h => by omega⟩
 | succ k ih =>
  intro hk
  obtain ⟨vS, bS, iS⟩ := ih (by omega)
  obtain ⟨g1, f1, g2, f2, x1, x2, m1, m2, b1, b2⟩ := h k (by omega)
  generalize hT : times (xs k).q (ys k).q = t
  have bt : Bn 264 528 t := by rw [← hT]; exact bn_times (bn_of_bd b1) (bn_of_bd b2)
  have ct : Canon t := by rw [← hT]; exact ofz_canon _ _
  have eS : sq (fun k => (xs k).q) (fun k => (ys k).q) (k + 1) = plus (sq (fun k => (xs k).q) (fun k => (ys k).q) k) t := by rw [← hT]; rfl
  generalize hS : sq (fun k => (xs k).q) (fun k => (ys k).q) k = S at vS bS iS eS
  rw [eS]
  have bN : Bn 264 (528 + k + 1) (plus S t) := bn_plus bS (bt.mono (Nat.le_add_right 528 k))
  have vN : Valid (plus S t) := ⟨ofz_canon _ _, (bn_bd (ofz_canon _ _) bN).fits (by omega)⟩
  have vt : Valid t := ⟨ct, (bn_bd ct bt).fits (by omega)⟩
  refine ⟨vN, bN, fun _ => ?_⟩
  obtain ⟨a1, a2, _⟩ := okJ_parts g1.1
  obtain ⟨c1, c2, _⟩ := okJ_parts g2.1
  have k1 := (ok_arg a1 g1.2.lo).1
  have k2 := (ok_arg a2 g1.2.hi).1
  have kx := (ok_arg x1.1 x1.2).1
  have v := has_v m1
  have v1 := has_v m2
  have p1 := bn_of_bd (fewj_bd f1).1
  have p2 := bn_of_bd (fewj_bd f1).2
  have p3 := bn_of_bd (fewj_bd f2).1
  have p4 := bn_of_bd (fewj_bd f2).2
  have ex := ok_e x1.1
  have ey := ok_e x2.1
  obtain ⟨p, ep, gp, np, hp⟩ := hold2 (E := 65536 + 65536) (r := t) hz (bn_least p1 p2 p3 p4) (bn_great k1 k2 p1 p2 p3 p4) (least_canon _ _ _ _) (neg_canon (least_canon _ _ _ _)) (by omega) (low_least (ok_e a1) (ok_e a2) (ok_e c1) (ok_e c2)) (low_great k1 k2 (ok_e a1) (ok_e a2) (ok_e c1) (ok_e c2)) (by rw [← hT]; exact low_times ex ey) vt
   (by rw [← hT, at_times ex ey]; exact least_le (ok_e a1) (ok_e a2) (ok_e c1) (ok_e c2) v.2.2.1 v.2.2.2 v1.2.2.1 v1.2.2.2)
   (by rw [← hT, at_times ex ey]; exact great_ge k1 k2 kx (ok_e a1) (ok_e a2) (ok_e c1) (ok_e c2) v.2.2.1 v.2.2.2 v1.2.2.1 v1.2.2.2)
  have em : mulJ (js k) (ks k) z = (p, 0) := by rw [mul_eq g1.2 g2.2, op2 g1.1 g2.1 hz]; exact ep
  rcases Nat.eq_zero_or_pos k with h0 | h0
  ·subst h0
   have e0 : S = q0 := hS.symm
   refine ⟨p, ?_, gp, ⟨np.1.mono (by omega), np.2.mono (by omega)⟩, ?_⟩
   ·rw [totN_s (j := 0) rfl, em]; rfl
   ·rw [e0, plus_zero ct]; exact hp
  ·obtain ⟨s, es, gs, ns, hs⟩ := iS h0
   obtain ⟨d1, d2, _⟩ := okJ_parts gs.1
   obtain ⟨e1, e2, _⟩ := okJ_parts gp.1
   have w := has_v hs
   have w1 := has_v hp
   have q1 : (qx S).q = S := (qx_ok vS).2.2
   have q2 : (qx t).q = t := (qx_ok vt).2.2
   have lS : -((65536 : Nat) : Int) ≤ S.e := vS.2.2.1
   have lt : -((65536 : Nat) : Int) ≤ t.e := vt.2.2.1
   obtain ⟨r, er, gr, nr, hr⟩ := hold2 (E := 65536) (r := plus S t) hz (bn_plus ns.1 (np.1.mono (show 32 ≤ 32 + k by omega))) (bn_plus ns.2 (np.2.mono (show 32 ≤ 32 + k by omega))) (ofz_canon _ _) (ofz_canon _ _) (by omega) (low_plus (ok_e d1) (ok_e e1)) (low_plus (ok_e d2) (ok_e e2)) (low_plus lS lt) vN
    (by rw [at_plus (ok_e d1) (ok_e e1), at_plus lS lt]; have a := w.2.2.1; have b := w1.2.2.1; unfold X.v at a b; rw [q1] at a; rw [q2] at b; exact Int.add_le_add a b)
    (by rw [at_plus (ok_e d2) (ok_e e2), at_plus lS lt]; have a := w.2.2.2; have b := w1.2.2.2; unfold X.v at a b; rw [q1] at a; rw [q2] at b; exact Int.add_le_add a b)
   refine ⟨r, ?_, gr, nr, hr⟩
   rw [totN_s (j := k) (by rw [es]), em, es]
   show (bif (0 : Int) != 0 then _ else bif decide (0 < k) then (bif (addJ s p z).2 != 0 then _ else ((addJ s p z).1, 0)) else _) = _
   rw [decide_eq_true h0, add_eq, op0 gs.1 gp.1 hz, er]; rfl
end Go.Proofs.YtobcbhppmgnioaaGreatDoor
