/- A matrix by that of ones holds the matrix; the norm bounds what a matrix makes of a point. -/
import Derived.Test.YtcpfepjdeikchaaGreatDoorYApC
import Derived.Test.YtcpfepjdeikchaaGreatDoorYAoS
import Derived.Test.YtcpfepjdeikchaaGreatDoorYAo7
namespace Go.Proofs.YtcpfepjdeikchaaGreatDoor
open Go.RowKit Nx
set_option linter.unusedVariables false
set_option linter.unusedSimpArgs false
attribute [local irreducible] chk
theorem mem_idx {α : Type} {l : List α} {x : α} (d : α) (h : x ∈ l) : ∃ i, i < l.length ∧ l.getD i d = x := by
 obtain ⟨i, hi, e⟩ := List.getElem_of_mem h
 exact ⟨i, hi, by rw [List.getD_eq_getElem?_getD, List.getElem?_eq_getElem hi, e]; rfl⟩
theorem onM_get {n i : Nat} (h : i < n) : (onM n).getD i [] = onR n i := by
 unfold onM
 rw [List.getD_eq_getElem?_getD, List.getElem?_map, List.getElem?_range h]; rfl
theorem onR_get {n i k : Nat} (hi : i < n) (hk : k < n) : (onR n i).getD k zX = if k = i then uX else zX := by
 unfold onR
 rw [List.getD_eq_getElem?_getD]
 rcases Nat.lt_trichotomy k i with h | h | h
 ·rw [List.getElem?_append_left (by simpa using h), List.getElem?_replicate, if_pos h, if_neg (by omega)]; rfl
 ·subst h
  rw [List.getElem?_append_right (by simp), List.length_replicate, Nat.sub_self, if_pos rfl]; rfl
 ·rw [List.getElem?_append_right (by simp; omega), List.length_replicate, if_neg (by omega)]
  obtain ⟨t, ht⟩ : ∃ t, k - i = t + 1 := ⟨k - i - 1, by omega⟩
  rw [ht, List.getElem?_cons_succ, List.getElem?_replicate, if_pos (by omega)]; rfl
theorem ux_qx : uX = qx ⟨false, 1, 0⟩ := by kernel_rfl
theorem few_u : Few (⟨false, 1, 0⟩ : Q) := ⟨canon_one _ _, by show 1 < 64; omega, by show (-6 : Int) ≤ 0; omega, by show (0 : Int) ≤ 8; omega⟩
theorem few_q0 : Few q0 := ⟨canon0, by show 0 < 64; omega, by show (-6 : Int) ≤ 0; omega, by show (0 : Int) ≤ 8; omega⟩
theorem gx_u : GX uX := by rw [ux_qx]; exact gx_q few_u.valid
theorem gx_z : GX zX := by rw [← qx0]; exact gx_q valid0
theorem has_pt {x : X} (h : GX x) : hasJ ⟨x, x⟩ x = true := by
 unfold hasJ
 rw [(pt_good h).1, h.1]
 show (true && true && decide (cmpx x x ≤ 0) && decide (cmpx x x ≤ 0)) = true
 rw [cmpx_self]; rfl
theorem px_on {n i k : Nat} (hi : i < n) (hk : k < n) : px (onM n) i k = if k = i then uX else zX := by
 show ((onM n).getD i []).getD k zX = _
 rw [onM_get hi, onR_get hi hk]
theorem gx_on {n i k : Nat} (hi : i < n) (hk : k < n) : GX (px (onM n) i k) := by
 rw [px_on hi hk]; split
 ·exact gx_u
 ·exact gx_z
theorem at2_on {n i k : Nat} (hi : i < n) (hk : k < n) : at2 ((onM n).map poi) i k = ⟨px (onM n) i k, px (onM n) i k⟩ := by
 unfold at2
 rw [pm_get (by rw [onM_len]; exact hi), poi_get (by rw [onM_get hi, onR_len hi]; exact hk)]
theorem on_pts (n : Nat) : PtsM n ((onM n).map poi) (onM n) := by
 refine ⟨onM_len n, fun i hi => ⟨by rw [onM_get hi, onR_len hi], fun k hk => ⟨gx_on hi hk, ?_⟩⟩⟩
 rw [at2_on hi hk]
 exact has_pt (gx_on hi hk)
theorem few_on {n i k : Nat} (hi : i < n) (hk : k < n) : FewJ ⟨px (onM n) i k, px (onM n) i k⟩ := by
 rw [px_on hi hk]; split
 ·exact ⟨_, _, few_u, few_u, ux_qx, ux_qx⟩
 ·exact ⟨_, _, few_q0, few_q0, qx0.symm, qx0.symm⟩
theorem on_good (n : Nat) : GoodF n ((onM n).map poi) := by
 refine ⟨(on_pts n).good, fun r hr j hj => ?_⟩
 obtain ⟨i, hi, e⟩ := mem_idx [] hr
 rw [List.length_map, onM_len] at hi
 obtain ⟨k, hk, e2⟩ := mem_idx zJ hj
 rw [((on_pts n).good.2 r hr).1] at hk
 have : at2 ((onM n).map poi) i k = j := by unfold at2; rw [e, e2]
 rw [← this, at2_on hi hk]
 exact few_on hi hk
theorem on_bd (n : Nat) : PtsB n (onM n) := fun i hi k hk => (fewj_bd (few_on hi hk)).1.mono (by omega)
def selM (g : J → X) (a : List (List J)) : List (List X) := a.map fun r => r.map g
theorem sel_row {g : J → X} {s i : Nat} {a : List (List J)} (ha : GoodM s a) (hi : i < s) : (selM g a).getD i [] = (a.getD i []).map g := by
 unfold selM
 rw [List.getD_eq_getElem?_getD, List.getElem?_map, at_get [] (by rw [ha.1]; exact hi)]; rfl
theorem sel_px {g : J → X} {s i k : Nat} {a : List (List J)} (ha : GoodM s a) (hi : i < s) (hk : k < s) : px (selM g a) i k = g (at2 a i k) := by
 show ((selM g a).getD i []).getD k zX = _
 rw [sel_row ha hi, List.getD_eq_getElem?_getD, List.getElem?_map, at_get zJ (by rw [(ha.row hi).2.1]; exact hk)]; rfl
def EndOf (g : J → X) : Prop := (∀ j, Good j → GX (g j) ∧ hasJ j (g j) = true) ∧ ∀ j, FewJ j → Bd 132 (g j).q
theorem end_lo : EndOf J.lo := by
 refine ⟨fun j hj => ?_, fun j hj => (fewj_bd hj).1.mono (by omega)⟩
 obtain ⟨a1, a2, a3⟩ := okJ_parts hj.1
 refine ⟨⟨a1, hj.2.lo⟩, ?_⟩
 unfold hasJ
 rw [hj.1, a1, cmpx_self, decide_eq_true a3]; rfl
theorem end_hi : EndOf J.hi := by
 refine ⟨fun j hj => ?_, fun j hj => (fewj_bd hj).2.mono (by omega)⟩
 obtain ⟨a1, a2, a3⟩ := okJ_parts hj.1
 refine ⟨⟨a2, hj.2.hi⟩, ?_⟩
 unfold hasJ
 rw [hj.1, a2, cmpx_self, decide_eq_true a3]; rfl
theorem sel_pts {g : J → X} {s : Nat} {a : List (List J)} (hg : EndOf g) (ha : GoodF s a) : PtsM s a (selM g a) ∧ PtsB s (selM g a) := by
 refine ⟨⟨by unfold selM; rw [List.length_map, ha.1.1], fun i hi => ⟨by rw [sel_row ha.1 hi, List.length_map, (ha.1.row hi).2.1], fun k hk => ?_⟩⟩, fun i hi k hk => ?_⟩
 ·have e := sel_px (g := g) ha.1 hi hk
  rw [show ((selM g a).getD i []).getD k zX = g (at2 a i k) from e]
  exact hg.1 _ (at2_few ha hi hk).1
 ·rw [show ((selM g a).getD i []).getD k zX = g (at2 a i k) from sel_px ha.1 hi hk]
  exact hg.2 _ (at2_few ha hi hk).2
theorem plus_zero_r {t : Q} (hc : Canon t) : plus t q0 = t := by
 have h1 : -(t.e.natAbs : Int) ≤ t.e := by omega
 have h0 : -(t.e.natAbs : Int) ≤ q0.e := by show _ ≤ (0 : Int); omega
 refine at_inj (E := t.e.natAbs) (ofz_canon _ _) hc (low_plus h1 h0) h1 ?_
 rw [at_plus h1 h0, at_q0, Int.add_zero]
theorem times_zl (y : Q) : times q0 y = q0 := by
 unfold times
 rw [show q0.z = 0 from rfl, Int.zero_mul]
 unfold ofz; exact nm_zero _ _
theorem times_zr (y : Q) : times y q0 = q0 := by
 unfold times
 rw [show q0.z = 0 from rfl, Int.mul_zero]
 unfold ofz; exact nm_zero _ _
theorem times_comm (a b : Q) : times a b = times b a := by unfold times; rw [Int.mul_comm, Int.add_comm]
theorem times_onel {a : Q} (hc : Canon a) : times ⟨false, 1, 0⟩ a = a := by rw [times_comm, ← one_q]; exact times_one hc
theorem times_oner {a : Q} (hc : Canon a) : times a ⟨false, 1, 0⟩ = a := by rw [← one_q]; exact times_one hc
theorem sq_one {X Y : Nat → Q} {i n : Nat} {v : Q} (hv : Canon v) (h1 : times (X i) (Y i) = v) (h0 : ∀ k, k < n → k ≠ i → times (X k) (Y k) = q0) : ∀ k, k ≤ n → sq X Y k = if i < k then v else q0 := by
 intro k
 induction k with
 | zero => intro _; rfl
 | succ k ih =>
  intro hk
  show plus (sq X Y k) (times (X k) (Y k)) = _
  rw [ih (by omega)]
  by_cases he : k = i
  ·subst he
   rw [if_neg (by omega), if_pos (by omega), h1, plus_zero hv]
  ·rw [h0 k (by omega) he]
   by_cases hl : i < k
   ·rw [if_pos hl, if_pos (by omega), plus_zero_r hv]
   ·rw [if_neg hl, if_neg (by omega), plus_zero canon0]
theorem uq : uX.q = ⟨false, 1, 0⟩ := by rw [ux_qx]; exact (qx_ok few_u.valid).2.2
theorem zq : zX.q = q0 := rfl
theorem in_of {j u : J} (hj : okJ j = true) (h1 : hasJ u j.lo = true) (h2 : hasJ u j.hi = true) : inJ j u = true := by
 unfold hasJ at h1 h2
 simp only [Bool.and_eq_true] at h1 h2
 unfold inJ
 rw [hj, h1.1.1.1, h1.1.2, h2.2]; rfl
theorem good_of {s : Nat} {U : List (List J)} (lU : U.length = s) (h : ∀ i, i < s → (U.getD i []).length = s ∧ ∀ j, j < s → Good (at2 U i j)) : GoodM s U := by
 refine ⟨lU, fun r hr => ?_⟩
 obtain ⟨i, hi, e⟩ := mem_idx [] hr
 rw [lU] at hi
 obtain ⟨h1, h2⟩ := h i hi
 rw [← e]
 refine ⟨h1, fun j hj => ?_⟩
 obtain ⟨k, hk, e2⟩ := mem_idx zJ hj
 rw [h1] at hk
 rw [← e2]
 exact h2 k hk
theorem inM_of {s : Nat} {a U : List (List J)} (h1 : 1 ≤ s) (h4 : s ≤ 4) (ha : GoodM s a) (hU : GoodM s U) (h : ∀ i, i < s → ∀ j, j < s → inJ (at2 a i j) (at2 U i j) = true) : inM a U = true := by
 unfold inM
 rw [ha.right h1 h4, hU.right h1 h4, cond_true, cond_true]
 refine all2_of [] [] (by rw [ha.1, hU.1]) fun i hi => ?_
 rw [ha.1] at hi
 obtain ⟨g1, g2, g3⟩ := ha.row hi
 obtain ⟨k1, k2, k3⟩ := hU.row hi
 unfold inB
 rw [rightB_good g3 (by omega) (by omega), rightB_good k3 (by omega) (by omega)]
 refine all2_of zJ zJ (by rw [g2, k2]) fun k hk => ?_
 rw [g2] at hk
 exact h i hi k hk
section
variable {s : Nat} {z : Int} {a : List (List J)}
theorem id_left (hz : prl z = true) (h1 : 1 ≤ s) (h4 : s ≤ 4) (ha : GoodF s a) :
  ∃ U, frm (okMM ((onM s).map poi) a z) (eachN (fun i => eachN (fun j => totN zJ (fun k => mulJ (at2 ((onM s).map poi) i k) (at2 a k j) z) (fun s x => addJ s x z) ((onM s).map poi).length) ((onM s).map poi).length) ((onM s).map poi).length) = (U, 0) ∧ inM a U = true := by
 have key : ∀ g, EndOf g → ∀ i, i < s → ∀ j, j < s → sq (fun k => (px (onM s) i k).q) (fun k => (px (selM g a) k j).q) s = (g (at2 a i j)).q := fun g hg i hi j hj => by
  have hc : Canon (g (at2 a i j)).q := (ok_arg (hg.1 _ (at2_few ha hi hj).1).1.1 (hg.1 _ (at2_few ha hi hj).1).1.2).1
  rw [sq_one (i := i) (n := s) (v := (g (at2 a i j)).q) hc (by rw [px_on hi hi, if_pos rfl, sel_px ha.1 hi hj, uq]; exact times_onel hc) (fun k hk hne => by rw [px_on hi hk, if_neg hne, zq]; exact times_zl _) s (Nat.le_refl _), if_pos hi]
 obtain ⟨l1, l2⟩ := sel_pts end_lo ha
 obtain ⟨m1, m2⟩ := sel_pts end_hi ha
 obtain ⟨U, eU, lU, hU⟩ := mul_hold hz h1 h4 (on_good s) ha (on_pts s) l1 (on_bd s) l2
 obtain ⟨V, eV, _, hV⟩ := mul_hold hz h1 h4 (on_good s) ha (on_pts s) m1 (on_bd s) m2
 obtain rfl : U = V := by rw [eU] at eV; exact (Prod.mk.inj eV).1
 refine ⟨U, eU, inM_of h1 h4 ha.1 (good_of lU fun i hi => ⟨(hU i hi).1, fun j hj => ((hU i hi).2 j hj).1⟩) fun i hi j hj => ?_⟩
 have g := (at2_few ha hi hj).1
 have p := ((hU i hi).2 j hj).2
 have q := ((hV i hi).2 j hj).2
 rw [key _ end_lo i hi j hj, qx_q (okJ_parts g.1).1 g.2.lo] at p
 rw [key _ end_hi i hi j hj, qx_q (okJ_parts g.1).2.1 g.2.hi] at q
 exact in_of g.1 p q
theorem id_right (hz : prl z = true) (h1 : 1 ≤ s) (h4 : s ≤ 4) (ha : GoodF s a) :
  ∃ U, frm (okMM a ((onM s).map poi) z) (eachN (fun i => eachN (fun j => totN zJ (fun k => mulJ (at2 a i k) (at2 ((onM s).map poi) k j) z) (fun s x => addJ s x z) a.length) a.length) a.length) = (U, 0) ∧ inM a U = true := by
 have key : ∀ g, EndOf g → ∀ i, i < s → ∀ j, j < s → sq (fun k => (px (selM g a) i k).q) (fun k => (px (onM s) k j).q) s = (g (at2 a i j)).q := fun g hg i hi j hj => by
  have hc : Canon (g (at2 a i j)).q := (ok_arg (hg.1 _ (at2_few ha hi hj).1).1.1 (hg.1 _ (at2_few ha hi hj).1).1.2).1
  rw [sq_one (i := j) (n := s) (v := (g (at2 a i j)).q) hc (by rw [px_on hj hj, if_pos rfl, sel_px ha.1 hi hj, uq]; exact times_oner hc) (fun k hk hne => by rw [px_on hk hj, if_neg (Ne.symm hne), zq]; exact times_zr _) s (Nat.le_refl _), if_pos hj]
 obtain ⟨l1, l2⟩ := sel_pts end_lo ha
 obtain ⟨m1, m2⟩ := sel_pts end_hi ha
 obtain ⟨U, eU, lU, hU⟩ := mul_hold hz h1 h4 ha (on_good s) l1 (on_pts s) l2 (on_bd s)
 obtain ⟨V, eV, _, hV⟩ := mul_hold hz h1 h4 ha (on_good s) m1 (on_pts s) m2 (on_bd s)
 obtain rfl : U = V := by rw [eU] at eV; exact (Prod.mk.inj eV).1
 refine ⟨U, eU, inM_of h1 h4 ha.1 (good_of lU fun i hi => ⟨(hU i hi).1, fun j hj => ((hU i hi).2 j hj).1⟩) fun i hi j hj => ?_⟩
 have g := (at2_few ha hi hj).1
 have p := ((hU i hi).2 j hj).2
 have q := ((hV i hi).2 j hj).2
 rw [key _ end_lo i hi j hj, qx_q (okJ_parts g.1).1 g.2.lo] at p
 rw [key _ end_hi i hi j hj, qx_q (okJ_parts g.1).2.1 g.2.hi] at q
 exact in_of g.1 p q
end
theorem up_ge {E p : Nat} {q : Q} (h : -(E : Int) ≤ q.e) : q.at E ≤ (rnd p true q).at E :=
 (cmp_le h (rnd_low h)).1 (out_has' h h (Int.le_refl _))
theorem nn_v {x : X} (h : x.s = false) : 0 ≤ x.v := by
 show 0 ≤ x.q.at 65536
 unfold Q.at Q.z
 rw [show x.q.s = false from h]
 exact Int.mul_nonneg (Int.natCast_nonneg _) (Int.le_of_lt (Int.pow_pos (by omega)))
theorem bd_abs {k : Nat} {q : Q} (h : Bd k q) : Bd k q.abs := by
 unfold Q.abs
 split
 ·exact ⟨Nat.two_pow_pos _, by show -(k : Int) ≤ 0; omega, by show (0 : Int) ≤ k; omega⟩
 ·exact h
theorem abv_ {x : X} (h : x.ok = true) (hs : Small B64 x.xs) : (qx (absx x)).ok = true ∧ (qx (absx x)).v = (x.v.natAbs : Int) := by
 have hv := ok_arg h hs
 rw [absx_ok h hs]
 exact ⟨(qx_ok (abs_valid hv)).1, abs_nat hv⟩
theorem mag_bd {j : J} (hg : Good j) (hf : FewJ j) : Bd 8 (rmag j).q := by
 obtain ⟨a1, a2, _⟩ := okJ_parts hg.1
 obtain ⟨b1, b2⟩ := fewj_bd hf
 unfold rmag
 rw [hg.1, cond_true]
 unfold uppX
 cases decide (cmpx (qx (absx j.hi)) (qx (absx j.lo)) > 0) with
 | true => rw [cond_true, absx_ok a2 hg.2.hi, (qx_ok (abs_valid (ok_arg a2 hg.2.hi))).2.2]; exact bd_abs b2
 | false => rw [cond_false, absx_ok a1 hg.2.lo, (qx_ok (abs_valid (ok_arg a1 hg.2.lo))).2.2]; exact bd_abs b1
theorem mag_ge {j : J} {x : X} (hg : Good j) (h : hasJ j x = true) : (x.v.natAbs : Int) ≤ (rmag j).v := by
 obtain ⟨a1, a2, _⟩ := okJ_parts hg.1
 have v := has_v h
 obtain ⟨o1, e1⟩ := abv_ a1 hg.2.lo
 obtain ⟨o2, e2⟩ := abv_ a2 hg.2.hi
 unfold rmag
 rw [hg.1, cond_true]
 unfold uppX
 by_cases hc : cmpx (qx (absx j.hi)) (qx (absx j.lo)) > 0
 ·rw [decide_eq_true hc, cond_true, e2]
  have := (cmpx_gt o2 o1).1 hc
  rw [e1, e2] at this
  have := v.2.2; omega
 ·rw [decide_eq_false hc, cond_false, e1]
  have : ¬ (qx (absx j.lo)).v < (qx (absx j.hi)).v := fun g => hc ((cmpx_gt o2 o1).2 g)
  rw [e1, e2] at this
  have := v.2.2; omega
def msum (m : Nat → X) : Nat → Int
 | 0 => 0
 | k + 1 => msum m k + (m k).v
theorem tot_mag {z : Int} {m : Nat → X} {n : Nat} (hz : prl z = true) (h : ∀ k, k < n → Ns (m k) ∧ Bd 8 (m k).q) (hn : n ≤ 100) : ∀ k, k ≤ n → 1 ≤ k → ∃ x, totN zX (fun k => (m k, 0)) (upX z) k = (x, 0) ∧ Ns x ∧ Bn 8 (16 + k) x.q ∧ msum m k ≤ x.v := by
 intro k
 induction k with
 | zero => intro _ h; omega
 | succ k ih =>
  intro hk _
  obtain ⟨n1, b1⟩ := h k (by omega)
  rcases Nat.eq_zero_or_pos k with h0 | h0
  ·subst h0
   refine ⟨m 0, by rw [totN_s (j := 0) rfl]; rfl, n1, (bn_of_bd b1).mono (by omega), ?_⟩
   show 0 + (m 0).v ≤ _; omega
  ·obtain ⟨x, ex, nx, bx, sx⟩ := ih (by omega) h0
   have bN : Bn 8 (16 + k + 1) (rnd z.toNat true (plus x.q (m k).q)) := bn_rnd (by have := (prl_two hz).1; omega) (bn_plus bx ((bn_of_bd b1).mono (by omega)))
   have vN : Valid (rnd z.toNat true (plus x.q (m k).q)) := ⟨rnd_canon _ _ _, (bn_bd (rnd_canon _ _ _) bN).fits (by omega)⟩
   have eu : upX z x (m k) = (qx (rnd z.toNat true (plus x.q (m k).q)), 0) := by
    unfold upX
    rw [rtwo_ok nx.1.1 n1.1.1 hz]
    unfold gadd
    rw [res_ok vN.2]
   obtain ⟨o1, o2, o3⟩ := qx_ok vN
   refine ⟨qx (rnd z.toNat true (plus x.q (m k).q)), ?_, ⟨⟨o1, o2⟩, rnd_nn (plus_nn nx.2 n1.2)⟩, by rw [o3]; exact bN, ?_⟩
   ·rw [totN_s (j := k) (by rw [ex]), ex]
    show (bif (0 : Int) != 0 then _ else bif decide (0 < k) then (bif (upX z x (m k)).2 != 0 then _ else ((upX z x (m k)).1, 0)) else _) = _
    rw [decide_eq_true h0, eu]; rfl
   ·show msum m k + (m k).v ≤ X.v _
    unfold X.v at sx ⊢
    rw [o3]
    have e1 := ok_e nx.1.1
    have e2 := ok_e n1.1.1
    have h3 := up_ge (p := z.toNat) (low_plus e1 e2)
    rw [at_plus e1 e2] at h3
    omega
theorem mxN_ge {l : List X} : ∀ k, (∀ i, i ≤ k → Ns (l.getD i zX)) → Ns (mxN l k) ∧ ∀ i, i ≤ k → (l.getD i zX).v ≤ (mxN l k).v := by
 intro k
 induction k with
 | zero =>
  intro h
  refine ⟨h 0 (Nat.le_refl _), fun i hi => ?_⟩
  obtain rfl : i = 0 := by omega
  exact Int.le_refl _
 | succ k ih =>
  intro h
  obtain ⟨n1, g1⟩ := ih fun i hi => h i (by omega)
  have n2 := h (k + 1) (Nat.le_refl _)
  unfold mxN
  by_cases hc : 0 < cmpx (l.getD (k + 1) zX) (mxN l k)
  ·rw [decide_eq_true hc, cond_true]
   have hv := (cmpx_gt n2.1.1 n1.1.1).1 hc
   refine ⟨n2, fun i hi => ?_⟩
   rcases Nat.lt_or_ge i (k + 1) with h1 | h1
   ·have := g1 i (by omega); omega
   ·obtain rfl : i = k + 1 := by omega
    exact Int.le_refl _
  ·rw [decide_eq_false hc, cond_false]
   have hv : (l.getD (k + 1) zX).v ≤ (mxN l k).v := (cmpx_le n2.1.1 n1.1.1).1 (by omega)
   refine ⟨n1, fun i hi => ?_⟩
   rcases Nat.lt_or_ge i (k + 1) with h1 | h1
   ·exact g1 i (by omega)
   ·obtain rfl : i = k + 1 := by omega
    exact hv
theorem norm_hold {s : Nat} {z : Int} {a : List (List J)} (hz : prl z = true) (h1 : 1 ≤ s) (h4 : s ≤ 4) (ha : GoodF s a) : ∃ M, normM a z = (M, 0) ∧ Ns M ∧ ∀ i, i < s → msum (fun k => rmag (at2 a i k)) s ≤ M.v := by
 have hok : okM a z = true := by
  unfold okM
  rw [ha.1.right h1 h4]
  unfold rng; unfold prl at hz; rw [Bool.and_eq_true] at hz; rw [hz.1, hz.2]; rfl
 have key : ∀ i, i < s → ∃ x, totN zX (fun k => (magJ (at2 a i k), 0)) (upX z) s = (x, 0) ∧ Ns x ∧ msum (fun k => rmag (at2 a i k)) s ≤ x.v := fun i hi => by
  obtain ⟨x, ex, nx, _, sx⟩ := tot_mag (m := fun k => rmag (at2 a i k)) (n := s) hz (fun k hk => ⟨ns_mag (at2_few ha hi hk).1, mag_bd (at2_few ha hi hk).1 (at2_few ha hi hk).2⟩) (by omega) s (Nat.le_refl _) h1
  exact ⟨x, by rw [← ex]; exact totN_congr fun k hk => by rw [mag_eq (at2_few ha hi hk).1.2], nx, sx⟩
 have all : (eachN (fun i => totN zX (fun k => (magJ (at2 a i k), 0)) (upX z) s) s).2 = 0 := eachN_all fun i hi => by obtain ⟨x, e, _⟩ := key i hi; rw [e]
 have get : ∀ i, i < s → ∃ x, (eachN (fun i => totN zX (fun k => (magJ (at2 a i k), 0)) (upX z) s) s).1.getD i zX = x ∧ Ns x ∧ msum (fun k => rmag (at2 a i k)) s ≤ x.v := fun i hi => by
  obtain ⟨x, e, nx, sx⟩ := key i hi
  exact ⟨x, by rw [List.getD_eq_getElem?_getD, (eachN_get all i hi).2, e]; rfl, nx, sx⟩
 have hlen := eachN_len all
 obtain ⟨nM, gM⟩ := mxN_ge (l := (eachN (fun i => totN zX (fun k => (magJ (at2 a i k), 0)) (upX z) s) s).1) (s - 1) fun i hi => by
  obtain ⟨x, e, nx, _⟩ := get i (by omega)
  rw [e]; exact nx
 refine ⟨_, ?_, nM, fun i hi => ?_⟩
 ·unfold normM
  rw [hok, cond_true, ha.1.1]
  unfold grt
  rw [all, hlen]; rfl
 ·obtain ⟨x, e, _, sx⟩ := get i hi
  have := gM i (by omega)
  rw [e] at this
  omega
def mo (w : Nat → Q) : Nat → Q
 | 0 => q0
 | k + 1 => bif decide (0 < cmpq (w k) (mo w k)) then w k else mo w k
theorem mo_ge {w : Nat → Q} {n : Nat} (h : ∀ k, k < n → Valid (w k) ∧ (w k).s = false) : ∀ k, k ≤ n → Valid (mo w k) ∧ 0 ≤ (mo w k).at 65536 ∧ ∀ j, j < k → (w j).at 65536 ≤ (mo w k).at 65536 := by
 intro k
 induction k with
 | zero => intro _; exact ⟨valid0, by rw [show mo w 0 = q0 from rfl, at_q0]; exact Int.le_refl _, fun j hj => by omega⟩
 | succ k ih =>
  intro hk
  obtain ⟨v1, g1, m1⟩ := ih (by omega)
  obtain ⟨v2, _⟩ := h k (by omega)
  have e1 : -((65536 : Nat) : Int) ≤ (mo w k).e := v1.2.2.1
  have e2 : -((65536 : Nat) : Int) ≤ (w k).e := v2.2.2.1
  unfold mo
  by_cases hc : 0 < cmpq (w k) (mo w k)
  ·rw [decide_eq_true hc, cond_true]
   have hv : (mo w k).at 65536 ≤ (w k).at 65536 := (cmp_ge e2 e1).1 (by omega)
   refine ⟨v2, by omega, fun j hj => ?_⟩
   rcases Nat.lt_or_ge j k with h1 | h1
   ·have := m1 j h1; omega
   ·obtain rfl : j = k := by omega
    exact Int.le_refl _
  ·rw [decide_eq_false hc, cond_false]
   have hv : (w k).at 65536 ≤ (mo w k).at 65536 := (cmp_le e2 e1).1 (by omega)
   refine ⟨v1, g1, fun j hj => ?_⟩
   rcases Nat.lt_or_ge j k with h1 | h1
   ·exact m1 j h1
   ·obtain rfl : j = k := by omega
    exact hv
theorem sq_abs {U V : Nat → Q} {m : Nat → X} {μ : Int} {n : Nat} (h0 : 0 ≤ μ) (h : ∀ k, k < n → -((65536 : Nat) : Int) ≤ (U k).e ∧ -((65536 : Nat) : Int) ≤ (V k).e ∧ (((U k).at 65536).natAbs : Int) ≤ (m k).v ∧ (((V k).at 65536).natAbs : Int) ≤ μ) : ∀ k, k ≤ n → -((65536 + 65536 : Nat) : Int) ≤ (sq U V k).e ∧ -(msum m k * μ) ≤ (sq U V k).at (65536 + 65536) ∧ (sq U V k).at (65536 + 65536) ≤ msum m k * μ := by
 intro k
 induction k with
 | zero => intro _; exact ⟨by show _ ≤ (0 : Int); omega, by show -(0 * μ) ≤ q0.at _; rw [at_q0]; omega, by show q0.at _ ≤ 0 * μ; rw [at_q0]; omega⟩
 | succ k ih =>
  intro hk
  obtain ⟨l1, a1, a2⟩ := ih (by omega)
  obtain ⟨e1, e2, b1, b2⟩ := h k (by omega)
  have l2 := low_times e1 e2
  show _ ≤ (plus (sq U V k) (times (U k) (V k))).e ∧ -((msum m k + (m k).v) * μ) ≤ (plus (sq U V k) (times (U k) (V k))).at _ ∧ (plus (sq U V k) (times (U k) (V k))).at _ ≤ (msum m k + (m k).v) * μ
  refine ⟨low_plus l1 l2, ?_⟩
  rw [at_plus l1 l2, at_times e1 e2, Int.add_mul]
  have := mul_abs (A := (m k).v) (B := μ) (show -(m k).v ≤ (U k).at 65536 by omega) (by omega) (show -μ ≤ (V k).at 65536 by omega) (by omega)
  omega
theorem norm_bound {s i : Nat} {a : List (List J)} {x : List (List X)} {y : Nat → X} {M : X} (ha : GoodF s a) (hx : PtsM s a x) (hi : i < s) (hy : ∀ k, k < s → GX (y k)) (nM : Ns M) (hM : msum (fun k => rmag (at2 a i k)) s ≤ M.v) {t : Q} (ht : t = sq (fun k => (px x i k).q) (fun k => (y k).q) s ∨ t = (sq (fun k => (px x i k).q) (fun k => (y k).q) s).neg) (hc : Canon (sq (fun k => (px x i k).q) (fun k => (y k).q) s)) :
  cmpq t (times (mo (fun k => (qx (absx (y k))).q) s) M.q) ≤ 0 := by
 have hw : ∀ k, k < s → Valid (qx (absx (y k))).q ∧ (qx (absx (y k))).q.s = false := fun k hk => by
  have g := abs_gx (hy k hk)
  exact ⟨ok_arg g.1.1 g.1.2, abs_nn _⟩
 obtain ⟨vm, m0, mg⟩ := mo_ge hw s (Nat.le_refl _)
 obtain ⟨l1, a1, a2⟩ := sq_abs (m := fun k => rmag (at2 a i k)) (n := s) m0 (fun k hk => by
  have g1 := (hx.2 i hi).2 k hk
  have hv := (abv_ (hy k hk).1 (hy k hk).2).2
  refine ⟨ok_e g1.1.1, ok_e (hy k hk).1, mag_ge (at2_few ha hi hk).1 g1.2, ?_⟩
  have := mg k hk
  unfold X.v at hv
  rw [hv] at this
  exact this) s (Nat.le_refl _)
 have em : -((65536 : Nat) : Int) ≤ (mo (fun k => (qx (absx (y k))).q) s).e := vm.2.2.1
 have eM := ok_e nM.1.1
 have hb : msum (fun k => rmag (at2 a i k)) s * (mo (fun k => (qx (absx (y k))).q) s).at 65536 ≤ (mo (fun k => (qx (absx (y k))).q) s).at 65536 * M.q.at 65536 := by
  rw [Int.mul_comm]
  exact Int.mul_le_mul_of_nonneg_left hM m0
 rcases ht with rfl | rfl
 ·refine (cmp_le l1 (low_times em eM)).2 ?_
  rw [at_times em eM]; omega
 ·refine (cmp_le (by rw [e_neg hc]; exact l1) (low_times em eM)).2 ?_
  rw [at_times em eM, at_neg hc]; exact Int.le_trans (Int.neg_le_of_neg_le a1) hb
end Go.Proofs.YtcpfepjdeikchaaGreatDoor
