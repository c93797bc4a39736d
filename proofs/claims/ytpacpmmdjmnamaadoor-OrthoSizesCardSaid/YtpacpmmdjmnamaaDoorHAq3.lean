/- Two columns at right angles: what is reckoned of them, exactly. -/
import Derived.Test.YtpacpmmdjmnamaaDoorHAq2
import Derived.Test.YtpacpmmdjmnamaaDoorHNat1
namespace Go.Proofs.YtpacpmmdjmnamaaDoor
open Go.RowKit Nx
set_option linter.unusedVariables false
set_option linter.unusedSimpArgs false
def Sx (q : Q) : Prop := Canon q ∧ q.m < 64 ∧ -40 ≤ q.e ∧ q.e ≤ 40
section
variable {a b : Q} {z : Int}
theorem sx_valid (h : Sx a) : Valid a := ⟨h.1, Nat.lt_of_lt_of_le h.2.1 (Nat.le_trans (by unfold B64; omega) b64_le), by have := h.2.2.1; omega, by have := h.2.2.2; omega⟩
theorem few_sx (h : Few a) : Sx a := ⟨h.1, h.2.1, by have := h.2.2.1; omega, by have := h.2.2.2; omega⟩
theorem sx_bd (h : Sx a) : Bd 40 a := ⟨Nat.lt_of_lt_of_le h.2.1 (by decide), h.2.2.1, h.2.2.2⟩
theorem sx_q (h : Sx a) : (qx a).ok = true ∧ (qx a).q = a := ⟨(qx_ok (sx_valid h)).1, (qx_ok (sx_valid h)).2.2⟩
theorem sx_gx (h : Sx a) : GX (qx a) := gx_q (sx_valid h)
theorem tm_sx (ha : Sx a) (hb : Sx b) : Canon (times a b) ∧ (times a b).m < 4096 ∧ -80 ≤ (times a b).e ∧ (times a b).e ≤ 80 := by
  by_cases h : a.m = 0 ∨ b.m = 0
  · rw [times_zero ha.1 hb.1 h]
    exact ⟨canon0, by decide, by decide, by decide⟩
  · have h1 : a.m ≠ 0 := fun e => h (.inl e)
    have h2 : b.m ≠ 0 := fun e => h (.inr e)
    obtain ⟨s, m, e⟩ := a
    obtain ⟨s', m', e'⟩ := b
    have hc : Canon (times ⟨s, m, e⟩ ⟨s', m', e'⟩) := nm_canon _ _ _
    rw [times_odd ha.1 hb.1 h1 h2] at hc ⊢
    have q1 : m < 64 := ha.2.1
    have q2 : m' < 64 := hb.2.1
    have q3 : m * m' < 4096 := Nat.lt_of_le_of_lt (Nat.mul_le_mul (Nat.le_of_lt_succ q1) (Nat.le_of_lt_succ q2)) (by decide)
    have := ha.2.2.1; have := ha.2.2.2; have := hb.2.2.1; have := hb.2.2.2
    simp only at this
    refine ⟨hc, q3, ?_, ?_⟩ <;> show _ ≤ _ <;> simp only at * <;> omega
theorem fits_rn {k p : Nat} {up : Bool} {q : Q} (h : Bd k q) (hp : 1 ≤ p) (h2 : p ≤ 256) (hk : 2 * k + 257 ≤ 65536) : Fits (rnd p up q) := by
  have hb := bd_rnd (p := p) (up := up) h
  exact fits_few (Nat.le_trans (nbits_rnd up q hp) h2) (by have := hb.2.1; omega) (by have := hb.2.2; omega)
theorem pz (hz : 12 ≤ z ∧ z ≤ 256) : prl z = true := by
  unfold prl
  rw [decide_eq_true (show 8 ≤ z by omega), decide_eq_true hz.2]; rfl
theorem mul_sx (hz : 12 ≤ z ∧ z ≤ 256) (ha : Sx a) (hb : Sx b) : rtwo (gmul z false) z (qx a) (qx b) = (times a b, 0) := by
  obtain ⟨h1, h2, h3, h4⟩ := tm_sx ha hb
  have hn : nbits (times a b).m ≤ 12 := nbits_le (show _ < 2 ^ 12 from h2)
  rw [rmul_ok (sx_q ha).1 (sx_q hb).1 (pz hz), (sx_q ha).2, (sx_q hb).2, rnd_id h1 (by omega), res_ok (fits_few (by omega) (by omega) (by omega))]
theorem tm_valid (ha : Sx a) (hb : Sx b) : Valid (times a b) := by
  obtain ⟨h1, h2, h3, h4⟩ := tm_sx ha hb
  exact ⟨h1, Nat.lt_of_lt_of_le h2 (Nat.le_trans (by unfold B64; omega) b64_le), by omega, by omega⟩
theorem add_vx {x y : Q} (hz : 12 ≤ z ∧ z ≤ 256) (hx : Valid x) (hy : Valid y) (bx : Bd 160 x) (bY : Bd 160 y) : rtwo (gadd z false) z (qx x) (qx y) = (rnd z.toNat false (plus x y), 0) := by
  rw [rtwo_ok (qx_ok hx).1 (qx_ok hy).1 (pz hz), (qx_ok hx).2.2, (qx_ok hy).2.2]
  show res (rnd z.toNat false (plus x y)) = _
  exact res_ok (fits_rn (bd_plus bx bY) (by omega) (by omega) (by omega))
theorem q0_bd (k : Nat) : Bd k q0 := ⟨Nat.two_pow_pos k, by show -(k : Int) ≤ 0; omega, by show (0 : Int) ≤ k; omega⟩
theorem val_q0 : Valid q0 := ⟨canon0, by decide, by decide, by decide⟩
theorem plus_q0 {t : Q} (hc : Canon t) : plus q0 t = t := by
  have h1 : -(t.e.natAbs : Int) ≤ t.e := by omega
  have h0 : -(t.e.natAbs : Int) ≤ q0.e := by show _ ≤ (0 : Int); omega
  refine at_inj (E := t.e.natAbs) (ofz_canon _ _) hc (low_plus h0 h1) h1 ?_
  rw [at_plus h0 h1]
  show q0.at _ + _ = _
  unfold Q.at Q.z
  simp [q0]
theorem dot_sx {u0 u1 v0 v1 : Q} (hz : 12 ≤ z ∧ z ≤ 256) (h0 : Sx u0) (h1 : Sx u1) (k0 : Sx v0) (k1 : Sx v1) : dotS z [qx u0, qx u1] [qx v0, qx v1] = (qx (rnd z.toNat false (plus (times u0 v0) (times u1 v1))), 0) := by
  have b0 : Bd 160 (times u0 v0) := bd_times (sx_bd h0) (sx_bd k0)
  have b1 : Bd 160 (times u1 v1) := bd_times (sx_bd h1) (sx_bd k1)
  have t0 := tm_sx h0 k0
  have e1 : dotN z [qx u0, qx u1] [qx v0, qx v1] 1 = (qx (times u0 v0), 0) := by
    show (bif (0 : Int) != 0 then _ else bif (rtwo (gmul z false) z (qx u0) (qx v0)).2 != 0 then _ else bif (rtwo (gadd z false) z zX (qx (rtwo (gmul z false) z (qx u0) (qx v0)).1)).2 != 0 then _ else (qx (rtwo (gadd z false) z zX (qx (rtwo (gmul z false) z (qx u0) (qx v0)).1)).1, 0)) = _
    rw [mul_sx hz h0 k0]
    show (bif (rtwo (gadd z false) z zX (qx (times u0 v0))).2 != 0 then _ else (qx (rtwo (gadd z false) z zX (qx (times u0 v0))).1, 0)) = _
    rw [← qx0, add_vx hz val_q0 (tm_valid h0 k0) (q0_bd _) b0, plus_q0 t0.1, rnd_id t0.1 (by have : nbits (times u0 v0).m ≤ 12 := nbits_le (show _ < 2 ^ 12 from t0.2.1); omega)]
    rfl
  show dotN z [qx u0, qx u1] [qx v0, qx v1] (1 + 1) = _
  show (bif (dotN z [qx u0, qx u1] [qx v0, qx v1] 1).2 != 0 then _ else bif (rtwo (gmul z false) z (qx u1) (qx v1)).2 != 0 then _ else bif (rtwo (gadd z false) z (dotN z [qx u0, qx u1] [qx v0, qx v1] 1).1 (qx (rtwo (gmul z false) z (qx u1) (qx v1)).1)).2 != 0 then _ else (qx (rtwo (gadd z false) z (dotN z [qx u0, qx u1] [qx v0, qx v1] 1).1 (qx (rtwo (gmul z false) z (qx u1) (qx v1)).1)).1, 0)) = _
  rw [e1, mul_sx hz h1 k1]
  show (bif (rtwo (gadd z false) z (qx (times u0 v0)) (qx (times u1 v1))).2 != 0 then _ else (qx (rtwo (gadd z false) z (qx (times u0 v0)) (qx (times u1 v1))).1, 0)) = _
  rw [add_vx hz (tm_valid h0 k0) (tm_valid h1 k1) b0 b1]
  rfl
theorem at_nil {E : Nat} {q : Q} (h : Canon q) (hE : -(E : Int) ≤ q.e) (h0 : q.at E = 0) : q = q0 := by
  rw [← of_at h hE, h0]
  have := of_at (E := E) (q := q0) canon0 (by show -(E : Int) ≤ 0; omega)
  rw [at0] at this; exact this
theorem sc_sx {k : Int} (h : Few a) (hk : -20 ≤ k ∧ k ≤ 20) : Sx (scale a k) := by
  have := h.2.2.1; have := h.2.2.2
  unfold scale
  split
  · exact ⟨canon0, by decide, by decide, by decide⟩
  · rename_i h0
    exact ⟨⟨fun e => absurd e h0, h.1.2⟩, h.2.1, by show -40 ≤ a.e + k; omega, by show a.e + k ≤ 40; omega⟩
theorem sc_x {k : Int} (h : Few a) (hk : -20 ≤ k ∧ k ≤ 20) : scalex (qx a) k = (scale a k, 0) := by
  rw [scalex_qx (sx_valid (few_sx h)) k, res_ok (sx_valid (sc_sx h hk)).2]
theorem few_neg (h : Few a) : Few a.neg := ⟨neg_canon h.1, by rw [m_neg]; exact h.2.1, by rw [e_neg h.1]; exact h.2.2.1, by rw [e_neg h.1]; exact h.2.2.2⟩
theorem few_abs (h : Few a) : Few a.abs := by
  refine ⟨abs_canon h.1, ?_⟩
  unfold Q.abs
  split
  · exact ⟨by decide, by decide, by decide⟩
  · exact h.2
theorem abs_nz (h : a.m ≠ 0) : a.abs.m ≠ 0 := by unfold Q.abs; rw [if_neg h]; exact h
theorem few_abx (h : Few a) : absx (qx a) = a.abs := absx_qx (sx_valid (few_sx h))
theorem gr_few (ha : Few a) (hb : Few b) (h0 : a.m ≠ 0 ∨ b.m ≠ 0) : ∃ g, Few g ∧ g.m ≠ 0 ∧ grN [qx a, qx b] 2 = qx g := by
  have e1 : grN [qx a, qx b] 1 = bif decide (0 < cmpx (qx (absx (qx a))) zX) then qx (absx (qx a)) else zX := rfl
  have e2 : grN [qx a, qx b] 2 = bif decide (0 < cmpx (qx (absx (qx b))) (grN [qx a, qx b] 1)) then qx (absx (qx b)) else grN [qx a, qx b] 1 := rfl
  have pos : ∀ {q : Q}, Few q → q.m ≠ 0 → decide (0 < cmpx (qx q.abs) zX) = true := fun {q} hq h => by
    refine decide_eq_true ((cmpx_gt (sx_q (few_sx (few_abs hq))).1 rfl).2 ?_)
    rw [zX_v, abs_nat (sx_valid (few_sx hq))]
    have hl : -((65536 : Nat) : Int) ≤ q.e := by have := hq.2.2.1; omega
    have := at_abs (E := 65536) q
    have h3 : 0 < q.m * 2 ^ (q.e + (65536 : Nat)).toNat := Nat.mul_pos (Nat.pos_of_ne_zero h) (Nat.two_pow_pos _)
    omega
  rw [few_abx ha] at e1
  rw [few_abx hb] at e2
  by_cases h1 : a.m = 0
  · have e3 : grN [qx a, qx b] 1 = zX := by
      rw [e1, show a.abs = q0 by unfold Q.abs; rw [if_pos h1], qx0]; rfl
    have hb0 : b.m ≠ 0 := by rcases h0 with h | h; exact absurd h1 h; exact h
    rw [e3, pos hb hb0] at e2
    exact ⟨_, few_abs hb, abs_nz hb0, e2⟩
  · rw [pos ha h1] at e1
    rw [e1, cond_true] at e2
    cases h2 : decide (0 < cmpx (qx b.abs) (qx a.abs)) with
    | true =>
      rw [h2, cond_true] at e2
      refine ⟨_, few_abs hb, abs_nz fun hb0 => ?_, e2⟩
      rw [show b.abs = q0 by unfold Q.abs; rw [if_pos hb0], qx0] at h2
      have h3 := (cmpx_gt rfl (sx_q (few_sx (few_abs ha))).1).1 (of_decide_eq_true h2)
      rw [zX_v, abs_nat (sx_valid (few_sx ha))] at h3
      omega
    | false => rw [h2, cond_false] at e2; exact ⟨_, few_abs ha, abs_nz h1, e2⟩
theorem sg_nz (hg : Few a) (h : a.m ≠ 0) : (signx (qx a) == 0) = false := by
  rw [signx_ok (sx_q (few_sx hg)).1, (sx_q (few_sx hg)).2]
  unfold signq
  rw [if_neg h]
  cases a.s <;> rfl
theorem top_few (hg : Few a) (h : a.m ≠ 0) : -5 ≤ topq a ∧ topq a ≤ 14 := by
  have h1 := nbits_pos h
  have h2 : nbits a.m ≤ 6 := nbits_le (show _ < 2 ^ 6 from hg.2.1)
  have := hg.2.2.1; have := hg.2.2.2
  unfold topq
  omega
theorem sca_few (ha : Few a) (hb : Few b) (h0 : a.m ≠ 0 ∨ b.m ≠ 0) : ∃ k : Int, (-20 ≤ k ∧ k ≤ 20) ∧ scaS [qx a, qx b] = ([qx (scale a k), qx (scale b k)], 0) := by
  obtain ⟨g, hg, g0, hG⟩ := gr_few ha hb h0
  have ht := top_few hg g0
  have hk : kS [qx a, qx b] = -topq g := by
    show IntKind.i64.wrap (0 - topq (grN [qx a, qx b] 2).q) = _
    rw [hG, (sx_q (few_sx hg)).2, show IntKind.i64.wrap (0 - topq g) = 0 - topq g by rw [IntKind.wrap_i64]; omega]; omega
  refine ⟨-topq g, by omega, ?_⟩
  show (bif signx (grN [qx a, qx b] 2) == 0 then ([], 3) else eachN (fun i => (qx (scalex ([qx a, qx b].getD i zX) (kS [qx a, qx b])).1, (scalex ([qx a, qx b].getD i zX) (kS [qx a, qx b])).2)) 2) = _
  rw [hG, sg_nz hg g0, cond_false, hk]
  have f0 := sc_x (k := -topq g) ha (by omega)
  have f1 := sc_x (k := -topq g) hb (by omega)
  have q0' : (fun i => (qx (scalex ([qx a, qx b].getD i zX) (-topq g)).1, (scalex ([qx a, qx b].getD i zX) (-topq g)).2)) 0 = (qx (scale a (-topq g)), 0) := by show (qx (scalex (qx a) _).1, (scalex (qx a) _).2) = _; rw [f0]
  have q1' : (fun i => (qx (scalex ([qx a, qx b].getD i zX) (-topq g)).1, (scalex ([qx a, qx b].getD i zX) (-topq g)).2)) 1 = (qx (scale b (-topq g)), 0) := by show (qx (scalex (qx b) _).1, (scalex (qx b) _).2) = _; rw [f1]
  generalize (fun i => (qx (scalex ([qx a, qx b].getD i zX) (-topq g)).1, (scalex ([qx a, qx b].getD i zX) (-topq g)).2)) = F at q0' q1'
  show (bif (bif (0 : Int) != 0 then ([], 0) else bif (F 0).2 != 0 then ([], (F 0).2) else ([] ++ [(F 0).1], 0)).2 != 0 then _ else bif (F 1).2 != 0 then ([], (F 1).2) else ((bif (0 : Int) != 0 then ([], 0) else bif (F 0).2 != 0 then ([], (F 0).2) else ([] ++ [(F 0).1], 0)).1 ++ [(F 1).1], 0)) = _
  rw [q0', q1']; rfl
theorem neg_plus {t : Q} (hc : Canon t) : plus t.neg t = q0 := by
  have h1 : -(t.e.natAbs : Int) ≤ t.e := by omega
  have h2 : -(t.e.natAbs : Int) ≤ t.neg.e := by rw [e_neg hc]; exact h1
  refine at_nil (ofz_canon _ _) (low_plus h2 h1) ?_
  rw [at_plus h2 h1, at_neg hc]; omega
theorem tm_neg {x y : Q} (hx : Canon x) (hy : Canon y) : times x y.neg = (times y x).neg := by
  by_cases h : x.m = 0 ∨ y.m = 0
  · rw [times_zero hx (neg_canon hy) (by rw [m_neg]; exact h), times_zero hy hx h.symm]; rfl
  · have h1 : x.m ≠ 0 := fun e => h (.inl e)
    have h2 : y.m ≠ 0 := fun e => h (.inr e)
    obtain ⟨s, m, e⟩ := x
    obtain ⟨s', m', e'⟩ := y
    have hn : (⟨s', m', e'⟩ : Q).neg = ⟨!s', m', e'⟩ := by unfold Q.neg; rw [if_neg h2]
    have hc := neg_canon hy
    rw [hn] at hc ⊢
    rw [times_odd hx hc h1 h2, times_odd hy hx h2 h1]
    have h3 : m' * m ≠ 0 := Nat.mul_ne_zero h2 h1
    unfold Q.neg
    rw [if_neg h3, Nat.mul_comm, Int.add_comm]
    cases s <;> cases s' <;> rfl
theorem sc_neg {k : Int} (_ : Canon a) : scale a.neg k = (scale a k).neg := by
  unfold scale Q.neg
  by_cases h0 : a.m = 0
  · simp only [if_pos h0]; rfl
  · simp only [if_neg h0]
theorem sq_pos {x y : Q} (hx : Canon x) (hy : Canon y) (h : x.m ≠ 0 ∨ y.m ≠ 0) : (plus (times x x) (times y y)).m ≠ 0 := fun h0 => by
  have low : ∀ q : Q, -((q.e.natAbs : Nat) : Int) ≤ q.e := fun q => by omega
  have p : ∀ {q : Q} {E : Nat}, Canon q → 0 ≤ (times q q).at E ∧ (q.m ≠ 0 → 0 < (times q q).at E) := fun {q} {E} hq => by
    by_cases hm : q.m = 0
    · rw [times_zero hq hq (.inl hm), at0]; exact ⟨Int.le_refl _, fun h => absurd hm h⟩
    · obtain ⟨s, m, e⟩ := q
      rw [times_odd hq hq hm hm, at_sg, show (s != s) = false by cases s <;> rfl]
      have : 0 < m * m * 2 ^ (e + e + (E : Int)).toNat := Nat.mul_pos (Nat.mul_pos (Nat.pos_of_ne_zero hm) (Nat.pos_of_ne_zero hm)) (Nat.two_pow_pos _)
      have h1 : sg false (m * m * 2 ^ (e + e + (E : Int)).toNat) = ((m * m * 2 ^ (e + e + (E : Int)).toNat : Nat) : Int) := rfl
      show 0 ≤ sg false (m * m * 2 ^ (e + e + (E : Int)).toNat) ∧ (_ → 0 < sg false (m * m * 2 ^ (e + e + (E : Int)).toNat))
      rw [h1]
      exact ⟨by omega, fun _ => by omega⟩
  obtain ⟨E, h1, h2⟩ : ∃ E : Nat, -(E : Int) ≤ (times x x).e ∧ -(E : Int) ≤ (times y y).e := ⟨(times x x).e.natAbs + (times y y).e.natAbs, by omega, by omega⟩
  have e0 : (plus (times x x) (times y y)).at E = 0 := by unfold Q.at Q.z; rw [h0]; simp
  rw [at_plus h1 h2] at e0
  have a1 := p (E := E) hx
  have a2 := p (E := E) hy
  rcases h with h | h
  · have := a1.2 h; have := a2.1; omega
  · have := a2.2 h; have := a1.1; omega
theorem sc_nz {k : Int} (h : a.m ≠ 0) : (scale a k).m ≠ 0 := by unfold scale; rw [if_neg h]; exact h
theorem sc_cross {k l : Int} (ha : Few a) (hb : Few b) (hk : -20 ≤ k ∧ k ≤ 20) (hl : -20 ≤ l ∧ l ≤ 20) : plus (times (scale a k) (scale b.neg l)) (times (scale b k) (scale a l)) = q0 := by
  have ca := (sc_sx ha hk).1
  have cb := (sc_sx hb hk).1
  have e : times (scale b k) (scale a l) = times (scale b l) (scale a k) := by
    by_cases h : a.m = 0 ∨ b.m = 0
    · have z : ∀ i : Int, (scale a i).m = 0 ∨ (scale b i).m = 0 := fun i => by
        rcases h with h | h
        · exact .inl (by unfold scale; rw [if_pos h]; rfl)
        · exact .inr (by unfold scale; rw [if_pos h]; rfl)
      have za : a.m = 0 → ∀ i : Int, (scale a i).m = 0 := fun h i => by unfold scale; rw [if_pos h]; rfl
      have zb : b.m = 0 → ∀ i : Int, (scale b i).m = 0 := fun h i => by unfold scale; rw [if_pos h]; rfl
      rw [times_zero cb (sc_sx ha hl).1 (h.elim (fun h => .inr (za h l)) fun h => .inl (zb h k)), times_zero (sc_sx hb hl).1 ca (h.elim (fun h => .inr (za h k)) fun h => .inl (zb h l))]
    · have h1 : a.m ≠ 0 := fun e => h (.inl e)
      have h2 : b.m ≠ 0 := fun e => h (.inr e)
      have c1 := (sc_sx ha hl).1
      have c2 := (sc_sx hb hl).1
      rw [scale_eq _ h1] at ca c1 ⊢
      rw [scale_eq _ h1, scale_eq _ h2, scale_eq _ h2]
      rw [scale_eq _ h2] at cb c2
      rw [times_odd cb c1 h2 h1, times_odd c2 ca h2 h1]
      congr 1; omega
  rw [sc_neg hb.1, tm_neg ca (sc_sx hb hl).1, e]
  exact neg_plus (ofz_canon _ _)
theorem q0_sx : Sx q0 := ⟨canon0, by decide, by decide, by decide⟩
theorem fac_0 {x y u v : Q} (hz : 12 ≤ z ∧ z ≤ 256) (hx : Sx x) (hy : Sx y) (hu : Sx u) (hv : Sx v) (h0 : u.m ≠ 0 ∨ v.m ≠ 0) (hc : plus (times u x) (times v y) = q0) : facS z [qx x, qx y] [qx u, qx v] = (zX, 0) := by
  have d1 := dot_sx hz hu hv hx hy
  have d2 := dot_sx hz hu hv hu hv
  rw [hc, show rnd z.toNat false q0 = q0 from rnd_zero _ _ _ _] at d1
  have hp : 1 ≤ z.toNat := by omega
  have n0 := rnd_nz (up := false) hp (sq_pos hu.1 hv.1 h0)
  have hv' : Valid (rnd z.toNat false (plus (times u u) (times v v))) := ⟨rnd_canon _ _ _, fits_rn (bd_plus (bd_times (sx_bd hu) (sx_bd hu)) (bd_times (sx_bd hv) (sx_bd hv))) hp (by omega) (by omega)⟩
  unfold facS
  rw [d1, d2]
  show (qx (rtwo (gdiv z false) z (qx q0) (qx (rnd z.toNat false (plus (times u u) (times v v))))).1, (rtwo (gdiv z false) z (qx q0) (qx (rnd z.toNat false (plus (times u u) (times v v))))).2) = _
  rw [rdiv_ok (qx_ok val_q0).1 (qx_ok hv').1 (pz hz) (by rw [(qx_ok hv').2.2]; exact n0), (qx_ok val_q0).2.2]
  rw [show ratq z.toNat false q0 (qx (rnd z.toNat false (plus (times u u) (times v v)))).q = q0 from if_pos rfl, res_ok fits0, qx0]
theorem les_0 {x y : Q} (hz : 12 ≤ z ∧ z ≤ 256) (hx : Sx x) (hy : Sx y) : lesX z zX (qx x) (qx y) = (qx y, 0) := by
  have e1 : rtwo (gmul z false) z zX (qx x) = (q0, 0) := by rw [← qx0, mul_sx hz q0_sx hx, times_zero canon0 hx.1 (.inl rfl)]
  unfold lesX
  rw [e1]
  show (qx (rtwo (gsub z false) z (qx y) (qx q0)).1, (rtwo (gsub z false) z (qx y) (qx q0)).2) = _
  have e2 : minus y q0 = y := by
    show plus y q0.neg = y
    rw [show q0.neg = q0 from rfl]
    have h1 : -(y.e.natAbs : Int) ≤ y.e := by omega
    have h0 : -(y.e.natAbs : Int) ≤ q0.e := by show _ ≤ (0 : Int); omega
    refine at_inj (E := y.e.natAbs) (ofz_canon _ _) hy.1 (low_plus h1 h0) h1 ?_
    rw [at_plus h1 h0, at0]; omega
  rw [rtwo_ok (sx_q hy).1 (qx_ok val_q0).1 (pz hz), (sx_q hy).2, (qx_ok val_q0).2.2]
  show (qx (res (rnd z.toNat false (minus y q0))).1, (res (rnd z.toNat false (minus y q0))).2) = _
  rw [e2, rnd_id hy.1 (by have : nbits y.m ≤ 6 := nbits_le (show _ < 2 ^ 6 from hy.2.1); omega), res_ok (sx_valid hy).2]
theorem wit_0 {x y u v : Q} (hz : 12 ≤ z ∧ z ≤ 256) (hx : Sx x) (hy : Sx y) (hu : Sx u) (hv : Sx v) (h0 : u.m ≠ 0 ∨ v.m ≠ 0) (hc : plus (times u x) (times v y) = q0) : witS z [qx x, qx y] [qx u, qx v] = ([qx x, qx y], 0) := by
  unfold witS
  rw [fac_0 hz hx hy hu hv h0 hc]
  have f0 := les_0 (x := u) hz hu hx
  have f1 := les_0 (x := v) hz hv hy
  show (bif (bif (0 : Int) != 0 then ([], 0) else bif (lesX z zX (qx u) (qx x)).2 != 0 then ([], (lesX z zX (qx u) (qx x)).2) else ([] ++ [(lesX z zX (qx u) (qx x)).1], 0)).2 != 0 then _ else bif (lesX z zX (qx v) (qx y)).2 != 0 then ([], (lesX z zX (qx v) (qx y)).2) else ((bif (0 : Int) != 0 then ([], 0) else bif (lesX z zX (qx u) (qx x)).2 != 0 then ([], (lesX z zX (qx u) (qx x)).2) else ([] ++ [(lesX z zX (qx u) (qx x)).1], 0)).1 ++ [(lesX z zX (qx v) (qx y)).1], 0)) = _
  rw [f0, f1]; rfl
theorem cols_right (hz : 12 ≤ z ∧ z ≤ 256) (ha : Few a) (hb : Few b) (h0 : a.m ≠ 0 ∨ b.m ≠ 0) : ∃ k l : Int, (-20 ≤ k ∧ k ≤ 20) ∧ (-20 ≤ l ∧ l ≤ 20) ∧ colsS z [[qx a, qx b.neg], [qx b, qx a]] = ([[qx (scale a k), qx (scale b.neg l)], [qx (scale b k), qx (scale a l)]], 0) := by
  obtain ⟨k, hk, e0⟩ := sca_few ha hb h0
  obtain ⟨l, hl, e1⟩ := sca_few (few_neg hb) ha (by rw [m_neg]; exact h0.symm)
  refine ⟨k, l, hk, hl, ?_⟩
  have hr : rightQ [[qx a, qx b.neg], [qx b, qx a]] z = true := by
    unfold rightQ
    rw [show decide (((([[qx a, qx b.neg], [qx b, qx a]] : List (List X)).length : Nat) : Int) < 1) = false from rfl, cond_false, show decide ((4 : Int) < ((([[qx a, qx b.neg], [qx b, qx a]] : List (List X)).length : Nat) : Int)) = false from rfl, cond_false, decide_eq_false (by omega), cond_false, decide_eq_false (by omega), cond_false]
    show ((qx a).ok && ((qx b.neg).ok && true) && (((qx b).ok && ((qx a).ok && true)) && true)) = true
    rw [(sx_q (few_sx ha)).1, (sx_q (few_sx hb)).1, (sx_q (few_sx (few_neg hb))).1]; rfl
  have w := wit_0 hz (few_sx (few_neg hb)) (few_sx ha) (sc_sx ha hk) (sc_sx hb hk) (h0.imp sc_nz sc_nz) (show plus (times (scale a k) b.neg) (times (scale b k) a) = q0 by
    have := sc_cross (l := 0) ha hb hk (by omega)
    have s0 : ∀ {q : Q}, Canon q → scale q 0 = q := fun {q} hq => by
      unfold scale
      by_cases h : q.m = 0
      · rw [if_pos h, hq.1 h]
      · rw [if_neg h, Int.add_zero]
    rwa [s0 ha.1, s0 (neg_canon hb.1)] at this)
  have c1 : colN z [[qx a, qx b], [qx b.neg, qx a]] 1 = ([[qx (scale a k), qx (scale b k)]], 0) := by
    show (bif (0 : Int) != 0 then _ else bif (0 : Int) != 0 then _ else bif (scaS [qx a, qx b]).2 != 0 then _ else ([] ++ [(scaS [qx a, qx b]).1], 0)) = _
    rw [e0]; rfl
  have c2 : colN z [[qx a, qx b], [qx b.neg, qx a]] 2 = ([[qx (scale a k), qx (scale b k)], [qx (scale b.neg l), qx (scale a l)]], 0) := by
    show (bif (colN z [[qx a, qx b], [qx b.neg, qx a]] 1).2 != 0 then _ else bif (witN z (colN z [[qx a, qx b], [qx b.neg, qx a]] 1).1 [qx b.neg, qx a] 1).2 != 0 then _ else bif (scaS (witN z (colN z [[qx a, qx b], [qx b.neg, qx a]] 1).1 [qx b.neg, qx a] 1).1).2 != 0 then _ else ((colN z [[qx a, qx b], [qx b.neg, qx a]] 1).1 ++ [(scaS (witN z (colN z [[qx a, qx b], [qx b.neg, qx a]] 1).1 [qx b.neg, qx a] 1).1).1], 0)) = _
    rw [c1]
    show (bif (0 : Int) != 0 then _ else bif (witS z [qx b.neg, qx a] [qx (scale a k), qx (scale b k)]).2 != 0 then _ else bif (scaS (witS z [qx b.neg, qx a] [qx (scale a k), qx (scale b k)]).1).2 != 0 then _ else ([[qx (scale a k), qx (scale b k)]] ++ [(scaS (witS z [qx b.neg, qx a] [qx (scale a k), qx (scale b k)]).1).1], 0)) = _
    rw [w, e1]; rfl
  unfold colsS
  rw [hr, cond_true]
  show (bif (colN z [[qx a, qx b], [qx b.neg, qx a]] 2).2 != 0 then _ else (trn (colN z [[qx a, qx b], [qx b.neg, qx a]] 2).1, 0)) = _
  rw [c2]; rfl
end
end Go.Proofs.YtpacpmmdjmnamaaDoor
namespace Go.Proofs.YtpacpmmdjmnamaaDoor
open Go.RowKit Nx
set_option linter.unusedVariables false
set_option linter.unusedSimpArgs false
attribute [local irreducible] chk
noncomputable def T9_Words : Tbl := one 19 (gWW fun l l1 => (l = l1, bA true))
theorem T9_Words_ok : TbOK Tryd.prog T9_Words := one_ok (ent Tryd.func19 (by kernel_rfl) rfl) fun args e h hp => by
  obtain ⟨l, l1, rfl, rfl⟩ := gWW_eq h
  have hp : l = l1 := hp
  subst hp
  exact ctWW rfl (fun w Al nl cl Al1 nl1 cl1 ht hl hn hl1 hn1 => (words_same w 0 w.heap.size 0 w.heap.size Al Al1 nl cl nl1 cl1 l hl.1 hl1.1 (by omega)).mono fun _ _ h => by obtain ⟨m, he, hw⟩ := h; subst hw; exact post_b ⟨he, below_drewN (Below.refl _ _) m⟩)
def tblE (T : Tbl) (g : FuncId) : Orac := fun f d st args => if f = g then (match args with
  | .v false [.osl b n] :: rest => (match look st (2 * b + 1) with
    | some (.v _ ls) => (match dnL (ls.map (cvL st)) with
      | some ks => if ls.length = n * (ls.length / n) ∧ (rest.map (cvA st)).all noA = true then (match T f (.v false [.sl false (ls.length / n) n ks] :: rest.map (cvA st)) with
        | some e => some (e.1, (2 * b + 1) :: (ls.flatMap olL ++ rest.flatMap olA), [(2 * d, e.2)])
        | none => none) else none
      | none => none)
    | _ => none)
  | _ => none) else none
theorem tblE_only {T : Tbl} {g : FuncId} : Only (tblE T g) g := fun f d st args h => by unfold tblE; rw [if_neg h]
theorem dnL_noO : ∀ {ls : List Lf} {ks : List Lc}, dnL ls = some ks → ls.all noO = true := by
  intro ls
  induction ls with
  | nil => intro ks _; rfl
  | cons l ls ih =>
    intro ks h
    cases l <;> simp only [dnL] at h <;> first | (cases h; done) | (split at h <;> first | (cases h; done) | (rename_i k hk; rw [List.all_cons, ih hk]; rfl))
theorem tblE_ok {T : Tbl} {g : FuncId} {w0 : World} (h : TbOK Tryd.prog T) : OrOK Tryd.prog (tblE T g) (fun _ => False) w0 := by
  have inv : ∀ f d st args e, tblE T g f d st args = some e → ∃ b n rest m ls ks q, args = .v false [.osl b n] :: rest ∧ look st (2 * b + 1) = some (.v m ls) ∧ dnL (ls.map (cvL st)) = some ks ∧ (ls.length = n * (ls.length / n) ∧ (rest.map (cvA st)).all noA = true) ∧ T f (.v false [.sl false (ls.length / n) n ks] :: rest.map (cvA st)) = some q ∧ e = (q.1, (2 * b + 1) :: (ls.flatMap olL ++ rest.flatMap olA), [(2 * d, q.2)]) := by
    intro f d st args e he
    unfold tblE at he
    split at he
    case isFalse => cases he
    split at he
    case h_2 => cases he
    rename_i b n rest
    split at he
    case h_2 => cases he
    rename_i m ls hl
    split at he
    case h_2 => cases he
    rename_i ks hk
    split at he
    case isFalse => cases he
    rename_i hn
    split at he
    case h_2 => cases he
    rename_i q hq
    injection he with he
    exact ⟨b, n, rest, m, ls, ks, q, rfl, hl, hk, hn, hq, he.symm⟩
  refine ⟨fun f d st args e he => ?_, fun f d st args e he hp N ρ a w us hz hd hA => ?_, fun f d st st' args e he hkk => ?_⟩
  · obtain ⟨b, n, rest, m, ls, ks, q, _, _, _, _, hq, _⟩ := inv _ _ _ _ _ he
    exact h.enters f _ q hq
  · obtain ⟨b, n, rest, m, ls, ks, q, rfl, hl, hk, hn, hq, rfl⟩ := inv _ _ _ _ _ he
    obtain ⟨u, r, rfl, hu, hr⟩ := hA
    have hu : (Lf.osl b n).R ρ (dom st) w u := RL.one.1 hu
    have hA2 : RA ρ.no (fun _ => false) w (.v false [.sl false (ls.length / n) n ks] :: rest.map (cvA st)) (u :: r) := by
      refine ⟨u, r, rfl, RL.one.2 ?_, cv_RA hz hr hn.2⟩
      obtain ⟨hdb, hu⟩ := hu
      obtain ⟨g0, ls0, T0, cs, e0, hB, hr0, ho0, hg⟩ := hz.mv hl
      injection e0 with e1 e0; subst e0
      have hlen := hr0.len
      rw [Array.length_toList] at hlen
      have hkl := dn_len hk
      rw [List.length_map] at hkl
      refine ⟨by rw [hkl]; exact hn.1, _, n, hu, Nat.le_refl _, .inr ⟨⟨ρ b, 0, none⟩, T0, cs, rfl, rfl, ⟨no_sep, fun e => (by cases e)⟩, hB.wb, ?_, ?_⟩⟩
      · show 0 + ks.length ≤ cs.size; omega
      · show LcL _ w ks ((cs.toList.drop 0).take ks.length)
        rw [List.drop_zero, List.take_of_length_le (by rw [Array.length_toList]; omega)]
        exact dn_R (fun g hg => ⟨hg, fun e => (by cases e)⟩) hk (cv_RL hz hr0 (dnL_noO hk))
    refine (h.ct f _ q hq hp ρ.no (fun _ => false) w _ (hz.tb.tab hz.bel) hA2).mono ?_
    rintro en w' ⟨v, r0, rfl, rfl, hc, hR, hb⟩
    exact ⟨v, ρ, rfl, hz.val hb hd (hR _ _ hz.old)⟩
  · obtain ⟨b, n, rest, m, ls, ks, q, rfl, hl, hk, hn, hq, rfl⟩ := inv _ _ _ _ _ he
    have hm : ls.map (cvL st') = ls.map (cvL st) := List.map_congr_left fun l hl' => cvL_congr fun k hk' => hkk k (List.mem_cons_of_mem _ (List.mem_append_left _ (List.mem_flatMap.2 ⟨l, hl', hk'⟩)))
    have hm2 : rest.map (cvA st') = rest.map (cvA st) := List.map_congr_left fun x hx => cvA_congr fun k hk' => hkk k (List.mem_cons_of_mem _ (List.mem_append_right _ (List.mem_flatMap.2 ⟨x, hx, hk'⟩)))
    rw [← he]
    unfold tblE
    simp only [hkk (2 * b + 1) (List.mem_cons_self ..), hl, hm, hm2]
abbrev y2 : Q := ⟨false, 1, 1⟩
abbrev yh : Q := ⟨false, 1, -1⟩
abbrev y4 : Q := ⟨false, 1, 2⟩
theorem few1 {e : Int} (h1 : -6 ≤ e) (h2 : e ≤ 8) : Few ⟨false, 1, e⟩ := ⟨⟨(fun h => by cases h), fun _ => rfl⟩, (show (1 : Nat) < 64 by decide), h1, h2⟩
theorem sx1 {e : Int} (h1 : -6 ≤ e) (h2 : e ≤ 8) : Sx ⟨false, 1, e⟩ := few_sx (few1 h1 h2)
theorem p16 : 12 ≤ (16 : Int) ∧ (16 : Int) ≤ 256 := by decide
theorem y2_few : Few y2 := few1 (by decide) (by decide)
theorem yh_sx : Sx yh := sx1 (by decide) (by decide)
theorem cmpx_se (x : X) : cmpx x x = 0 := by
  unfold cmpx anscmp
  split
  · rw [cmpq_at (E := x.e.natAbs) (show -((x.e.natAbs : Nat) : Int) ≤ x.e by omega) (show -((x.e.natAbs : Nat) : Int) ≤ x.e by omega)]; simp
  · rfl
theorem k9_ab : absx (qx y2) = y2 := by rw [few_abx y2_few]; rfl
theorem k9_g1 (r : List X) : grN (qx y2 :: r) 1 = qx y2 := by
  show (bif decide (0 < cmpx (qx (absx (qx y2))) zX) then qx (absx (qx y2)) else zX) = _
  rw [k9_ab, show decide (0 < cmpx (qx y2) zX) = true by kernel_rfl]; rfl
theorem k9_g2 : grN [qx y2, qx y2] 2 = qx y2 := by
  show (bif decide (0 < cmpx (qx (absx (qx y2))) (grN [qx y2, qx y2] 1)) then qx (absx (qx y2)) else grN [qx y2, qx y2] 1) = _
  rw [k9_g1, k9_ab, cmpx_se]; rfl
theorem k9_sc : scalex (qx y2) (-2) = (yh, 0) := by
  rw [sc_x y2_few (by decide), scale_eq _ (by decide)]; rfl
theorem k9_s1 : scaS [qx y2] = ([qx yh], 0) := by
  have hk : kS [qx y2] = -2 := by
    show IntKind.i64.wrap (0 - topq (grN [qx y2] 1).q) = _
    rw [k9_g1]; kernel_rfl
  show (bif signx (grN [qx y2] 1) == 0 then ([], 3) else bif (0 : Int) != 0 then ([], 0) else bif (scalex (qx y2) (kS [qx y2])).2 != 0 then ([], (scalex (qx y2) (kS [qx y2])).2) else ([] ++ [qx (scalex (qx y2) (kS [qx y2])).1], 0)) = _
  rw [k9_g1, sg_nz y2_few (by decide), hk, k9_sc]; rfl
theorem k9_s2 : scaS [qx y2, qx y2] = ([qx yh, qx yh], 0) := by
  have hk : kS [qx y2, qx y2] = -2 := by
    show IntKind.i64.wrap (0 - topq (grN [qx y2, qx y2] 2).q) = _
    rw [k9_g2]; kernel_rfl
  obtain ⟨k, _, h⟩ := sca_few y2_few y2_few (.inl (by decide))
  show (bif signx (grN [qx y2, qx y2] 2) == 0 then ([], 3) else eachN (fun i => (qx (scalex ([qx y2, qx y2].getD i zX) (kS [qx y2, qx y2])).1, (scalex ([qx y2, qx y2].getD i zX) (kS [qx y2, qx y2])).2)) 2) = _
  rw [k9_g2, sg_nz y2_few (by decide), hk, cond_false]
  have f0 : (fun i => (qx (scalex ([qx y2, qx y2].getD i zX) (-2)).1, (scalex ([qx y2, qx y2].getD i zX) (-2)).2)) 0 = (qx yh, 0) := by show (qx (scalex (qx y2) (-2)).1, (scalex (qx y2) (-2)).2) = _; rw [k9_sc]
  have f1 : (fun i => (qx (scalex ([qx y2, qx y2].getD i zX) (-2)).1, (scalex ([qx y2, qx y2].getD i zX) (-2)).2)) 1 = (qx yh, 0) := by show (qx (scalex (qx y2) (-2)).1, (scalex (qx y2) (-2)).2) = _; rw [k9_sc]
  generalize (fun i => (qx (scalex ([qx y2, qx y2].getD i zX) (-2)).1, (scalex ([qx y2, qx y2].getD i zX) (-2)).2)) = F at f0 f1
  show (bif (bif (0 : Int) != 0 then ([], 0) else bif (F 0).2 != 0 then ([], (F 0).2) else ([] ++ [(F 0).1], 0)).2 != 0 then _ else bif (F 1).2 != 0 then ([], (F 1).2) else ((bif (0 : Int) != 0 then ([], 0) else bif (F 0).2 != 0 then ([], (F 0).2) else ([] ++ [(F 0).1], 0)).1 ++ [(F 1).1], 0)) = _
  rw [f0, f1]; rfl
theorem k9_f : facS 16 [qx y2, qx y2] [qx yh, qx yh] = (qx y4, 0) := by
  have d1 := dot_sx p16 yh_sx yh_sx (few_sx y2_few) (few_sx y2_few)
  have d2 := dot_sx p16 yh_sx yh_sx yh_sx yh_sx
  rw [show rnd (16 : Int).toNat false (plus (times yh y2) (times yh y2)) = y2 by kernel_rfl] at d1
  rw [show rnd (16 : Int).toNat false (plus (times yh yh) (times yh yh)) = yh by kernel_rfl] at d2
  unfold facS
  rw [d1, d2]
  show (qx (rtwo (gdiv 16 false) 16 (qx y2) (qx yh)).1, (rtwo (gdiv 16 false) 16 (qx y2) (qx yh)).2) = _
  rw [rdiv_ok (sx_q (few_sx y2_few)).1 (sx_q yh_sx).1 (pz p16) (by rw [(sx_q yh_sx).2]; decide), (sx_q (few_sx y2_few)).2, (sx_q yh_sx).2, show ratq (16 : Int).toNat false y2 yh = y4 by kernel_rfl, res_ok (sx_valid (sx1 (by decide) (by decide))).2]
theorem k9_l : lesX 16 (qx y4) (qx yh) (qx y2) = (zX, 0) := by
  unfold lesX
  rw [mul_sx p16 (sx1 (by decide) (by decide)) yh_sx]
  show (qx (rtwo (gsub 16 false) 16 (qx y2) (qx (times y4 yh))).1, (rtwo (gsub 16 false) 16 (qx y2) (qx (times y4 yh))).2) = _
  rw [show times y4 yh = y2 by kernel_rfl, rtwo_ok (sx_q (few_sx y2_few)).1 (sx_q (few_sx y2_few)).1 (pz p16), (sx_q (few_sx y2_few)).2]
  show (qx (res (rnd (16 : Int).toNat false (minus y2 y2))).1, (res (rnd (16 : Int).toNat false (minus y2 y2))).2) = _
  rw [show rnd (16 : Int).toNat false (minus y2 y2) = q0 by kernel_rfl, res_ok fits0, qx0]
theorem k9_w : witS 16 [qx y2, qx y2] [qx yh, qx yh] = ([zX, zX], 0) := by
  unfold witS
  rw [k9_f]
  show (bif (bif (0 : Int) != 0 then ([], 0) else bif (lesX 16 (qx y4) (qx yh) (qx y2)).2 != 0 then ([], (lesX 16 (qx y4) (qx yh) (qx y2)).2) else ([] ++ [(lesX 16 (qx y4) (qx yh) (qx y2)).1], 0)).2 != 0 then _ else bif (lesX 16 (qx y4) (qx yh) (qx y2)).2 != 0 then ([], (lesX 16 (qx y4) (qx yh) (qx y2)).2) else ((bif (0 : Int) != 0 then ([], 0) else bif (lesX 16 (qx y4) (qx yh) (qx y2)).2 != 0 then ([], (lesX 16 (qx y4) (qx yh) (qx y2)).2) else ([] ++ [(lesX 16 (qx y4) (qx yh) (qx y2)).1], 0)).1 ++ [(lesX 16 (qx y4) (qx yh) (qx y2)).1], 0)) = _
  rw [k9_l]; rfl
theorem k9_z : scaS [zX, zX] = ([], 3) := by
  have ab : absx zX = q0 := by rw [← qx0, few_abx ⟨canon0, by decide, by decide, by decide⟩]; rfl
  have g1 : grN [zX, zX] 1 = zX := by
    show (bif decide (0 < cmpx (qx (absx zX)) zX) then qx (absx zX) else zX) = _
    rw [ab, qx0, cmpx_se]; rfl
  have g2 : grN [zX, zX] 2 = zX := by
    show (bif decide (0 < cmpx (qx (absx zX)) (grN [zX, zX] 1)) then qx (absx zX) else grN [zX, zX] 1) = _
    rw [g1, ab, qx0, cmpx_se]; rfl
  show (bif signx (grN [zX, zX] 2) == 0 then ([], 3) else _) = _
  rw [g2]; rfl
theorem k9_1 : colsS 16 [[qx y2]] = ([[qx yh]], 0) := by
  have c1 : colN 16 [[qx y2]] 1 = ([[qx yh]], 0) := by
    show (bif (0 : Int) != 0 then _ else bif (0 : Int) != 0 then _ else bif (scaS [qx y2]).2 != 0 then _ else ([] ++ [(scaS [qx y2]).1], 0)) = _
    rw [k9_s1]; rfl
  unfold colsS
  rw [show rightQ [[qx y2]] 16 = true by kernel_rfl, cond_true]
  show (bif (colN 16 [[qx y2]] 1).2 != 0 then _ else (trn (colN 16 [[qx y2]] 1).1, 0)) = _
  rw [c1]; rfl
theorem k9_2 : colsS 16 [[qx y2, qx y2], [qx y2, qx y2]] = ([], 3) := by
  have c1 : colN 16 [[qx y2, qx y2], [qx y2, qx y2]] 1 = ([[qx yh, qx yh]], 0) := by
    show (bif (0 : Int) != 0 then _ else bif (0 : Int) != 0 then _ else bif (scaS [qx y2, qx y2]).2 != 0 then _ else ([] ++ [(scaS [qx y2, qx y2]).1], 0)) = _
    rw [k9_s2]; rfl
  have c2 : colN 16 [[qx y2, qx y2], [qx y2, qx y2]] 2 = ([], 3) := by
    show (bif (colN 16 [[qx y2, qx y2], [qx y2, qx y2]] 1).2 != 0 then _ else bif (witN 16 (colN 16 [[qx y2, qx y2], [qx y2, qx y2]] 1).1 [qx y2, qx y2] 1).2 != 0 then _ else bif (scaS (witN 16 (colN 16 [[qx y2, qx y2], [qx y2, qx y2]] 1).1 [qx y2, qx y2] 1).1).2 != 0 then ([], (scaS (witN 16 (colN 16 [[qx y2, qx y2], [qx y2, qx y2]] 1).1 [qx y2, qx y2] 1).1).2) else _) = _
    rw [c1]
    show (bif (0 : Int) != 0 then _ else bif (witS 16 [qx y2, qx y2] [qx yh, qx yh]).2 != 0 then _ else bif (scaS (witS 16 [qx y2, qx y2] [qx yh, qx yh]).1).2 != 0 then ([], (scaS (witS 16 [qx y2, qx y2] [qx yh, qx yh]).1).2) else _) = _
    rw [k9_w]
    show (bif (scaS [zX, zX]).2 != 0 then ([], (scaS [zX, zX]).2) else _) = _
    rw [k9_z]; rfl
  unfold colsS
  rw [show rightQ [[qx y2, qx y2], [qx y2, qx y2]] 16 = true by kernel_rfl, cond_true]
  show (bif (colN 16 [[qx y2, qx y2], [qx y2, qx y2]] 2).2 != 0 then ([], (colN 16 [[qx y2, qx y2], [qx y2, qx y2]] 2).2) else _) = _
  rw [c2]; rfl
def kcV : List (List X) → AV
  | [[_]] => qxe ([[(⟨false, -1, [1]⟩ : X)]], 0)
  | _ => qxe ([], 3)
noncomputable def TkCol : Tbl := one 10 (gA asQ fun m => gA asZ fun z => gE ((m = [[(⟨false, 1, [1]⟩ : X)]] ∨ m = [[(⟨false, 1, [1]⟩ : X), (⟨false, 1, [1]⟩ : X)], [(⟨false, 1, [1]⟩ : X), (⟨false, 1, [1]⟩ : X)]]) ∧ z = 16, kcV m))
theorem TkCol_ok : TbOK Tryd.prog TkCol := one_t (ent Tryd.func10 (by kernel_rfl) rfl) (.a asQ_ok fun m => .a asZ_ok fun z => .e fun h => by
  obtain ⟨rfl | rfl, rfl⟩ := h
  · have := o_col [[(⟨false, 1, [1]⟩ : X)]] 16 (fun r hr x hx => by
      rw [List.mem_singleton] at hr; subst hr
      rw [List.mem_singleton] at hx; subst hx
      exact small1 (by decide))
    rw [show ([[(⟨false, 1, [1]⟩ : X)]] : List (List X)) = [[qx y2]] by kernel_rfl, k9_1, show qx yh = (⟨false, -1, [1]⟩ : X) by kernel_rfl] at this
    rw [show ([[(⟨false, 1, [1]⟩ : X)]] : List (List X)) = [[qx y2]] by kernel_rfl]
    exact this
  · have := o_col [[(⟨false, 1, [1]⟩ : X), (⟨false, 1, [1]⟩ : X)], [(⟨false, 1, [1]⟩ : X), (⟨false, 1, [1]⟩ : X)]] 16 (fun r hr x hx => by
      simp only [List.mem_cons, List.not_mem_nil, or_false, or_self] at hr; subst hr
      simp only [List.mem_cons, List.not_mem_nil, or_false, or_self] at hx; subst hx
      exact small1 (by decide))
    rw [show ([[(⟨false, 1, [1]⟩ : X), (⟨false, 1, [1]⟩ : X)], [(⟨false, 1, [1]⟩ : X), (⟨false, 1, [1]⟩ : X)]] : List (List X)) = [[qx y2, qx y2], [qx y2, qx y2]] by kernel_rfl, k9_2] at this
    rw [show ([[(⟨false, 1, [1]⟩ : X), (⟨false, 1, [1]⟩ : X)], [(⟨false, 1, [1]⟩ : X), (⟨false, 1, [1]⟩ : X)]] : List (List X)) = [[qx y2, qx y2], [qx y2, qx y2]] by kernel_rfl]
    exact this)
theorem k9v1 : kcV [[(⟨false, 1, [1]⟩ : X)]] = .tup [(false, [.sl true 1 1 [.sl 3 1 [.lit (.bool false), .lit (.int .i64 (-1)), .ws [1]]]]), (false, [.lit (.int .i64 0)])] := rfl
theorem k9v2 : kcV [[(⟨false, 1, [1]⟩ : X), (⟨false, 1, [1]⟩ : X)], [(⟨false, 1, [1]⟩ : X), (⟨false, 1, [1]⟩ : X)]] = .tup [(false, [.sl true 1 0 []]), (false, [.lit (.int .i64 3)])] := rfl
theorem k9q1 : asQ (.v false [.sl false 1 1 [.sl 3 1 [.lit (.bool false), .lit (.int .i64 1), .ws [1]]]]) = some [[(⟨false, 1, [1]⟩ : X)]] := rfl
theorem k9q2 : asQ (.v false [.sl false 1 2 [.sl 3 2 [.lit (.bool false), .lit (.int .i64 1), .ws [1], .lit (.bool false), .lit (.int .i64 1), .ws [1]], .sl 3 2 [.lit (.bool false), .lit (.int .i64 1), .ws [1], .lit (.bool false), .lit (.int .i64 1), .ws [1]]]]) = some [[(⟨false, 1, [1]⟩ : X), (⟨false, 1, [1]⟩ : X)], [(⟨false, 1, [1]⟩ : X), (⟨false, 1, [1]⟩ : X)]] := rfl
set_option maxRecDepth 100000 in
set_option maxHeartbeats 4000000 in
theorem l9_known  : Ct Tryd.prog 5 [] (· = bA true) := by
  refine ct_of (O := orO (tblE TkCol 10) (tblO T9_Words)) (by kernel_rfl) tyO_ok (fun w => only_or tblE_only (tblE_ok TkCol_ok) (tblO_ok T9_Words_ok _ w) (fun d st args => by simp [tblO, T9_Words, one])) [] 900 63 [.tmp 0] Tryd.func5 rfl Tryd.ntmps5 (by rw [Tryd.results5]) (by simp) rfl (fun hsm => ?_)
  simp (maxSteps := 10000000) only [run, init, X.L, J.L, vL, X.eta, J.eta, Q.eta, List.cons_append, List.nil_append, brkK, brkf_b, brkf_t, exef_some, exif_some, condf_b, opf, bodyE, addR, skipE, stepOp, stepLoad, stepStore, stepField, stepCall, stepBS, stepB0, stepMk, stepSl, stepAp, apY, optI, okO, nilV, slT, stepBi, stepCv, stepIx, inL, mentA, ment, dom, evs, evl, evp, evd, okeys, look, fillA, capsOf, wordsOf, rowsOf, lenOf, convK, binV, shV, intV, unV, boolT, tiB, tiI, tiW, tiD, tiF, tiU, tiNum, tiIv, tiVal, tiSc, okLf, okD, keysOf, tblO, cvA, cvL, dnL, olA, olL, noO, noA, cbL, cbA, orT, ↓cond_true, ↓cond_false, ↓not_cond, noT, one, asNum, asIv, asVal, postf_some, resA, resB, outPs, outLs, outL, dnT, tupA, clA, clL, dropTo, ↓reduceIte, Nat.reduceMul, Nat.reduceDiv, Nat.reduceAdd, Nat.reduceEqDiff, Nat.reduceLeDiff, Nat.reduceLT, decide_true, decide_false, reduceCtorEq, List.all_cons, List.all_nil, Bool.and_true, Bool.and_self, true_and, and_true, and_self, List.length_cons, List.length_nil, List.drop_succ_cons, List.drop_zero, List.take_succ_cons, List.take_zero, List.getElem?_cons_zero, List.getElem?_cons_succ, List.map_cons, List.map_nil, false_implies, true_implies, Option.bind_some, List.getElem?_toArray, Bool.false_eq_true, List.append_nil, List.flatMap_cons, List.flatMap_nil, true_or, or_true, forall_const, List.reverse_cons, List.reverse_nil, Option.isSome_some, Option.any_some, Nat.lt_irrefl, not_true_eq_false, Bool.not_true, Bool.not_false, imp_self, implies_true, Int.reduceNeg, Bool.not_eq_true', Bool.not_eq_false', Bool.true_eq_false, memOf, cntF, nmL, rnL, nmA, rnA, isV, noE, contsOf, ndB, refO, orO, pin, Int.reduceLT, Int.reduceLE, Int.reduceAdd, Int.reduceToNat, Int.toNat_zero, decide_eq_true_eq, wrap0, wrap1, ci1, ci2, Nat.reduceBEq, BEq.rfl, beq_self_eq_true, Int.natCast_zero, ge_iff_le, gt_iff_lt, Int.le_refl, Nat.zero_mul, Nat.one_mul, Nat.zero_add, Nat.zero_lt_succ, Int.reduceMul, Int.reduceSub, Nat.lt_add_one, Nat.reduceSub, Nat.le_refl, List.append_eq, boxL_nil, boxL_cons, ptsL_nil, ptsL_cons, ↓outL_box, ↓outL_pts, ↓clL_box, ↓clL_pts, ↓okL_box, ↓okL_pts, ↓ment_box, ↓ment_pts, ↓olL_box, ↓olL_pts, ↓cvL_box, ↓cvL_pts, ↓noO_box, ↓noO_pts, ↓asB_box, ↓asP_pts, ↓len_box, ↓len_pts, bne_self_eq_false, Int.reduceBNe, Nat.reduceBNe, wr2, wr3, wr4, wr5, wr6, wr7, wr8, gN, gNN, gNI, gI, gNIB, gNNIB, gJ, gJJ, gJN, gJJI, gJI, gB, gP, gBB, gBP, gBZ, gBBZ, bC_nil, bC_cons, pC_nil, pC_cons, fvO, Lc.up, tiS, Int.toNat_natCast, List.replicate_succ, List.replicate_zero, List.flatten_cons, List.flatten_nil, Int.ofNat_lt, Int.cast_ofNat_Int, Int.ofNat_eq_natCast, List.isEmpty_nil, List.isEmpty_cons, and_false, false_and, List.cons_ne_nil, Nat.add_zero, ite_true, ite_false, if_true, if_false, Nat.le_zero_eq, eq_self, Bool.and_false, Bool.false_and, Bool.true_and, tiQ, gA, gE, asZ, asT, asV1, asN1, asB_b, asP_b, asM_m, asQ_m, ite_self, tyO, tblE, k9v1, k9v2, k9q1, k9q2, TkCol, T9_Words, gWW, Int.toNat_one, bxe, pxe, lpf, hdS, hd1, pick, forget, frh, frz, frS, frA, frL]
  repeat' first | (with_reducible apply And.intro) | (with_reducible apply condP <;> intro _)
  all_goals first | (show chk _ _ = true; kernel_rfl) | (simp only [inW]; decide) | assumption | rfl | (exact ⟨.inl rfl, rfl⟩) | (exact ⟨.inr rfl, rfl⟩) | (simp only [AV.s, cond_true, cond_false, Bool.and_true, Bool.true_and, Bool.and_false, Bool.false_and, Bool.not_true, Bool.not_false, *] <;> rfl)
noncomputable def T9_known : Tbl := one 5 (gE (True, bA true))
theorem T9_known_ok : TbOK Tryd.prog T9_known := one_t (ent Tryd.func5 (by kernel_rfl) rfl) (.e fun _ => l9_known)
end Go.Proofs.YtpacpmmdjmnamaaDoor
namespace Go.Proofs.YtpacpmmdjmnamaaDoor
open Go.RowKit Nx
set_option linter.unusedVariables false
set_option linter.unusedSimpArgs false
section
variable {v w : List X}
theorem ab_v {x : X} (h : GX x) : (qx (absx x)).ok = true ∧ (qx (absx x)).v = ((x.q.at 65536).natAbs : Int) := by
  have hv := ok_arg h.1 h.2
  rw [absx_ok h.1 h.2]
  exact ⟨(qx_ok (abs_valid hv)).1, abs_nat hv⟩
theorem gx_get (hv : ∀ x ∈ v, GX x) {i : Nat} (h : i < v.length) : GX (v.getD i zX) := hv _ (List.mem_of_getElem? (at_get zX h))
theorem gr_spec (hv : ∀ x ∈ v, GX x) : ∀ j, j ≤ v.length → (grN v j).ok = true ∧ 0 ≤ (grN v j).v ∧ (∀ i, i < j → (((v.getD i zX).q.at 65536).natAbs : Int) ≤ (grN v j).v) ∧ (grN v j = zX ∨ ∃ i, i < j ∧ grN v j = qx (absx (v.getD i zX))) := by
  intro j
  induction j with
  | zero => intro _; exact ⟨gx_nil.1, by rw [show grN v 0 = zX from rfl, zX_v]; exact Int.le_refl _, fun i hi => by omega, .inl rfl⟩
  | succ j ih =>
    intro hj
    obtain ⟨h1, h2, h3, h4⟩ := ih (by omega)
    obtain ⟨a1, a2⟩ := ab_v (gx_get hv (i := j) (by omega))
    have e : grN v (j + 1) = bif decide (0 < cmpx (qx (absx (v.getD j zX))) (grN v j)) then qx (absx (v.getD j zX)) else grN v j := rfl
    by_cases hc : (grN v j).v < (qx (absx (v.getD j zX))).v
    · rw [decide_eq_true ((cmpx_gt a1 h1).2 hc), cond_true] at e
      rw [e]
      refine ⟨a1, by omega, fun i hi => ?_, .inr ⟨j, by omega, rfl⟩⟩
      rcases Nat.lt_or_ge i j with hij | hij
      · have := h3 i hij; omega
      · obtain rfl : i = j := by omega
        omega
    · rw [decide_eq_false (fun g => hc ((cmpx_gt a1 h1).1 g)), cond_false] at e
      rw [e]
      refine ⟨h1, h2, fun i hi => ?_, h4.imp id fun ⟨i, hi, h⟩ => ⟨i, by omega, h⟩⟩
      rcases Nat.lt_or_ge i j with hij | hij
      · exact h3 i hij
      · obtain rfl : i = j := by omega
        omega
theorem pw_pos (n : Nat) : (0 : Int) < ((2 ^ n : Nat) : Int) := Int.ofNat_lt.2 (Nat.two_pow_pos n)
theorem v_one {e : Int} {n : Nat} (h : e + 65536 = n) : (⟨false, e, [1]⟩ : X).v = ((2 ^ n : Nat) : Int) := by
  show (⟨false, nval B64 [1], e⟩ : Q).at 65536 = _
  rw [show nval B64 [1] = 1 by rfl, at_sg]
  show sg false (1 * 2 ^ (e + ((65536 : Nat) : Int)).toNat) = _
  rw [Nat.one_mul, show (e + ((65536 : Nat) : Int)).toNat = n by omega]; rfl
theorem top_scale {q : Q} (k : Int) (h : q.m ≠ 0) : topq (scale q k) = topq q + k := by rw [scale_eq k h]; show (nbits q.m : Int) + (q.e + k) = (nbits q.m : Int) + q.e + k; omega
theorem sca_size (hv : ∀ x ∈ v, GX x) (h : (scaS v).2 = 0) : (decide (cmpx (grN (scaS v).1 v.length) (⟨false, -1, [1]⟩ : X) < 0) = false) ∧ (decide (0 ≤ cmpx (grN (scaS v).1 v.length) (⟨false, 0, [1]⟩ : X)) = false) := by
  obtain ⟨g1, g2, g3, g4⟩ := gr_spec hv v.length (Nat.le_refl _)
  have hs := sca_gx h
  have hu := h
  cases he : signx (grN v v.length) == 0 with
  | true => unfold scaS at h; rw [he, cond_true] at h; cases h
  | false =>
    have e : scaS v = eachN (fun i => (qx (scalex (v.getD i zX) (kS v)).1, (scalex (v.getD i zX) (kS v)).2)) v.length := by unfold scaS; rw [he, cond_false]
    rw [e] at h
    have hg := eachN_get h
    rw [← e] at hg
    have hz : grN v v.length ≠ zX := fun e0 => by rw [e0] at he; cases he
    obtain ⟨j, hj, ej⟩ := g4.resolve_left hz
    have gj := gx_get hv hj
    have vj := ok_arg gj.1 gj.2
    have hm : (v.getD j zX).q.m ≠ 0 := fun h0 => hz (by rw [ej, absx_ok gj.1 gj.2, show (v.getD j zX).q.abs = q0 by unfold Q.abs; rw [if_pos h0], qx0])
    have eq : (grN v v.length).q = (v.getD j zX).q.abs := by rw [ej, absx_ok gj.1 gj.2, (qx_ok (abs_valid vj)).2.2]
    have et : topq (grN v v.length).q = topq (v.getD j zX).q := by
      rw [eq]; unfold topq Q.abs; rw [if_neg hm]
    have hk : kS v = -topq (v.getD j zX).q := by
      show IntKind.i64.wrap (0 - topq (grN v v.length).q) = _
      have b1 := top_val vj
      have b2 := vj.2.2.1
      have b3 := vj.2.2.2
      have b4 := nbits_pos hm
      rw [et, show IntKind.i64.wrap (0 - topq (v.getD j zX).q) = 0 - topq (v.getD j zX).q by rw [IntKind.wrap_i64]; unfold topq at b1 ⊢; omega]; omega
    have sc : ∀ i, i < v.length → (scaS v).1[i]? = some (qx (scale (v.getD i zX).q (kS v))) ∧ Valid (scale (v.getD i zX).q (kS v)) := fun i hi => by
      obtain ⟨f1, f2⟩ := hg i hi
      have gi := gx_get hv hi
      have vi := ok_arg gi.1 gi.2
      have e2 : scalex (v.getD i zX) (kS v) = res (scale (v.getD i zX).q (kS v)) := by
        have := scalex_qx vi (kS v)
        rwa [qx_q gi.1 gi.2] at this
      have f1 : (scalex (v.getD i zX) (kS v)).2 = 0 := f1
      have f2 : (scaS v).1[i]? = some (qx (scalex (v.getD i zX) (kS v)).1) := f2
      rw [e2] at f1 f2
      have hf : Fits (scale (v.getD i zX).q (kS v)) := by
        by_cases hf : Fits (scale (v.getD i zX).q (kS v))
        · exact hf
        · rw [res_over hf] at f1; cases f1
      rw [res_ok hf] at f2
      refine ⟨f2, ?_, hf⟩
      unfold scale
      split
      · exact canon0
      · rename_i h0; exact ⟨fun e => absurd e h0, vi.1.2⟩
    have hl : (scaS v).1.length = v.length := hs.1
    have scg : ∀ i, i < v.length → (scaS v).1.getD i zX = qx (scale (v.getD i zX).q (kS v)) := fun i hi => by
      rw [List.getD_eq_getElem?_getD, (sc i hi).1]; rfl
    obtain ⟨c1, c2, c3, c4⟩ := gr_spec hs.2 v.length (by omega)
    have low : ∀ {q : Q}, Valid q → -((65536 : Nat) : Int) ≤ q.e := fun hq => by have := hq.2.2.1; omega
    have H1 : ((2 ^ 65535 : Nat) : Int) ≤ (grN (scaS v).1 v.length).v := by
      have h5 := c3 j hj
      rw [scg j hj, (qx_ok (sc j hj).2).2.2] at h5
      have h6 := top_ge (E := 65536) (sc_nz (k := kS v) hm) (low (sc j hj).2)
      rw [top_scale _ hm, hk, show (topq (v.getD j zX).q + -topq (v.getD j zX).q + ((65536 : Nat) : Int) - 1).toNat = 65535 by omega] at h6
      rw [hk] at h5
      have h7 : ((2 ^ 65535 : Nat) : Int) ≤ (((scale (v.getD j zX).q (-topq (v.getD j zX).q)).at 65536).natAbs : Int) := Int.ofNat_le.2 h6
      exact Int.le_trans h7 h5
    have H2 : ∀ N : Nat, N = 65536 → (grN (scaS v).1 v.length).v < ((2 ^ N : Nat) : Int) := by
      intro N hN
      rcases c4 with h0 | ⟨i, hi, h0⟩
      · rw [h0, zX_v]; exact pw_pos N
      · rw [h0, scg i hi, (ab_v (gx_q (sc i hi).2)).2, (qx_ok (sc i hi).2).2.2]
        refine Int.ofNat_lt.2 ?_
        refine Nat.lt_of_lt_of_le (top_less (low (sc i hi).2)) (Nat.pow_le_pow_right (by omega) ?_)
        by_cases hi0 : (v.getD i zX).q.m = 0
        · rw [show scale (v.getD i zX).q (kS v) = q0 by unfold scale; rw [if_pos hi0]]
          show ((0 : Int) + 0 + ((65536 : Nat) : Int)).toNat ≤ N
          omega
        · rw [top_scale _ hi0, hk]
          have gi := gx_get hv hi
          have vi := ok_arg gi.1 gi.2
          have h5 := g3 i hi
          rw [ej, (ab_v gj).2] at h5
          have h6 := Nat.le_trans (top_ge (E := 65536) hi0 (low vi)) (Int.ofNat_le.1 h5)
          have h7 := top_of (low vj) h6
          have h8 := nbits_pos hi0
          have h9 := low vi
          unfold topq at h7 ⊢
          omega
    constructor
    · refine decide_eq_false fun hc => ?_
      rw [cmpx_v c1 rfl, v_one (n := 65535) (by omega)] at hc
      have : ¬ (grN (scaS v).1 v.length).v < ((2 ^ 65535 : Nat) : Int) := by intro h; exact absurd (Int.lt_of_lt_of_le h H1) (Int.lt_irrefl _)
      rw [if_neg this] at hc
      split at hc <;> omega
    · refine decide_eq_false fun hc => ?_
      rw [cmpx_v c1 rfl, v_one (n := 65536) (by omega), if_pos (H2 65536 rfl)] at hc
      omega
end
theorem sign_z' {a : Q} (ha : Few a) (h : a.m = 0) : (signx (qx a) == 0) = true := by rw [ha.1.1 h, qx0]; rfl
theorem two_o {f : Q → Q → Q} {x y : X} (hx : x.ok = true) (hy : y.ok = true) : two f x y = res (f x.q y.q) := by
  unfold two ans2
  unfold X.ok at hx hy
  rw [hx, hy]; rfl
theorem colN_each {z : Int} {t : List (List X)} {n : Nat} (ht : ∀ r ∈ t, r.length = n ∧ ∀ x ∈ r, GX x) : ∀ k, k ≤ t.length → (colN z t k).2 = 0 → (∀ j, j < k → ∃ w : List X, (∀ x ∈ w, GX x) ∧ w.length = n ∧ (scaS w).2 = 0 ∧ (colN z t k).1.getD j [] = (scaS w).1) ∧ (0 < k → (scaS (t.getD 0 [])).2 = 0 ∧ (colN z t k).1.getD 0 [] = (scaS (t.getD 0 [])).1) := by
  intro k
  induction k with
  | zero => intro _ _; exact ⟨fun j hj => by omega, fun h => by omega⟩
  | succ k ih =>
    intro hk h
    have e : colN z t (k + 1) = bif (colN z t k).2 != 0 then ([], (colN z t k).2) else
      bif (witN z (colN z t k).1 (t.getD k []) k).2 != 0 then ([], (witN z (colN z t k).1 (t.getD k []) k).2) else
      bif (scaS (witN z (colN z t k).1 (t.getD k []) k).1).2 != 0 then ([], (scaS (witN z (colN z t k).1 (t.getD k []) k).1).2) else
      ((colN z t k).1 ++ [(scaS (witN z (colN z t k).1 (t.getD k []) k).1).1], 0) := rfl
    have bad : ∀ q : Int, (q != 0) = true → ¬ (q = 0) := fun q hq e => by rw [e] at hq; cases hq
    cases h1 : (colN z t k).2 != 0 with
    | true => rw [e, h1, cond_true] at h; exact absurd h (bad _ h1)
    | false =>
      rw [h1, cond_false] at e
      have h10 : (colN z t k).2 = 0 := by simpa using h1
      obtain ⟨i1, i2⟩ := ih (by omega) h10
      obtain ⟨l1, l2⟩ := colN_gx ht k (by omega) h10
      cases h2 : (witN z (colN z t k).1 (t.getD k []) k).2 != 0 with
      | true => rw [e, h2, cond_true] at h; exact absurd h (bad _ h2)
      | false =>
        rw [h2, cond_false] at e
        cases h3 : (scaS (witN z (colN z t k).1 (t.getD k []) k).1).2 != 0 with
        | true => rw [e, h3, cond_true] at h; exact absurd h (bad _ h3)
        | false =>
          rw [h3, cond_false] at e
          rw [e]
          have h20 : (witN z (colN z t k).1 (t.getD k []) k).2 = 0 := by simpa using h2
          have h30 : (scaS (witN z (colN z t k).1 (t.getD k []) k).1).2 = 0 := by simpa using h3
          have j1 := witN_gx (ht _ (List.mem_of_getElem? (at_get [] (show k < t.length by omega)))) (fun r hr => (l2 r hr).1) k (by omega) h20
          have lt : ∀ j, j < k → ((colN z t k).1 ++ [(scaS (witN z (colN z t k).1 (t.getD k []) k).1).1]).getD j [] = (colN z t k).1.getD j [] := fun j hj => by
            rw [List.getD_eq_getElem?_getD, List.getElem?_append_left (by omega), ← List.getD_eq_getElem?_getD]
          have eq : ((colN z t k).1 ++ [(scaS (witN z (colN z t k).1 (t.getD k []) k).1).1]).getD k [] = (scaS (witN z (colN z t k).1 (t.getD k []) k).1).1 := by
            rw [List.getD_eq_getElem?_getD, List.getElem?_append_right (by omega), l1, Nat.sub_self]; rfl
          refine ⟨fun j hj => ?_, fun _ => ?_⟩
          · rcases Nat.lt_or_ge j k with h4 | h4
            · obtain ⟨w, w1, w2, w3, w4⟩ := i1 j h4
              exact ⟨w, w1, w2, w3, by rw [lt j h4]; exact w4⟩
            · obtain rfl : j = k := by omega
              exact ⟨_, j1.2, j1.1, h30, eq⟩
          · rcases Nat.eq_zero_or_pos k with h4 | h4
            · subst h4
              exact ⟨h30, eq⟩
            · obtain ⟨w1, w2⟩ := i2 h4
              exact ⟨w1, by rw [lt 0 h4]; exact w2⟩
theorem trn_get {m : List (List X)} {i : Nat} (h : i < m.length) : (trn m)[i]? = some (m.map fun r => r.getD i zX) := by
  unfold trn
  rw [List.getElem?_map, List.getElem?_range h]; rfl
theorem row_get {m : List (List X)} {i j : Nat} (h : j < m.length) : (m.map fun r => r.getD i zX)[j]? = some ((m.getD j []).getD i zX) := by
  rw [List.getElem?_map, at_get [] h]; rfl
theorem cols_bad {z : Int} {m : List (List X)} (h : ((colsS z m).2 != 0) = true) : (colsS z m).1 = [] := by
  unfold colsS at h ⊢
  cases h1 : rightQ m z with
  | false => rfl
  | true =>
    rw [h1, cond_true] at h
    rw [cond_true]
    cases h2 : (colN z (trn m) m.length).2 != 0 with
    | true => rfl
    | false => rw [h2] at h; cases h
theorem cols_each {z : Int} {m : List (List X)} {n : Nat} (hm : SqX n m) (h1 : 1 ≤ n) (hg : ∀ r ∈ m, ∀ x ∈ r, GX x) (h : ((colsS z m).2 != 0) = false) : ∃ C : List (List X), (colsS z m).1 = trn C ∧ C.length = n ∧
    (∀ j, j < n → ∃ w : List X, (∀ x ∈ w, GX x) ∧ w.length = n ∧ (scaS w).2 = 0 ∧ C.getD j [] = (scaS w).1) ∧ (scaS (m.map fun r => r.getD 0 zX)).2 = 0 ∧ C.getD 0 [] = (scaS (m.map fun r => r.getD 0 zX)).1 := by
  unfold colsS at h ⊢
  cases h2 : rightQ m z with
  | false => rw [h2] at h; cases h
  | true =>
    rw [h2, cond_true] at h
    rw [cond_true]
    cases h3 : (colN z (trn m) m.length).2 != 0 with
    | true => rw [h3, cond_true] at h; rw [h3] at h; cases h
    | false =>
      have h30 : (colN z (trn m) m.length).2 = 0 := by simpa using h3
      have ht : ∀ r ∈ trn m, r.length = n ∧ ∀ x ∈ r, GX x := fun r hr => ⟨by rw [trn_rows r hr]; exact hm.1, trn_gx hg r hr⟩
      obtain ⟨e1, e2⟩ := colN_each (z := z) ht m.length (by rw [trn_len]; exact Nat.le_refl _) h30
      obtain ⟨e3, e4⟩ := colN_gx (z := z) ht m.length (by rw [trn_len]; exact Nat.le_refl _) h30
      have e5 := e2 (by rw [hm.1]; exact h1)
      have e6 : (trn m).getD 0 [] = m.map fun r => r.getD 0 zX := by rw [List.getD_eq_getElem?_getD, trn_get (by rw [hm.1]; exact h1)]; rfl
      rw [e6] at e5
      exact ⟨_, rfl, by rw [e3, hm.1], fun j hj => e1 j (by rw [hm.1]; exact hj), e5⟩
theorem grf {v : List X} (hv : ∀ x ∈ v, ∃ q, Few q ∧ x = qx q) : ∀ j, ∃ g, Few g ∧ grN v j = qx g := by
  have z0 : ∃ g, Few g ∧ zX = qx g := ⟨q0, ⟨canon0, by decide, by decide, by decide⟩, qx0.symm⟩
  have at_ : ∀ i, ∃ q, Few q ∧ v.getD i zX = qx q := fun i => by
    rcases Nat.lt_or_ge i v.length with h | h
    · exact hv _ (List.mem_of_getElem? (at_get zX h))
    · rw [List.getD_eq_getElem?_getD, List.getElem?_eq_none h]; exact z0
  intro j
  induction j with
  | zero => exact z0
  | succ j ih =>
    show ∃ g, Few g ∧ (bif _ then _ else _) = qx g
    cases decide (0 < cmpx (qx (absx (v.getD j zX))) (grN v j)) with
    | false => exact ih
    | true =>
      obtain ⟨q, hq, e⟩ := at_ j
      exact ⟨q.abs, few_abs hq, by rw [cond_true, e, few_abx hq]⟩
theorem sca_first {v : List X} (hv : ∀ x ∈ v, ∃ q, Few q ∧ x = qx q) (h : (scaS v).2 = 0) : ∃ k : Int, (-20 ≤ k ∧ k ≤ 20) ∧ (scaS v).1.length = v.length ∧ ∀ i, i < v.length → ∃ q, Few q ∧ v.getD i zX = qx q ∧ (scaS v).1.getD i zX = qx (scale q k) := by
  obtain ⟨g, hg, eg⟩ := grf hv v.length
  unfold scaS at h ⊢
  cases he : signx (grN v v.length) == 0 with
  | true => rw [he, cond_true] at h; cases h
  | false =>
    rw [he, cond_false] at h
    rw [cond_false]
    have g0 : g.m ≠ 0 := fun h0 => by rw [eg, sign_z' hg h0] at he; cases he
    have ht := top_few hg g0
    have hk : kS v = -topq g := by
      show IntKind.i64.wrap (0 - topq (grN v v.length).q) = _
      rw [eg, (sx_q (few_sx hg)).2, show IntKind.i64.wrap (0 - topq g) = 0 - topq g by rw [IntKind.wrap_i64]; omega]; omega
    have hb : -20 ≤ kS v ∧ kS v ≤ 20 := by rw [hk]; omega
    refine ⟨kS v, hb, eachN_len h, fun i hi => ?_⟩
    obtain ⟨q, hq, e⟩ := hv _ (List.mem_of_getElem? (at_get zX hi))
    refine ⟨q, hq, e, ?_⟩
    rw [List.getD_eq_getElem?_getD, (eachN_get h i hi).2, e, sc_x hq hb]; rfl
theorem cross_sc {a b : Q} {k : Int} (ha : Few a) (hb : Few b) (hk : -20 ≤ k ∧ k ≤ 20) : ∃ p, two times (qx (scale a k)) (qx b) = (p, 0) ∧ two times (qx (scale b k)) (qx a) = (p, 0) := by
  have ca := sc_sx ha hk
  have cb := sc_sx hb hk
  have e : times (scale b k) a = times (scale a k) b := by
    by_cases h : a.m = 0 ∨ b.m = 0
    · have za : a.m = 0 → (scale a k).m = 0 := fun h => by unfold scale; rw [if_pos h]; rfl
      have zb : b.m = 0 → (scale b k).m = 0 := fun h => by unfold scale; rw [if_pos h]; rfl
      rw [times_zero cb.1 ha.1 (h.elim .inr fun h => .inl (zb h)), times_zero ca.1 hb.1 (h.elim (fun h => .inl (za h)) .inr)]
    · have h1 : a.m ≠ 0 := fun e => h (.inl e)
      have h2 : b.m ≠ 0 := fun e => h (.inr e)
      have c1 := ca.1
      have c2 := cb.1
      rw [scale_eq _ h1] at c1 ⊢
      rw [scale_eq _ h2] at c2 ⊢
      obtain ⟨s, m, x⟩ := a
      obtain ⟨s', m', x'⟩ := b
      rw [times_odd c2 ha.1 h2 h1, times_odd c1 hb.1 h1 h2, Nat.mul_comm m' m]
      have h3 : x' + k + x = x + k + x' := by omega
      simp only [h3]
      cases s <;> cases s' <;> rfl
  have v1 := tm_valid ca (few_sx hb)
  refine ⟨times (scale a k) b, ?_, ?_⟩
  · rw [two_o (sx_q ca).1 (sx_q (few_sx hb)).1, (sx_q ca).2, (sx_q (few_sx hb)).2]; exact res_ok v1.2
  · rw [two_o (sx_q cb).1 (sx_q (few_sx ha)).1, (sx_q cb).2, (sx_q (few_sx ha)).2, e]; exact res_ok v1.2
end Go.Proofs.YtpacpmmdjmnamaaDoor
