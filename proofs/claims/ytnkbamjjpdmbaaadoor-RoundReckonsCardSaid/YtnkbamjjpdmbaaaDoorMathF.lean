/- Plain arithmetic: long division in words, the outer loop. No program stands in it. -/
import Derived.Test.YtnkbamjjpdmbaaaDoorMathE
import Derived.Test.YtnkbamjjpdmbaaaDoorNatA
namespace Go.Proofs.YtnkbamjjpdmbaaaDoor.Nx

/-- After k words of the quotient, the highest first: R is left of X, Q holds the words so far. -/
def DivJ (B n m k X D : Nat) (R Q : List Nat) : Prop :=
  R.length = n + 1 ∧ Q.length = n - m + 1 ∧ Small B R ∧ Small B Q ∧ nval B R + D * (B ^ (n - m + 1 - k) * nval B (Q.drop (n - m + 1 - k))) = X ∧ nval B (R.drop (n - m + 1 - k)) < D

theorem nval_drop {B : Nat} {xs : List Nat} (h : Small B xs) (k : Nat) (hk : k ≤ xs.length) : nval B (xs.drop k) = nval B xs / B ^ k := by
  have h1 := nval_split B xs k hk
  have h2 := nval_lt (h.take k)
  rw [List.length_take, Nat.min_eq_left hk] at h2
  rw [h1, Nat.add_mul_div_left _ _ (by omega), Nat.div_eq_of_lt h2, Nat.zero_add]

theorem DivJ.start {B n m X Y D g : Nat} {R : List Nat} (hB : 2 ≤ B) (hmn : m ≤ n) (hm : 0 < m) (hX : X < B ^ n) (hY : B ^ (m - 1) ≤ Y) (hD : D = Y * 2 ^ g) (hR : R.length = n + 1) (hRs : Small B R) (hRv : nval B R = X * 2 ^ g) :
    DivJ B n m 0 (X * 2 ^ g) D R (List.replicate (n - m + 1) 0) := by
  refine ⟨hR, by simp, hRs, small_replicate (by omega), ?_, ?_⟩
  · rw [List.drop_of_length_le (by simp)]; simp [nval, hRv]
  · rw [nval_drop hRs _ (by omega), hRv, hD, Nat.sub_zero]
    rw [Nat.div_lt_iff_lt_mul (Nat.pow_pos (by omega))]
    have h1 : B ^ (m - 1) * B ^ (n - m + 1) = B ^ n := by rw [← Nat.pow_add]; congr 1; omega
    have h2 : B ^ (m - 1) * B ^ (n - m + 1) ≤ Y * B ^ (n - m + 1) := Nat.mul_le_mul_right _ hY
    have h3 : X < Y * B ^ (n - m + 1) := by omega
    have h4 : X * 2 ^ g < Y * B ^ (n - m + 1) * 2 ^ g := Nat.mul_lt_mul_of_pos_right h3 (Nat.two_pow_pos g)
    rw [Nat.mul_right_comm] at h4
    exact h4

theorem DivJ.parts {B n m k j X D : Nat} {R Q : List Nat} (hB : 2 ≤ B) (h : DivJ B n m k X D R Q) (hk : k < n - m + 1) (hj : j = n - m - k) (hmn : m ≤ n) (hDm : D < B ^ m) :
    ∃ pre seg post : List Nat, R = pre ++ seg ++ post ∧ pre.length = j ∧ seg.length = m + 1 ∧ Small B seg ∧ nval B seg < B * D ∧
      ∀ out : List Nat, out.length = m + 1 → Small B out → nval B out = nval B seg % D → nval B seg / D < B → DivJ B n m (k + 1) X D (pre ++ out ++ post) (Q.set j (nval B seg / D)) := by
  obtain ⟨h1, h2, h3, h4, h5, h6⟩ := h
  have e1 : n - m + 1 - k = j + 1 := by omega
  have e2 : n - m + 1 - (k + 1) = j := by omega
  rw [e1] at h5 h6
  have hD0 : 0 < D := by omega
  have hpost : nval B (R.drop (j + m + 1)) = 0 := by
    have a1 := nval_drop (h3.drop (j + 1)) m (by simp; omega)
    rw [List.drop_drop, show j + 1 + m = j + m + 1 by omega] at a1
    rw [a1]; exact Nat.div_eq_of_lt (by omega)
  have hsp := nval_split B (R.drop j) (m + 1) (by simp; omega)
  rw [List.drop_drop, show j + (m + 1) = j + m + 1 by omega, hpost, Nat.mul_zero, Nat.add_zero] at hsp
  have hseg : nval B (R.drop j) < B * D := by
    have a2 : R.drop j = R.getD j 0 :: R.drop (j + 1) := by
      rw [List.drop_eq_getElem_cons (by omega)]; simp [List.getD_eq_getElem?_getD, List.getElem?_eq_getElem (show j < R.length by omega)]
    rw [a2, nval]
    have a3 := getD_lt h3 (by omega) j
    have a4 : B * (nval B (R.drop (j + 1)) + 1) ≤ B * D := Nat.mul_le_mul_left _ h6
    rw [Nat.mul_add] at a4; omega
  refine ⟨R.take j, (R.drop j).take (m + 1), R.drop (j + m + 1), ?_, by simp; omega, by simp; omega, (h3.drop j).take _, by rw [← hsp]; exact hseg, ?_⟩
  · rw [List.append_assoc, show R.drop (j + m + 1) = (R.drop j).drop (m + 1) by rw [List.drop_drop, Nat.add_assoc], List.take_append_drop, List.take_append_drop]
  · intro out g1 g2 g3 g4
    have hdm := Nat.div_add_mod' (nval B ((R.drop j).take (m + 1))) D
    rw [← g3] at hdm
    have hlt : nval B out < D := by rw [g3]; exact Nat.mod_lt _ hD0
    have hRj := nval_split B R j (by omega)
    rw [hsp] at hRj
    have l1 : (R.take j).length = j := by simp; omega
    generalize nval B ((R.drop j).take (m + 1)) / D = q at *
    have hQ : (Q.set j q).drop j = q :: Q.drop (j + 1) := by
      rw [List.drop_eq_getElem_cons (by simp; omega)]; simp [List.drop_set]
    have hR' : nval B (R.take j ++ out ++ R.drop (j + m + 1)) = nval B (R.take j) + B ^ j * nval B out := by
      rw [List.append_assoc, nval_append, nval_append, hpost, l1, Nat.mul_zero, Nat.add_zero]
    have hRd : (R.take j ++ out ++ R.drop (j + m + 1)).drop j = out ++ R.drop (j + m + 1) := by
      rw [List.append_assoc, List.drop_append, l1, Nat.sub_self, List.drop_zero, List.drop_of_length_le (by omega), List.nil_append]
    refine ⟨by simp; omega, by simpa using h2, ((h3.take j).append g2).append (h3.drop _), h4.set j g4, ?_, ?_⟩
    · rw [e2, hQ, hR', nval, ← h5, hRj, ← hdm, Nat.pow_succ]
      generalize nval B (R.take j) = a at *
      generalize nval B (Q.drop (j + 1)) = b at *
      generalize nval B out = o at *
      generalize B ^ j = P at *
      clear h5 hRj hdm hR' hseg hsp g3 h6 hlt
      grind
    · rw [e2, hRd, nval_append, hpost, Nat.mul_zero, Nat.add_zero]; exact hlt

theorem DivJ.done {B n m X Y D g : Nat} {R Q : List Nat} (h : DivJ B n m (n - m + 1) (X * 2 ^ g) D R Q) (hD : D = Y * 2 ^ g) (hY : 0 < Y) :
    nval B Q = X / Y ∧ nval B R = X % Y * 2 ^ g := by
  obtain ⟨_, _, _, _, h5, h6⟩ := h
  rw [Nat.sub_self] at h5 h6
  rw [List.drop_zero, Nat.pow_zero, Nat.one_mul] at h5
  rw [List.drop_zero] at h6
  have hD0 : 0 < D := by rw [hD]; exact Nat.mul_pos hY (Nat.two_pow_pos g)
  have q1 : X * 2 ^ g / D = nval B Q := by rw [← h5, Nat.add_mul_div_left _ _ hD0, Nat.div_eq_of_lt h6, Nat.zero_add]
  have q2 : X * 2 ^ g % D = nval B R := by rw [← h5, Nat.add_mul_mod_self_left, Nat.mod_eq_of_lt h6]
  constructor
  · rw [← q1, hD, Nat.mul_div_mul_right _ _ (Nat.two_pow_pos g)]
  · rw [← q2, hD, Nat.mul_mod_mul_right]

/-- The divisor, shifted up until its highest bit is set, has as many words. -/
theorem len_shifted {B N m t : Nat} (hB : 2 ≤ B) (hBp : ∀ k, B ^ k = 2 ^ (64 * k)) (hm : (digs B N).length = m) (h0 : 0 < m) (ht : (digs B N)[m - 1]? = some t) : (digs B (N * 2 ^ (64 - nbits t))).length = m ∧ N * 2 ^ (64 - nbits t) < B ^ m ∧ t ≠ 0 := by
  have ht0 : t ≠ 0 := digs_last hB N t (by rw [List.getLast?_eq_getElem?, hm]; exact ht)
  have htB := (small_digs hB N).get ht
  have hb64 : nbits t ≤ 64 := nbits_le (by have := hBp 1; rw [Nat.pow_one, Nat.mul_one] at this; omega)
  have hs := nval_split B (digs B N) (m - 1) (by omega)
  have hd : (digs B N).drop (m - 1) = [t] := by
    rw [List.drop_eq_getElem_cons (by omega), show m - 1 + 1 = m by omega, List.drop_of_length_le (by omega)]
    rw [List.getElem?_eq_getElem (by omega)] at ht; injection ht with ht; rw [ht]
  have hl := nval_lt ((small_digs hB N).take (m - 1))
  rw [List.length_take, Nat.min_eq_left (by omega)] at hl
  rw [nval_digs hB, hd] at hs
  simp only [nval, Nat.mul_zero, Nat.add_zero] at hs
  have hlt := nbits_lt t
  have hN : N < B ^ (m - 1) * 2 ^ nbits t := by
    have : B ^ (m - 1) * (t + 1) ≤ B ^ (m - 1) * 2 ^ nbits t := Nat.mul_le_mul_left _ hlt
    rw [Nat.mul_add] at this; omega
  have hup : N * 2 ^ (64 - nbits t) < B ^ m := by
    have h1 : N * 2 ^ (64 - nbits t) < B ^ (m - 1) * 2 ^ nbits t * 2 ^ (64 - nbits t) := Nat.mul_lt_mul_of_pos_right hN (Nat.two_pow_pos _)
    rw [Nat.mul_assoc, ← Nat.pow_add, show nbits t + (64 - nbits t) = 64 * 1 by omega, ← hBp 1, ← Nat.pow_add, show m - 1 + 1 = m by omega] at h1
    exact h1
  refine ⟨?_, hup, ht0⟩
  have h1 := digs_len_le hB hup
  have hN0 : N ≠ 0 := by rintro rfl; rw [digs_zero] at hm; simp at hm; omega
  have h2 := digs_len_ge hB hN0
  rw [hm] at h2
  rcases Nat.lt_or_ge (digs B (N * 2 ^ (64 - nbits t))).length m with h3 | h3
  · have h4 := nval_lt (small_digs hB (N * 2 ^ (64 - nbits t)))
    rw [nval_digs hB] at h4
    have h5 : B ^ (digs B (N * 2 ^ (64 - nbits t))).length ≤ B ^ (m - 1) := Nat.pow_le_pow_right (by omega) (by omega)
    have h6 : N * 1 ≤ N * 2 ^ (64 - nbits t) := Nat.mul_le_mul_left _ (Nat.two_pow_pos _)
    omega
  · omega
end Go.Proofs.YtnkbamjjpdmbaaaDoor.Nx
