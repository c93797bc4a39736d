/- Plain arithmetic: long division in words. No program stands in it. -/
import Derived.Test.YtnkbamjjpdmbaaaDoorNatA
namespace Go.Proofs.YtnkbamjjpdmbaaaDoor.Nx

/-- The guess by the highest words is not too small. -/
theorem guess_ge {B n t pn pm : Nat} {ps ds : List Nat} (hB : 2 ≤ B) (hps : Small B ps) (hn : 0 < n) (hl : ds.length = n) (hpl : ps.length = n + 1) (ht : ds[n - 1]? = some t) (h1 : ps[n]? = some pn) (h2 : ps[n - 1]? = some pm) (ht0 : t ≠ 0) :
    nval B ps / nval B ds ≤ (pn * B + pm) / t := by
  obtain ⟨j, rfl⟩ : ∃ j, n = j + 1 := ⟨n - 1, by omega⟩
  rw [Nat.add_sub_cancel] at ht h2
  have hD : nval B ds = nval B (ds.take j) + B ^ j * t := by
    have := nval_take_succ B ds j
    rw [List.take_of_length_le (by omega), getD_of ht] at this; exact this
  have hP : nval B ps = nval B (ps.take j) + B ^ j * (pn * B + pm) := by
    have e1 := nval_take_succ B ps (j + 1)
    have e2 := nval_take_succ B ps j
    rw [List.take_of_length_le (by omega), getD_of h1, e2, getD_of h2, Nat.pow_succ] at e1
    rw [e1]; grind
  have hlow := nval_lt (hps.take j)
  rw [List.length_take, Nat.min_eq_left (by omega)] at hlow
  have hBj : 0 < B ^ j := Nat.pow_pos (by omega)
  rw [Nat.le_div_iff_mul_le (by omega)]
  have hq : nval B ps / nval B ds * nval B ds ≤ nval B ps := Nat.div_mul_le_self _ _
  generalize nval B ps / nval B ds = q at *
  rw [hD, hP, Nat.mul_add] at hq
  have h3 : B ^ j * (q * t) < B ^ j * (pn * B + pm + 1) := by
    rw [Nat.mul_add (B ^ j), Nat.mul_one]
    have : q * (B ^ j * t) = B ^ j * (q * t) := by grind
    rw [this] at hq
    generalize q * nval B (ds.take j) = z at *
    omega
  have := Nat.lt_of_mul_lt_mul_left h3
  omega

/-- After k rounds of taking ys times f from seg in place: cur, the carry c of the product, the borrow b. -/
def RedI (B n k c b f : Nat) (cur seg ys : List Nat) : Prop :=
  cur.length = n ∧ Small B cur ∧ cur.drop k = seg.drop k ∧ nval B (cur.take k) + f * nval B (ys.take k) = nval B (seg.take k) + B ^ k * (c + b)
theorem RedI.start {B n f : Nat} {seg ys : List Nat} (hn : seg.length = n) (hs : Small B seg) : RedI B n 0 0 0 f seg seg ys := ⟨hn, hs, rfl, by simp [nval]⟩
theorem RedI.step {B n k c b f x y v l c' b' : Nat} {cur seg ys : List Nat} (h : RedI B n k c b f cur seg ys) (hx : cur[k]? = some x) (hy : ys.getD k 0 = y) (hv : v < B) (he : v + l + b = x + B * b') (hm : l + B * c' = y * f + c) :
    RedI B n (k + 1) c' b' f (cur.set k v) seg ys := by
  obtain ⟨h1, h2, h3, h4⟩ := h
  have hk := lt_of_get hx
  refine ⟨by simpa using h1, h2.set k hv, by rw [drop_set_succ]; exact drop_succ_of h3, ?_⟩
  rw [nval_take_succ, nval_take_succ, nval_take_succ, take_set_same, getD_set _ _ _ hk, getD_of (get_drop h3 hx), hy, Nat.pow_succ]
  generalize nval B (cur.take k) = a at *
  generalize nval B (seg.take k) = s at *
  generalize nval B (ys.take k) = e at *
  generalize B ^ k = P at *
  have e1 : P * (v + l + b) = P * (x + B * b') := by rw [he]
  have e2 : P * (l + B * c') = P * (y * f + c) := by rw [hm]
  have e3 : f * (e + P * y) = f * e + P * (y * f) := by grind
  rw [e3]
  have e4 : P * B * (c' + b') = P * (B * c') + P * (B * b') := by grind
  rw [e4]
  simp only [Nat.mul_add] at e1 e2 h4 ⊢
  omega
theorem RedI.done {B m c b f x v b' : Nat} {cur seg ys : List Nat} (h : RedI B (m + 1) m c b f cur seg ys) (hn : seg.length = m + 1) (hm : ys.length = m) (hx : cur[m]? = some x) (he : v + c + b = x + B * b') :
    nval B (cur.set m v) + f * nval B ys = nval B seg + B ^ (m + 1) * b' := by
  obtain ⟨h1, h2, h3, h4⟩ := h
  have hk := lt_of_get hx
  rw [List.take_of_length_le (l := ys) (by omega)] at h4
  have e1 : nval B (cur.set m v) = nval B (cur.take m) + B ^ m * v := by
    have := nval_take_succ B (cur.set m v) m
    rw [List.take_of_length_le (by simp; omega), take_set_same, getD_set _ _ _ hk] at this; exact this
  have e2 : nval B seg = nval B (seg.take m) + B ^ m * x := by
    have := nval_take_succ B seg m
    rw [List.take_of_length_le (by omega), getD_of (get_drop h3 hx)] at this; exact this
  rw [e1, e2, Nat.pow_succ]
  have e3 : B ^ m * (v + c + b) = B ^ m * (x + B * b') := by rw [he]
  have e4 : B ^ m * B * b' = B ^ m * (B * b') := by grind
  rw [e4]
  simp only [Nat.mul_add] at e3 h4 ⊢
  omega

/-- A word that may be too great: what is left, and the borrow. -/
def QuoI (P D M wd bo V : Nat) : Prop := V + wd * D = P + M * bo ∧ bo ≤ 1 ∧ P / D ≤ wd ∧ V < M
theorem QuoI.done {P D M wd V : Nat} (hD : 0 < D) (h : QuoI P D M wd 0 V) : wd = P / D ∧ V = P % D := by
  obtain ⟨h1, _, h3, _⟩ := h
  have h4 : wd ≤ P / D := by rw [Nat.le_div_iff_mul_le hD]; omega
  have h5 : wd = P / D := by omega
  refine ⟨h5, ?_⟩
  have := Nat.div_add_mod' P D
  rw [← h5] at this; omega
theorem QuoI.high {P D M wd V : Nat} (hD : 0 < D) (h : QuoI P D M wd 1 V) : P / D + 1 ≤ wd := by
  obtain ⟨h1, _, _, h4⟩ := h
  have : P / D < wd := by rw [Nat.div_lt_iff_lt_mul hD]; omega
  omega
theorem QuoI.next {P D M wd V V' cy : Nat} (hD : 0 < D) (h : QuoI P D M wd 1 V) (hV : V' + M * cy = V + D) (hcy : cy ≤ 1) (hlt : V' < M) : QuoI P D M (wd - 1) (1 - cy) V' := by
  have hh := h.high hD
  obtain ⟨h1, _, _, _⟩ := h
  have hw : 0 < wd := Nat.lt_of_lt_of_le (Nat.succ_pos _) hh
  refine ⟨?_, by omega, Nat.le_sub_of_add_le hh, hlt⟩
  obtain ⟨u, rfl⟩ : ∃ u, wd = u + 1 := ⟨wd - 1, by omega⟩
  rw [Nat.add_mul, Nat.one_mul] at h1
  rw [Nat.add_sub_cancel]
  rcases (show cy = 0 ∨ cy = 1 by omega) with e | e <;> subst e <;> simp at * <;> omega
end Go.Proofs.YtnkbamjjpdmbaaaDoor.Nx
