/- Plain arithmetic: a round of adding, of subtracting, of multiplying, on digits. No program stands in it. -/
import Derived.Test.YtimkifkikcohgaaDoorMathA
namespace Go.Proofs.YtimkifkikcohgaaDoor.Nx

/-- After k rounds of adding ys onto seg in place: cur, and the carry c. -/
def AddI (B n k c : Nat) (cur seg ys : List Nat) : Prop :=
  cur.length = n ∧ Small B cur ∧ cur.drop k = seg.drop k ∧ nval B (cur.take k) + B ^ k * c = nval B (seg.take k) + nval B (ys.take k)

theorem getD_of {xs : List Nat} {k u : Nat} (h : xs[k]? = some u) : xs.getD k 0 = u := by rw [List.getD_eq_getElem?_getD, h]; rfl
theorem getD_out {xs : List Nat} {k : Nat} (h : xs.length ≤ k) : xs.getD k 0 = 0 := by rw [List.getD_eq_getElem?_getD, List.getElem?_eq_none h]; rfl
theorem get_drop {xs ys : List Nat} {k u : Nat} (h : xs.drop k = ys.drop k) (hu : xs[k]? = some u) : ys[k]? = some u := by
  have h1 : (xs.drop k)[0]? = xs[k]? := by simp
  have h2 : (ys.drop k)[0]? = ys[k]? := by simp
  rw [← h2, ← h, h1, hu]
theorem drop_set_succ (xs : List Nat) (k v : Nat) : (xs.set k v).drop (k + 1) = xs.drop (k + 1) := by simp [List.drop_set]
theorem take_set_same (xs : List Nat) (k v : Nat) : (xs.set k v).take k = xs.take k := by
  rw [List.take_set]
  exact List.set_eq_of_length_le (by simp; omega)
theorem getD_set (xs : List Nat) (k v : Nat) (h : k < xs.length) : (xs.set k v).getD k 0 = v := by
  rw [List.getD_eq_getElem?_getD, List.getElem?_set_self h]; rfl
theorem drop_succ_of {xs ys : List Nat} {k : Nat} (h : xs.drop k = ys.drop k) : xs.drop (k + 1) = ys.drop (k + 1) := by
  have := congrArg (List.drop 1) h
  simpa [List.drop_drop, Nat.add_comm] using this
theorem lt_of_get {xs : List Nat} {k u : Nat} (h : xs[k]? = some u) : k < xs.length := by
  rcases Nat.lt_or_ge k xs.length with a | a
  · exact a
  · rw [List.getElem?_eq_none a] at h; cases h

theorem AddI.start {B n : Nat} {seg ys : List Nat} (hn : seg.length = n) (hs : Small B seg) : AddI B n 0 0 seg seg ys := ⟨hn, hs, rfl, by simp [nval]⟩
theorem AddI.step {B n k c x y : Nat} {cur seg ys : List Nat} (hB : 2 ≤ B) (h : AddI B n k c cur seg ys) (hx : cur[k]? = some x) (hy : ys.getD k 0 = y) :
    AddI B n (k + 1) ((x + y + c) / B) (cur.set k ((x + y + c) % B)) seg ys := by
  obtain ⟨h1, h2, h3, h4⟩ := h
  have hk := lt_of_get hx
  refine ⟨by simpa using h1, h2.set k (Nat.mod_lt _ (by omega)), by rw [drop_set_succ]; exact drop_succ_of h3, ?_⟩
  rw [nval_take_succ, nval_take_succ, nval_take_succ, take_set_same, getD_set _ _ _ hk, getD_of (get_drop h3 hx), hy, Nat.pow_succ]
  have hm := Nat.mod_add_div (x + y + c) B
  generalize (x + y + c) % B = v at *
  generalize (x + y + c) / B = d at *
  generalize nval B (cur.take k) = a at *
  generalize nval B (seg.take k) = b at *
  generalize nval B (ys.take k) = e at *
  generalize B ^ k = P at *
  have : P * v + P * B * d = P * x + P * y + P * c := by
    rw [← Nat.mul_add, ← Nat.mul_add, ← hm]; grind
  omega
theorem AddI.carry {B n k c x y : Nat} {cur seg ys : List Nat} (h : AddI B n k c cur seg ys) (hx : cur[k]? = some x) (hy : y < B) (hc : c ≤ 1) : (x + y + c) / B ≤ 1 := by
  have := h.2.1.get hx
  have h2 : (x + y + c) / B < 2 := by rw [Nat.div_lt_iff_lt_mul (by omega)]; omega
  omega
theorem AddI.done {B n c : Nat} {cur seg ys : List Nat} (h : AddI B n n c cur seg ys) (hn : seg.length = n) (hm : ys.length ≤ n) : nval B cur + B ^ n * c = nval B seg + nval B ys := by
  obtain ⟨h1, _, _, h4⟩ := h
  rwa [List.take_of_length_le (by omega), List.take_of_length_le (by omega), List.take_of_length_le hm] at h4
theorem AddI.early {B n k : Nat} {cur seg ys : List Nat} (h : AddI B n k 0 cur seg ys) (hn : seg.length = n) (hk : k ≤ n) (hm : ys.length ≤ k) : nval B cur = nval B seg + nval B ys := by
  obtain ⟨h1, _, h3, h4⟩ := h
  rw [nval_split B cur k (by omega), nval_split B seg k (by omega), h3]
  rw [List.take_of_length_le hm] at h4
  omega

/-- After k rounds of taking ys from seg in place: cur, and the borrow c. -/
def SubI (B n k c : Nat) (cur seg ys : List Nat) : Prop :=
  cur.length = n ∧ Small B cur ∧ cur.drop k = seg.drop k ∧ nval B (cur.take k) + nval B (ys.take k) = nval B (seg.take k) + B ^ k * c

theorem SubI.start {B n : Nat} {seg ys : List Nat} (hn : seg.length = n) (hs : Small B seg) : SubI B n 0 0 seg seg ys := ⟨hn, hs, rfl, by simp [nval]⟩
theorem SubI.step {B n k c x y v d : Nat} {cur seg ys : List Nat} (h : SubI B n k c cur seg ys) (hx : cur[k]? = some x) (hy : ys.getD k 0 = y) (hv : v < B) (he : v + y + c = x + B * d) :
    SubI B n (k + 1) d (cur.set k v) seg ys := by
  obtain ⟨h1, h2, h3, h4⟩ := h
  have hk := lt_of_get hx
  refine ⟨by simpa using h1, h2.set k hv, by rw [drop_set_succ]; exact drop_succ_of h3, ?_⟩
  rw [nval_take_succ, nval_take_succ, nval_take_succ, take_set_same, getD_set _ _ _ hk, getD_of (get_drop h3 hx), hy, Nat.pow_succ]
  generalize nval B (cur.take k) = a at *
  generalize nval B (seg.take k) = b at *
  generalize nval B (ys.take k) = e at *
  generalize B ^ k = P at *
  have : P * v + P * y + P * c = P * x + P * B * d := by
    rw [← Nat.mul_add, ← Nat.mul_add, he]; grind
  omega
/-- What Sub64 answers. -/
theorem sub_word {B x y c : Nat} (hx : x < B) (hy : y < B) (hc : c ≤ 1) :
    (x + B - y - c) % B + y + c = x + B * (if x < y + c then 1 else 0) ∧ (x + B - y - c) % B < B := by
  refine ⟨?_, Nat.mod_lt _ (by omega)⟩
  split
  · rename_i h
    rw [Nat.mod_eq_of_lt (by omega)]; omega
  · rename_i h
    have : x + B - y - c = (x - y - c) + B := by omega
    rw [this, Nat.add_mod_right, Nat.mod_eq_of_lt (by omega)]; omega
theorem SubI.done {B n c : Nat} {cur seg ys : List Nat} (h : SubI B n n c cur seg ys) (hn : seg.length = n) (hm : ys.length ≤ n) : nval B cur + nval B ys = nval B seg + B ^ n * c := by
  obtain ⟨h1, _, _, h4⟩ := h
  rwa [List.take_of_length_le (l := cur) (by omega), List.take_of_length_le (l := seg) (by omega), List.take_of_length_le hm] at h4
theorem SubI.early {B n k : Nat} {cur seg ys : List Nat} (h : SubI B n k 0 cur seg ys) (hn : seg.length = n) (hk : k ≤ n) (hm : ys.length ≤ k) : nval B cur + nval B ys = nval B seg := by
  obtain ⟨h1, _, h3, h4⟩ := h
  rw [nval_split B cur k (by omega), nval_split B seg k (by omega), h3]
  rw [List.take_of_length_le hm] at h4
  omega

/-- After k rounds of adding ys times f onto seg in place: cur, and the carry c. -/
def MulI (B n k c f : Nat) (cur seg ys : List Nat) : Prop :=
  cur.length = n ∧ Small B cur ∧ cur.drop k = seg.drop k ∧ nval B (cur.take k) + B ^ k * c = nval B (seg.take k) + f * nval B (ys.take k)
theorem MulI.start {B n f : Nat} {seg ys : List Nat} (hn : seg.length = n) (hs : Small B seg) : MulI B n 0 0 f seg seg ys := ⟨hn, hs, rfl, by simp [nval]⟩
theorem MulI.step {B n k c f x y : Nat} {cur seg ys : List Nat} (hB : 2 ≤ B) (h : MulI B n k c f cur seg ys) (hx : cur[k]? = some x) (hy : ys.getD k 0 = y) :
    MulI B n (k + 1) ((x + y * f + c) / B) f (cur.set k ((x + y * f + c) % B)) seg ys := by
  obtain ⟨h1, h2, h3, h4⟩ := h
  have hk := lt_of_get hx
  refine ⟨by simpa using h1, h2.set k (Nat.mod_lt _ (by omega)), by rw [drop_set_succ]; exact drop_succ_of h3, ?_⟩
  rw [nval_take_succ, nval_take_succ, nval_take_succ, take_set_same, getD_set _ _ _ hk, getD_of (get_drop h3 hx), hy, Nat.pow_succ]
  have hm := Nat.mod_add_div (x + y * f + c) B
  generalize (x + y * f + c) % B = v at *
  generalize (x + y * f + c) / B = d at *
  generalize nval B (cur.take k) = a at *
  generalize nval B (seg.take k) = b at *
  generalize nval B (ys.take k) = e at *
  generalize B ^ k = P at *
  have h5 : P * v + P * B * d = P * x + P * (y * f) + P * c := by
    rw [← Nat.mul_add, ← Nat.mul_add, ← hm]; grind
  have h6 : f * (e + P * y) = f * e + P * (y * f) := by grind
  omega
theorem mul_carry {B x y f c : Nat} (hx : x < B) (hy : y < B) (hf : f < B) (hc : c < B) : (x + y * f + c) / B < B := by
  rw [Nat.div_lt_iff_lt_mul (by omega)]
  have h1 : y * f ≤ (B - 1) * (B - 1) := Nat.mul_le_mul (by omega) (by omega)
  obtain ⟨b, rfl⟩ : ∃ b, B = b + 1 := ⟨B - 1, by omega⟩
  rw [Nat.add_sub_cancel] at h1
  have : (b + 1) * (b + 1) = b * b + b + b + 1 := by grind
  omega
theorem MulI.done {B n m c f : Nat} {cur seg ys : List Nat} (h : MulI B n m c f cur seg ys) (hm : ys.length = m) : nval B (cur.take m) + B ^ m * c = nval B (seg.take m) + f * nval B ys := by
  obtain ⟨h1, _, _, h4⟩ := h
  rwa [List.take_of_length_le (l := ys) (by omega)] at h4
end Go.Proofs.YtimkifkikcohgaaDoor.Nx
