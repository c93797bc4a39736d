/- Plain arithmetic: numbers by their digits of a base, the lowest first. No program stands in it. -/
import Derived.Lib.Hide
namespace Go.Proofs.YtimkifkikcohgaaDoor.Nx

/-- The number that digits of base B tell, the lowest first. -/
def nval (B : Nat) : List Nat → Nat
  | [] => 0
  | x :: xs => x + B * nval B xs

/-- The digits of a number, the lowest first, none above the last that is not 0. -/
def digs (B : Nat) (n : Nat) : List Nat :=
  if _h : n = 0 ∨ B < 2 then [] else n % B :: digs B (n / B)
  termination_by n
  decreasing_by exact Nat.div_lt_self (by omega) (by omega)

theorem digs_zero (B : Nat) : digs B 0 = [] := by unfold digs; simp
theorem digs_pos {B n : Nat} (hB : 2 ≤ B) (hn : n ≠ 0) : digs B n = n % B :: digs B (n / B) := by
  rw [digs]; rw [dif_neg (by omega)]

def Small (B : Nat) (xs : List Nat) : Prop := ∀ x ∈ xs, x < B

theorem Small.nil {B : Nat} : Small B [] := fun _ h => by simp at h
theorem Small.cons {B x : Nat} {xs : List Nat} (hx : x < B) (h : Small B xs) : Small B (x :: xs) := by
  intro y hy; rcases List.mem_cons.1 hy with rfl | h2
  · exact hx
  · exact h y h2
theorem Small.head {B x : Nat} {xs : List Nat} (h : Small B (x :: xs)) : x < B := h x (by simp)
theorem Small.tail {B x : Nat} {xs : List Nat} (h : Small B (x :: xs)) : Small B xs := fun y hy => h y (by simp [hy])
theorem Small.append {B : Nat} {xs ys : List Nat} (h : Small B xs) (h' : Small B ys) : Small B (xs ++ ys) := by
  intro x hx; rcases List.mem_append.1 hx with a | a
  · exact h x a
  · exact h' x a
theorem Small.take {B : Nat} {xs : List Nat} (h : Small B xs) (k : Nat) : Small B (xs.take k) := fun x hx => h x (List.mem_of_mem_take hx)
theorem Small.drop {B : Nat} {xs : List Nat} (h : Small B xs) (k : Nat) : Small B (xs.drop k) := fun x hx => h x (List.mem_of_mem_drop hx)
theorem Small.get {B : Nat} {xs : List Nat} (h : Small B xs) {k u : Nat} (hu : xs[k]? = some u) : u < B := h u (List.mem_of_getElem? hu)

theorem nval_digs {B : Nat} (hB : 2 ≤ B) (n : Nat) : nval B (digs B n) = n := by
  induction n using Nat.strongRecOn with
  | ind n ih =>
    by_cases hn : n = 0
    · subst hn; rw [digs_zero]; rfl
    · rw [digs_pos hB hn, nval, ih (n / B) (Nat.div_lt_self (by omega) (by omega))]
      exact Nat.mod_add_div n B

theorem small_digs {B : Nat} (hB : 2 ≤ B) (n : Nat) : Small B (digs B n) := by
  induction n using Nat.strongRecOn with
  | ind n ih =>
    by_cases hn : n = 0
    · subst hn; rw [digs_zero]; exact Small.nil
    · rw [digs_pos hB hn]
      exact Small.cons (Nat.mod_lt _ (by omega)) (ih _ (Nat.div_lt_self (by omega) (by omega)))

theorem nval_append (B : Nat) (xs ys : List Nat) : nval B (xs ++ ys) = nval B xs + B ^ xs.length * nval B ys := by
  induction xs with
  | nil => simp [nval]
  | cons x xs ih => simp only [List.cons_append, nval, ih, List.length_cons, Nat.pow_succ]; grind

theorem nval_zeros (B k : Nat) : nval B (List.replicate k 0) = 0 := by
  induction k with
  | zero => rfl
  | succ k ih => simp [List.replicate_succ, nval, ih]

theorem nval_lt {B : Nat} {xs : List Nat} (h : Small B xs) : nval B xs < B ^ xs.length := by
  induction xs with
  | nil => simp [nval]
  | cons x xs ih =>
    have h1 := ih h.tail
    have h2 := h.head
    simp only [nval, List.length_cons, Nat.pow_succ]
    have : B * (nval B xs + 1) ≤ B * B ^ xs.length := Nat.mul_le_mul_left B h1
    rw [Nat.mul_add] at this
    rw [Nat.mul_comm (B ^ xs.length) B]
    omega

/-- The canonical digits are unique. -/
theorem digs_nval {B : Nat} (hB : 2 ≤ B) {xs : List Nat} (h : Small B xs) (hl : ∀ u, xs.getLast? = some u → u ≠ 0) : digs B (nval B xs) = xs := by
  induction xs with
  | nil => simp [nval, digs_zero]
  | cons x xs ih =>
    have hx := h.head
    have ih := ih h.tail (fun u hu => hl u (by
      cases xs with
      | nil => simp at hu
      | cons y ys => simpa using hu))
    have hne : nval B (x :: xs) ≠ 0 := by
      intro h0
      simp only [nval] at h0
      have hx0 : x = 0 := by omega
      have hv : nval B xs = 0 := by
        rcases Nat.eq_zero_or_pos (nval B xs) with e | e
        · exact e
        · have := Nat.mul_pos (show 0 < B by omega) e; omega
      rw [hv, digs_zero] at ih
      subst ih
      exact hl x (by simp) hx0
    rw [digs_pos hB hne]
    simp only [nval]
    rw [Nat.add_mul_mod_self_left, Nat.mod_eq_of_lt hx, Nat.add_mul_div_left _ _ (by omega), Nat.div_eq_of_lt hx, Nat.zero_add, ih]

theorem digs_nval_take {B : Nat} (hB : 2 ≤ B) {xs : List Nat} (h : Small B xs) (m : Nat) (hz : ∀ j u, m ≤ j → xs[j]? = some u → u = 0)
    (hl : ∀ u, 0 < m → xs[m - 1]? = some u → u ≠ 0) (hm : m ≤ xs.length) : digs B (nval B xs) = xs.take m := by
  have hd : nval B (xs.drop m) = 0 := by
    have : ∀ ys : List Nat, (∀ (j u : Nat), ys[j]? = some u → u = 0) → nval B ys = 0 := by
      intro ys
      induction ys with
      | nil => intro _; rfl
      | cons y ys ih =>
        intro hh
        have h0 := hh 0 y (by simp)
        have := ih (fun j u hj => hh (j + 1) u (by simpa using hj))
        simp [nval, h0, this]
    exact this _ (fun j u hj => hz (m + j) u (by omega) (by rw [← hj, List.getElem?_drop]))
  have he : nval B xs = nval B (xs.take m) := by
    conv => lhs; rw [← List.take_append_drop m xs]
    rw [nval_append, hd]; simp
  rw [he]
  refine digs_nval hB (h.take m) ?_
  intro u hu
  rw [List.getLast?_eq_getElem?, List.length_take, Nat.min_eq_left hm] at hu
  rcases Nat.eq_zero_or_pos m with e | e
  · subst e; simp at hu
  · rw [List.getElem?_take] at hu
    rw [if_pos (by omega)] at hu
    exact hl u e hu

theorem digs_last {B : Nat} (hB : 2 ≤ B) (n u : Nat) (hu : (digs B n).getLast? = some u) : u ≠ 0 := by
  induction n using Nat.strongRecOn with
  | ind n ih =>
    by_cases hn : n = 0
    · subst hn; rw [digs_zero] at hu; simp at hu
    · rw [digs_pos hB hn] at hu
      by_cases hq : n / B = 0
      · rw [hq, digs_zero] at hu
        simp at hu
        have : n < B := by
          rcases Nat.lt_or_ge n B with a | a
          · exact a
          · have := Nat.div_pos a (by omega); omega
        rw [Nat.mod_eq_of_lt this] at hu
        omega
      · refine ih (n / B) (Nat.div_lt_self (by omega) (by omega)) ?_
        cases hd : digs B (n / B) with
        | nil => rw [digs_pos hB hq] at hd; simp at hd
        | cons y ys => rw [hd, List.getLast?_cons_cons] at hu; exact hu

theorem digs_eq_nil {B n : Nat} (hB : 2 ≤ B) : digs B n = [] ↔ n = 0 := by
  constructor
  · intro h
    have := nval_digs hB n
    rw [h] at this; exact this.symm
  · rintro rfl; exact digs_zero B

/-- The length of the digits. -/
theorem digs_len_le {B : Nat} (hB : 2 ≤ B) {n k : Nat} (h : n < B ^ k) : (digs B n).length ≤ k := by
  induction k generalizing n with
  | zero => simp at h; subst h; simp [digs_zero]
  | succ k ih =>
    by_cases hn : n = 0
    · subst hn; simp [digs_zero]
    · rw [digs_pos hB hn, List.length_cons]
      have : n / B < B ^ k := by
        rw [Nat.div_lt_iff_lt_mul (by omega)]; rwa [← Nat.pow_succ]
      have := ih this; omega

theorem digs_len_ge {B : Nat} (hB : 2 ≤ B) {n : Nat} (hn : n ≠ 0) : B ^ ((digs B n).length - 1) ≤ n := by
  induction n using Nat.strongRecOn with
  | ind n ih =>
    rw [digs_pos hB hn, List.length_cons, Nat.add_sub_cancel]
    by_cases hq : n / B = 0
    · rw [hq, digs_zero]; simp; omega
    · have h1 := ih (n / B) (Nat.div_lt_self (by omega) (by omega)) hq
      have hp : 0 < (digs B (n / B)).length := by rw [digs_pos hB hq]; simp
      have h2 : B ^ (digs B (n / B)).length = B ^ ((digs B (n / B)).length - 1) * B := by
        rw [← Nat.pow_succ]; congr 1; omega
      rw [h2]
      exact Nat.le_trans (Nat.mul_le_mul_right B h1) (Nat.div_mul_le_self n B)


theorem nval_snoc (B : Nat) (xs : List Nat) (x : Nat) : nval B (xs ++ [x]) = nval B xs + B ^ xs.length * x := by
  rw [nval_append]; simp [nval]

theorem nval_take_succ (B : Nat) (xs : List Nat) (k : Nat) : nval B (xs.take (k + 1)) = nval B (xs.take k) + B ^ k * xs.getD k 0 := by
  rcases Nat.lt_or_ge k xs.length with h | h
  · rw [List.take_succ_eq_append_getElem h, nval_snoc, List.length_take, Nat.min_eq_left (by omega)]
    simp [List.getD_eq_getElem?_getD, List.getElem?_eq_getElem h]
  · rw [List.take_of_length_le (by omega), List.take_of_length_le h]
    simp [List.getD_eq_getElem?_getD, List.getElem?_eq_none h]

theorem nval_split (B : Nat) (xs : List Nat) (k : Nat) (hk : k ≤ xs.length) : nval B xs = nval B (xs.take k) + B ^ k * nval B (xs.drop k) := by
  conv => lhs; rw [← List.take_append_drop k xs]
  rw [nval_append, List.length_take, Nat.min_eq_left hk]

theorem getD_lt {B : Nat} {xs : List Nat} (h : Small B xs) (hB : 0 < B) (k : Nat) : xs.getD k 0 < B := by
  rcases Nat.lt_or_ge k xs.length with hk | hk
  · rw [List.getD_eq_getElem?_getD, List.getElem?_eq_getElem hk]; exact h _ (List.getElem_mem hk)
  · rw [List.getD_eq_getElem?_getD, List.getElem?_eq_none hk]; exact hB

/-- A word changed. -/
theorem nval_set (B : Nat) (xs : List Nat) (k v : Nat) (hk : k < xs.length) : nval B (xs.set k v) + B ^ k * xs.getD k 0 = nval B xs + B ^ k * v := by
  have h1 := nval_split B (xs.set k v) k (by simp; omega)
  have h2 := nval_split B xs k (by omega)
  have d1 : xs.drop k = xs.getD k 0 :: xs.drop (k + 1) := by
    rw [List.drop_eq_getElem_cons hk]; simp [List.getD_eq_getElem?_getD, List.getElem?_eq_getElem hk]
  have d2 : (xs.set k v).drop k = v :: xs.drop (k + 1) := by
    rw [List.drop_eq_getElem_cons (by simpa using hk)]; simp [List.drop_set]
  have t2 : (xs.set k v).take k = xs.take k := by
    rw [List.take_set, List.set_eq_of_length_le (by simp; omega)]
  rw [h1, h2, d1, d2, t2]
  simp only [nval, Nat.mul_add]
  omega

theorem Small.set {B : Nat} {xs : List Nat} (h : Small B xs) (k : Nat) {v : Nat} (hv : v < B) : Small B (xs.set k v) := by
  intro x hx
  rcases List.mem_or_eq_of_mem_set hx with h1 | h1
  · exact h x h1
  · subst h1; exact hv

theorem small_replicate {B k : Nat} (hB : 0 < B) : Small B (List.replicate k 0) := by
  intro x hx; rw [List.mem_replicate] at hx; omega

/-! 64 into 32 and back -/
def halves : List Nat → List Nat
  | [] => []
  | w :: r => w % 4294967296 :: w / 4294967296 :: halves r

theorem nval_halves (ws : List Nat) : nval 4294967296 (halves ws) = nval 18446744073709551616 ws := by
  induction ws with
  | nil => rfl
  | cons w r ih => simp only [halves, nval, ih]; omega

theorem halves_snoc (ws : List Nat) (w : Nat) : halves (ws ++ [w]) = halves ws ++ [w % 4294967296, w / 4294967296] := by
  induction ws with
  | nil => rfl
  | cons x r ih => simp [halves, ih]

theorem small_halves {ws : List Nat} (h : Small 18446744073709551616 ws) : Small 4294967296 (halves ws) := by
  induction ws with
  | nil => exact Small.nil
  | cons w r ih =>
    have := h.head
    exact Small.cons (by omega) (Small.cons (by omega) (ih h.tail))

theorem halves_length (ws : List Nat) : (halves ws).length = 2 * ws.length := by
  induction ws with
  | nil => rfl
  | cons w r ih => simp [halves, ih]; omega

def pairs : List Nat → List Nat
  | [] => []
  | [x] => [x]
  | x :: y :: r => (x + 4294967296 * y) :: pairs r

theorem pairs_digs (n : Nat) : pairs (digs 4294967296 n) = digs 18446744073709551616 n := by
  induction n using Nat.strongRecOn with
  | ind n ih =>
    by_cases hn : n = 0
    · subst hn; simp [digs_zero, pairs]
    · rw [digs_pos (B := 18446744073709551616) (by omega) hn, digs_pos (B := 4294967296) (by omega) hn]
      by_cases hq : n / 4294967296 = 0
      · rw [hq, digs_zero, show n / 18446744073709551616 = 0 by omega, digs_zero]
        simp only [pairs]
        congr 1; omega
      · rw [digs_pos (B := 4294967296) (by omega) hq]
        simp only [pairs]
        rw [show n / 4294967296 / 4294967296 = n / 18446744073709551616 by omega, ih (n / 18446744073709551616) (by omega)]
        congr 1; omega

theorem pairs_take_two (ds : List Nat) (i : Nat) (hi : i < ds.length) (h2 : 2 ∣ i) :
    pairs (ds.take (i + 2)) = pairs (ds.take i) ++ [ds.getD i 0 + 4294967296 * ds.getD (i + 1) 0] := by
  obtain ⟨k, rfl⟩ := h2
  induction k generalizing ds with
  | zero =>
    match ds, hi with
    | [x], _ => simp [pairs]
    | x :: y :: r, _ => simp [pairs]
  | succ k ih =>
    match ds, hi with
    | [x], h => simp at h
    | x :: y :: r, h =>
      have := ih r (by simp at h; omega)
      rw [show 2 * (k + 1) + 2 = 2 * k + 2 + 2 by omega, show 2 * (k + 1) = 2 * k + 2 by omega]
      simp only [List.take_succ_cons, pairs, this, List.cons_append]
      simp

theorem pairs_length (ds : List Nat) : (pairs ds).length = (ds.length + 1) / 2 := by
  induction ds using pairs.induct with
  | case1 => rfl
  | case2 x => simp [pairs]
  | case3 x y r ih => simp [pairs, ih]; omega

/-! order -/
theorem nval_le_of_len {B : Nat} (hB : 2 ≤ B) {m n : Nat} (h : (digs B m).length < (digs B n).length) : m < n := by
  have hn : n ≠ 0 := by rintro rfl; rw [digs_zero] at h; simp at h
  have h1 := digs_len_ge hB hn
  have h2 : m < B ^ (digs B m).length := by
    have := nval_lt (small_digs hB m); rwa [nval_digs hB] at this
  have h3 : B ^ (digs B m).length ≤ B ^ ((digs B n).length - 1) := Nat.pow_le_pow_right (by omega) (by omega)
  omega

theorem lt_of_top {B : Nat} {xs ys : List Nat} (hx : Small B xs) (k : Nat) (hk : k < xs.length) (hl : xs.length = ys.length) (he : xs.drop (k + 1) = ys.drop (k + 1))
    (h : xs.getD k 0 < ys.getD k 0) : nval B xs < nval B ys := by
  have h1 := nval_split B xs (k + 1) (by omega)
  have h2 := nval_split B ys (k + 1) (by omega)
  rw [he] at h1
  have h3 := nval_take_succ B xs k
  have h4 := nval_take_succ B ys k
  have h5 := nval_lt (hx.take k)
  rw [List.length_take, Nat.min_eq_left (by omega)] at h5
  have h6 : B ^ k * (xs.getD k 0 + 1) ≤ B ^ k * ys.getD k 0 := Nat.mul_le_mul_left _ h
  rw [Nat.mul_add] at h6
  omega
end Go.Proofs.YtimkifkikcohgaaDoor.Nx
