/- Plain arithmetic: numbers by their digits of a base, the lowest first. No program stands in it. Plain arithmetic: how many bits a number has, how many of its lowest bits are 0. No program stands in it. Plain arithmetic: a round of adding, of subtracting, of multiplying, on digits. No program stands in it. Numbers by a power of two: sign, natural number, exponent. No program. -/
import Derived.Lib.Hide
import Derived.Lib.BitFns
import Derived.Lib.Mul64
namespace Go.Proofs.YtobcbhppmgnioaaGreatDoor.Nx
def nval (B : Nat) : List Nat → Nat
 | [] => 0
 | x :: xs => x + B * nval B xs
def digs (B : Nat) (n : Nat) : List Nat :=
 if _h : n = 0 ∨ B < 2 then [] else n % B :: digs B (n / B)
 termination_by n
 decreasing_by exact Nat.div_lt_self (by omega) (by omega)
theorem digs_zero (B : Nat) : digs B 0 = [] := by unfold digs; simp
theorem digs_pos {B n : Nat} (hB : 2 ≤ B) (hn : n ≠ 0) : digs B n = n % B :: digs B (n / B) := by
 rw [digs]; rw [dif_neg (by omega)]
def Small (B : Nat) (xs : List Nat) : Prop := ∀ x ∈ xs, x < B
theorem Small.nil {B : Nat} : Small B [] := fun _ h => by simp at h
theorem Small.cons {B x : Nat} {xs : List Nat} (hx : x < B) (h : Small B xs) : Small B (x :: xs) := by
 intro y hy; rcases List.mem_cons.1 hy with rfl | h2
 ·exact hx
 ·exact h y h2
theorem Small.head {B x : Nat} {xs : List Nat} (h : Small B (x :: xs)) : x < B := h x (by simp)
theorem Small.tail {B x : Nat} {xs : List Nat} (h : Small B (x :: xs)) : Small B xs := fun y hy => h y (by simp [hy])
theorem Small.append {B : Nat} {xs ys : List Nat} (h : Small B xs) (h' : Small B ys) : Small B (xs ++ ys) := by
 intro x hx; rcases List.mem_append.1 hx with a | a
 ·exact h x a
 ·exact h' x a
theorem Small.take {B : Nat} {xs : List Nat} (h : Small B xs) (k : Nat) : Small B (xs.take k) := fun x hx => h x (List.mem_of_mem_take hx)
theorem Small.drop {B : Nat} {xs : List Nat} (h : Small B xs) (k : Nat) : Small B (xs.drop k) := fun x hx => h x (List.mem_of_mem_drop hx)
theorem Small.get {B : Nat} {xs : List Nat} (h : Small B xs) {k u : Nat} (hu : xs[k]? = some u) : u < B := h u (List.mem_of_getElem? hu)
theorem nval_digs {B : Nat} (hB : 2 ≤ B) (n : Nat) : nval B (digs B n) = n := by
 induction n using Nat.strongRecOn with
 | ind n ih =>
  by_cases hn : n = 0
  ·subst hn; rw [digs_zero]; rfl
  ·rw [digs_pos hB hn, nval, ih (n / B) (Nat.div_lt_self (by omega) (by omega))]
   exact Nat.mod_add_div n B
theorem small_digs {B : Nat} (hB : 2 ≤ B) (n : Nat) : Small B (digs B n) := by
 induction n using Nat.strongRecOn with
 | ind n ih =>
  by_cases hn : n = 0
  ·subst hn; rw [digs_zero]; exact Small.nil
  ·rw [digs_pos hB hn]
   exact Small.cons (Nat.mod_lt _ (by omega)) (ih _ (Nat.div_lt_self (by omega) (by omega)))
theorem nval_append (B : Nat) (xs ys : List Nat) : nval B (xs ++ ys) = nval B xs + B ^ xs.length * nval B ys := by
 induction xs with
 | nil => simp [nval]
 | cons x xs ih => simp only [List.cons_append, nval, ih, List.length_cons, Nat.pow_succ]; grind
theorem nval_zeros (B k : Nat) : nval B (List.replicate k 0) = 0 := by
 induction k with
 | zero => rfl
 | succ k ih => simp [List.replicate_succ, nval, ih]
theorem nval_lt {B : Nat} {xs : List Nat} (h : Small B xs) : nval B xs < B ^ xs.length := by
 induction xs with
 | nil => simp [nval]
 | cons x xs ih =>
  have h1 := ih h.tail
  have h2 := h.head
  simp only [nval, List.length_cons, Nat.pow_succ]
  have : B * (nval B xs + 1) ≤ B * B ^ xs.length := Nat.mul_le_mul_left B h1
  rw [Nat.mul_add] at this
  rw [Nat.mul_comm (B ^ xs.length) B]
  omega
theorem digs_nval {B : Nat} (hB : 2 ≤ B) {xs : List Nat} (h : Small B xs) (hl : ∀ u, xs.getLast? = some u → u ≠ 0) : digs B (nval B xs) = xs := by
 induction xs with
 | nil => simp [nval, digs_zero]
 | cons x xs ih =>
  have hx := h.head
  have ih := ih h.tail (fun u hu => hl u (by
   cases xs with
   | nil => simp at hu
   | cons y ys => simpa using hu))
  have hne : nval B (x :: xs) ≠ 0 := by
   intro h0
   simp only [nval] at h0
   have hx0 : x = 0 := by omega
   have hv : nval B xs = 0 := by
    rcases Nat.eq_zero_or_pos (nval B xs) with e | e
    ·exact e
    ·have := Nat.mul_pos (show 0 < B by omega) e; omega
   rw [hv, digs_zero] at ih
   subst ih
   exact hl x (by simp) hx0
  rw [digs_pos hB hne]
  simp only [nval]
  rw [Nat.add_mul_mod_self_left, Nat.mod_eq_of_lt hx, Nat.add_mul_div_left _ _ (by omega), Nat.div_eq_of_lt hx, Nat.zero_add, ih]
theorem digs_nval_take {B : Nat} (hB : 2 ≤ B) {xs : List Nat} (h : Small B xs) (m : Nat) (hz : ∀ j u, m ≤ j → xs[j]? = some u → u = 0)
  (hl : ∀ u, 0 < m → xs[m - 1]? = some u → u ≠ 0) (hm : m ≤ xs.length) : digs B (nval B xs) = xs.take m := by
 have hd : nval B (xs.drop m) = 0 := by
  have : ∀ ys : List Nat, (∀ (j u : Nat), ys[j]? = some u → u = 0) → nval B ys = 0 := by
   intro ys
   induction ys with
   | nil => intro _; rfl
   | cons y ys ih =>
    intro hh
    have h0 := hh 0 y (by simp)
    have := ih (fun j u hj => hh (j + 1) u (by simpa using hj))
    simp [nval, h0, this]
  exact this _ (fun j u hj => hz (m + j) u (by omega) (by rw [← hj, List.getElem?_drop]))
 have he : nval B xs = nval B (xs.take m) := by
  conv => lhs; rw [← List.take_append_drop m xs]
  rw [nval_append, hd]; simp
 rw [he]
 refine digs_nval hB (h.take m) ?_
 intro u hu
 rw [List.getLast?_eq_getElem?, List.length_take, Nat.min_eq_left hm] at hu
 rcases Nat.eq_zero_or_pos m with e | e
 ·subst e; simp at hu
 ·rw [List.getElem?_take] at hu
  rw [if_pos (by omega)] at hu
  exact hl u e hu
theorem digs_last {B : Nat} (hB : 2 ≤ B) (n u : Nat) (hu : (digs B n).getLast? = some u) : u ≠ 0 := by
 induction n using Nat.strongRecOn with
 | ind n ih =>
  by_cases hn : n = 0
  ·subst hn; rw [digs_zero] at hu; simp at hu
  ·rw [digs_pos hB hn] at hu
   by_cases hq : n / B = 0
   ·rw [hq, digs_zero] at hu
    simp at hu
    have : n < B := by
     rcases Nat.lt_or_ge n B with a | a
     ·exact a
     ·have := Nat.div_pos a (by omega); omega
    rw [Nat.mod_eq_of_lt this] at hu
    omega
   ·refine ih (n / B) (Nat.div_lt_self (by omega) (by omega)) ?_
    cases hd : digs B (n / B) with
    | nil => rw [digs_pos hB hq] at hd; simp at hd
    | cons y ys => rw [hd, List.getLast?_cons_cons] at hu; exact hu
theorem digs_eq_nil {B n : Nat} (hB : 2 ≤ B) : digs B n = [] ↔ n = 0 := by
 constructor
 ·intro h
  have := nval_digs hB n
  rw [h] at this; exact this.symm
 ·rintro rfl; exact digs_zero B
theorem digs_len_le {B : Nat} (hB : 2 ≤ B) {n k : Nat} (h : n < B ^ k) : (digs B n).length ≤ k := by
 induction k generalizing n with
 | zero => simp at h; subst h; simp [digs_zero]
 | succ k ih =>
  by_cases hn : n = 0
  ·subst hn; simp [digs_zero]
  ·rw [digs_pos hB hn, List.length_cons]
   have : n / B < B ^ k := by
    rw [Nat.div_lt_iff_lt_mul (by omega)]; rwa [← Nat.pow_succ]
   have := ih this; omega
theorem digs_len_ge {B : Nat} (hB : 2 ≤ B) {n : Nat} (hn : n ≠ 0) : B ^ ((digs B n).length - 1) ≤ n := by
 induction n using Nat.strongRecOn with
 | ind n ih =>
  rw [digs_pos hB hn, List.length_cons, Nat.add_sub_cancel]
  by_cases hq : n / B = 0
  ·rw [hq, digs_zero]; simp; omega
  ·have h1 := ih (n / B) (Nat.div_lt_self (by omega) (by omega)) hq
   have hp : 0 < (digs B (n / B)).length := by rw [digs_pos hB hq]; simp
   have h2 : B ^ (digs B (n / B)).length = B ^ ((digs B (n / B)).length - 1) * B := by
    rw [← Nat.pow_succ]; congr 1; omega
   rw [h2]
   exact Nat.le_trans (Nat.mul_le_mul_right B h1) (Nat.div_mul_le_self n B)
theorem nval_snoc (B : Nat) (xs : List Nat) (x : Nat) : nval B (xs ++ [x]) = nval B xs + B ^ xs.length * x := by
 rw [nval_append]; simp [nval]
theorem nval_take_succ (B : Nat) (xs : List Nat) (k : Nat) : nval B (xs.take (k + 1)) = nval B (xs.take k) + B ^ k * xs.getD k 0 := by
 rcases Nat.lt_or_ge k xs.length with h | h
 ·rw [List.take_succ_eq_append_getElem h, nval_snoc, List.length_take, Nat.min_eq_left (by omega)]
  simp [List.getD_eq_getElem?_getD, List.getElem?_eq_getElem h]
 ·rw [List.take_of_length_le (by omega), List.take_of_length_le h]
  simp [List.getD_eq_getElem?_getD, List.getElem?_eq_none h]
theorem nval_split (B : Nat) (xs : List Nat) (k : Nat) (hk : k ≤ xs.length) : nval B xs = nval B (xs.take k) + B ^ k * nval B (xs.drop k) := by
 conv => lhs; rw [← List.take_append_drop k xs]
 rw [nval_append, List.length_take, Nat.min_eq_left hk]
theorem getD_lt {B : Nat} {xs : List Nat} (h : Small B xs) (hB : 0 < B) (k : Nat) : xs.getD k 0 < B := by
 rcases Nat.lt_or_ge k xs.length with hk | hk
 ·rw [List.getD_eq_getElem?_getD, List.getElem?_eq_getElem hk]; exact h _ (List.getElem_mem hk)
 ·rw [List.getD_eq_getElem?_getD, List.getElem?_eq_none hk]; exact hB
theorem nval_set (B : Nat) (xs : List Nat) (k v : Nat) (hk : k < xs.length) : nval B (xs.set k v) + B ^ k * xs.getD k 0 = nval B xs + B ^ k * v := by
 have h1 := nval_split B (xs.set k v) k (by simp; omega)
 have h2 := nval_split B xs k (by omega)
 have d1 : xs.drop k = xs.getD k 0 :: xs.drop (k + 1) := by
  rw [List.drop_eq_getElem_cons hk]; simp [List.getD_eq_getElem?_getD, List.getElem?_eq_getElem hk]
 have d2 : (xs.set k v).drop k = v :: xs.drop (k + 1) := by
  rw [List.drop_eq_getElem_cons (by simpa using hk)]; simp [List.drop_set]
 have t2 : (xs.set k v).take k = xs.take k := by
  rw [List.take_set, List.set_eq_of_length_le (by simp; omega)]
 rw [h1, h2, d1, d2, t2]
 simp only [nval, Nat.mul_add]
 omega
theorem Small.set {B : Nat} {xs : List Nat} (h : Small B xs) (k : Nat) {v : Nat} (hv : v < B) : Small B (xs.set k v) := by
 intro x hx
 rcases List.mem_or_eq_of_mem_set hx with h1 | h1
 ·exact h x h1
 ·subst h1; exact hv
theorem small_replicate {B k : Nat} (hB : 0 < B) : Small B (List.replicate k 0) := by
 intro x hx; rw [List.mem_replicate] at hx; omega
def halves : List Nat → List Nat
 | [] => []
 | w :: r => w % 4294967296 :: w / 4294967296 :: halves r
theorem nval_halves (ws : List Nat) : nval 4294967296 (halves ws) = nval 18446744073709551616 ws := by
 induction ws with
 | nil => rfl
 | cons w r ih => simp only [halves, nval, ih]; omega
theorem halves_snoc (ws : List Nat) (w : Nat) : halves (ws ++ [w]) = halves ws ++ [w % 4294967296, w / 4294967296] := by
 induction ws with
 | nil => rfl
 | cons x r ih => simp [halves, ih]
theorem small_halves {ws : List Nat} (h : Small 18446744073709551616 ws) : Small 4294967296 (halves ws) := by
 induction ws with
 | nil => exact Small.nil
 | cons w r ih =>
  have := h.head
  exact Small.cons (by omega) (Small.cons (by omega) (ih h.tail))
theorem halves_length (ws : List Nat) : (halves ws).length = 2 * ws.length := by
 induction ws with
 | nil => rfl
 | cons w r ih => simp [halves, ih]; omega
def pairs : List Nat → List Nat
 | [] => []
 | [x] => [x]
 | x :: y :: r => (x + 4294967296 * y) :: pairs r
theorem pairs_digs (n : Nat) : pairs (digs 4294967296 n) = digs 18446744073709551616 n := by
 induction n using Nat.strongRecOn with
 | ind n ih =>
  by_cases hn : n = 0
  ·subst hn; simp [digs_zero, pairs]
  ·rw [digs_pos (B := 18446744073709551616) (by omega) hn, digs_pos (B := 4294967296) (by omega) hn]
   by_cases hq : n / 4294967296 = 0
   ·rw [hq, digs_zero, show n / 18446744073709551616 = 0 by omega, digs_zero]
    simp only [pairs]
    congr 1; omega
   ·rw [digs_pos (B := 4294967296) (by omega) hq]
    simp only [pairs]
    rw [show n / 4294967296 / 4294967296 = n / 18446744073709551616 by omega, ih (n / 18446744073709551616) (by omega)]
    congr 1; omega
theorem pairs_take_two (ds : List Nat) (i : Nat) (hi : i < ds.length) (h2 : 2 ∣ i) :
  pairs (ds.take (i + 2)) = pairs (ds.take i) ++ [ds.getD i 0 + 4294967296 * ds.getD (i + 1) 0] := by
 obtain ⟨k, rfl⟩ := h2
 induction k generalizing ds with
 | zero =>
  match ds, hi with
  | [x], _ => simp [pairs]
  | x :: y :: r, _ => simp [pairs]
 | succ k ih =>
  match ds, hi with
  | [x], h => simp at h
  | x :: y :: r, h =>
   have := ih r (by simp at h; omega)
   rw [show 2 * (k + 1) + 2 = 2 * k + 2 + 2 by omega, show 2 * (k + 1) = 2 * k + 2 by omega]
   simp only [List.take_succ_cons, pairs, this, List.cons_append]
   simp
theorem pairs_length (ds : List Nat) : (pairs ds).length = (ds.length + 1) / 2 := by
 induction ds using pairs.induct with
 | case1 => rfl
 | case2 x => simp [pairs]
 | case3 x y r ih => simp [pairs, ih]; omega
theorem nval_le_of_len {B : Nat} (hB : 2 ≤ B) {m n : Nat} (h : (digs B m).length < (digs B n).length) : m < n := by
 have hn : n ≠ 0 := by rintro rfl; rw [digs_zero] at h; simp at h
 have h1 := digs_len_ge hB hn
 have h2 : m < B ^ (digs B m).length := by
  have := nval_lt (small_digs hB m); rwa [nval_digs hB] at this
 have h3 : B ^ (digs B m).length ≤ B ^ ((digs B n).length - 1) := Nat.pow_le_pow_right (by omega) (by omega)
 omega
theorem lt_of_top {B : Nat} {xs ys : List Nat} (hx : Small B xs) (k : Nat) (hk : k < xs.length) (hl : xs.length = ys.length) (he : xs.drop (k + 1) = ys.drop (k + 1))
  (h : xs.getD k 0 < ys.getD k 0) : nval B xs < nval B ys := by
 have h1 := nval_split B xs (k + 1) (by omega)
 have h2 := nval_split B ys (k + 1) (by omega)
 rw [he] at h1
 have h3 := nval_take_succ B xs k
 have h4 := nval_take_succ B ys k
 have h5 := nval_lt (hx.take k)
 rw [List.length_take, Nat.min_eq_left (by omega)] at h5
 have h6 : B ^ k * (xs.getD k 0 + 1) ≤ B ^ k * ys.getD k 0 := Nat.mul_le_mul_left _ h
 rw [Nat.mul_add] at h6
 omega
end Go.Proofs.YtobcbhppmgnioaaGreatDoor.Nx
namespace Go.Proofs.YtobcbhppmgnioaaGreatDoor.Nx
def nbits (n : Nat) : Nat := if n = 0 then 0 else n.log2 + 1
theorem nbits_zero : nbits 0 = 0 := rfl
theorem nbits_of {n k : Nat} (h1 : n < 2 ^ k) (h2 : 0 < k → 2 ^ (k - 1) ≤ n) : nbits n = k := by
 unfold nbits
 rcases Nat.eq_zero_or_pos k with e | e
 ·subst e; simp at h1; simp [h1]
 ·have hn := h2 e
  have hp : 0 < 2 ^ (k - 1) := Nat.two_pow_pos _
  rw [if_neg (by omega)]
  have : n.log2 = k - 1 := (Nat.log2_eq_iff (by omega)).2 ⟨hn, by rw [Nat.sub_add_cancel e]; exact h1⟩
  omega
theorem nbits_lt (n : Nat) : n < 2 ^ nbits n := by
 unfold nbits; split
 ·subst_vars; simp
 ·exact Nat.lt_log2_self
theorem nbits_ge {n : Nat} (h : n ≠ 0) : 2 ^ (nbits n - 1) ≤ n := by
 unfold nbits; rw [if_neg h]; simpa using Nat.log2_self_le h
theorem nbits_pos {n : Nat} (h : n ≠ 0) : 0 < nbits n := by unfold nbits; rw [if_neg h]; omega
theorem nbits_half {n : Nat} (h : n ≠ 0) : nbits n = 1 + nbits (n / 2) := by
 refine nbits_of ?_ (fun _ => ?_)
 ·have := nbits_lt (n / 2); rw [Nat.add_comm, Nat.pow_succ]; omega
 ·rw [Nat.add_sub_cancel_left]
  by_cases h2 : n / 2 = 0
  ·rw [h2, nbits_zero]; simp; omega
  ·have := nbits_ge h2
   have hp := nbits_pos h2
   have : 2 ^ nbits (n / 2) = 2 ^ (nbits (n / 2) - 1) * 2 := by rw [← Nat.pow_succ]; congr 1; omega
   omega
theorem nbits_le {n k : Nat} (h : n < 2 ^ k) : nbits n ≤ k := by
 rcases Nat.lt_or_ge k (nbits n) with h1 | h1
 ·have hn : n ≠ 0 := by rintro rfl; simp [nbits_zero] at h1
  have := nbits_ge hn
  have := Nat.pow_le_pow_right (n := 2) (by omega) (show k ≤ nbits n - 1 by omega)
  omega
 ·exact h1
theorem bitLenAux_nbits : ∀ (f x : Nat), x < 2 ^ f → Go.Lib.bitLenAux f x = nbits x
 | 0, x, h => by simp at h; subst h; rfl
 | f + 1, x, h => by
  unfold Go.Lib.bitLenAux
  split
  ·subst_vars; rfl
  ·rename_i h0
   rw [bitLenAux_nbits f (x / 2) (by rw [Nat.pow_succ] at h; omega), nbits_half h0]
theorem bitLen_nbits (x : Nat) (h : x < 18446744073709551616) : Go.Lib.bitLen x = nbits x := bitLenAux_nbits 64 x h
theorem nbits_top {q lowv top m : Nat} (hl : lowv < 2 ^ (q * m)) (ht : top ≠ 0) : nbits (lowv + 2 ^ (q * m) * top) = q * m + nbits top := by
 have h1 := nbits_lt top
 have h2 := nbits_ge ht
 have hp := nbits_pos ht
 refine nbits_of ?_ (fun _ => ?_)
 ·rw [Nat.pow_add]
  have : 2 ^ (q * m) * (top + 1) ≤ 2 ^ (q * m) * 2 ^ nbits top := Nat.mul_le_mul_left _ h1
  rw [Nat.mul_add] at this; omega
 ·rw [show q * m + nbits top - 1 = q * m + (nbits top - 1) by omega, Nat.pow_add]
  have := Nat.mul_le_mul_left (2 ^ (q * m)) h2
  omega
def ntz (n : Nat) : Nat := if _h : n = 0 then 0 else if n % 2 = 1 then 0 else 1 + ntz (n / 2)
 termination_by n
 decreasing_by omega
theorem ntz_zero : ntz 0 = 0 := by rw [ntz]; simp
theorem ntz_odd {n : Nat} (h : n % 2 = 1) : ntz n = 0 := by rw [ntz]; simp [h]
theorem ntz_even {n : Nat} (h0 : n ≠ 0) (h : n % 2 = 0) : ntz n = 1 + ntz (n / 2) := by rw [ntz, dif_neg h0, if_neg (by omega)]
theorem ntz_shift {n : Nat} (h0 : n ≠ 0) (k : Nat) : ntz (2 ^ k * n) = k + ntz n := by
 induction k with
 | zero => simp
 | succ k ih =>
  have hp := Nat.two_pow_pos k
  have h1 : 2 ^ (k + 1) * n = 2 * (2 ^ k * n) := by rw [Nat.pow_succ]; grind
  have h2 : 0 < 2 ^ k * n := Nat.mul_pos hp (by omega)
  rw [h1, ntz_even (by omega) (by omega), Nat.mul_div_cancel_left _ (by omega), ih]; omega
theorem ntz_split {n : Nat} (h : n ≠ 0) : ∃ m, n = 2 ^ ntz n * m ∧ m % 2 = 1 := by
 induction n using Nat.strongRecOn with
 | ind n ih =>
  by_cases h1 : n % 2 = 1
  ·exact ⟨n, by rw [ntz_odd h1]; simp, h1⟩
  ·obtain ⟨m, h2, h3⟩ := ih (n / 2) (by omega) (by omega)
   refine ⟨m, ?_, h3⟩
   rw [ntz_even h (by omega), Nat.pow_add, Nat.pow_one]
   have h4 : n = 2 * (n / 2) := by omega
   have h5 : 2 * 2 ^ ntz (n / 2) * m = 2 * (2 ^ ntz (n / 2) * m) := by grind
   rw [h5, ← h2]; exact h4
theorem ntz_add {a b k : Nat} (h : a ≠ 0) (ha : a < 2 ^ k) : ntz (a + 2 ^ k * b) = ntz a := by
 induction a using Nat.strongRecOn generalizing k with
 | ind a ih =>
  have hk : 0 < k := by
   rcases Nat.eq_zero_or_pos k with e | e
   ·subst e; simp at ha; omega
   ·exact e
  have hp : 2 ^ k = 2 * 2 ^ (k - 1) := by
   obtain ⟨j, rfl⟩ : ∃ j, k = j + 1 := ⟨k - 1, by omega⟩
   rw [Nat.pow_succ, Nat.add_sub_cancel]; omega
  have hq : 2 ^ k * b = 2 * (2 ^ (k - 1) * b) := by rw [hp]; grind
  rw [hq]
  by_cases h1 : a % 2 = 1
  ·rw [ntz_odd h1, ntz_odd (by omega)]
  ·rw [ntz_even h (by omega), ntz_even (by omega) (by omega), show (a + 2 * (2 ^ (k - 1) * b)) / 2 = a / 2 + 2 ^ (k - 1) * b by omega,
    ih (a / 2) (by omega) (by omega) (by omega)]
theorem ntz_lt {n k : Nat} (h : n ≠ 0) (hn : n < 2 ^ k) : ntz n < k := by
 obtain ⟨m, h1, h2⟩ := ntz_split h
 have hm : 0 < m := by omega
 rcases Nat.lt_or_ge (ntz n) k with h3 | h3
 ·exact h3
 ·have := Nat.pow_le_pow_right (n := 2) (by omega) h3
  have := Nat.le_mul_of_pos_right (2 ^ ntz n) hm
  omega
theorem and_step (a b : Nat) : a &&& b = 2 * ((a / 2) &&& (b / 2)) + (if a % 2 = 1 ∧ b % 2 = 1 then 1 else 0) := by
 have h1 : (a &&& b) / 2 = (a / 2) &&& (b / 2) := Nat.and_div_two
 have h2 := Nat.and_mod_two_eq_one (a := a) (b := b)
 split
 ·rename_i h; have := h2.2 h; omega
 ·rename_i h
  have : (a &&& b) % 2 ≠ 1 := fun e => h (h2.1 e)
  omega
theorem and_compl (n : Nat) : ∀ a, a < 2 ^ n → a &&& (2 ^ n - 1 - a) = 0 := by
 induction n with
 | zero => intro a h; simp at h; subst h; simp
 | succ n ih =>
  intro a h
  rw [Nat.pow_succ] at h ⊢
  have := ih (a / 2) (by omega)
  rw [and_step, show (2 ^ n * 2 - 1 - a) / 2 = 2 ^ n - 1 - a / 2 by omega, this, if_neg (by omega)]
theorem and_neg (n : Nat) : ∀ a, a ≠ 0 → a < 2 ^ n → a &&& (2 ^ n - a) = 2 ^ ntz a := by
 induction n with
 | zero => intro a h0 h; simp at h; omega
 | succ n ih =>
  intro a h0 h
  rw [Nat.pow_succ] at h ⊢
  rw [and_step]
  by_cases h1 : a % 2 = 1
  ·rw [ntz_odd h1, if_pos (by omega), show (2 ^ n * 2 - a) / 2 = 2 ^ n - 1 - a / 2 by omega, and_compl n _ (by omega)]
  ·rw [ntz_even h0 (by omega), if_neg (by omega), show (2 ^ n * 2 - a) / 2 = 2 ^ n - a / 2 by omega, ih (a / 2) (by omega) (by omega), Nat.pow_add]; omega
end Go.Proofs.YtobcbhppmgnioaaGreatDoor.Nx
namespace Go.Proofs.YtobcbhppmgnioaaGreatDoor.Nx
def AddI (B n k c : Nat) (cur seg ys : List Nat) : Prop :=
 cur.length = n ∧ Small B cur ∧ cur.drop k = seg.drop k ∧ nval B (cur.take k) + B ^ k * c = nval B (seg.take k) + nval B (ys.take k)
theorem getD_of {xs : List Nat} {k u : Nat} (h : xs[k]? = some u) : xs.getD k 0 = u := by rw [List.getD_eq_getElem?_getD, h]; rfl
theorem getD_out {xs : List Nat} {k : Nat} (h : xs.length ≤ k) : xs.getD k 0 = 0 := by rw [List.getD_eq_getElem?_getD, List.getElem?_eq_none h]; rfl
theorem get_drop {xs ys : List Nat} {k u : Nat} (h : xs.drop k = ys.drop k) (hu : xs[k]? = some u) : ys[k]? = some u := by
 have h1 : (xs.drop k)[0]? = xs[k]? := by simp
 have h2 : (ys.drop k)[0]? = ys[k]? := by simp
 rw [← h2, ← h, h1, hu]
theorem drop_set_succ (xs : List Nat) (k v : Nat) : (xs.set k v).drop (k + 1) = xs.drop (k + 1) := by simp [List.drop_set]
theorem take_set_same (xs : List Nat) (k v : Nat) : (xs.set k v).take k = xs.take k := by
 rw [List.take_set]
 exact List.set_eq_of_length_le (by simp; omega)
theorem getD_set (xs : List Nat) (k v : Nat) (h : k < xs.length) : (xs.set k v).getD k 0 = v := by
 rw [List.getD_eq_getElem?_getD, List.getElem?_set_self h]; rfl
theorem drop_succ_of {xs ys : List Nat} {k : Nat} (h : xs.drop k = ys.drop k) : xs.drop (k + 1) = ys.drop (k + 1) := by
 have := congrArg (List.drop 1) h
 simpa [List.drop_drop, Nat.add_comm] using this
theorem lt_of_get {xs : List Nat} {k u : Nat} (h : xs[k]? = some u) : k < xs.length := by
 rcases Nat.lt_or_ge k xs.length with a | a
 ·exact a
 ·rw [List.getElem?_eq_none a] at h; cases h
theorem AddI.start {B n : Nat} {seg ys : List Nat} (hn : seg.length = n) (hs : Small B seg) : AddI B n 0 0 seg seg ys := ⟨hn, hs, rfl, by simp [nval]⟩
theorem AddI.step {B n k c x y : Nat} {cur seg ys : List Nat} (hB : 2 ≤ B) (h : AddI B n k c cur seg ys) (hx : cur[k]? = some x) (hy : ys.getD k 0 = y) :
  AddI B n (k + 1) ((x + y + c) / B) (cur.set k ((x + y + c) % B)) seg ys := by
 obtain ⟨h1, h2, h3, h4⟩ := h
 have hk := lt_of_get hx
 refine ⟨by simpa using h1, h2.set k (Nat.mod_lt _ (by omega)), by rw [drop_set_succ]; exact drop_succ_of h3, ?_⟩
 rw [nval_take_succ, nval_take_succ, nval_take_succ, take_set_same, getD_set _ _ _ hk, getD_of (get_drop h3 hx), hy, Nat.pow_succ]
 have hm := Nat.mod_add_div (x + y + c) B
 generalize (x + y + c) % B = v at *
 generalize (x + y + c) / B = d at *
 generalize nval B (cur.take k) = a at *
 generalize nval B (seg.take k) = b at *
 generalize nval B (ys.take k) = e at *
 generalize B ^ k = P at *
 have : P * v + P * B * d = P * x + P * y + P * c := by
  rw [← Nat.mul_add, ← Nat.mul_add, ← hm]; grind
 omega
theorem AddI.carry {B n k c x y : Nat} {cur seg ys : List Nat} (h : AddI B n k c cur seg ys) (hx : cur[k]? = some x) (hy : y < B) (hc : c ≤ 1) : (x + y + c) / B ≤ 1 := by
 have := h.2.1.get hx
 have h2 : (x + y + c) / B < 2 := by rw [Nat.div_lt_iff_lt_mul (by omega)]; omega
 omega
theorem AddI.done {B n c : Nat} {cur seg ys : List Nat} (h : AddI B n n c cur seg ys) (hn : seg.length = n) (hm : ys.length ≤ n) : nval B cur + B ^ n * c = nval B seg + nval B ys := by
 obtain ⟨h1, _, _, h4⟩ := h
 rwa [List.take_of_length_le (by omega), List.take_of_length_le (by omega), List.take_of_length_le hm] at h4
theorem AddI.early {B n k : Nat} {cur seg ys : List Nat} (h : AddI B n k 0 cur seg ys) (hn : seg.length = n) (hk : k ≤ n) (hm : ys.length ≤ k) : nval B cur = nval B seg + nval B ys := by
 obtain ⟨h1, _, h3, h4⟩ := h
 rw [nval_split B cur k (by omega), nval_split B seg k (by omega), h3]
 rw [List.take_of_length_le hm] at h4
 omega
def SubI (B n k c : Nat) (cur seg ys : List Nat) : Prop :=
 cur.length = n ∧ Small B cur ∧ cur.drop k = seg.drop k ∧ nval B (cur.take k) + nval B (ys.take k) = nval B (seg.take k) + B ^ k * c
theorem SubI.start {B n : Nat} {seg ys : List Nat} (hn : seg.length = n) (hs : Small B seg) : SubI B n 0 0 seg seg ys := ⟨hn, hs, rfl, by simp [nval]⟩
theorem SubI.step {B n k c x y v d : Nat} {cur seg ys : List Nat} (h : SubI B n k c cur seg ys) (hx : cur[k]? = some x) (hy : ys.getD k 0 = y) (hv : v < B) (he : v + y + c = x + B * d) :
  SubI B n (k + 1) d (cur.set k v) seg ys := by
 obtain ⟨h1, h2, h3, h4⟩ := h
 have hk := lt_of_get hx
 refine ⟨by simpa using h1, h2.set k hv, by rw [drop_set_succ]; exact drop_succ_of h3, ?_⟩
 rw [nval_take_succ, nval_take_succ, nval_take_succ, take_set_same, getD_set _ _ _ hk, getD_of (get_drop h3 hx), hy, Nat.pow_succ]
 generalize nval B (cur.take k) = a at *
 generalize nval B (seg.take k) = b at *
 generalize nval B (ys.take k) = e at *
 generalize B ^ k = P at *
 have : P * v + P * y + P * c = P * x + P * B * d := by
  rw [← Nat.mul_add, ← Nat.mul_add, he]; grind
 omega
theorem sub_word {B x y c : Nat} (hx : x < B) (hy : y < B) (hc : c ≤ 1) :
  (x + B - y - c) % B + y + c = x + B * (if x < y + c then 1 else 0) ∧ (x + B - y - c) % B < B := by
 refine ⟨?_, Nat.mod_lt _ (by omega)⟩
 split
 ·rename_i h
  rw [Nat.mod_eq_of_lt (by omega)]; omega
 ·rename_i h
  have : x + B - y - c = (x - y - c) + B := by omega
  rw [this, Nat.add_mod_right, Nat.mod_eq_of_lt (by omega)]; omega
theorem SubI.done {B n c : Nat} {cur seg ys : List Nat} (h : SubI B n n c cur seg ys) (hn : seg.length = n) (hm : ys.length ≤ n) : nval B cur + nval B ys = nval B seg + B ^ n * c := by
 obtain ⟨h1, _, _, h4⟩ := h
 rwa [List.take_of_length_le (l := cur) (by omega), List.take_of_length_le (l := seg) (by omega), List.take_of_length_le hm] at h4
theorem SubI.early {B n k : Nat} {cur seg ys : List Nat} (h : SubI B n k 0 cur seg ys) (hn : seg.length = n) (hk : k ≤ n) (hm : ys.length ≤ k) : nval B cur + nval B ys = nval B seg := by
 obtain ⟨h1, _, h3, h4⟩ := h
 rw [nval_split B cur k (by omega), nval_split B seg k (by omega), h3]
 rw [List.take_of_length_le hm] at h4
 omega
def MulI (B n k c f : Nat) (cur seg ys : List Nat) : Prop :=
 cur.length = n ∧ Small B cur ∧ cur.drop k = seg.drop k ∧ nval B (cur.take k) + B ^ k * c = nval B (seg.take k) + f * nval B (ys.take k)
theorem MulI.start {B n f : Nat} {seg ys : List Nat} (hn : seg.length = n) (hs : Small B seg) : MulI B n 0 0 f seg seg ys := ⟨hn, hs, rfl, by simp [nval]⟩
theorem MulI.step {B n k c f x y : Nat} {cur seg ys : List Nat} (hB : 2 ≤ B) (h : MulI B n k c f cur seg ys) (hx : cur[k]? = some x) (hy : ys.getD k 0 = y) :
  MulI B n (k + 1) ((x + y * f + c) / B) f (cur.set k ((x + y * f + c) % B)) seg ys := by
 obtain ⟨h1, h2, h3, h4⟩ := h
 have hk := lt_of_get hx
 refine ⟨by simpa using h1, h2.set k (Nat.mod_lt _ (by omega)), by rw [drop_set_succ]; exact drop_succ_of h3, ?_⟩
 rw [nval_take_succ, nval_take_succ, nval_take_succ, take_set_same, getD_set _ _ _ hk, getD_of (get_drop h3 hx), hy, Nat.pow_succ]
 have hm := Nat.mod_add_div (x + y * f + c) B
 generalize (x + y * f + c) % B = v at *
 generalize (x + y * f + c) / B = d at *
 generalize nval B (cur.take k) = a at *
 generalize nval B (seg.take k) = b at *
 generalize nval B (ys.take k) = e at *
 generalize B ^ k = P at *
 have h5 : P * v + P * B * d = P * x + P * (y * f) + P * c := by
  rw [← Nat.mul_add, ← Nat.mul_add, ← hm]; grind
 have h6 : f * (e + P * y) = f * e + P * (y * f) := by grind
 omega
theorem mul_carry {B x y f c : Nat} (hx : x < B) (hy : y < B) (hf : f < B) (hc : c < B) : (x + y * f + c) / B < B := by
 rw [Nat.div_lt_iff_lt_mul (by omega)]
 have h1 : y * f ≤ (B - 1) * (B - 1) := Nat.mul_le_mul (by omega) (by omega)
 obtain ⟨b, rfl⟩ : ∃ b, B = b + 1 := ⟨B - 1, by omega⟩
 rw [Nat.add_sub_cancel] at h1
 have : (b + 1) * (b + 1) = b * b + b + b + 1 := by grind
 omega
theorem MulI.done {B n m c f : Nat} {cur seg ys : List Nat} (h : MulI B n m c f cur seg ys) (hm : ys.length = m) : nval B (cur.take m) + B ^ m * c = nval B (seg.take m) + f * nval B ys := by
 obtain ⟨h1, _, _, h4⟩ := h
 rwa [List.take_of_length_le (l := ys) (by omega)] at h4
end Go.Proofs.YtobcbhppmgnioaaGreatDoor.Nx
namespace Go.Proofs.YtobcbhppmgnioaaGreatDoor
open Nx
structure Q where
 s : Bool
 m : Nat
 e : Int
theorem Q.ext' {a b : Q} (h1 : a.s = b.s) (h2 : a.m = b.m) (h3 : a.e = b.e) : a = b := by cases a; cases b; simp_all
def q0 : Q := ⟨false, 0, 0⟩
def Q.z (q : Q) : Int := if q.s then -(q.m : Int) else (q.m : Int)
def nm (s : Bool) (M : Nat) (e : Int) : Q := if M = 0 then q0 else ⟨s, M / 2 ^ ntz M, e + ntz M⟩
def Canon (q : Q) : Prop := (q.m = 0 → q = q0) ∧ (q.m ≠ 0 → q.m % 2 = 1)
theorem canon0 : Canon q0 := ⟨fun _ => rfl, fun h => absurd rfl h⟩
theorem nm_zero (s : Bool) (e : Int) : nm s 0 e = q0 := by unfold nm; rw [if_pos rfl]
theorem odd_part {M : Nat} (h : M ≠ 0) : M = M / 2 ^ ntz M * 2 ^ ntz M ∧ (M / 2 ^ ntz M) % 2 = 1 := by
 obtain ⟨m, h1, h2⟩ := ntz_split h
 have hp : 0 < 2 ^ ntz M := Nat.pow_pos (by omega)
 have h3 : M / 2 ^ ntz M = m := by
  conv => lhs; lhs; rw [h1]
  rw [Nat.mul_div_cancel_left _ hp]
 rw [h3]
 exact ⟨by rw [Nat.mul_comm]; exact h1, h2⟩
theorem nm_canon (s : Bool) (M : Nat) (e : Int) : Canon (nm s M e) := by
 unfold nm
 split
 ·exact canon0
 ·rename_i h
  have := (odd_part h).2
  exact ⟨fun h' => absurd h' (by show ¬ M / 2 ^ ntz M = 0; omega), fun _ => this⟩
theorem nm_shift (s : Bool) (M : Nat) (e : Int) (k : Nat) : nm s (M * 2 ^ k) (e - k) = nm s M e := by
 have hp : 0 < 2 ^ k := Nat.pow_pos (by omega)
 by_cases h : M = 0
 ·subst h; rw [Nat.zero_mul, nm_zero, nm_zero]
 ·have h' : M * 2 ^ k ≠ 0 := Nat.mul_ne_zero h (by omega)
  have hz : ntz (M * 2 ^ k) = k + ntz M := by rw [Nat.mul_comm]; exact ntz_shift h k
  unfold nm
  rw [if_neg h, if_neg h', hz]
  apply Q.ext'
  ·rfl
  ·show M * 2 ^ k / 2 ^ (k + ntz M) = M / 2 ^ ntz M
   rw [Nat.pow_add, ← Nat.div_div_eq_div_mul, Nat.mul_div_cancel _ hp]
  ·show e - k + ((k + ntz M : Nat) : Int) = e + ntz M
   omega
theorem nm_of {q : Q} (h : Canon q) : nm q.s q.m q.e = q := by
 unfold nm
 split
 ·rename_i h0; exact (h.1 h0).symm
 ·rename_i h0
  have := ntz_odd (h.2 h0)
  rw [this]
  apply Q.ext' <;> simp
def ofz (Z : Int) (e : Int) : Q := nm (decide (Z < 0)) Z.natAbs e
theorem ofz_canon (Z e : Int) : Canon (ofz Z e) := nm_canon _ _ _
theorem nm_ofz (s : Bool) (M : Nat) (e : Int) : nm s M e = ofz (if s then -(M : Int) else (M : Int)) e := by
 unfold ofz
 rcases Nat.eq_zero_or_pos M with h | h
 ·subst h; cases s <;> simp [nm_zero]
 ·cases s <;> simp <;> congr <;> simp <;> omega
theorem ofz_z {q : Q} (h : Canon q) : ofz q.z q.e = q := by
 have := nm_ofz q.s q.m q.e
 rw [nm_of h] at this
 exact this.symm
theorem natAbs_pow (Z : Int) (k : Nat) : (Z * 2 ^ k).natAbs = Z.natAbs * 2 ^ k := by
 rw [Int.natAbs_mul, Int.natAbs_pow]; rfl
theorem pow_posZ (k : Nat) : (0 : Int) < 2 ^ k := Int.pow_pos (by omega)
theorem mul_neg_iff (Z : Int) (k : Nat) : Z * 2 ^ k < 0 ↔ Z < 0 := by
 have hp := pow_posZ k
 constructor
 ·intro h
  rcases Int.lt_or_le Z 0 with h' | h'
  ·exact h'
  ·have := Int.mul_nonneg h' (Int.le_of_lt hp); omega
 ·intro h; exact Int.mul_neg_of_neg_of_pos h hp
theorem ofz_shift (Z e : Int) (k : Nat) : ofz (Z * 2 ^ k) (e - k) = ofz Z e := by
 unfold ofz
 rw [natAbs_pow, nm_shift]
 congr 1
 exact decide_eq_decide.2 (mul_neg_iff Z k)
theorem ofz_zero (e : Int) : ofz 0 e = q0 := by unfold ofz; exact nm_zero _ _
theorem ofz_e (Z e : Int) : e ≤ (ofz Z e).e ∨ (ofz Z e) = q0 := by
 unfold ofz nm
 split
 ·exact .inr rfl
 ·left; show e ≤ e + _; omega
def Q.at (E : Nat) (q : Q) : Int := q.z * 2 ^ (q.e + E).toNat
theorem at0 (E : Nat) : q0.at E = 0 := by unfold Q.at; rw [show q0.z = 0 from rfl, Int.zero_mul]
theorem of_at {E : Nat} {q : Q} (h : Canon q) (hE : -(E : Int) ≤ q.e) : ofz (q.at E) (-(E : Int)) = q := by
 have : -(E : Int) = q.e - ((q.e + E).toNat : Nat) := by omega
 rw [this]
 unfold Q.at
 rw [ofz_shift, ofz_z h]
theorem at_inj {E : Nat} {a b : Q} (ha : Canon a) (hb : Canon b) (h1 : -(E : Int) ≤ a.e) (h2 : -(E : Int) ≤ b.e) (h : a.at E = b.at E) : a = b := by
 rw [← of_at ha h1, ← of_at hb h2, h]
theorem z_nm (s : Bool) (M : Nat) (e : Int) : (nm s M e).z * 2 ^ ((nm s M e).e - e).toNat = if s then -(M : Int) else (M : Int) := by
 by_cases h : M = 0
 ·subst h; rw [nm_zero]; cases s <;> simp [Q.z, q0]
 ·have h1 := (odd_part h).1
  have e1 : nm s M e = ⟨s, M / 2 ^ ntz M, e + ntz M⟩ := by unfold nm; rw [if_neg h]
  rw [e1]
  have e2 : (e + (ntz M : Int) - e).toNat = ntz M := by omega
  show (if s then -((M / 2 ^ ntz M : Nat) : Int) else ((M / 2 ^ ntz M : Nat) : Int)) * 2 ^ (e + (ntz M : Int) - e).toNat = _
  rw [e2]
  have h3 : ((M / 2 ^ ntz M : Nat) : Int) * 2 ^ ntz M = (M : Int) := by
   conv => rhs; rw [h1]
   rw [Int.natCast_mul, Int.natCast_pow]; rfl
  cases s
  ·simpa using h3
  ·simp only [if_true]; rw [Int.neg_mul, h3]
theorem z_ofz (Z e : Int) : (ofz Z e).z * 2 ^ ((ofz Z e).e - e).toNat = Z := by
 unfold ofz
 rw [z_nm]
 by_cases h : Z < 0
 ·simp [h]; omega
 ·simp [h]; omega
theorem at_ofz {E : Nat} {Z e : Int} (h : -(E : Int) ≤ e) : (ofz Z e).at E = Z * 2 ^ (e + E).toNat := by
 rcases ofz_e Z e with h1 | h1
 ·have h2 := z_ofz Z e
  unfold Q.at
  have h3 : ((ofz Z e).e + E).toNat = ((ofz Z e).e - e).toNat + (e + E).toNat := by omega
  rw [h3, Int.pow_add, ← Int.mul_assoc, h2]
 ·have h2 := z_ofz Z e
  rw [h1, show q0.z = 0 from rfl, Int.zero_mul] at h2
  rw [h1, at0, ← h2, Int.zero_mul]
theorem ofz_low {E : Nat} {Z e : Int} (h : -(E : Int) ≤ e) : -(E : Int) ≤ (ofz Z e).e := by
 rcases ofz_e Z e with h1 | h1
 ·omega
 ·rw [h1]; show -(E : Int) ≤ 0; omega
def Q.neg (q : Q) : Q := if q.m = 0 then q0 else ⟨!q.s, q.m, q.e⟩
def Q.abs (q : Q) : Q := if q.m = 0 then q0 else ⟨false, q.m, q.e⟩
theorem neg_canon {q : Q} (h : Canon q) : Canon q.neg := by
 unfold Q.neg
 split
 ·exact canon0
 ·rename_i h0; exact ⟨fun h' => absurd h' h0, fun h' => h.2 h'⟩
theorem abs_canon {q : Q} (h : Canon q) : Canon q.abs := by
 unfold Q.abs
 split
 ·exact canon0
 ·rename_i h0; exact ⟨fun h' => absurd h' h0, fun h' => h.2 h'⟩
theorem z_neg (q : Q) : q.neg.z = -q.z := by
 unfold Q.neg Q.z
 split
 ·rename_i h; rw [h]; simp [q0]
 ·cases q.s <;> simp
theorem e_neg {q : Q} (h : Canon q) : q.neg.e = q.e := by
 unfold Q.neg
 split
 ·rename_i h0; rw [h.1 h0]
 ·rfl
theorem m_neg (q : Q) : q.neg.m = q.m := by
 unfold Q.neg
 split
 ·rename_i h0; rw [h0]; rfl
 ·rfl
def lowe (a b : Q) : Int := min a.e b.e
def Q.up (q : Q) (e : Int) : Int := q.z * 2 ^ (q.e - e).toNat
def plus (a b : Q) : Q := ofz (a.up (lowe a b) + b.up (lowe a b)) (lowe a b)
def minus (a b : Q) : Q := plus a b.neg
def times (a b : Q) : Q := ofz (a.z * b.z) (a.e + b.e)
def scale (a : Q) (k : Int) : Q := if a.m = 0 then q0 else ⟨a.s, a.m, a.e + k⟩
theorem up_at {E : Nat} {q : Q} {e : Int} (h1 : -(E : Int) ≤ e) (h2 : e ≤ q.e) : q.up e * 2 ^ (e + E).toNat = q.at E := by
 unfold Q.up Q.at
 rw [Int.mul_assoc, ← Int.pow_add]
 congr 2; omega
theorem at_plus {E : Nat} {a b : Q} (h1 : -(E : Int) ≤ a.e) (h2 : -(E : Int) ≤ b.e) : (plus a b).at E = a.at E + b.at E := by
 have hl : -(E : Int) ≤ lowe a b := by unfold lowe; omega
 unfold plus
 rw [at_ofz hl, Int.add_mul, up_at hl (by unfold lowe; omega), up_at hl (by unfold lowe; omega)]
theorem low_plus {E : Nat} {a b : Q} (h1 : -(E : Int) ≤ a.e) (h2 : -(E : Int) ≤ b.e) : -(E : Int) ≤ (plus a b).e := ofz_low (by unfold lowe; omega)
theorem at_neg {E : Nat} {a : Q} (h : Canon a) : a.neg.at E = -a.at E := by
 unfold Q.at; rw [z_neg, e_neg h, Int.neg_mul]
theorem at_minus {E : Nat} {a b : Q} (hb : Canon b) (h1 : -(E : Int) ≤ a.e) (h2 : -(E : Int) ≤ b.e) : (minus a b).at E = a.at E - b.at E := by
 unfold minus; rw [at_plus h1 (by rw [e_neg hb]; exact h2), at_neg hb]; omega
theorem at_times {E F : Nat} {a b : Q} (h1 : -(E : Int) ≤ a.e) (h2 : -(F : Int) ≤ b.e) : (times a b).at (E + F) = a.at E * b.at F := by
 unfold times
 rw [at_ofz (by omega)]
 unfold Q.at
 have : (a.e + b.e + ((E + F : Nat) : Int)).toNat = (a.e + E).toNat + (b.e + F).toNat := by omega
 rw [this, Int.pow_add]
 generalize (2 : Int) ^ (a.e + E).toNat = p
 generalize (2 : Int) ^ (b.e + F).toNat = r
 rw [Int.mul_assoc, Int.mul_assoc, ← Int.mul_assoc b.z, Int.mul_comm b.z p, Int.mul_assoc p]
theorem low_times {E F : Nat} {a b : Q} (h1 : -(E : Int) ≤ a.e) (h2 : -(F : Int) ≤ b.e) : -((E + F : Nat) : Int) ≤ (times a b).e := ofz_low (by omega)
theorem at_more {E F : Nat} {a : Q} (h1 : -(E : Int) ≤ a.e) : a.at (E + F) = a.at E * 2 ^ F := by
 unfold Q.at
 have : (a.e + ((E + F : Nat) : Int)).toNat = (a.e + E).toNat + F := by omega
 rw [this, Int.pow_add, Int.mul_assoc]
def cmpq (a b : Q) : Int := if a.up (lowe a b) < b.up (lowe a b) then -1 else if b.up (lowe a b) < a.up (lowe a b) then 1 else 0
def signq (a : Q) : Int := if a.m = 0 then 0 else if a.s then -1 else 1
theorem signq_z {a : Q} : signq a = if a.z < 0 then -1 else if 0 < a.z then 1 else 0 := by
 unfold signq Q.z
 rcases Nat.eq_zero_or_pos a.m with h | h
 ·simp [h]
 ·cases a.s
  ·simp; rw [if_neg (by omega), if_neg (by omega), if_pos (by omega)]
  ·simp; rw [if_neg (by omega), if_pos (by omega)]
theorem lt_mul_pos {x y p : Int} (hp : 0 < p) : x * p < y * p ↔ x < y := Int.mul_lt_mul_right hp
theorem cmpq_at {E : Nat} {a b : Q} (h1 : -(E : Int) ≤ a.e) (h2 : -(E : Int) ≤ b.e) : cmpq a b = if a.at E < b.at E then -1 else if b.at E < a.at E then 1 else 0 := by
 have hl : -(E : Int) ≤ lowe a b := by unfold lowe; omega
 rw [← up_at hl (q := a) (by unfold lowe; omega), ← up_at hl (q := b) (by unfold lowe; omega)]
 unfold cmpq
 simp only [lt_mul_pos (pow_posZ _)]
theorem signq_at {E : Nat} {a : Q} : signq a = if a.at E < 0 then -1 else if 0 < a.at E then 1 else 0 := by
 rw [signq_z]
 have hp := pow_posZ (a.e + E).toNat
 have e1 := lt_mul_pos (x := a.z) (y := 0) hp
 have e2 := lt_mul_pos (x := 0) (y := a.z) hp
 rw [Int.zero_mul] at e1 e2
 unfold Q.at
 simp only [e1, e2]
end Go.Proofs.YtobcbhppmgnioaaGreatDoor
