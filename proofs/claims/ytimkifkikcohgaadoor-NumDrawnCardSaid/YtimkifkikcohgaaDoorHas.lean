/- Slices that hold a number: the contracts as the laws use them. -/
import Derived.Test.YtimkifkikcohgaaDoorStep
namespace Go.Proofs.YtimkifkikcohgaaDoor
open Go.RowKit Nx

/-- The slice holds the number X, in at most k words. -/
def Has (w : World) (A : Option Addr) (n c X k : Nat) : Prop := ∃ xs : List Nat, Rd .u64 w 0 w.heap.size A n c xs ∧ Small B64 xs ∧ nval B64 xs = X ∧ n ≤ k
/-- The slice is just the words of N. -/
def Is (w : World) (A : Option Addr) (n c N : Nat) : Prop := Rd .u64 w 0 w.heap.size A n c (digs B64 N)
theorem Has.step {w w' : World} {A : Option Addr} {n c X k : Nat} (h : Has w A n c X k) (hb : Below w.heap.size w w') : Has w' A n c X k := by
  obtain ⟨xs, h1, h2⟩ := h; exact ⟨xs, rd_step h1 hb, h2⟩
theorem Is.step {w w' : World} {A : Option Addr} {n c N : Nat} (h : Is w A n c N) (hb : Below w.heap.size w w') : Is w' A n c N := rd_step h hb
theorem Is.has {w : World} {A : Option Addr} {n c N k : Nat} (h : Is w A n c N) (hk : N < B64 ^ k) : Has w A n c N k :=
  ⟨_, h, small_digs B64_two _, nval_digs B64_two _, by rw [← h.1]; exact digs_len_le B64_two hk⟩
theorem Has.lt {w : World} {A : Option Addr} {n c X k : Nat} (h : Has w A n c X k) : X < B64 ^ k := by
  obtain ⟨xs, h1, h2, rfl, h4⟩ := h
  have := nval_lt h2
  rw [h1.1] at this
  exact Nat.lt_of_lt_of_le this (Nat.pow_le_pow_right (by unfold B64; omega) h4)

/-- A new slice is returned that is just the words of N. -/
def NewIs (W : World) (N : Nat) (e : Ending) (w' : World) : Prop := ∃ (A : Option Addr) (n c : Nat), e = .returned (.slice A n c) ∧ Is w' A n c N ∧ Below W.heap.size W w'
theorem NewIs.of {W w' : World} {N M : Nat} {e : Ending} (h : NumPost W N e w') (hN : N = M) : NewIs W M e w' := by
  obtain ⟨A, n, c, he, h1, h2, _⟩ := h
  subst hN
  exact ⟨A, n, c, he, h1.less (Nat.zero_le _), h2⟩

section
variable {W : World} {A B : Option Addr} {n c m d X Y k l : Nat}
theorem add_is (ha : Has W A n c X k) (hb : Has W B m d Y l) (hk : k ≤ 100000) (hl : l ≤ 100000) : Calls Tryd.prog 73 #[.slice A n c, .slice B m d] W (NewIs W (X + Y)) := by
  obtain ⟨xs, a1, a2, rfl, a4⟩ := ha
  obtain ⟨ys, b1, b2, rfl, b4⟩ := hb
  exact (add_any W 0 _ A B n c m d xs ys a1 b1 a2 b2 (by omega) (by omega) (Nat.le_refl _)).mono fun e w' h => NewIs.of h rfl
theorem mul_is (ha : Has W A n c X k) (hb : Has W B m d Y l) (hk : k ≤ 100000) (hl : l ≤ 100000) : Calls Tryd.prog 56 #[.slice A n c, .slice B m d] W (NewIs W (X * Y)) := by
  obtain ⟨xs, a1, a2, rfl, a4⟩ := ha
  obtain ⟨ys, b1, b2, rfl, b4⟩ := hb
  exact (mul_any W 0 _ A B n c m d xs ys a1 b1 a2 b2 (by omega) (by omega) (Nat.le_refl _)).mono fun e w' h => NewIs.of h rfl
theorem trim_is (ha : Has W A n c X k) (hk : k ≤ 100000) : Calls Tryd.prog 71 #[.slice A n c] W (NewIs W X) := by
  obtain ⟨xs, a1, a2, rfl, a4⟩ := ha
  exact (trim_any W 0 _ A n c xs a1 a2 (by omega) (Nat.le_refl _)).mono fun e w' h => NewIs.of h rfl
theorem shift_is (t : Int) (ha : Has W A n c X k) (hk : k ≤ 100000) : Calls Tryd.prog 63 #[.slice A n c, .int .i64 t] W (NewIs W (shv X t)) := by
  obtain ⟨xs, a1, a2, rfl, a4⟩ := ha
  exact (shift_any W 0 _ A n c t xs a1 a2 (by omega) (Nat.le_refl _)).mono fun e w' h => NewIs.of h rfl
theorem cmp_is (ha : Has W A n c X k) (hb : Has W B m d Y l) (hk : k ≤ 100000) (hl : l ≤ 100000) : Calls Tryd.prog 70 #[.slice A n c, .slice B m d] W fun e w' => e = .returned (.int .i64 (cmpv X Y)) ∧ Below W.heap.size W w' := by
  obtain ⟨xs, a1, a2, rfl, a4⟩ := ha
  obtain ⟨ys, b1, b2, rfl, b4⟩ := hb
  refine (cmp_any W 0 _ A B n c m d xs ys a1 b1 a2 b2 (by omega) (by omega)).mono ?_
  rintro e w' ⟨t, rfl, rfl⟩
  exact ⟨rfl, below_drewN (Below.refl _ _) t⟩
theorem sub_is (ha : Has W A n c X k) (hb : Has W B m d Y l) (hk : k ≤ 100000) (hl : l ≤ 100000) : Calls Tryd.prog 74 #[.slice A n c, .slice B m d] W
    fun e w' => ∃ (A' : Option Addr) (n' c' : Nat), e = .returned (.tuple #[.slice A' n' c', .bool (decide (Y ≤ X))]) ∧ Is w' A' n' c' (X - Y) ∧ Below W.heap.size W w' := by
  obtain ⟨xs, a1, a2, rfl, a4⟩ := ha
  obtain ⟨ys, b1, b2, rfl, b4⟩ := hb
  refine (sub_any W 0 _ A B n c m d xs ys a1 b1 a2 b2 (by omega) (by omega) (Nat.le_refl _)).mono ?_
  rintro e w' ⟨A', n', c', rfl, h1, h2, _⟩
  exact ⟨A', n', c', rfl, h1.less (Nat.zero_le _), h2⟩
theorem right_is {N : Nat} (ha : Is W A n c N) (hk : N < B64 ^ k) (hk' : k ≤ 100000) : Calls Tryd.prog 43 #[.slice A n c] W fun e w' => e = .returned (.bool true) ∧ W = w' := by
  have hn : n ≤ k := by rw [← ha.1]; exact digs_len_le B64_two hk
  refine (right_any W 0 _ A n c _ ha (by omega)).mono ?_
  rintro e w' ⟨rfl, rfl⟩
  refine ⟨congrArg (fun b => Ending.returned (Value.bool b)) ?_, rfl⟩
  rw [decide_eq_true_iff]
  rcases Nat.eq_zero_or_pos n with e | e
  · exact .inl e
  · right
    have hl : n - 1 < (digs B64 N).length := by rw [ha.1]; omega
    have hg := List.getElem?_eq_getElem hl
    rw [getD_of hg]
    exact digs_last B64_two N _ (by rw [List.getLast?_eq_getElem?, ha.1]; exact hg)
theorem words_is {N k : Nat} (ha : Is W A n c N) (hb : Is W B m d N) (hk : N < B64 ^ k) (hk' : k ≤ 100000) : Calls Tryd.prog 41 #[.slice A n c, .slice B m d] W fun e w' => e = .returned (.bool true) ∧ Below W.heap.size W w' := by
  have hn : n ≤ k := by rw [← ha.1]; exact digs_len_le B64_two hk
  refine (words_same W 0 _ 0 _ A B n c m d _ ha hb (by omega)).mono ?_
  rintro e w' ⟨t, rfl, rfl⟩
  exact ⟨rfl, below_drewN (Below.refl _ _) t⟩
end

theorem lt_add {a b x y : Nat} (hx : x < B64 ^ a) (hy : y < B64 ^ b) : x + y < B64 ^ (a + b + 1) := by
  have h1 : B64 ^ a ≤ B64 ^ (a + b) := Nat.pow_le_pow_right (by unfold B64; omega) (by omega)
  have h2 : B64 ^ b ≤ B64 ^ (a + b) := Nat.pow_le_pow_right (by unfold B64; omega) (by omega)
  have h3 : B64 ^ (a + b) * 2 ≤ B64 ^ (a + b) * B64 := Nat.mul_le_mul_left _ B64_two
  rw [Nat.pow_succ]; omega
theorem lt_mul {a b x y : Nat} (hx : x < B64 ^ a) (hy : y < B64 ^ b) : x * y < B64 ^ (a + b) := by
  rw [Nat.pow_add]; exact Nat.mul_lt_mul'' hx hy
theorem lt_up {a b x : Nat} (hx : x < B64 ^ a) (h : a ≤ b) : x < B64 ^ b := Nat.lt_of_lt_of_le hx (Nat.pow_le_pow_right (by unfold B64; omega) h)

/-- An argument: a slice of words of any length. -/
def Arg (w : World) (A : Option Addr) (n c : Nat) (xs : List Nat) : Prop := Rd .u64 w 0 w.heap.size A n c xs ∧ Small B64 xs
theorem Arg.step {w w' : World} {A : Option Addr} {n c : Nat} {xs : List Nat} (h : Arg w A n c xs) (hb : Below w.heap.size w w') : Arg w' A n c xs := ⟨rd_step h.1 hb, h.2⟩
theorem Arg.has {w : World} {A : Option Addr} {n c : Nat} {xs : List Nat} (h : Arg w A n c xs) (hn : n ≤ 40) : Has w A n c (nval B64 xs) 40 := ⟨xs, h.1, h.2, rfl, hn⟩

/-- What a law leaves. -/
def LawPost (w : World) (e : Ending) (w' : World) : Prop := e = .returned (.bool true) ∧ Below w.heap.size w w'
end Go.Proofs.YtimkifkikcohgaaDoor
