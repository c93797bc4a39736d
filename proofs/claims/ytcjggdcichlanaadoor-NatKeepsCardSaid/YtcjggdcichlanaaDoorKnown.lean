/- known: some numbers. -/
import Derived.Test.YtcjggdcichlanaaDoorHelp
namespace Go.Proofs.YtcjggdcichlanaaDoor
open Go.RowKit Nx

theorem Tab.below {w W : World} (h : Tab w) (hb : Below w.heap.size w W) : Tab W := fun i hi => by
  rw [← h i hi]; exact hb.cell (World.block_lt_of_cell? w _ (h i hi))

/-- A block of words written out. -/
def wd (a : Nat) : Obj := .cells #[.int .u64 (a : Int)] 27
def wd2 (a b : Nat) : Obj := .cells #[.int .u64 (a : Int), .int .u64 (b : Int)] 27

theorem one_rd (W : World) (a : Nat) : Rd .u64 (W.alloc (wd a)) 0 (W.alloc (wd a)).heap.size (some ⟨W.heap.size, 0, none⟩) 1 1 [a] := built1 W a 0 _ _ rfl (Nat.zero_le _) (by simp)
theorem two_rd (W : World) (a b : Nat) : Rd .u64 (W.alloc (wd2 a b)) 0 (W.alloc (wd2 a b)).heap.size (some ⟨W.heap.size, 0, none⟩) 2 2 [a, b] := built2 W a b 0 _ _ rfl (Nat.zero_le _) (by simp)
theorem one_below (W : World) (o : Obj) : Below W.heap.size W (W.alloc o) := (Below.refl _ _).alloc (Nat.le_refl _) _
theorem pair_rd (W : World) (a b : Nat) : Rd .u64 ((W.alloc (wd a)).alloc (wd b)) 0 ((W.alloc (wd a)).alloc (wd b)).heap.size (some ⟨W.heap.size, 0, none⟩) 1 1 [a] ∧
    Rd .u64 ((W.alloc (wd a)).alloc (wd b)) 0 ((W.alloc (wd a)).alloc (wd b)).heap.size (some ⟨W.heap.size + 1, 0, none⟩) 1 1 [b] ∧ Below W.heap.size W ((W.alloc (wd a)).alloc (wd b)) :=
  ⟨((one_rd W a).alloc (Nat.le_refl _) _).wide (by simp), built1 (W.alloc (wd a)) b 0 _ _ (by simp) (Nat.zero_le _) (by simp), ((Below.refl _ _).alloc (Nat.le_refl _) _).alloc (by simp) _⟩
theorem below_step {w W W' : World} (h : Below w.heap.size w W) (h' : Below W.heap.size W W') : Below w.heap.size w W' := h.trans (h'.mono h.size)
theorem rd_step {k : IntKind} {W W' : World} {n c : Nat} {A : Option Addr} {xs : List Nat} (h : Rd k W 0 W.heap.size A n c xs) (h' : Below W.heap.size W W') : Rd k W' 0 W'.heap.size A n c xs := (h.below h').more h'.size

theorem k_div (W : World) : Calls Tryd.prog 27 #[.slice (some ⟨W.heap.size, 0, none⟩) 1 1, .slice (some ⟨W.heap.size + 1, 0, none⟩) 1 1] ((W.alloc (wd 7)).alloc (wd 2))
    fun e w' => ∃ (Aq Ar : Option Addr) (nq cq nr cr : Nat), e = .returned (.tuple #[.slice Aq nq cq, .slice Ar nr cr, .bool true]) ∧ Rd .u64 w' 0 w'.heap.size Aq nq cq [3] ∧ Rd .u64 w' 0 w'.heap.size Ar nr cr [1] ∧ Below W.heap.size W w' := by
  obtain ⟨h1, h2, h3⟩ := pair_rd W 7 2
  refine (div_any _ 0 _ _ _ 1 1 1 1 [7] [2] h1 h2 (small1 (by unfold B64; omega)) (small1 (by unfold B64; omega)) (by omega) (by omega) (Nat.le_refl _)).mono ?_
  rintro e w' ⟨Aq, Ar, nq, cq, nr, cr, qs, rs, rfl, g1, g2, g3, g4, _⟩
  rw [nval1, nval1] at g4
  obtain ⟨e1, e2⟩ := g4 (by omega)
  rw [show 7 / 2 = 3 from rfl, digs1 (by unfold B64; omega) (by omega)] at e1
  rw [show 7 % 2 = 1 from rfl, digs1 (by unfold B64; omega) (by omega)] at e2
  subst e1; subst e2
  exact ⟨Aq, Ar, nq, cq, nr, cr, by rw [nval1]; rfl, g1.less (Nat.zero_le _), g2.less (Nat.zero_le _), below_step h3 g3⟩

theorem k_sub (W : World) : Calls Tryd.prog 22 #[.slice (some ⟨W.heap.size, 0, none⟩) 1 1, .slice (some ⟨W.heap.size + 1, 0, none⟩) 1 1] ((W.alloc (wd 5)).alloc (wd 3))
    fun e w' => ∃ (A : Option Addr) (n c : Nat), e = .returned (.tuple #[.slice A n c, .bool true]) ∧ Rd .u64 w' 0 w'.heap.size A n c [2] ∧ Below W.heap.size W w' := by
  obtain ⟨h1, h2, h3⟩ := pair_rd W 5 3
  refine (sub_any _ 0 _ _ _ 1 1 1 1 [5] [3] h1 h2 (small1 (by unfold B64; omega)) (small1 (by unfold B64; omega)) (by omega) (by omega) (Nat.le_refl _)).mono ?_
  rintro e w' ⟨A, n, c, rfl, g1, g2, _⟩
  rw [nval1, nval1, show 5 - 3 = 2 from rfl, digs1 (by unfold B64; omega) (by omega)] at g1
  exact ⟨A, n, c, by rw [nval1, nval1]; rfl, g1.less (Nat.zero_le _), below_step h3 g2⟩

/-- A new number, as the walk of known takes it. -/
def NewPost (W : World) (xs : List Nat) (e : Ending) (w' : World) : Prop := ∃ (A : Option Addr) (n c : Nat), e = .returned (.slice A n c) ∧ Rd .u64 w' 0 w'.heap.size A n c xs ∧ Below W.heap.size W w'
theorem NewPost.of {W W1 w' : World} {N : Nat} {xs : List Nat} {e : Ending} (h : NumPost W1 N e w') (hb : Below W.heap.size W W1) (hx : digs B64 N = xs) : NewPost W xs e w' := by
  obtain ⟨A, n, c, he, h1, h2, _⟩ := h
  rw [hx] at h1
  exact ⟨A, n, c, he, h1.less (Nat.zero_le _), below_step hb h2⟩

theorem k_add (W : World) : Calls Tryd.prog 24 #[.slice (some ⟨W.heap.size, 0, none⟩) 1 1, .slice (some ⟨W.heap.size + 1, 0, none⟩) 1 1] ((W.alloc (wd 18446744073709551615)).alloc (wd 1)) (NewPost W [0, 1]) := by
  obtain ⟨h1, h2, h3⟩ := pair_rd W 18446744073709551615 1
  refine (add_any _ 0 _ _ _ 1 1 1 1 [18446744073709551615] [1] h1 h2 (small1 (by unfold B64; omega)) (small1 (by unfold B64; omega)) (by omega) (by omega) (Nat.le_refl _)).mono ?_
  intro e w' h
  refine NewPost.of h h3 ?_
  rw [nval1, nval1, digs_pos B64_two (by omega), show (18446744073709551615 + 1) / B64 = 1 by unfold B64; rfl, digs1 (by unfold B64; omega) (by omega)]
  unfold B64; rfl
theorem k_mul (W : World) : Calls Tryd.prog 28 #[.slice (some ⟨W.heap.size, 0, none⟩) 1 1, .slice (some ⟨W.heap.size + 1, 0, none⟩) 1 1] ((W.alloc (wd 3)).alloc (wd 4)) (NewPost W [12]) := by
  obtain ⟨h1, h2, h3⟩ := pair_rd W 3 4
  refine (mul_any _ 0 _ _ _ 1 1 1 1 [3] [4] h1 h2 (small1 (by unfold B64; omega)) (small1 (by unfold B64; omega)) (by omega) (by omega) (Nat.le_refl _)).mono ?_
  intro e w' h
  refine NewPost.of h h3 ?_
  rw [nval1, nval1, show 3 * 4 = 12 from rfl, digs1 (by unfold B64; omega) (by omega)]
theorem k_shift (W : World) : Calls Tryd.prog 31 #[.slice (some ⟨W.heap.size, 0, none⟩) 1 1, .int .i64 (-1)] (W.alloc (wd 5)) (NewPost W [2]) := by
  refine (shift_any _ 0 _ _ 1 1 (-1) [5] (one_rd W 5) (small1 (by unfold B64; omega)) (by omega) (Nat.le_refl _)).mono ?_
  intro e w' h
  refine NewPost.of h (one_below W _) ?_
  rw [nval1, shv_down (b := 1) (by omega) (by omega), show 5 / 2 ^ 1 = 2 from rfl, digs1 (by unfold B64; omega) (by omega)]
theorem k_trim (W : World) : Calls Tryd.prog 15 #[.slice (some ⟨W.heap.size, 0, none⟩) 2 2] (W.alloc (wd2 1 0)) (NewPost W [1]) := by
  refine (trim_any _ 0 _ _ 2 2 [1, 0] (two_rd W 1 0) (Small.cons (by unfold B64; omega) (small1 (by unfold B64; omega))) (by omega) (Nat.le_refl _)).mono ?_
  intro e w' h
  refine NewPost.of h (one_below W _) ?_
  rw [show nval B64 [1, 0] = 1 by simp [nval], digs1 (by unfold B64; omega) (by omega)]
theorem k_cmp (W : World) : Calls Tryd.prog 23 #[.slice (some ⟨W.heap.size, 0, none⟩) 1 1, .slice (some ⟨W.heap.size + 1, 0, none⟩) 1 1] ((W.alloc (wd 2)).alloc (wd 1))
    fun e w' => e = .returned (.int .i64 1) ∧ Below W.heap.size W w' := by
  obtain ⟨h1, h2, h3⟩ := pair_rd W 2 1
  refine (cmp_any _ 0 _ _ _ 1 1 1 1 [2] [1] h1 h2 (small1 (by unfold B64; omega)) (small1 (by unfold B64; omega)) (by omega) (by omega)).mono ?_
  rintro e w' ⟨m, rfl, rfl⟩
  exact ⟨by rw [nval1, nval1, cmpv_gt (by omega)], below_drewN h3 m⟩
theorem k_bits (W : World) : Calls Tryd.prog 17 #[.slice (some ⟨W.heap.size, 0, none⟩) 1 1] (W.alloc (wd 4)) fun e w' => e = .returned (.int .i64 3) ∧ Below W.heap.size W w' := by
  refine (bits_any _ 0 _ _ 1 1 [4] (one_rd W 4) (small1 (by unfold B64; omega)) (by omega)).mono ?_
  rintro e w' ⟨rfl, rfl⟩
  exact ⟨by rw [nval1, nbits_of (n := 4) (k := 3) (by omega) (by omega)]; rfl, one_below W _⟩
theorem k_zeros (W : World) (ht : Tab W) : Calls Tryd.prog 19 #[.slice (some ⟨W.heap.size, 0, none⟩) 1 1] (W.alloc (wd 4)) fun e w' => e = .returned (.int .i64 2) ∧ Below W.heap.size W w' := by
  refine (zeros_any _ 0 _ _ 1 1 [4] (one_rd W 4) (small1 (by unfold B64; omega)) (by omega) (ht.below (one_below W _))).mono ?_
  rintro e w' ⟨rfl, rfl⟩
  refine ⟨?_, one_below W _⟩
  rw [nval1, show 4 = 2 ^ 2 * 1 from rfl, ntz_shift (by omega), ntz_odd (n := 1) (by omega)]; rfl
theorem k_right (W : World) : Calls Tryd.prog 13 #[.slice (some ⟨W.heap.size, 0, none⟩) 1 1] (W.alloc (wd 1)) fun e w' => e = .returned (.bool true) ∧ Below W.heap.size W w' := by
  refine (right_any _ 0 _ _ 1 1 [1] (one_rd W 1) (by omega)).mono ?_
  rintro e w' ⟨rfl, rfl⟩
  exact ⟨rfl, one_below W _⟩
/-- A number held against one word that is written out. -/
theorem k_words (W : World) (A : Option Addr) (n c v : Nat) (h : Rd .u64 W 0 W.heap.size A n c [v]) : Calls Tryd.prog 14 #[.slice A n c, .slice (some ⟨W.heap.size, 0, none⟩) 1 1] (W.alloc (wd v))
    fun e w' => e = .returned (.bool true) ∧ Below W.heap.size W w' := by
  have hn : 1 = n := h.1
  refine (words_same _ 0 _ 0 _ A _ n c 1 1 [v] (rd_step h (one_below W _)) (one_rd W v) (by omega)).mono ?_
  rintro e w' ⟨m, rfl, rfl⟩
  exact ⟨rfl, below_drewN (one_below W _) m⟩
theorem k_words2 (W : World) (A : Option Addr) (n c u v : Nat) (h : Rd .u64 W 0 W.heap.size A n c [u, v]) : Calls Tryd.prog 14 #[.slice A n c, .slice (some ⟨W.heap.size, 0, none⟩) 2 2] (W.alloc (wd2 u v))
    fun e w' => e = .returned (.bool true) ∧ Below W.heap.size W w' := by
  have hn : 2 = n := h.1
  refine (words_same _ 0 _ 0 _ A _ n c 2 2 [u, v] (rd_step h (one_below W _)) (two_rd W u v) (by omega)).mono ?_
  rintro e w' ⟨m, rfl, rfl⟩
  exact ⟨rfl, below_drewN (one_below W _) m⟩
end Go.Proofs.YtcjggdcichlanaaDoor
