/- What NatKeeps holds: the arguments and their copies. -/
import Derived.Test.YtcjggdcichlanaaDoorKeepA
namespace Go.Proofs.YtcjggdcichlanaaDoor
open Go.RowKit Nx

theorem own_form {w : World} {base : Nat} {v : Value} {zs : List Nat} (h : OutL .u64 27 w base v zs) (hz : 0 < zs.length) : ∃ g cap, v = .slice (some ⟨g, 0, none⟩) zs.length cap := by
  rcases h.2 with ⟨_, h0⟩ | ⟨g, cap, cur, hv, _⟩
  · have : (ints .u64 zs).length = 0 := by simpa [ints] using h0
    rw [ints_length] at this; omega
  · exact ⟨g, cap, hv⟩

/-- A copy of a slice, with two words 77 behind it. -/
theorem copy77 (w : World) (A : Option Addr) (n c : Nat) (xs : List Nat) (hr : Rd .u64 w 0 w.heap.size A n c xs) (hn : n ≤ 40) :
    ∃ (v1 : Value) (w1 : World) (g cap : Nat) (w2 : World),
      (Builtin.append_ #[22, 22] 22 #[.slice (some ⟨w.heap.size, 0, none⟩) 0 0, .slice A n c]).run Tryd.prog (w.alloc (.cells #[] 27)) = .ok v1 w1 ∧
      (Builtin.append_ #[22, 22] 22 #[v1, .slice (some ⟨w1.heap.size, 0, none⟩) 2 2]).run Tryd.prog (w1.alloc (.cells #[.int .u64 77, .int .u64 77] 27)) = .ok (.slice (some ⟨g, 0, none⟩) (n + 2) cap) w2 ∧
      Rd .u64 w2 w.heap.size w2.heap.size (some ⟨g, 0, none⟩) (n + 2) cap (xs ++ [77, 77]) ∧ Below w.heap.size w w2 := by
  have b0 := one_below w (.cells #[] 27)
  have hl := hr.1
  obtain ⟨v1, w1, r1, o1, b1⟩ := run_app0 (w.alloc (.cells #[] 27)) w.heap.size w.heap.size n c A xs (Emp.new rfl rfl (Nat.le_refl _)) (rd_step hr b0) (by omega) b0.size
  have b2 := one_below w1 (.cells #[.int .u64 77, .int .u64 77] 27)
  obtain ⟨v2, w2, r2, o2, b3⟩ := run_app2 (w1.alloc (.cells #[.int .u64 77, .int .u64 77] 27)) w.heap.size w1.heap.size v1 xs (o1.keep b2) (Two.new rfl rfl) (Nat.le_trans b0.size (Nat.le_trans b1.size b2.size)) (by omega)
  have hlen : List.length (xs ++ [77, 77] : List Nat) = n + 2 := by simp [hl]
  obtain ⟨g, cap, rfl⟩ := own_form o2 (by omega)
  obtain ⟨A', c', e, rd⟩ := o2.rd
  rw [hlen] at e rd r2
  injection e with e1 e2 e3
  subst e1; subst e3
  exact ⟨v1, w1, g, cap, w2, r1, r2, rd, (below_step b0 (b1.trans (b2.mono b1.size))).trans b3⟩

/-- The arguments and their copies, all below block H. -/
structure Kept (w : World) (H : Nat) (A B : Option Addr) (n c m d : Nat) (xs ys : List Nat) (gx cx gy cy : Nat) : Prop where
  a : Rd .u64 w 0 H A n c xs
  b : Rd .u64 w 0 H B m d ys
  x : Rd .u64 w 0 H (some ⟨gx, 0, none⟩) (n + 2) cx (xs ++ [77, 77])
  y : Rd .u64 w 0 H (some ⟨gy, 0, none⟩) (m + 2) cy (ys ++ [77, 77])
  sx : Small B64 xs
  sy : Small B64 ys
  size : H ≤ w.heap.size
section
variable {w w' : World} {H : Nat} {A B : Option Addr} {n c m d : Nat} {xs ys : List Nat} {gx cx gy cy : Nat}
theorem Kept.below (h : Kept w H A B n c m d xs ys gx cx gy cy) (hb : Below H w w') : Kept w' H A B n c m d xs ys gx cx gy cy :=
  ⟨h.a.below hb, h.b.below hb, h.x.below hb, h.y.below hb, h.sx, h.sy, Nat.le_trans h.size hb.size⟩
theorem Kept.step (h : Kept w H A B n c m d xs ys gx cx gy cy) (hb : Below w.heap.size w w') : Kept w' H A B n c m d xs ys gx cx gy cy := h.below (hb.mono h.size)
theorem Kept.only {lo hi : Nat} (h : Kept w H A B n c m d xs ys gx cx gy cy) (ho : Only lo hi w w') (hl : H ≤ lo) : Kept w' H A B n c m d xs ys gx cx gy cy := h.below (ho.below hl)
theorem Kept.hx (h : Kept w H A B n c m d xs ys gx cx gy cy) (hn : n ≤ 40) : Has w (some ⟨gx, 0, none⟩) n cx (nval B64 xs) 40 := by
  refine ⟨xs, ?_, h.sx, rfl, hn⟩
  have := (h.x.take_ (m := n) (by omega)).more h.size
  rwa [List.take_left' h.a.1] at this
theorem Kept.hy (h : Kept w H A B n c m d xs ys gx cx gy cy) (hm : m ≤ 40) : Has w (some ⟨gy, 0, none⟩) m cy (nval B64 ys) 40 := by
  refine ⟨ys, ?_, h.sy, rfl, hm⟩
  have := (h.y.take_ (m := m) (by omega)).more h.size
  rwa [List.take_left' h.b.1] at this
theorem Kept.ha (h : Kept w H A B n c m d xs ys gx cx gy cy) (hn : n ≤ 40) : Has w A n c (nval B64 xs) 40 := ⟨xs, h.a.more h.size, h.sx, rfl, hn⟩
theorem Kept.hb (h : Kept w H A B n c m d xs ys gx cx gy cy) (hm : m ≤ 40) : Has w B m d (nval B64 ys) 40 := ⟨ys, h.b.more h.size, h.sy, rfl, hm⟩
end

/-- A new number that may be written into. -/
def NewWr (W : World) (N : Nat) (e : Ending) (w' : World) : Prop :=
  ∃ (A : Option Addr) (n c : Nat), e = .returned (.slice A n c) ∧ Rd .u64 w' W.heap.size w'.heap.size A n c (digs B64 N) ∧ Below W.heap.size W w' ∧ Writ w' A n W.heap.size w'.heap.size
theorem NewWr.of {W w' : World} {N M : Nat} {e : Ending} (h : NumPost W N e w') (hN : N = M) : NewWr W M e w' := by
  obtain ⟨A, n, c, he, h1, h2, h3⟩ := h
  subst hN
  exact ⟨A, n, c, he, h1, h2, Writ.of h1 h3⟩
section
variable {W : World} {A B : Option Addr} {n c m d X Y k l : Nat}
theorem add_wr (ha : Has W A n c X k) (hb : Has W B m d Y l) (hk : k ≤ 100000) (hl : l ≤ 100000) : Calls Tryd.prog 24 #[.slice A n c, .slice B m d] W (NewWr W (X + Y)) := by
  obtain ⟨xs, a1, a2, rfl, a4⟩ := ha
  obtain ⟨ys, b1, b2, rfl, b4⟩ := hb
  exact (add_any W 0 _ A B n c m d xs ys a1 b1 a2 b2 (by omega) (by omega) (Nat.le_refl _)).mono fun e w' h => NewWr.of h rfl
theorem trim_wr (ha : Has W A n c X k) (hk : k ≤ 100000) : Calls Tryd.prog 15 #[.slice A n c] W (NewWr W X) := by
  obtain ⟨xs, a1, a2, rfl, a4⟩ := ha
  exact (trim_any W 0 _ A n c xs a1 a2 (by omega) (Nat.le_refl _)).mono fun e w' h => NewWr.of h rfl
theorem div_new (ha : Has W A n c X k) (hb : Has W B m d Y l) (hk : k ≤ 100000) (hl : l ≤ 100000) : Calls Tryd.prog 27 #[.slice A n c, .slice B m d] W
    fun e w' => ∃ v, e = .returned v ∧ Below W.heap.size W w' := by
  obtain ⟨xs, a1, a2, rfl, a4⟩ := ha
  obtain ⟨ys, b1, b2, rfl, b4⟩ := hb
  refine (div_any W 0 _ A B n c m d xs ys a1 b1 a2 b2 (by omega) (by omega) (Nat.le_refl _)).mono ?_
  rintro e w' ⟨Aq, Ar, nq, cq, nr, cr, qs, rs, rfl, g1, g2, g3, _⟩
  exact ⟨_, rfl, g3⟩
end

/-- The relation of the two loops that write. -/
def KeepRel (w : World) (A : Option Addr) (n lo hi : Nat) (u : Value) (wr : World) : Prop := ∃ k : Nat, k ≤ n ∧ u = .int .i64 (k : Int) ∧ Hid (Only lo hi w wr) ∧ Hid (Writ wr A n lo hi)
end Go.Proofs.YtcjggdcichlanaaDoor
