/- Worlds step by step; words that are written out. -/
import Derived.Test.YtimkifkikcohgaaDoorHelp
namespace Go.Proofs.YtimkifkikcohgaaDoor
open Go.RowKit Nx

theorem Tab.below {w W : World} (h : Tab w) (hb : Below w.heap.size w W) : Tab W := fun i hi => by
  rw [← h i hi]; exact hb.cell (World.block_lt_of_cell? w _ (h i hi))

/-- A block of words written out. -/
def wd (a : Nat) : Obj := .cells #[.int .u64 (a : Int)] 54
def wd2 (a b : Nat) : Obj := .cells #[.int .u64 (a : Int), .int .u64 (b : Int)] 54

theorem one_rd (W : World) (a : Nat) : Rd .u64 (W.alloc (wd a)) 0 (W.alloc (wd a)).heap.size (some ⟨W.heap.size, 0, none⟩) 1 1 [a] := built1 W a 0 _ _ rfl (Nat.zero_le _) (by simp)
theorem two_rd (W : World) (a b : Nat) : Rd .u64 (W.alloc (wd2 a b)) 0 (W.alloc (wd2 a b)).heap.size (some ⟨W.heap.size, 0, none⟩) 2 2 [a, b] := built2 W a b 0 _ _ rfl (Nat.zero_le _) (by simp)
theorem one_below (W : World) (o : Obj) : Below W.heap.size W (W.alloc o) := (Below.refl _ _).alloc (Nat.le_refl _) _
theorem pair_rd (W : World) (a b : Nat) : Rd .u64 ((W.alloc (wd a)).alloc (wd b)) 0 ((W.alloc (wd a)).alloc (wd b)).heap.size (some ⟨W.heap.size, 0, none⟩) 1 1 [a] ∧
    Rd .u64 ((W.alloc (wd a)).alloc (wd b)) 0 ((W.alloc (wd a)).alloc (wd b)).heap.size (some ⟨W.heap.size + 1, 0, none⟩) 1 1 [b] ∧ Below W.heap.size W ((W.alloc (wd a)).alloc (wd b)) :=
  ⟨((one_rd W a).alloc (Nat.le_refl _) _).wide (by simp), built1 (W.alloc (wd a)) b 0 _ _ (by simp) (Nat.zero_le _) (by simp), ((Below.refl _ _).alloc (Nat.le_refl _) _).alloc (by simp) _⟩
theorem below_step {w W W' : World} (h : Below w.heap.size w W) (h' : Below W.heap.size W W') : Below w.heap.size w W' := h.trans (h'.mono h.size)
theorem rd_step {k : IntKind} {W W' : World} {n c : Nat} {A : Option Addr} {xs : List Nat} (h : Rd k W 0 W.heap.size A n c xs) (h' : Below W.heap.size W W') : Rd k W' 0 W'.heap.size A n c xs := (h.below h').more h'.size

end Go.Proofs.YtimkifkikcohgaaDoor
