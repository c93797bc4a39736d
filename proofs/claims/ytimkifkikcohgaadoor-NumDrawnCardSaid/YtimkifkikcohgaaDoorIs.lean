/- The digits of the document's answers: Part, Words, Bits, Zeros. -/
import Derived.Test.YtimkifkikcohgaaDoorPart
namespace Go.Proofs.YtimkifkikcohgaaDoor
open Go.RowKit Nx

/-- A slice of digits that is just those of N. -/
def Dg (w : World) (A : Option Addr) (n c N : Nat) : Prop := Rd .u32 w 0 w.heap.size A n c (digs B32 N)
theorem Dg.step {w w' : World} {A : Option Addr} {n c N : Nat} (h : Dg w A n c N) (hb : Below w.heap.size w w') : Dg w' A n c N := rd_step h hb
theorem pow_64_32 (k : Nat) : B64 ^ k = B32 ^ (2 * k) := by rw [pow64, pow32]; congr 1; omega
theorem Dg.len {w : World} {A : Option Addr} {n c N k : Nat} (h : Dg w A n c N) (hk : N < B64 ^ k) : n ≤ 2 * k := by
  rw [← h.1]; exact digs_len_le B32_two (by rw [← pow_64_32]; exact hk)
/-- New digits are returned. -/
def NewDg (W : World) (N : Nat) (e : Ending) (w' : World) : Prop := ∃ (A : Option Addr) (n c : Nat), e = .returned (.slice A n c) ∧ Dg w' A n c N ∧ Below W.heap.size W w'
theorem NewDg.of {W w' : World} {N M : Nat} {e : Ending} (h : DigPost W N e w') (hN : N = M) : NewDg W M e w' := by
  obtain ⟨A, n, c, he, h1, h2⟩ := h
  subst hN
  exact ⟨A, n, c, he, h1.less (Nat.zero_le _), h2⟩
theorem part_is {W : World} {A : Option Addr} {n c X k : Nat} (ha : Has W A n c X k) (hk : k ≤ 100000) : Calls Tryd.prog 47 #[.slice A n c] W (NewDg W X) := by
  obtain ⟨xs, a1, a2, rfl, a4⟩ := ha
  exact (part_any W 0 _ A n c xs a1 a2 (by omega) (Nat.le_refl _)).mono fun e w' h => NewDg.of h rfl
theorem wordsof_is {W : World} {A : Option Addr} {n c N k : Nat} (ha : Dg W A n c N) (hN : N < B64 ^ k) (hk : k ≤ 100000) : Calls Tryd.prog 50 #[.slice A n c] W (NewIs W N) :=
  (words32_any W 0 _ A n c N ha (by have := ha.len hN; omega) (Nat.le_refl _)).mono fun e w' h => NewIs.of h rfl
theorem bits_has {W : World} {A : Option Addr} {n c X k : Nat} (ha : Has W A n c X k) (hk : k ≤ 100000) : Calls Tryd.prog 44 #[.slice A n c] W fun e w' => e = .returned (.int .i64 (nbits X : Int)) ∧ W = w' := by
  obtain ⟨xs, a1, a2, rfl, a4⟩ := ha
  exact bits_any W 0 _ A n c xs a1 a2 (by omega)
theorem zeros_has {W : World} {A : Option Addr} {n c X k : Nat} (ha : Has W A n c X k) (hk : k ≤ 100000) (ht : Tab W) : Calls Tryd.prog 45 #[.slice A n c] W fun e w' => e = .returned (.int .i64 (ntz X : Int)) ∧ W = w' := by
  obtain ⟨xs, a1, a2, rfl, a4⟩ := ha
  exact zeros_any W 0 _ A n c xs a1 a2 (by omega) ht
theorem rzeros_is {W : World} {A : Option Addr} {n c N k : Nat} (ha : Dg W A n c N) (hN : N < B64 ^ k) (hk : k ≤ 100000) : Calls Tryd.prog 48 #[.slice A n c] W fun e w' => e = .returned (.int .i64 (ntz N : Int)) ∧ W = w' := by
  have := zeros32_any W 0 _ A n c _ ha (small_digs B32_two _) (by have := ha.len hN; omega)
  rwa [nval_digs B32_two] at this
end Go.Proofs.YtimkifkikcohgaaDoor
