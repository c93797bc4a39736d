/- known, of the laws of num: its numbers. -/
import Derived.Test.YtimkifkikcohgaaDoorNumPR
namespace Go.Proofs.YtimkifkikcohgaaDoor
open Go.RowKit Nx

theorem nm_at {s : Bool} {M k N : Nat} {e t : Int} (ho : M % 2 = 1) (hN : N = M * 2 ^ k) (he : t = e + k) : nm s N e = ⟨s, M, t⟩ := by
  have h := nm_shift s M t k
  rw [show t - (k : Int) = e by omega, ← hN] at h
  rw [h]
  unfold nm
  rw [if_neg (by omega), ntz_odd ho]
  apply Q.ext' <;> simp
theorem k_12 : nm false 12 0 = ⟨false, 3, 2⟩ := nm_at (M := 3) (k := 2) rfl rfl rfl
theorem k_m1 : ofz (-1) 0 = ⟨true, 1, 0⟩ := nm_at (M := 1) (k := 0) rfl rfl rfl
theorem k_2 : ofz 2 0 = ⟨false, 1, 1⟩ := nm_at (M := 1) (k := 1) rfl rfl rfl
theorem k_i12 : ofz 12 0 = ⟨false, 3, 2⟩ := nm_at (M := 3) (k := 2) rfl rfl rfl
theorem k_3 : ofz 3 0 = ⟨false, 3, 0⟩ := nm_at (M := 3) (k := 0) rfl rfl rfl
theorem k_m4 : ofz (-4) 0 = ⟨true, 1, 2⟩ := nm_at (M := 1) (k := 2) rfl rfl rfl
theorem k_1 : ofz 1 0 = ⟨false, 1, 0⟩ := nm_at (M := 1) (k := 0) rfl rfl rfl
theorem k_add : plus ⟨false, 3, 2⟩ ⟨true, 1, 0⟩ = ⟨false, 11, 0⟩ := nm_at (M := 11) (k := 0) rfl rfl rfl
theorem k_mul : times ⟨false, 3, 2⟩ ⟨false, 1, 1⟩ = ⟨false, 3, 3⟩ := nm_at (M := 3) (k := 0) rfl rfl rfl
theorem k_scale : nm false 3 (2 + -2) = ⟨false, 3, 0⟩ := nm_at (M := 3) (k := 0) rfl rfl rfl
theorem k_sub : minus ⟨false, 3, 2⟩ ⟨false, 3, 2⟩ = q0 := nm_zero false 2
theorem k_sign : signq ⟨true, 1, 2⟩ = -1 := rfl
theorem k_cmp : cmpq ⟨false, 3, 2⟩ ⟨false, 3, 3⟩ = -1 := by decide
theorem k_neg : Q.neg ⟨false, 1, 0⟩ = ⟨true, 1, 0⟩ := rfl
theorem k_abs : Q.abs ⟨true, 1, 0⟩ = ⟨false, 1, 0⟩ := rfl
theorem valid_of {s : Bool} {M : Nat} {e : Int} (ho : M % 2 = 1) (hM : M < B64) (h1 : -65536 ≤ e) (h2 : e ≤ 65536) : Valid ⟨s, M, e⟩ :=
  ⟨⟨fun h => by have h : M = 0 := h; omega, fun _ => ho⟩, Nat.lt_of_lt_of_le hM b64_le, h1, h2⟩
theorem vx : Valid ⟨false, 3, 2⟩ := valid_of rfl (by unfold B64; omega) (by omega) (by omega)
theorem vm1 : Valid ⟨true, 1, 0⟩ := valid_of rfl (by unfold B64; omega) (by omega) (by omega)
theorem v2 : Valid ⟨false, 1, 1⟩ := valid_of rfl (by unfold B64; omega) (by omega) (by omega)
theorem v3 : Valid ⟨false, 3, 0⟩ := valid_of rfl (by unfold B64; omega) (by omega) (by omega)
theorem vz : Valid ⟨false, 3, 3⟩ := valid_of rfl (by unfold B64; omega) (by omega) (by omega)
theorem vy : Valid ⟨false, 11, 0⟩ := valid_of rfl (by unfold B64; omega) (by omega) (by omega)
theorem vm4 : Valid ⟨true, 1, 2⟩ := valid_of rfl (by unfold B64; omega) (by omega) (by omega)
theorem v1 : Valid ⟨false, 1, 0⟩ := valid_of rfl (by unfold B64; omega) (by omega) (by omega)
theorem yfit : Fits ⟨false, 11, 0⟩ := vy.2
theorem zfit : Fits ⟨false, 3, 3⟩ := vz.2
theorem ufit : Fits ⟨false, 3, 0⟩ := v3.2
theorem vfit : Fits q0 := fits0
/-- Int, of a number whose form is known. -/
theorem int_k {w : World} (n : Int) {q : Q} (h : ofz n 0 = q) (h1 : -1000 ≤ n) (h2 : n ≤ 1000) (ht : Tab w) : Calls Tryd.prog 20 #[.int .i64 n] w (NumPost1 w q) := by
  rw [← h]; exact nint_any w n (by omega) (by omega) ht
theorem is_one {w : World} {A : Option Addr} {n c v : Nat} (h : Is w A n c v) (hv : v < B64) (h0 : v ≠ 0) : n = 1 := by
  have := h.1; rw [digs1 hv h0] at this; exact this.symm
/-- The words of a small number, against a slice that is written out. -/
theorem words_k {w : World} {A : Option Addr} {n c v : Nat} (h : Is w A n c v) (hv : v < B64) (h0 : v ≠ 0) :
    Calls Tryd.prog 41 #[.slice A n c, .slice (some ⟨w.heap.size, 0, none⟩) 1 1] (w.alloc (.cells #[.int .u64 (v : Int)] 54)) (BoolPost w true) := by
  have h1 := one_rd w v
  have h2 : Is (w.alloc (wd v)) (some ⟨w.heap.size, 0, none⟩) 1 1 v := by unfold Is; rw [digs1 hv h0]; exact h1
  refine (words_is (k := 1) (h.step (one_below w (wd v))) h2 (by rw [Nat.pow_one]; exact hv) (by omega)).mono ?_
  rintro e w' ⟨rfl, b⟩
  exact ⟨rfl, below_step (one_below w _) b⟩

end Go.Proofs.YtimkifkikcohgaaDoor
