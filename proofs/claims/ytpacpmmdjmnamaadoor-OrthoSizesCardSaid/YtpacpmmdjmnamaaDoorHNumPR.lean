/- fathomlineref1: Less, Order, Exact. fathomlineref1: Straight, CmpNum. The contracts for valid numbers; fathomlinehelp.Zero; light. -/
import Derived.Test.YtpacpmmdjmnamaaDoorHNumMO
namespace Go.Proofs.YtpacpmmdjmnamaaDoor
open Go.RowKit Nx
theorem up_abs {q : Q} {t : Int} : (q.up t).natAbs = q.m * 2 ^ (q.e - t).toNat := by
  rw [up_eq]
  split
  · rw [Int.natAbs_neg, Int.natAbs_natCast]
  · rw [Int.natAbs_natCast]
instance : DecidableEq Q := fun a b => decidable_of_iff (a.s = b.s ∧ a.m = b.m ∧ a.e = b.e) ⟨fun ⟨h1, h2, h3⟩ => Q.ext' h1 h2 h3, fun h => by subst h; exact ⟨rfl, rfl, rfl⟩⟩
theorem okb_of {w : World} {A : Option Addr} {n c : Nat} {q : Q} (h : Is w A n c q.m) (hv : Valid q) : okb q.s q.e n (digs B64 q.m) = true := by
  obtain ⟨hc, f1, f2, f3⟩ := hv
  have hl : (digs B64 q.m).length = n := h.1
  unfold okb
  by_cases h0 : n = 0
  · rw [if_pos h0]
    have := hc.1 ((is_zero h).1 h0)
    rw [this]; rfl
  · rw [if_neg h0]
    have hm : q.m ≠ 0 := fun hm => h0 ((is_zero h).2 hm)
    have hlast : (digs B64 q.m).getD (n - 1) 0 ≠ 0 := by
      obtain ⟨y, hg⟩ : ∃ y, (digs B64 q.m)[n - 1]? = some y := ⟨_, List.getElem?_eq_getElem (by omega)⟩
      rw [getD_of hg]
      exact digs_last B64_two _ _ (by rw [List.getLast?_eq_getElem?, hl]; exact hg)
    have hodd : (digs B64 q.m).getD 0 0 % 2 = 1 := by
      rw [digs_pos B64_two hm]
      show q.m % B64 % 2 = 1
      have := hc.2 hm
      unfold B64; omega
    have hle : n ≤ 64 := is_len h f1
    simp only [Bool.and_eq_true, decide_eq_true_eq]
    exact ⟨⟨⟨⟨hlast, hle⟩, hodd⟩, f2⟩, f3⟩
section
variable {w : World} {a b : Q} {A B : Option Addr} {n c m d : Nat}
theorem v_arg (h : Is w A n c a.m) (hv : Valid a) : n ≤ 100000 := by have := is_len h hv.2.1; omega
theorem nsign_v (ha : Is w A n c a.m) (va : Valid a) : Calls Tryd.prog 16 #[.agg #[.bool a.s, .int .i64 a.e, .slice A n c]] w (IPost w (signq a)) := by
  have := nsign_any w a.s a.e A n c _ (is_arg ha) (v_arg ha va)
  rwa [okb_of ha va, if_pos rfl, nval_digs B64_two] at this
end
theorem valid0 : Valid q0 := ⟨canon0, fits0⟩
theorem res_valid {q : Q} (h : Canon q) : Valid (res q).1 := by
  by_cases hf : Fits q
  · rw [res_ok hf]; exact ⟨h, hf⟩
  · rw [res_over hf]; exact valid0
theorem num_is {lo : Nat} {w : World} {A : Option Addr} {n c N : Nat} (h : Rd .u64 w lo w.heap.size A n c (digs B64 N)) : Is w A n c N := h.less (Nat.zero_le _)
end Go.Proofs.YtpacpmmdjmnamaaDoor
