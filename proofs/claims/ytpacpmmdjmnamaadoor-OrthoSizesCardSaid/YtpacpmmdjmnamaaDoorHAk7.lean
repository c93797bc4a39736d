/- Decks: what is drawn. -/
import Derived.Test.YtpacpmmdjmnamaaDoorHAi7
import Derived.Test.YtpacpmmdjmnamaaDoorHAkA
import Derived.Test.YtpacpmmdjmnamaaDoorHAj2
namespace Go.Proofs.YtpacpmmdjmnamaaDoor
open Go.RowKit Nx
set_option linter.unusedVariables false
set_option linter.unusedSimpArgs false
theorem ub : IntKind.u64.bits = 64 := rfl
theorem dk0 {k : Nat} : (0 : Int) ≤ ((k : Nat) : Int) := Int.natCast_nonneg k
noncomputable def Tseat_num : Tbl := one 33 (gBWI fun b l z => (l.length ≤ 100, nA (res (nm b (nval B64 l) z)).1))
theorem Tseat_num_ok : TbOK Tryd.prog Tseat_num := one_ok (ent Tryd.func33 (by kernel_rfl) rfl) fun args e h hp => by
  obtain ⟨b, l, z, rfl, rfl⟩ := gBWI_eq h
  exact ctBWI rfl (fun w Al nl cl ht hl hn => (snum_any w b z Al nl cl l hl (by have := hl.1.1; have hp : l.length ≤ 100 := hp; omega)).mono fun _ _ h => post_n (res_fits _) h)
theorem bits_in {op : BinOp} {a b : Int} : (0 ≤ bits op .u64 a b ∧ bits op .u64 a b < 18446744073709551616) ↔ True := by
  refine iff_of_true ?_ trivial
  unfold bits
  simp only [IntKind.wrap_u64]
  omega
theorem wrap_in {a : Int} : (0 ≤ IntKind.u64.wrap a ∧ IntKind.u64.wrap a < 18446744073709551616) ↔ True := by
  refine iff_of_true ?_ trivial
  rw [IntKind.wrap_u64]; omega
theorem shr_nat (v t : Nat) (ht : t ≤ 64) : ((v : Int).fdiv (2 ^ min t 64)) = ((v / 2 ^ t : Nat) : Int) := by
  rw [Nat.min_eq_left ht, Int.fdiv_eq_ediv_of_nonneg _ (Int.le_of_lt (pow_posZ t)), Int.natCast_ediv, Int.natCast_pow]; rfl
end Go.Proofs.YtpacpmmdjmnamaaDoor
namespace Go.Proofs.YtpacpmmdjmnamaaDoor
open Go.RowKit Nx
set_option linter.unusedVariables false
set_option linter.unusedSimpArgs false
def GX (x : X) : Prop := x.ok = true ∧ Small B64 x.xs
theorem gx_q {q : Q} (h : Valid q) : GX (qx q) := ⟨(qx_ok h).1, (qx_ok h).2.1⟩
theorem abs_gx {x : X} (h : GX x) : GX (qx (absx x)) ∧ 0 ≤ (qx (absx x)).v := by
  have hv := ok_arg h.1 h.2
  rw [absx_ok h.1 h.2]
  exact ⟨gx_q (abs_valid hv), by rw [abs_nat hv]; exact Int.natCast_nonneg _⟩
end Go.Proofs.YtpacpmmdjmnamaaDoor
