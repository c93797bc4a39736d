/- From a law's walk to its statement, where the row lists five variables: the two tables that are read; the witness's world. -/
import Derived.Test.YtdmnohmjobofhaaDoorLiftN
import Derived.Test.YtdmnohmjobofhaaDoorDgB
import Derived.LaidMore
import Derived.MakeChecks
import Derived.ChangeMaps5
import Derived.Stop.LaidErr
namespace Go.Proofs.YtdmnohmjobofhaaDoor
open Go.ChangeShapes Go.WideShapes Go.ChangeAt Go.RowKit Nx

def fiveLaid : List (String × DataW Unit) := [("math/bits.deBruijn32tab", Rows.laid_math_bits_deBruijn32tab), ("math/bits.deBruijn64tab", Rows.laid_math_bits_deBruijn64tab), ("internal/strconv.uint64pow10", Rows.laid_internal_strconv_uint64pow10), ("strconv.ErrRange", Rows.laid_strconv_ErrRange), ("strconv.ErrSyntax", Rows.laid_strconv_ErrSyntax)]
theorem five_met {W : World} (h : laidMetH Tryd.prog fiveLaid W) : laidMet Tryd.prog fiveLaid W := by
  rw [MakeChecks.laidMetH_plain _ _ _ (by kernel_rfl)] at h; exact h
theorem gPow : Tryd.prog.globalNamed "internal/strconv.uint64pow10" = some 1 := by kernel_rfl
theorem gPowType : (Tryd.prog.globals[1]?).map (·.type) = some 122 := by kernel_rfl
theorem cellsPow : Tryd.prog.cellsOf 122 = 20 := by kernel_rfl
theorem tab_ofs {W : World} (h : laidMetH Tryd.prog fiveLaid W) : Tab W := by
  have ht : Lib.TabIs Tryd.prog W "math/bits.deBruijn64tab" .u8 (deb.map fun (x : Nat) => (x : Int)) :=
    Lib.tabIs_of_head gTab gTabType Tryd.underlying88 Tryd.underlying5 cells8 cellsTab (five_met h).tail
  intro i hi
  have hl : i < deb.length := hi
  have := ht.cell gTab i (by simpa using hl)
  rw [this]
  congr 2
  simp [List.getD_eq_getElem?_getD, List.getElem?_eq_getElem hl]
theorem pw_ofs {W : World} (h : laidMetH Tryd.prog fiveLaid W) : Pw W :=
  Lib.tabIs_of_head gPow gPowType Tryd.underlying122 Tryd.underlying41 cells64 cellsPow (five_met h).tail.tail
/-- A world for the witness: the one that the variables' own initialisers leave. -/
noncomputable def laidWorldS (os : Os) : World := World.doorLaid Tryd.prog 400 os
end Go.Proofs.YtdmnohmjobofhaaDoor
