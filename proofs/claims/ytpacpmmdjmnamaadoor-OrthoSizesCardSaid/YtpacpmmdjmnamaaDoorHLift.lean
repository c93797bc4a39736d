/- From a law's walk to its statement: the arguments opened, the table, the witness's world. -/
import Derived.Test.YtpacpmmdjmnamaaDoorCards
import Derived.Test.YtpacpmmdjmnamaaDoorTie
import Derived.Test.YtpacpmmdjmnamaaDoorHNat1
import Derived.WalkKit
import Derived.ProofKit
import Derived.OpenShut
import Derived.Deep.DeepHandedRow
import Derived.Lib.LaidTab
import Derived.Lib.SmallJoins
namespace Go.Proofs.YtpacpmmdjmnamaaDoor
open Go.ChangeShapes Go.WideShapes Go.ChangeAt Go.RowKit Nx
theorem own : ownKnob Tryd.prog.godebug = none := by kernel_rfl
theorem laidOut : laidOutB Tryd.prog = true := by kernel_rfl
theorem gTab : Tryd.prog.globalNamed "math/bits.deBruijn64tab" = some 0 := by kernel_rfl
theorem gTabType : (Tryd.prog.globals[0]?).map (·.type) = some 96 := by kernel_rfl
theorem cellsTab : Tryd.prog.cellsOf 96 = 64 := by kernel_rfl
theorem cells8 : Tryd.prog.cellsOf 5 = 1 := by kernel_rfl
theorem cells64 : Tryd.prog.cellsOf 32 = 1 := by kernel_rfl
theorem tab_of {W : World} (h : laidMetH Tryd.prog [("math/bits.deBruijn64tab", Rows.laid_math_bits_deBruijn64tab)] W) : Tab W := by
  have ht : Lib.TabIs Tryd.prog W "math/bits.deBruijn64tab" .u8 (deb.map fun (x : Nat) => (x : Int)) :=
    Lib.tabIs_of_head (rest := []) gTab gTabType Tryd.underlying96 Tryd.underlying5 cells8 cellsTab h
  intro i hi
  have hl : i < deb.length := hi
  have := ht.cell gTab i (by simpa using hl)
  rw [this]
  congr 2
  simp [List.getD_eq_getElem?_getD, List.getElem?_eq_getElem hl]
theorem view {H : Type} {enc : TypeId × Value → H} {W : World} {fuel : Nat} {a0 : Option Addr} {len cap : Nat} {d : DataW H} {p : List MemPlace}
    (hf : DataW.trod enc Tryd.prog W 0 (fun _ => true) true fuel 22 (Value.slice a0 len cap).cells.toList = some (d, p)) : ∃ xs : List Nat, Arg W a0 len cap xs := by
  rcases open_ints Tryd.underlying22 Tryd.underlying32 cells64 hf with ⟨hcs, hx⟩ | ⟨a, len', cap', zs, hcs, _, hl, hm, hz, hx, hcell, hwz⟩
  · simp [Value.cells] at hcs
    obtain ⟨rfl, rfl, rfl⟩ := hcs
    exact ⟨[], Rd.none_, Small.nil⟩
  · simp [Value.cells] at hcs
    obtain ⟨rfl, rfl, rfl⟩ := hcs
    simp only [if_true] at hz
    have hb : ∀ z ∈ zs, 0 ≤ z ∧ z < 18446744073709551616 := fun z hzm => by
      have := hwz z hzm
      simp only [Lit.wf, Bool.and_eq_true, decide_eq_true_iff] at this
      have h1 : IntKind.u64.min = 0 := rfl
      have h2 : IntKind.u64.max = 18446744073709551615 := rfl
      omega
    refine ⟨(zs.take len).map Int.toNat, ⟨by simp; omega, hl, fun hp => ⟨a, rfl, Nat.zero_le _, ?_, fun j u hu => ?_⟩⟩, ?_⟩
    · have := hcell 0 (by omega)
      have := World.block_lt_of_cell? W _ this
      rwa [block_of_add] at this
    · rw [List.getElem?_map, Option.map_eq_some_iff] at hu
      obtain ⟨z, hz1, rfl⟩ := hu
      rw [List.getElem?_take] at hz1
      split at hz1
      · have hj := (List.getElem?_eq_some_iff.1 hz1).1
        rw [hcell j hj, List.getD_eq_getElem?_getD, hz1]
        have := hb z (List.mem_of_getElem? hz1)
        simp only [Option.getD_some]
        congr 2
        omega
      · cases hz1
    · intro x hx'
      rw [List.mem_map] at hx'
      obtain ⟨z, hz1, rfl⟩ := hx'
      have := hb z (List.mem_of_mem_take hz1)
      unfold B64; omega
noncomputable def laidWorld (os : Os) : World :=
  { World.holding Tryd.prog os ⟨#[], #[], []⟩ with heap := (World.holding Tryd.prog os ⟨#[], #[], []⟩).heap.modify 0 fun
      | .cells _ t frozen => .cells (deb.map fun (x : Nat) => Value.int .u8 (x : Int)).toArray t frozen
      | o => o }
end Go.Proofs.YtpacpmmdjmnamaaDoor
namespace Go.Proofs.YtpacpmmdjmnamaaDoor
open Go.ChangeShapes Go.WideShapes Go.ChangeAt Go.RowKit Go.Joins Nx
end Go.Proofs.YtpacpmmdjmnamaaDoor
