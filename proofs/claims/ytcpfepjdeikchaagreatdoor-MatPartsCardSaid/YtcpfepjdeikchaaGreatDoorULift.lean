/- From a law's walk to its statement: the arguments opened, the table, the witness's world. -/
import Derived.Test.YtcpfepjdeikchaaGreatDoorCards
import Derived.Test.YtcpfepjdeikchaaGreatDoorTie
import Derived.Test.YtcpfepjdeikchaaGreatDoorUNat1
import Derived.WalkKit
import Derived.ProofKit
import Derived.OpenShut
import Derived.Deep.DeepHandedRow
import Derived.Lib.LaidTab
import Derived.Lib.SmallJoins
import Derived.Deep.Strs
namespace Go.Proofs.YtcpfepjdeikchaaGreatDoor
open Go.ChangeShapes Go.WideShapes Go.ChangeAt Go.RowKit Nx
theorem own : ownKnob Tryz.prog.godebug = none := by kernel_rfl
theorem laidOut : laidOutB Tryz.prog = true := by kernel_rfl
theorem gTab : Tryz.prog.globalNamed "math/bits.deBruijn64tab" = some 0 := by kernel_rfl
theorem gTabType : (Tryz.prog.globals[0]?).map (·.type) = some 193 := by kernel_rfl
theorem cellsTab : Tryz.prog.cellsOf 193 = 64 := by kernel_rfl
theorem cells8 : Tryz.prog.cellsOf 5 = 1 := by kernel_rfl
theorem cells64 : Tryz.prog.cellsOf 67 = 1 := by kernel_rfl
theorem tab_of {W : World} (h : laidMetH Tryz.prog [("math/bits.deBruijn64tab", Rows.laid_math_bits_deBruijn64tab)] W) : Tab W := by
  have ht : Lib.TabIs Tryz.prog W "math/bits.deBruijn64tab" .u8 (deb.map fun (x : Nat) => (x : Int)) :=
    Lib.tabIs_of_head (rest := []) gTab gTabType Tryz.underlying193 Tryz.underlying5 cells8 cellsTab h
  intro i hi
  have hl : i < deb.length := hi
  have := ht.cell gTab i (by simpa using hl)
  rw [this]
  congr 2
  simp [List.getD_eq_getElem?_getD, List.getElem?_eq_getElem hl]
theorem view {H : Type} {enc : TypeId × Value → H} {W : World} {fuel : Nat} {a0 : Option Addr} {len cap : Nat} {d : DataW H} {p : List MemPlace}
    (hf : DataW.trod enc Tryz.prog W 0 (fun _ => true) true fuel 32 (Value.slice a0 len cap).cells.toList = some (d, p)) : ∃ xs : List Nat, Arg W a0 len cap xs := by
  rcases open_ints Tryz.underlying32 Tryz.underlying67 cells64 hf with ⟨hcs, hx⟩ | ⟨a, len', cap', zs, hcs, _, hl, hm, hz, hx, hcell, hwz⟩
  · simp [Value.cells] at hcs
    obtain ⟨rfl, rfl, rfl⟩ := hcs
    exact ⟨[], Rd.none_, Small.nil⟩
  · simp [Value.cells] at hcs
    obtain ⟨rfl, rfl, rfl⟩ := hcs
    simp only [if_true] at hz
    have hb : ∀ z ∈ zs, 0 ≤ z ∧ z < 18446744073709551616 := fun z hzm => by
      have := hwz z hzm
      simp only [Lit.wf, Bool.and_eq_true, decide_eq_true_iff] at this
      have h1 : IntKind.u64.min = 0 := rfl
      have h2 : IntKind.u64.max = 18446744073709551615 := rfl
      omega
    refine ⟨(zs.take len).map Int.toNat, ⟨by simp; omega, hl, fun hp => ⟨a, rfl, Nat.zero_le _, ?_, fun j u hu => ?_⟩⟩, ?_⟩
    · have := hcell 0 (by omega)
      have := World.block_lt_of_cell? W _ this
      rwa [block_of_add] at this
    · rw [List.getElem?_map, Option.map_eq_some_iff] at hu
      obtain ⟨z, hz1, rfl⟩ := hu
      rw [List.getElem?_take] at hz1
      split at hz1
      · have hj := (List.getElem?_eq_some_iff.1 hz1).1
        rw [hcell j hj, List.getD_eq_getElem?_getD, hz1]
        have := hb z (List.mem_of_getElem? hz1)
        simp only [Option.getD_some]
        congr 2
        omega
      · cases hz1
    · intro x hx'
      rw [List.mem_map] at hx'
      obtain ⟨z, hz1, rfl⟩ := hx'
      have := hb z (List.mem_of_mem_take hz1)
      unfold B64; omega
noncomputable def laidWorld (os : Os) : World :=
  { World.holding Tryz.prog os ⟨#[], #[], []⟩ with heap := (World.holding Tryz.prog os ⟨#[], #[], []⟩).heap.modify 0 fun
      | .cells _ t frozen => .cells (deb.map fun (x : Nat) => Value.int .u8 (x : Int)).toArray t frozen
      | o => o }
end Go.Proofs.YtcpfepjdeikchaaGreatDoor
namespace Go.Proofs.YtcpfepjdeikchaaGreatDoor
open Go.ChangeShapes Go.WideShapes Go.ChangeAt Go.RowKit Go.Joins Nx
theorem cellsNum : Tryz.prog.cellsOf 37 = 3 := by kernel_rfl
theorem view_cell {H : Type} {enc : TypeId × Value → H} {W : World} {fuel : Nat} {v : Value} {y : DataW H × List MemPlace}
    (hf : DataW.trod enc Tryz.prog W 0 (fun _ => true) true fuel 32 [v] = some y) : ∃ (A : Option Addr) (n c : Nat) (xs : List Nat), v = .slice A n c ∧ Arg W A n c xs := by
  obtain ⟨d, p⟩ := y
  have h2 := hf
  rcases open_ints Tryz.underlying32 Tryz.underlying67 cells64 hf with ⟨hcs, hx⟩ | ⟨a, len', cap', zs, hcs, _, hl, hm, hz, hx, hcell, hwz⟩
  · simp at hcs
    subst hcs
    obtain ⟨xs, h⟩ := view (a0 := none) (len := 0) (cap := 0) (by simpa [Value.cells] using h2)
    exact ⟨none, 0, 0, xs, rfl, h⟩
  · simp at hcs
    subst hcs
    obtain ⟨xs, h⟩ := view (a0 := some a) (len := len') (cap := cap') (by simpa [Value.cells] using h2)
    exact ⟨some a, len', cap', xs, rfl, h⟩
end Go.Proofs.YtcpfepjdeikchaaGreatDoor
namespace Go.Proofs.YtcpfepjdeikchaaGreatDoor
open Go.ChangeShapes Go.WideShapes Go.ChangeAt Go.RowKit Go.Joins Nx
theorem cellsIv : Tryz.prog.cellsOf 39 = 6 := by kernel_rfl
end Go.Proofs.YtcpfepjdeikchaaGreatDoor
