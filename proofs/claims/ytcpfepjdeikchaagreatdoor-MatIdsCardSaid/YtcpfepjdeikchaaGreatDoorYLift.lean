/- From a law's walk to its statement: the arguments opened, the table, the witness's world. -/
import Derived.Test.YtcpfepjdeikchaaGreatDoorYNum1
import Derived.Test.YtcpfepjdeikchaaGreatDoorYNumPR
import Derived.Test.YtcpfepjdeikchaaGreatDoorCards
import Derived.Test.YtcpfepjdeikchaaGreatDoorTie
import Derived.Test.YtcpfepjdeikchaaGreatDoorYNat1
import Derived.WalkKit
import Derived.ProofKit
import Derived.OpenShut
import Derived.Deep.DeepHandedRow
import Derived.Lib.LaidTab
import Derived.Lib.SmallJoins
import Derived.Deep.Strs
namespace Go.Proofs.YtcpfepjdeikchaaGreatDoor
section
open Go.RowKit Nx
section

end
section
theorem kn_get_other {a : Act} {d d' : Tmp} {v : Value} (h : d ≠ d') : (a.put (some d) v).tmps[d']? = a.tmps[d']? := by
 simp only [Act.put, Array.getElem?_setIfInBounds_ne h]
theorem kn_get_same {a : Act} {d : Tmp} {v : Value} (h : d < a.tmps.size) : (a.put (some d) v).tmps[d]? = some v := by
 simp [Act.put, h]
theorem kn_size_put (a : Act) (d : Tmp) (v : Value) : (a.put (some d) v).tmps.size = a.tmps.size := by simp [Act.put]
theorem want_none {o : Oper} {f : Nat → Option Bool} (hg : o.guard = none) : Region.wanted o f = true := by simp [Region.wanted, hg]
def Kno (s : Nat) (a : Act) (l : List (Nat × Value)) : Prop := a.tmps.size = s ∧ a.defers = [] ∧ ∀ t v, (t, v) ∈ l → a.tmps[t]? = some v
theorem Kno.put {s : Nat} {a : Act} {l : List (Nat × Value)} (h : Kno s a l) (d : Tmp) (v : Value) (hd : d < s) (hf : (l.all fun p => !(p.1 == d)) = true) : Kno s (a.put (some d) v) ((d, v) :: l) := by
 refine ⟨(kn_size_put ..).trans h.1, h.2.1, fun t u hm => ?_⟩
 rcases List.mem_cons.1 hm with e | e
 ·injection e with e1 e2
  subst e1; subst e2
  exact kn_get_same (by rw [h.1]; exact hd)
 ·have := List.all_eq_true.1 hf _ e
  have hne : t ≠ d := by simpa using this
  exact (kn_get_other (Ne.symm hne)).trans (h.2.2 t u e)
theorem Kno.ev {s : Nat} {a : Act} {l : List (Nat × Value)} (h : Kno s a l) {t : Nat} {v : Value} (hm : (t, v) ∈ l) : a.eval (.tmp t) = v := by
 simp only [Act.eval, Array.getD_eq_getD_getElem?]
 rw [h.2.2 t v hm]; rfl
theorem Kno.less {s : Nat} {a : Act} {l l' : List (Nat × Value)} (h : Kno s a l) (hs : ∀ p, p ∈ l' → p ∈ l) : Kno s a l' := ⟨h.1, h.2.1, fun t v hm => h.2.2 t v (hs _ hm)⟩
section
variable {ops : Array Oper} {Q : Exit → Act → World → Prop} {S : World → Prop} {fuel sz : Nat} {L L' : Array Bool} {a : Act} {w : World} {l : List (Nat × Value)}
end
section
variable {ρ : Operand → Value} {o : Oper} {w : World}
end
end
end
section
section
open Go.ChangeShapes Go.WideShapes Go.ChangeAt Go.RowKit Nx
theorem own : ownKnob Tryz.prog.godebug = none := by kernel_rfl
theorem laidOut : laidOutB Tryz.prog = true := by kernel_rfl
theorem gTab : Tryz.prog.globalNamed "math/bits.deBruijn64tab" = some 0 := by kernel_rfl
theorem gTabType : (Tryz.prog.globals[0]?).map (·.type) = some 193 := by kernel_rfl
theorem cellsTab : Tryz.prog.cellsOf 193 = 64 := by kernel_rfl
theorem cells8 : Tryz.prog.cellsOf 5 = 1 := by kernel_rfl
theorem cells64 : Tryz.prog.cellsOf 67 = 1 := by kernel_rfl
theorem tab_of {W : World} (h : laidMetH Tryz.prog [("math/bits.deBruijn64tab", Rows.laid_math_bits_deBruijn64tab)] W) : Tab W := by
 have ht : Lib.TabIs Tryz.prog W "math/bits.deBruijn64tab" .u8 (deb.map fun (x : Nat) => (x : Int)) :=
  Lib.tabIs_of_head (rest := []) gTab gTabType Tryz.underlying193 Tryz.underlying5 cells8 cellsTab h
 intro i hi
 have hl : i < deb.length := hi
 have := ht.cell gTab i (by simpa using hl)
 rw [this]
 congr 2
 simp [List.getD_eq_getElem?_getD, List.getElem?_eq_getElem hl]
theorem view {H : Type} {enc : TypeId × Value → H} {W : World} {fuel : Nat} {a0 : Option Addr} {len cap : Nat} {d : DataW H} {p : List MemPlace}
  (hf : DataW.trod enc Tryz.prog W 0 (fun _ => true) true fuel 32 (Value.slice a0 len cap).cells.toList = some (d, p)) : ∃ xs : List Nat, Arg W a0 len cap xs := by
 rcases open_ints Tryz.underlying32 Tryz.underlying67 cells64 hf with ⟨hcs, hx⟩ | ⟨a, len', cap', zs, hcs, _, hl, hm, hz, hx, hcell, hwz⟩
 ·simp [Value.cells] at hcs
  obtain ⟨rfl, rfl, rfl⟩ := hcs
  exact ⟨[], Rd.none_, Small.nil⟩
 ·simp [Value.cells] at hcs
  obtain ⟨rfl, rfl, rfl⟩ := hcs
  simp only [if_true] at hz
  have hb : ∀ z ∈ zs, 0 ≤ z ∧ z < 18446744073709551616 := fun z hzm => by
   have := hwz z hzm
   simp only [Lit.wf, Bool.and_eq_true, decide_eq_true_iff] at this
   have h1 : IntKind.u64.min = 0 := rfl
   have h2 : IntKind.u64.max = 18446744073709551615 := rfl
   omega
  refine ⟨(zs.take len).map Int.toNat, ⟨by simp; omega, hl, fun hp => ⟨a, rfl, Nat.zero_le _, ?_, fun j u hu => ?_⟩⟩, ?_⟩
  ·have := hcell 0 (by omega)
   have := World.block_lt_of_cell? W _ this
   rwa [block_of_add] at this
  ·rw [List.getElem?_map, Option.map_eq_some_iff] at hu
   obtain ⟨z, hz1, rfl⟩ := hu
   rw [List.getElem?_take] at hz1
   split at hz1
   ·have hj := (List.getElem?_eq_some_iff.1 hz1).1
    rw [hcell j hj, List.getD_eq_getElem?_getD, hz1]
    have := hb z (List.mem_of_getElem? hz1)
    simp only [Option.getD_some]
    congr 2
    omega
   ·cases hz1
  ·intro x hx'
   rw [List.mem_map] at hx'
   obtain ⟨z, hz1, rfl⟩ := hx'
   have := hb z (List.mem_of_mem_take hz1)
   unfold B64; omega
noncomputable def laidWorld (os : Os) : World :=
 { World.holding Tryz.prog os ⟨#[], #[], []⟩ with heap := (World.holding Tryz.prog os ⟨#[], #[], []⟩).heap.modify 0 fun
   | .cells _ t frozen => .cells (deb.map fun (x : Nat) => Value.int .u8 (x : Int)).toArray t frozen
   | o => o }
end
section
open Go.ChangeShapes Go.WideShapes Go.ChangeAt Go.RowKit Go.Joins Nx
end
section
open Go.ChangeShapes Go.WideShapes Go.ChangeAt Go.RowKit Go.Joins Nx
end
end
end Go.Proofs.YtcpfepjdeikchaaGreatDoor
