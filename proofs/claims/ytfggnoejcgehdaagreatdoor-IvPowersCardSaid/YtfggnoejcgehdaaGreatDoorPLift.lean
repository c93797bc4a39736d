/- From a law's walk to its statement: the arguments opened, the table, the witness's world. -/
import Derived.Test.YtfggnoejcgehdaaGreatDoorCards
import Derived.Test.YtfggnoejcgehdaaGreatDoorTie
import Derived.Test.YtfggnoejcgehdaaGreatDoorPNatE
import Derived.WalkKit
import Derived.ProofKit
import Derived.OpenShut
import Derived.Deep.DeepHandedRow
import Derived.Lib.LaidTab
import Derived.Lib.SmallJoins
import Derived.Deep.Strs
namespace Go.Proofs.YtfggnoejcgehdaaGreatDoor
open Go.ChangeShapes Go.WideShapes Go.ChangeAt Go.RowKit Nx
theorem own : ownKnob Tryz.prog.godebug = none := by kernel_rfl
theorem laidOut : laidOutB Tryz.prog = true := by kernel_rfl
theorem gTab : Tryz.prog.globalNamed "math/bits.deBruijn64tab" = some 0 := by kernel_rfl
theorem gTabType : (Tryz.prog.globals[0]?).map (·.type) = some 152 := by kernel_rfl
theorem cellsTab : Tryz.prog.cellsOf 152 = 64 := by kernel_rfl
theorem cells8 : Tryz.prog.cellsOf 5 = 1 := by kernel_rfl
theorem cells64 : Tryz.prog.cellsOf 53 = 1 := by kernel_rfl
theorem tab_of {W : World} (h : laidMetH Tryz.prog [("math/bits.deBruijn64tab", Rows.laid_math_bits_deBruijn64tab)] W) : Tab W := by
  have ht : Lib.TabIs Tryz.prog W "math/bits.deBruijn64tab" .u8 (deb.map fun (x : Nat) => (x : Int)) :=
    Lib.tabIs_of_head (rest := []) gTab gTabType Tryz.underlying152 Tryz.underlying5 cells8 cellsTab h
  intro i hi
  have hl : i < deb.length := hi
  have := ht.cell gTab i (by simpa using hl)
  rw [this]
  congr 2
  simp [List.getD_eq_getElem?_getD, List.getElem?_eq_getElem hl]
theorem view {H : Type} {enc : TypeId × Value → H} {W : World} {fuel : Nat} {a0 : Option Addr} {len cap : Nat} {d : DataW H} {p : List MemPlace}
    (hf : DataW.trod enc Tryz.prog W 0 (fun _ => true) true fuel 22 (Value.slice a0 len cap).cells.toList = some (d, p)) : ∃ xs : List Nat, Arg W a0 len cap xs := by
  rcases open_ints Tryz.underlying22 Tryz.underlying53 cells64 hf with ⟨hcs, hx⟩ | ⟨a, len', cap', zs, hcs, _, hl, hm, hz, hx, hcell, hwz⟩
  · simp [Value.cells] at hcs
    obtain ⟨rfl, rfl, rfl⟩ := hcs
    exact ⟨[], Rd.none_, Small.nil⟩
  · simp [Value.cells] at hcs
    obtain ⟨rfl, rfl, rfl⟩ := hcs
    simp only [if_true] at hz
    have hb : ∀ z ∈ zs, 0 ≤ z ∧ z < 18446744073709551616 := fun z hzm => by
      have := hwz z hzm
      simp only [Lit.wf, Bool.and_eq_true, decide_eq_true_iff] at this
      have h1 : IntKind.u64.min = 0 := rfl
      have h2 : IntKind.u64.max = 18446744073709551615 := rfl
      omega
    refine ⟨(zs.take len).map Int.toNat, ⟨by simp; omega, hl, fun hp => ⟨a, rfl, Nat.zero_le _, ?_, fun j u hu => ?_⟩⟩, ?_⟩
    · have := hcell 0 (by omega)
      have := World.block_lt_of_cell? W _ this
      rwa [block_of_add] at this
    · rw [List.getElem?_map, Option.map_eq_some_iff] at hu
      obtain ⟨z, hz1, rfl⟩ := hu
      rw [List.getElem?_take] at hz1
      split at hz1
      · have hj := (List.getElem?_eq_some_iff.1 hz1).1
        rw [hcell j hj, List.getD_eq_getElem?_getD, hz1]
        have := hb z (List.mem_of_getElem? hz1)
        simp only [Option.getD_some]
        congr 2
        omega
      · cases hz1
    · intro x hx'
      rw [List.mem_map] at hx'
      obtain ⟨z, hz1, rfl⟩ := hx'
      have := hb z (List.mem_of_mem_take hz1)
      unfold B64; omega
noncomputable def laidWorld (os : Os) : World :=
  { World.holding Tryz.prog os ⟨#[], #[], []⟩ with heap := (World.holding Tryz.prog os ⟨#[], #[], []⟩).heap.modify 0 fun
      | .cells _ t frozen => .cells (deb.map fun (x : Nat) => Value.int .u8 (x : Int)).toArray t frozen
      | o => o }
end Go.Proofs.YtfggnoejcgehdaaGreatDoor
namespace Go.Proofs.YtfggnoejcgehdaaGreatDoor
open Go.ChangeShapes Go.WideShapes Go.ChangeAt Go.RowKit Go.Joins Nx
theorem cellsNum : Tryz.prog.cellsOf 24 = 3 := by kernel_rfl
theorem view_cell {H : Type} {enc : TypeId × Value → H} {W : World} {fuel : Nat} {v : Value} {y : DataW H × List MemPlace}
    (hf : DataW.trod enc Tryz.prog W 0 (fun _ => true) true fuel 22 [v] = some y) : ∃ (A : Option Addr) (n c : Nat) (xs : List Nat), v = .slice A n c ∧ Arg W A n c xs := by
  obtain ⟨d, p⟩ := y
  have h2 := hf
  rcases open_ints Tryz.underlying22 Tryz.underlying53 cells64 hf with ⟨hcs, hx⟩ | ⟨a, len', cap', zs, hcs, _, hl, hm, hz, hx, hcell, hwz⟩
  · simp at hcs
    subst hcs
    obtain ⟨xs, h⟩ := view (a0 := none) (len := 0) (cap := 0) (by simpa [Value.cells] using h2)
    exact ⟨none, 0, 0, xs, rfl, h⟩
  · simp at hcs
    subst hcs
    obtain ⟨xs, h⟩ := view (a0 := some a) (len := len') (cap := cap') (by simpa [Value.cells] using h2)
    exact ⟨some a, len', cap', xs, rfl, h⟩
set_option maxRecDepth 100000 in
theorem view_num {H : Type} {enc : TypeId × Value → H} {W : World} {base : Nat} {v : Value} {d : DataW H} {p : List MemPlace} (hv : Value.okWide Tryz.prog W .any base 24 v)
    (h : DataW.Trod enc Tryz.prog W 0 (fun _ => true) true 24 v d p) : ∃ (s : Bool) (e : Int) (A : Option Addr) (n c : Nat) (xs : List Nat), v = .agg #[.bool s, .int .i64 e, .slice A n c] ∧ Arg W A n c xs := by
  obtain ⟨v0, v1, v2, y0, y1, y2, k, rfl, rfl, rfl, hy0, hy1, hy2⟩ := open_agg3 Tryz.underlying24 (by kernel_rfl) cellsNum hv h
  obtain ⟨b, e0, rfl⟩ := DataW.trod_bool Tryz.underlying4 hy0
  obtain ⟨i, e1, rfl, _⟩ := DataW.trod_int Tryz.underlying2 hy1
  obtain ⟨A, n, c, xs, rfl, hx⟩ := view_cell hy2
  simp at e0 e1
  subst e0 e1
  exact ⟨b, i, A, n, c, xs, rfl, hx⟩
end Go.Proofs.YtfggnoejcgehdaaGreatDoor
namespace Go.Proofs.YtfggnoejcgehdaaGreatDoor
open Go.ChangeShapes Go.WideShapes Go.ChangeAt Go.RowKit Go.Joins Nx
theorem cellsIv : Tryz.prog.cellsOf 26 = 6 := by kernel_rfl
set_option maxRecDepth 100000 in
theorem view_iv {H : Type} {enc : TypeId × Value → H} {W : World} {base : Nat} {v : Value} {d : DataW H} {p : List MemPlace} (hv : Value.okWide Tryz.prog W .any base 26 v)
    (h : DataW.Trod enc Tryz.prog W 0 (fun _ => true) true 26 v d p) : ∃ (s : Bool) (e : Int) (A : Option Addr) (n c : Nat) (xs : List Nat) (s' : Bool) (e' : Int) (A' : Option Addr) (n' c' : Nat) (xs' : List Nat),
      v = .agg #[.bool s, .int .i64 e, .slice A n c, .bool s', .int .i64 e', .slice A' n' c'] ∧ Arg W A n c xs ∧ Arg W A' n' c' xs' := by
  obtain ⟨cs, rfl, hsz⟩ := okWide_struct Tryz.underlying26 hv
  obtain ⟨fuel, hf⟩ := h
  obtain ⟨y0, y1, n, hx, _, h0, h1⟩ := trod_struct2 Tryz.underlying26 hf
  rw [cellsIv] at hsz
  obtain ⟨l⟩ := cs
  simp only [List.size_toArray] at hsz
  match l, hsz with
  | [c0, c1, c2, c3, c4, c5], _ =>
    have key : ∀ (a0 a1 a2 : Value) (n : Nat) (y : DataW H × List MemPlace), DataW.trod enc Tryz.prog W 0 (fun _ => true) true n 24 [a0, a1, a2] = some y →
        ∃ (s : Bool) (e : Int) (A : Option Addr) (n c : Nat) (xs : List Nat), a0 = .bool s ∧ a1 = .int .i64 e ∧ a2 = .slice A n c ∧ Arg W A n c xs := by
      intro a0 a1 a2 n y hy
      obtain ⟨z0, z1, z2, m, _, _, g0, g1, g2⟩ := Go.Deep.trod_struct3 Tryz.underlying24 hy
      have g0 : DataW.trod enc Tryz.prog W 0 (fun _ => true) true m 4 [a0] = some z0 := g0
      have g1 : DataW.trod enc Tryz.prog W 0 (fun _ => true) true m 2 [a1] = some z1 := g1
      have g2 : DataW.trod enc Tryz.prog W 0 (fun _ => true) true m 22 [a2] = some z2 := g2
      obtain ⟨b, e0, rfl⟩ := DataW.trod_bool Tryz.underlying4 g0
      obtain ⟨i, e1, rfl, _⟩ := DataW.trod_int Tryz.underlying2 g1
      obtain ⟨A, n, c, xs, rfl, hx⟩ := view_cell g2
      simp at e0 e1
      subst e0 e1
      exact ⟨b, i, A, n, c, xs, rfl, rfl, rfl, hx⟩
    have h0 : DataW.trod enc Tryz.prog W 0 (fun _ => true) true n 24 [c0, c1, c2] = some y0 := by
      have := h0
      simpa [cellsNum, Value.cells] using this
    have h1 : DataW.trod enc Tryz.prog W 0 (fun _ => true) true n 24 [c3, c4, c5] = some y1 := by
      have := h1
      simpa [cellsNum, Value.cells] using this
    obtain ⟨s, e, A, n1, k1, xs, rfl, rfl, rfl, ha⟩ := key _ _ _ _ _ h0
    obtain ⟨t, f, B, n2, k2, ys, rfl, rfl, rfl, hb⟩ := key _ _ _ _ _ h1
    exact ⟨s, e, A, n1, k1, xs, t, f, B, n2, k2, ys, rfl, ha, hb⟩
end Go.Proofs.YtfggnoejcgehdaaGreatDoor
