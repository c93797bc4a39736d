/- A number that came in: its fields. -/
import Derived.Test.YtdmnohmjobofhaaDoorLift
import Derived.Lib.SmallJoins
namespace Go.Proofs.YtdmnohmjobofhaaDoor
open Go.ChangeShapes Go.WideShapes Go.ChangeAt Go.RowKit Go.Joins Nx

theorem cellsNum : Tryd.prog.cellsOf 28 = 3 := by kernel_rfl
/-- A slice of words, by its cell. -/
theorem view_cell {H : Type} {enc : TypeId × Value → H} {W : World} {fuel : Nat} {v : Value} {y : DataW H × List MemPlace}
    (hf : DataW.trod enc Tryd.prog W 0 (fun _ => true) true fuel 26 [v] = some y) : ∃ (A : Option Addr) (n c : Nat) (xs : List Nat), v = .slice A n c ∧ Arg W A n c xs := by
  obtain ⟨d, p⟩ := y
  have h2 := hf
  rcases open_ints Tryd.underlying26 Tryd.underlying41 cells64 hf with ⟨hcs, hx⟩ | ⟨a, len', cap', zs, hcs, _, hl, hm, hz, hx, hcell, hwz⟩
  · simp at hcs
    subst hcs
    obtain ⟨xs, h⟩ := view (a0 := none) (len := 0) (cap := 0) (by simpa [Value.cells] using h2)
    exact ⟨none, 0, 0, xs, rfl, h⟩
  · simp at hcs
    subst hcs
    obtain ⟨xs, h⟩ := view (a0 := some a) (len := len') (cap := cap') (by simpa [Value.cells] using h2)
    exact ⟨some a, len', cap', xs, rfl, h⟩
set_option maxRecDepth 100000 in
theorem view_num {H : Type} {enc : TypeId × Value → H} {W : World} {base : Nat} {v : Value} {d : DataW H} {p : List MemPlace} (hv : Value.okWide Tryd.prog W .any base 28 v)
    (h : DataW.Trod enc Tryd.prog W 0 (fun _ => true) true 28 v d p) : ∃ (s : Bool) (e : Int) (A : Option Addr) (n c : Nat) (xs : List Nat), v = .agg #[.bool s, .int .i64 e, .slice A n c] ∧ Arg W A n c xs := by
  obtain ⟨v0, v1, v2, y0, y1, y2, k, rfl, rfl, rfl, hy0, hy1, hy2⟩ := open_agg3 Tryd.underlying28 (by kernel_rfl) cellsNum hv h
  obtain ⟨b, e0, rfl⟩ := DataW.trod_bool Tryd.underlying4 hy0
  obtain ⟨i, e1, rfl, _⟩ := DataW.trod_int Tryd.underlying2 hy1
  obtain ⟨A, n, c, xs, rfl, hx⟩ := view_cell hy2
  simp at e0 e1
  subst e0 e1
  exact ⟨b, i, A, n, c, xs, rfl, hx⟩
end Go.Proofs.YtdmnohmjobofhaaDoor
