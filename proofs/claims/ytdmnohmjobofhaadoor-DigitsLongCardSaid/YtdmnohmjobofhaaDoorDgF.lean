/- fathomlineref1.Text: the document's text of any number. -/
import Derived.Test.YtdmnohmjobofhaaDoorDgE
namespace Go.Proofs.YtdmnohmjobofhaaDoor
open Go.RowKit Nx

theorem has_one (w : World) (u : Nat) (hu : u < B64) (z : Int) (hz : z = (u : Int)) : Has (w.alloc (.cells #[.int .u64 z] 41)) (some ⟨w.heap.size, 0, none⟩) 1 1 u 1 := by
  subst hz
  exact ⟨[u], one_rd w u, small1 hu, nval1 _, by omega⟩
theorem lt_b64 {u : Nat} (h : u < B64) : u < B64 ^ 64 := Nat.lt_of_lt_of_le h (by
  have := Nat.pow_le_pow_right (show 0 < B64 by unfold B64; omega) (show 1 ≤ 64 by omega)
  rwa [Nat.pow_one] at this)
end Go.Proofs.YtdmnohmjobofhaaDoor
