/- fathomlineref1: Fit. fathomlineref1: Reckon. -/
import Derived.Test.YtpacpmmdjmnamaaDoorHRnd1
import Derived.Test.YtpacpmmdjmnamaaDoorHReg
import Derived.Deep.DeepCutAuto
namespace Go.Proofs.YtpacpmmdjmnamaaDoor
open Go.RowKit Nx
theorem bits_words {M P k : Nat} (h : nbits M ≤ P) (hP : P ≤ 64 * k) : M < B64 ^ k := by
  rw [pow64]; exact Nat.lt_of_lt_of_le (lt_of_nbits h) (Nat.pow_le_pow_right (by omega) hP)
end Go.Proofs.YtpacpmmdjmnamaaDoor
namespace Go.Proofs.YtpacpmmdjmnamaaDoor
open Go.RowKit Nx
end Go.Proofs.YtpacpmmdjmnamaaDoor
namespace Go.Proofs.YtpacpmmdjmnamaaDoor
open Go.RowKit Nx
section
variable {w : World} {a b : Q} {A B : Option Addr} {n c m d : Nat}
end
theorem ansr_v1 {g : Q → Q → Q × Int} (hg : ∀ a b, Valid (g a b).1) (p : Int) (s : Bool) (e : Int) (n : Nat) (xs : List Nat) (s' : Bool) (e' : Int) (m : Nat) (ys : List Nat) : Valid (ansr g p s e n xs s' e' m ys).1 := by
  unfold ansr; split
  · exact hg _ _
  · exact valid0
theorem gadd_v (p : Int) (up : Bool) (a b : Q) : Valid (gadd p up a b).1 := res_valid (rnd_canon _ _ _)
theorem gsub_v (p : Int) (up : Bool) (a b : Q) : Valid (gsub p up a b).1 := res_valid (rnd_canon _ _ _)
theorem gmul_v (p : Int) (up : Bool) (a b : Q) : Valid (gmul p up a b).1 := res_valid (rnd_canon _ _ _)
theorem gdiv_v (p : Int) (up : Bool) (a b : Q) : Valid (gdiv p up a b).1 := by
  unfold gdiv; split
  · exact valid0
  · exact res_valid (ratq_canon _ _ _ _)
def n1 : Q := ⟨false, 1, 0⟩
def n3 : Q := ⟨false, 3, 0⟩
end Go.Proofs.YtpacpmmdjmnamaaDoor
namespace Go.Proofs.YtpacpmmdjmnamaaDoor
open Go.RowKit Nx
def n4 : Q := ⟨false, 1, 2⟩
theorem Kno.nil {s : Nat} {a : Act} {l : List (Nat × Value)} (h : Kno s a l) : Kno s a [] := ⟨h.1, h.2.1, fun _ _ hm => by cases hm⟩
theorem Kno.add {s : Nat} {a : Act} {l l' : List (Nat × Value)} {t : Nat} {v : Value} (h' : Kno s a l') (h : Kno s a l) (hm : (t, v) ∈ l) : Kno s a ((t, v) :: l') := ⟨h.1, h.2.1, fun t' v' hm' => by
  rcases List.mem_cons.1 hm' with e | e
  · injection e with e1 e2
    subst e1; subst e2
    exact h.2.2 _ _ hm
  · exact h'.2.2 t' v' e⟩
section
variable {ops : Array Oper} {QQ : Exit → Act → World → Prop} {sz n : Nat} {a : Act} {w : World} {l : List (Nat × Value)}
end
end Go.Proofs.YtpacpmmdjmnamaaDoor
