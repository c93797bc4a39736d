/- fathomlineref1: Fit. fathomlineref1: Reckon. -/
import Derived.Test.YtcpfepjdeikchaaGreatDoorWRnd1
import Derived.Test.YtcpfepjdeikchaaGreatDoorWReg
import Derived.Deep.DeepCutAuto
namespace Go.Proofs.YtcpfepjdeikchaaGreatDoor
open Go.RowKit Nx
section
theorem bits_words {M P k : Nat} (h : nbits M ≤ P) (hP : P ≤ 64 * k) : M < B64 ^ k := by
 rw [pow64]; exact Nat.lt_of_lt_of_le (lt_of_nbits h) (Nat.pow_le_pow_right (by omega) hP)
end
section
noncomputable def gk (kd p : Int) (up : Bool) (a b : Q) : Q × Int := if kd = 3 then (if b.m = 0 then (q0, 3) else res (ratq p.toNat up a b)) else res (rnd p.toNat up (exq kd a b))
theorem ofz_bd {Z e : Int} {k : Nat} {b : Int} (hZ : Z.natAbs < B64 ^ k) (h1 : -b ≤ e) (h2 : e ≤ b) (hb : 0 ≤ b) : (ofz Z e).m < B64 ^ k ∧ -b ≤ (ofz Z e).e ∧ (ofz Z e).e ≤ b + 64 * k :=
 ⟨Nat.lt_of_le_of_lt (ofz_le _ _) hZ, nm_e_bd hZ h1 h2 hb⟩
theorem plus_bd {a b : Q} {k : Nat} (ha : a.m < B64 ^ k) (hb : b.m < B64 ^ k) (h1 : -65536 ≤ a.e) (h2 : a.e ≤ 65536) (h3 : -65536 ≤ b.e) (h4 : b.e ≤ 65536) :
  (plus a b).m < B64 ^ (k + 2048 + 1) ∧ -65536 ≤ (plus a b).e ∧ (plus a b).e ≤ 65536 + 64 * (k + 2048 + 1 : Nat) := by
 have hl1 : (a.e - lowe a b).toNat ≤ 131072 := by unfold lowe; omega
 have hl2 : (b.e - lowe a b).toNat ≤ 131072 := by unfold lowe; omega
 refine ofz_bd (Nat.lt_of_le_of_lt (Int.natAbs_add_le _ _) ?_) (by unfold lowe; omega) (by unfold lowe; omega) (by omega)
 rw [up_abs, up_abs]
 exact lt_add2 (up_lt2 ha hl1) (up_lt2 hb hl2)
end
section
section
variable {w : World} {a b : Q} {A B : Option Addr} {n c m d : Nat}
end
theorem ansr_v1 {g : Q → Q → Q × Int} (hg : ∀ a b, Valid (g a b).1) (p : Int) (s : Bool) (e : Int) (n : Nat) (xs : List Nat) (s' : Bool) (e' : Int) (m : Nat) (ys : List Nat) : Valid (ansr g p s e n xs s' e' m ys).1 := by
 unfold ansr; split
 ·exact hg _ _
 ·exact valid0
theorem gadd_v (p : Int) (up : Bool) (a b : Q) : Valid (gadd p up a b).1 := res_valid (rnd_canon _ _ _)
theorem gsub_v (p : Int) (up : Bool) (a b : Q) : Valid (gsub p up a b).1 := res_valid (rnd_canon _ _ _)
theorem gmul_v (p : Int) (up : Bool) (a b : Q) : Valid (gmul p up a b).1 := res_valid (rnd_canon _ _ _)
def n1 : Q := ⟨false, 1, 0⟩
def n3 : Q := ⟨false, 3, 0⟩
end
section
def n4 : Q := ⟨false, 1, 2⟩
theorem Kno.nil {s : Nat} {a : Act} {l : List (Nat × Value)} (h : Kno s a l) : Kno s a [] := ⟨h.1, h.2.1, fun _ _ hm => by cases hm⟩
theorem Kno.add {s : Nat} {a : Act} {l l' : List (Nat × Value)} {t : Nat} {v : Value} (h' : Kno s a l') (h : Kno s a l) (hm : (t, v) ∈ l) : Kno s a ((t, v) :: l') := ⟨h.1, h.2.1, fun t' v' hm' => by
 rcases List.mem_cons.1 hm' with e | e
 ·injection e with e1 e2
  subst e1; subst e2
  exact h.2.2 _ _ hm
 ·exact h'.2.2 t' v' e⟩
section
variable {ops : Array Oper} {QQ : Exit → Act → World → Prop} {sz n : Nat} {a : Act} {w : World} {l : List (Nat × Value)}
end
end
end Go.Proofs.YtcpfepjdeikchaaGreatDoor
