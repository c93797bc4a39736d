/- fathomlineref1.Bits. fathomlineref1: Div, what its loop keeps. fathomlineref1: Div. fathomlineref1: Down, and whether bits were lost. -/
import Derived.Test.YtobcbhppmgnioaaGreatDoorSNum1
import Derived.Test.YtobcbhppmgnioaaGreatDoorSNumPR
import Derived.Test.YtobcbhppmgnioaaGreatDoorSRefX
import Derived.Test.YtobcbhppmgnioaaGreatDoorSRefY
namespace Go.Proofs.YtobcbhppmgnioaaGreatDoor
section
open Go.RowKit Nx
section

end
section
theorem kn_get_other {a : Act} {d d' : Tmp} {v : Value} (h : d ≠ d') : (a.put (some d) v).tmps[d']? = a.tmps[d']? := by
 simp only [Act.put, Array.getElem?_setIfInBounds_ne h]
theorem kn_get_same {a : Act} {d : Tmp} {v : Value} (h : d < a.tmps.size) : (a.put (some d) v).tmps[d]? = some v := by
 simp [Act.put, h]
theorem kn_size_put (a : Act) (d : Tmp) (v : Value) : (a.put (some d) v).tmps.size = a.tmps.size := by simp [Act.put]
theorem want_none {o : Oper} {f : Nat → Option Bool} (hg : o.guard = none) : Region.wanted o f = true := by simp [Region.wanted, hg]
def Kno (s : Nat) (a : Act) (l : List (Nat × Value)) : Prop := a.tmps.size = s ∧ a.defers = [] ∧ ∀ t v, (t, v) ∈ l → a.tmps[t]? = some v
theorem Kno.put {s : Nat} {a : Act} {l : List (Nat × Value)} (h : Kno s a l) (d : Tmp) (v : Value) (hd : d < s) (hf : (l.all fun p => !(p.1 == d)) = true) : Kno s (a.put (some d) v) ((d, v) :: l) := by
 refine ⟨(kn_size_put ..).trans h.1, h.2.1, fun t u hm => ?_⟩
 rcases List.mem_cons.1 hm with e | e
 ·injection e with e1 e2
  subst e1; subst e2
  exact kn_get_same (by rw [h.1]; exact hd)
 ·have := List.all_eq_true.1 hf _ e
  have hne : t ≠ d := by simpa using this
  exact (kn_get_other (Ne.symm hne)).trans (h.2.2 t u e)
theorem Kno.ev {s : Nat} {a : Act} {l : List (Nat × Value)} (h : Kno s a l) {t : Nat} {v : Value} (hm : (t, v) ∈ l) : a.eval (.tmp t) = v := by
 simp only [Act.eval, Array.getD_eq_getD_getElem?]
 rw [h.2.2 t v hm]; rfl
theorem Kno.less {s : Nat} {a : Act} {l l' : List (Nat × Value)} (h : Kno s a l) (hs : ∀ p, p ∈ l' → p ∈ l) : Kno s a l' := ⟨h.1, h.2.1, fun t v hm => h.2.2 t v (hs _ hm)⟩
section
variable {ops : Array Oper} {Q : Exit → Act → World → Prop} {S : World → Prop} {fuel sz : Nat} {L L' : Array Bool} {a : Act} {w : World} {l : List (Nat × Value)}
end
section
variable {ρ : Operand → Value} {o : Oper} {w : World}
end
end
end
section
open Go.RowKit Nx
section

end
section
theorem nval_at {xs : List Nat} {s x : Nat} (hs : Small B32 xs) (hx : xs[s]? = some x) : ∃ r, nval B32 xs / B32 ^ s = x + B32 * r := by
 have hl := lt_of_get hx
 refine ⟨nval B32 (xs.drop (s + 1)), ?_⟩
 rw [← nval_drop B32_two hs s (by omega), List.drop_eq_getElem_cons hl]
 rw [List.getElem?_eq_getElem hl] at hx
 injection hx with hx
 rw [hx]
 rfl
def DvI (n k X Y : Nat) (cur : List Nat) (R : Nat) : Prop :=
 cur.length = n ∧ Small B32 cur ∧ R < Y ∧ ∃ Q, nval B32 cur = Q * 2 ^ k ∧ Q * Y + R = X / 2 ^ k
theorem DvI.start {n X Y : Nat} (hY : Y ≠ 0) : DvI n (nbits X) X Y (List.replicate n 0) 0 :=
 ⟨by simp, small_replicate (by unfold B32; omega), by omega, 0, by rw [nval_zeros]; simp, by rw [Nat.div_eq_of_lt (nbits_lt X)]; simp⟩
theorem half_bit (X j : Nat) : X / 2 ^ j = 2 * (X / 2 ^ (j + 1)) + X / 2 ^ j % 2 := by
 rw [Nat.pow_succ, ← Nat.div_div_eq_div_mul]; omega
theorem DvI.keep {n j X Y R b : Nat} {cur : List Nat} (h : DvI n (j + 1) X Y cur R) (hb : b = X / 2 ^ j % 2) (hlt : R * 2 + b < Y) : DvI n j X Y cur (R * 2 + b) := by
 obtain ⟨h1, h2, h3, Q, h4, h5⟩ := h
 refine ⟨h1, h2, hlt, 2 * Q, by rw [h4, Nat.pow_succ]; grind, ?_⟩
 have e := half_bit X j
 rw [← hb, ← h5] at e
 have : 2 * Q * Y = 2 * (Q * Y) := Nat.mul_assoc _ _ _
 omega
theorem DvI.set {n j s q X Y R b h0 : Nat} {cur : List Nat} (h : DvI n (j + 1) X Y cur R) (hb : b = X / 2 ^ j % 2) (hge : Y ≤ R * 2 + b) (hj : j = 32 * s + q) (hq : q < 32) (hh : cur[s]? = some h0) :
  h0 ||| 2 ^ q = h0 + 2 ^ q ∧ h0 + 2 ^ q < B32 ∧ DvI n j X Y (cur.set s (h0 + 2 ^ q)) (R * 2 + b - Y) := by
 obtain ⟨h1, h2, h3, Q, h4, h5⟩ := h
 obtain ⟨r, hr⟩ := nval_at h2 hh
 have hB := h2.get hh
 have hl := lt_of_get hh
 have hjp : 2 ^ j = B32 ^ s * 2 ^ q := by rw [hj, Nat.pow_add, pow32]
 have hBp : 0 < B32 ^ s := Nat.pow_pos (by unfold B32; omega)
 have hp : B32 = 2 ^ (q + 1) * 2 ^ (31 - q) := by rw [← Nat.pow_add, show q + 1 + (31 - q) = 32 by omega]; rfl
 have hQ : h0 + B32 * r = 2 ^ (q + 1) * Q := by
  rw [← hr, h4, Nat.pow_succ, hjp, show Q * (B32 ^ s * 2 ^ q * 2) = B32 ^ s * (2 ^ (q + 1) * Q) by rw [Nat.pow_succ]; grind, Nat.mul_div_cancel_left _ hBp]
 have hd : 2 ^ (q + 1) ∣ h0 := by
  have d1 : 2 ^ (q + 1) ∣ h0 + B32 * r := ⟨Q, hQ⟩
  have d2 : 2 ^ (q + 1) ∣ B32 * r := ⟨2 ^ (31 - q) * r, by rw [← Nat.mul_assoc, ← hp]⟩
  exact (Nat.dvd_add_left d2).1 d1
 obtain ⟨t, ht⟩ := hd
 have hlt : 2 ^ q < 2 ^ (q + 1) := by rw [Nat.pow_succ]; have := Nat.two_pow_pos q; omega
 have ho : h0 ||| 2 ^ q = h0 + 2 ^ q := by rw [ht, ← Nat.two_pow_add_eq_or_of_lt hlt]
 have hlb : h0 + 2 ^ q < B32 := by
  rw [← ho, show B32 = 2 ^ 32 from rfl]
  exact Nat.or_lt_two_pow hB (Nat.pow_lt_pow_right (by omega) hq)
 refine ⟨ho, hlb, by simpa using h1, h2.set s hlb, ?_, 2 * Q + 1, ?_, ?_⟩
 ·have := Nat.mod_lt (X / 2 ^ j) (show 0 < 2 by omega)
  omega
 ·have hs := nval_set B32 cur s (h0 + 2 ^ q) hl
  rw [getD_of hh, Nat.mul_add, ← hjp, h4, Nat.pow_succ] at hs
  have e : (2 * Q + 1) * 2 ^ j = Q * (2 ^ j * 2) + 2 ^ j := by grind
  rw [e]; omega
 ·have e := half_bit X j
  rw [← hb, ← h5] at e
  have : (2 * Q + 1) * Y = 2 * (Q * Y) + Y := by grind
  omega
theorem DvI.done {n X Y R : Nat} {cur : List Nat} (h : DvI n 0 X Y cur R) : nval B32 cur = X / Y ∧ R = X % Y := by
 obtain ⟨h1, h2, h3, Q, h4, h5⟩ := h
 rw [Nat.pow_zero, Nat.mul_one] at h4
 rw [Nat.pow_zero, Nat.div_one] at h5
 rw [h4, ← h5]
 constructor
 ·rw [Nat.mul_comm, Nat.mul_add_div (by omega), Nat.div_eq_of_lt h3, Nat.add_zero]
 ·rw [Nat.mul_comm, Nat.mul_add_mod, Nat.mod_eq_of_lt h3]
end
section

end
section

end
end
end Go.Proofs.YtobcbhppmgnioaaGreatDoor
