/- Products of intervals hold the products of what lies in them; quotients rise. -/
import Derived.Test.YthhaelnildaemaaGreatDoorSAkM
import Derived.Test.YthhaelnildaemaaGreatDoorSAm3
namespace Go.Proofs.YthhaelnildaemaaGreatDoor
open Go.RowKit Nx
set_option linter.unusedVariables false
set_option linter.unusedSimpArgs false
section
variable {x y u v p q : Int}
end
end Go.Proofs.YthhaelnildaemaaGreatDoor
namespace Go.Proofs.YthhaelnildaemaaGreatDoor
open Go.RowKit Nx
set_option linter.unusedVariables false
set_option linter.unusedSimpArgs false
theorem fits_rnd {k p : Nat} {up : Bool} {q : Q} (h : Bd k q) (hp : 1 ≤ p) (h2 : p ≤ 256) (hk : 2 * k + 257 ≤ 65536) : Fits (rnd p up q) := by
  have hb := bd_rnd (p := p) (up := up) h
  exact fits_few (Nat.le_trans (nbits_rnd up q hp) h2) (by have := hb.2.1; omega) (by have := hb.2.2; omega)
theorem qx_cmp {a b : Q} (ha : Valid a) (hb : Valid b) : cmpx (qx a) (qx b) = cmpq a b := by
  rw [cmpx_q (qx_ok ha).1 (qx_ok hb).1, (qx_ok ha).2.2, (qx_ok hb).2.2]
theorem ends_ok {a b : Q} (va : Valid a) (vb : Valid b) (h : cmpq a b ≤ 0) : endsQ a b = (⟨qx a, qx b⟩, 0) ∧ Good ⟨qx a, qx b⟩ := by
  refine ⟨by unfold endsQ; rw [res_ok va.2, res_ok vb.2]; rfl, ?_, (qx_ok va).2.1, (qx_ok vb).2.1⟩
  unfold okJ
  show ((qx a).ok && (qx b).ok && decide (cmpx (qx a) (qx b) ≤ 0)) = true
  rw [(qx_ok va).1, (qx_ok vb).1, qx_cmp va vb, decide_eq_true h]; rfl
theorem ends_in {a b c d : Q} (va : Valid a) (vb : Valid b) (vc : Valid c) (vd : Valid d) (h1 : cmpq a c ≤ 0) (h2 : cmpq d b ≤ 0) (h : cmpq c d ≤ 0) (h' : cmpq a b ≤ 0) : inJ ⟨qx c, qx d⟩ ⟨qx a, qx b⟩ = true := by
  unfold inJ
  rw [(ends_ok va vb h').2.1, (ends_ok vc vd h).2.1]
  simp only [qx_cmp va vc, qx_cmp vd vb]
  rw [decide_eq_true h1, decide_eq_true h2]; rfl
theorem out_ok {p E : Nat} {L G : Q} (hp : 1 ≤ p) (lL : -(E : Int) ≤ L.e) (lG : -(E : Int) ≤ G.e) (h : L.at E ≤ G.at E) : cmpq (rnd p false L) (rnd p true G) ≤ 0 :=
  (cmp_le (E := E) (rnd_low lL) (rnd_low lG)).2 (Int.le_trans (rnd_down lL) (Int.le_trans h (rnd_up lG)))
theorem out_mono {p E : Nat} {up : Bool} {L M : Q} (hp : 1 ≤ p) (lL : -(E : Int) ≤ L.e) (lM : -(E : Int) ≤ M.e) (h : L.at E ≤ M.at E) : cmpq (rnd p up L) (rnd p up M) ≤ 0 :=
  (cmp_le (E := E) (rnd_low lL) (rnd_low lM)).2 (rnd_mono hp lL lM h)
end Go.Proofs.YthhaelnildaemaaGreatDoor
namespace Go.Proofs.YthhaelnildaemaaGreatDoor
open Go.RowKit Nx
set_option linter.unusedVariables false
set_option linter.unusedSimpArgs false
section
variable {z : Int} {E K : Nat} {L G L' G' r : Q}
theorem val_rnd {up : Bool} (hz : prl z = true) (h : Bd K L) (hK : 2 * K + 257 ≤ 65536) : Valid (rnd z.toNat up L) := ⟨rnd_canon _ _ _, fits_rnd h (by have := (prl_two hz).1; omega) (prl_two hz).2 hK⟩
theorem less (hz : prl z = true) (bL : Bd K L) (bG : Bd K G) (bL' : Bd K L') (bG' : Bd K G') (hK : 2 * K + 257 ≤ 65536) (lL : -(E : Int) ≤ L.e) (lG : -(E : Int) ≤ G.e) (lL' : -(E : Int) ≤ L'.e) (lG' : -(E : Int) ≤ G'.e)
    (h1 : L.at E ≤ L'.at E) (h2 : L'.at E ≤ G'.at E) (h3 : G'.at E ≤ G.at E) :
    ∃ s t, endsQ (rnd z.toNat false L) (rnd z.toNat true G) = (s, 0) ∧ endsQ (rnd z.toNat false L') (rnd z.toNat true G') = (t, 0) ∧ inJ t s = true := by
  have hp : 1 ≤ z.toNat := by have := (prl_two hz).1; omega
  have va := val_rnd (up := false) hz bL hK
  have vb := val_rnd (up := true) hz bG hK
  have vc := val_rnd (up := false) hz bL' hK
  have vd := val_rnd (up := true) hz bG' hK
  have hc := out_ok (p := z.toNat) hp lL lG (Int.le_trans h1 (Int.le_trans h2 h3))
  have hc' := out_ok (p := z.toNat) hp lL' lG' h2
  exact ⟨_, _, (ends_ok va vb hc).1, (ends_ok vc vd hc').1, ends_in va vb vc vd (out_mono hp lL lL' h1) (out_mono hp lG' lG h3) hc' hc⟩
end
section
variable {j j1 : J} {z : Int}
variable {x y : X} {k : Nat}
end
end Go.Proofs.YthhaelnildaemaaGreatDoor
