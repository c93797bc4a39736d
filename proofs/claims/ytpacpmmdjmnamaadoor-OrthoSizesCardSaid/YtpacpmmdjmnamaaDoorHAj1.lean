/- Rounding keeps the order; products are the document's, where both intervals have both signs. -/
import Derived.Test.YtpacpmmdjmnamaaDoorHAi4
namespace Go.Proofs.YtpacpmmdjmnamaaDoor
open Go.RowKit Nx
set_option linter.unusedVariables false
set_option linter.unusedSimpArgs false
section
variable {E p : Nat} {q r a b : Q}
theorem at_sg (q : Q) : q.at E = sg q.s (q.m * 2 ^ (q.e + E).toNat) := by unfold Q.at; rw [z_sg, sg_mul, Int.natCast_pow]; rfl
end
theorem scale_eq {q : Q} (k : Int) (h : q.m ≠ 0) : scale q k = ⟨q.s, q.m, q.e + k⟩ := by unfold scale; rw [if_neg h]
theorem nm_scale (s : Bool) (M : Nat) (e k : Int) : nm s M (e + k) = scale (nm s M e) k := by
  by_cases h : M = 0
  · rw [h, nm_zero, nm_zero]; rfl
  · have h2 : M / 2 ^ ntz M ≠ 0 := fun h0 => by have h1 := (odd_part h).1; rw [h0, Nat.zero_mul] at h1; exact h h1
    unfold nm scale
    rw [if_neg h, if_neg h, if_neg h2]
    simp only
    congr 1; omega
structure Rp (r : Q) : Prop where
  v : Valid r
  nz : r.m ≠ 0
  bits : nbits r.m ≤ 256
  lo : 0 ≤ r.e
  hi : r.e ≤ 8200
theorem rnd_nz {p : Nat} {up : Bool} {q : Q} (hp : 1 ≤ p) (h : q.m ≠ 0) : (rnd p up q).m ≠ 0 := by
  intro h0
  have hz : rndm q.m p (q.s != up) = 0 := by
    unfold rnd nm at h0
    by_cases hz : rndm q.m p (q.s != up) = 0
    · exact hz
    · rw [if_neg hz] at h0
      simp only at h0
      have h1 := (odd_part hz).1
      rw [h0, Nat.zero_mul] at h1; exact absurd h1 hz
  unfold rndm at hz
  have h1 : q.m / 2 ^ (nbits q.m - p) = 0 := (Nat.add_eq_zero_iff.1 hz).1
  rw [Nat.div_eq_zero_iff] at h1
  have h2 := nbits_ge h
  have h3 := nbits_pos h
  rcases h1 with h1 | h1
  · have := Nat.two_pow_pos (nbits q.m - p); omega
  · have := Nat.pow_le_pow_right (n := 2) (by omega) (show nbits q.m - p ≤ nbits q.m - 1 by omega)
    omega
end Go.Proofs.YtpacpmmdjmnamaaDoor
namespace Go.Proofs.YtpacpmmdjmnamaaDoor
open Go.RowKit Nx
set_option linter.unusedVariables false
set_option linter.unusedSimpArgs false
theorem scalex_qx {r : Q} (hv : Valid r) (k : Int) : scalex (qx r) k = res (scale r k) := by
  have h1 := (qx_ok hv).1
  unfold scalex ans1
  unfold X.ok at h1
  rw [h1]
  show res (nm r.s (nval B64 (digs B64 r.m)) (r.e + k)) = _
  rw [nval_digs B64_two, nm_scale, nm_of hv.1]
theorem absx_qx {r : Q} (hv : Valid r) : absx (qx r) = r.abs := by
  have h1 := (qx_ok hv).1
  unfold absx anssign
  unfold X.ok at h1
  rw [h1]
  show (if nval B64 (digs B64 r.m) = 0 then q0 else ⟨false, nval B64 (digs B64 r.m), r.e⟩) = _
  rw [nval_digs B64_two]; rfl
theorem abs_valid {r : Q} (h : Valid r) : Valid r.abs := by
  refine ⟨abs_canon h.1, ?_⟩
  unfold Q.abs
  split
  · exact fits0
  · exact h.2
section
variable {z : Int} {b : Bool} {x y u v : X}
end
end Go.Proofs.YtpacpmmdjmnamaaDoor
namespace Go.Proofs.YtpacpmmdjmnamaaDoor
open Go.RowKit Nx
set_option linter.unusedVariables false
set_option linter.unusedSimpArgs false
theorem qx_q {x : X} (h : x.ok = true) (hs : Small B64 x.xs) : qx x.q = x := by
  obtain ⟨s, e, xs⟩ := x
  unfold qx X.q
  simp only
  congr 1
  refine digs_nval B64_two hs (fun u hu h0 => ?_)
  unfold X.ok okb at h
  simp only at h
  have hne : xs.length ≠ 0 := fun hl => by rw [List.eq_nil_of_length_eq_zero hl] at hu; cases hu
  rw [if_neg hne] at h
  simp only [Bool.and_eq_true, decide_eq_true_eq] at h
  have h1 := h.1.1.1.1
  rw [List.getLast?_eq_getElem?] at hu
  rw [getD_of hu] at h1
  exact h1 h0
theorem fits_few {q : Q} (hb : nbits q.m ≤ 256) (h1 : -65536 ≤ q.e) (h2 : q.e ≤ 65536) : Fits q :=
  ⟨bits_words (k := 64) hb (by omega), h1, h2⟩
section
variable {j : J} {z : Int}
end
end Go.Proofs.YtpacpmmdjmnamaaDoor
