/- The document's side of package iv: quotients, the four operations, the middle. -/
import Derived.Test.YtcpfepjdeikchaaGreatDoorYAiK
namespace Go.Proofs.YtcpfepjdeikchaaGreatDoor
set_option linter.unusedSimpArgs false
set_option linter.unusedVariables false
open Go.RowKit Nx
section
theorem ok_arg {x : X} (h : x.ok = true) (hs : Small B64 x.xs) : Valid x.q := by
 have ha : Arg (default : World) none x.xs.length x.xs.length x.xs → True := fun _ => trivial
 clear ha
 unfold X.ok okb at h
 unfold X.q
 split at h
 ·rename_i h0
  have hx : x.xs = [] := List.eq_nil_of_length_eq_zero h0
  rw [Bool.and_eq_true] at h
  obtain ⟨h1, h2⟩ := h
  have h1 : x.e = 0 := by simpa using h1
  have h2 : x.s = false := by simpa using h2
  rw [hx, h1, h2]; exact valid0
 ·rename_i h0
  simp only [Bool.and_eq_true, decide_eq_true_eq] at h
  obtain ⟨⟨⟨⟨h1, h2⟩, h3⟩, h4⟩, h5⟩ := h
  have hl := nval_lt hs
  have hodd : nval B64 x.xs % 2 = 1 := by
   cases hx : x.xs with
   | nil => rw [hx] at h0; exact absurd rfl h0
   | cons a r =>
    rw [hx] at h3
    simp only [nval]
    have h3 : a % 2 = 1 := by simpa using h3
    have : B64 * nval B64 r % 2 = 0 := by
     rw [Nat.mul_mod, show B64 % 2 = 0 from rfl, Nat.zero_mul]
    omega
  refine ⟨⟨fun h => ?_, fun _ => hodd⟩, ?_, h4, h5⟩
  ·have h : nval B64 x.xs = 0 := h
   rw [h] at hodd; cases hodd
  ·exact Nat.lt_of_lt_of_le hl (Nat.pow_le_pow_right (by decide) h2)
theorem okJ_lo {j : J} (h : okJ j = true) : j.lo.ok = true := by unfold okJ at h; rw [Bool.and_eq_true, Bool.and_eq_true] at h; exact h.1.1
theorem okJ_hi {j : J} (h : okJ j = true) : j.hi.ok = true := by unfold okJ at h; rw [Bool.and_eq_true, Bool.and_eq_true] at h; exact h.1.2
theorem cmpx_q {x y : X} (hx : x.ok = true) (hy : y.ok = true) : cmpx x y = cmpq x.q y.q := by
 unfold cmpx anscmp
 rw [if_pos (by unfold X.ok at hx hy; rw [hx, hy]; rfl)]; rfl
def Vm (q : Q) : Prop := Vw q ∧ -20000000 ≤ q.e ∧ q.e ≤ 20000000
theorem vm_plus {a b : Q} (ha : Valid a) (hb : Valid b) : Vm (plus a b) := by
 obtain ⟨k0, hk0⟩ : ∃ k0 : Nat, k0 = 64 := ⟨_, rfl⟩
 have h1 := ha.2.1; have h2 := hb.2.1
 rw [← hk0] at h1 h2
 obtain ⟨l1, l2, l3⟩ := plus_bd h1 h2 ha.2.2.1 ha.2.2.2 hb.2.2.1 hb.2.2.2
 refine ⟨⟨ofz_canon _ _, lt64 (b := 5000) (by omega) l1, ?_, ?_⟩, ?_, ?_⟩ <;> omega
structure GJ (j : J) : Prop where
 lo : Small B64 j.lo.xs
 hi : Small B64 j.hi.xs
theorem jlo {j : J} (hg : GJ j) (h : okJ j = true) : Valid j.lo.q := ok_arg (okJ_lo h) hg.lo
theorem jhi {j : J} (hg : GJ j) (h : okJ j = true) : Valid j.hi.q := ok_arg (okJ_hi h) hg.hi
def gIJJI (k : Int → J → J → Int → Prop × AV) : List AV → Option (Prop × AV)
 | [.v false [.lit (.int .i64 z)], .v true mj, .v true mj1, .v false [.lit (.int .i64 z1)]] => (match asIv mj, asIv mj1 with
  | some j, some j1 => some (k z j j1 z1)
  | _, _ => none)
 | _ => none
end
section
theorem qx_ok {q : Q} (hv : Valid q) : (qx q).ok = true ∧ Small B64 (qx q).xs ∧ (qx q).q = q := by
 refine ⟨?_, small_digs B64_two _, by unfold X.q qx; simp only [nval_digs B64_two]⟩
 obtain ⟨hc, f1, f2, f3⟩ := hv
 unfold X.ok qx okb
 simp only
 by_cases h0 : (digs B64 q.m).length = 0
 ·rw [if_pos h0]
  have hm : q.m = 0 := (digs_eq_nil B64_two).1 (List.eq_nil_of_length_eq_zero h0)
  rw [hc.1 hm]; rfl
 ·rw [if_neg h0]
  have hm : q.m ≠ 0 := fun hm => h0 (by rw [hm, digs_zero]; rfl)
  have hlast : (digs B64 q.m).getD ((digs B64 q.m).length - 1) 0 ≠ 0 := by
   obtain ⟨y, hg⟩ : ∃ y, (digs B64 q.m)[(digs B64 q.m).length - 1]? = some y := ⟨_, List.getElem?_eq_getElem (by omega)⟩
   rw [getD_of hg]
   exact digs_last B64_two _ _ (by rw [List.getLast?_eq_getElem?]; exact hg)
  have hodd : (digs B64 q.m).getD 0 0 % 2 = 1 := by
   rw [digs_pos B64_two hm]
   show q.m % B64 % 2 = 1
   have := hc.2 hm
   unfold B64; omega
  have hle : (digs B64 q.m).length ≤ 64 := digs_len_le B64_two f1
  simp only [Bool.and_eq_true, decide_eq_true_eq]
  exact ⟨⟨⟨⟨hlast, hle⟩, hodd⟩, f2⟩, f3⟩
def topq (q : Q) : Int := (nbits q.m : Int) + q.e
theorem top_nm (s : Bool) {M : Nat} (e : Int) (h : M ≠ 0) : topq (nm s M e) = nbits M + e := by
 unfold topq nm
 rw [if_neg h]
 have h1 := (odd_part h).1
 have h2 : M / 2 ^ ntz M ≠ 0 := fun h0 => by rw [h0, Nat.zero_mul] at h1; exact h h1
 have h3 := nbits_up h2 (ntz M)
 rw [← h1] at h3
 simp only
 omega
theorem top_ofz {Z : Int} (e : Int) (h : Z ≠ 0) : topq (ofz Z e) = nbits Z.natAbs + e := top_nm _ _ (by omega)
theorem e_top {q : Q} (h : q.m ≠ 0) : q.e < topq q := by unfold topq; have := nbits_pos h; omega
theorem top_valid {q : Q} (h : Valid q) : topq q ≤ 65536 + 4096 := by
 unfold topq
 have h1 : nbits q.m ≤ 64 * 64 := words_bits (k := 64) h.2.1
 have := h.2.2.2; omega
theorem nbits_le_of {M N : Nat} (h : M ≤ N) : nbits M ≤ nbits N := nbits_le (Nat.lt_of_le_of_lt h (nbits_lt N))
theorem nbits_add (M N : Nat) : nbits (M + N) ≤ max (nbits M) (nbits N) + 1 := by
 refine nbits_le ?_
 have h1 := Nat.lt_of_lt_of_le (nbits_lt M) (Nat.pow_le_pow_right (n := 2) (by omega) (Nat.le_max_left (nbits M) (nbits N)))
 have h2 := Nat.lt_of_lt_of_le (nbits_lt N) (Nat.pow_le_pow_right (n := 2) (by omega) (Nat.le_max_right (nbits M) (nbits N)))
 rw [Nat.pow_succ]; omega
theorem top_up {q : Q} {t B : Int} (h : t ≤ q.e) (ht : topq q ≤ B) (hB : t ≤ B) : (nbits (q.up t).natAbs : Int) ≤ B - t := by
 rw [up_abs]
 by_cases h0 : q.m = 0
 ·rw [h0, Nat.zero_mul, nbits_zero]; omega
 ·rw [nbits_up h0]; unfold topq at ht; omega
theorem top_plus {a b : Q} {B : Int} (ha : topq a ≤ B) (hb : topq b ≤ B) (ha0 : a.e ≤ B) (hb0 : b.e ≤ B) (h : (plus a b).m ≠ 0) : topq (plus a b) ≤ B + 1 := by
 unfold plus at h ⊢
 by_cases hz : a.up (lowe a b) + b.up (lowe a b) = 0
 ·rw [hz, ofz_zero] at h; exact absurd rfl h
 ·rw [top_ofz _ hz]
  have h1 := top_up (q := a) (t := lowe a b) (by unfold lowe; omega) ha (by unfold lowe; omega)
  have h2 := top_up (q := b) (t := lowe a b) (by unfold lowe; omega) hb (by unfold lowe; omega)
  have h3 := nbits_le_of (Int.natAbs_add_le (a.up (lowe a b)) (b.up (lowe a b)))
  have h4 := nbits_add (a.up (lowe a b)).natAbs (b.up (lowe a b)).natAbs
  omega
theorem top_rnd {p : Nat} (up : Bool) {q : Q} (h : (rnd p up q).m ≠ 0) : topq (rnd p up q) ≤ topq q + 1 := by
 have h0 : q.m ≠ 0 := fun h0 => by
  obtain ⟨s, M, e⟩ := q
  have h0 : M = 0 := h0
  subst h0
  rw [rnd_zero] at h; exact h rfl
 unfold rnd at h ⊢
 by_cases hz : rndm q.m p (q.s != up) = 0
 ·rw [hz, nm_zero] at h; exact absurd rfl h
 ·rw [top_nm _ _ hz]
  unfold topq
  by_cases hle : nbits q.m ≤ p
  ·rw [rndm_few hle, show nbits q.m - p = 0 by omega]; omega
  ·have h1 := nbits_le (k := p + 1) (Nat.lt_of_le_of_lt (rndm_top q.m p (q.s != up)) (Nat.pow_lt_pow_right (by omega) (by omega)))
   omega
def halfw (v : Q) : Q := ⟨v.s, v.m, IntKind.i64.wrap (v.e - 1)⟩
def hlf (v : Q) : Q := bif decide (((digs B32 v.m).length : Int) > 0) then halfw v else v
theorem half_eq {v : Q} (h1 : -20000000 ≤ v.e) (h2 : v.e ≤ 20000000) : halfw v = ⟨v.s, v.m, v.e - 1⟩ := by unfold halfw; rw [IntKind.wrap_i64]; congr 1; omega
theorem hlf_eq {v : Q} (hv : Vm v) : hlf v = halfq v := by
 unfold hlf halfq
 by_cases h0 : v.m = 0
 ·have : (digs B32 v.m).length = 0 := by rw [h0, digs_zero]; rfl
  rw [this, show decide (((0 : Nat) : Int) > 0) = false from rfl, cond_false, h0, nm_zero, hv.1.1.1 h0]
 ·have hl : (digs B32 v.m).length ≠ 0 := fun hl => h0 ((digs_eq_nil B32_two).1 (List.eq_nil_of_length_eq_zero hl))
  rw [decide_eq_true (by omega), cond_true, half_eq hv.2.1 hv.2.2]
  obtain ⟨s, M, e⟩ := v
  have := nm_odd (t := e + -1) hv.1.1 h0
  rw [this]; rfl
noncomputable def rmid (j : J) (p : Int) : X × Int := bif !(okJ j) || !(prb p) then (zX, 1) else bif decide (cmpq (rnd p.toNat false (hlf (plus j.lo.q j.hi.q))) j.lo.q < 0) then (j.lo, 0) else (qx (res (rnd p.toNat false (hlf (plus j.lo.q j.hi.q)))).1, (res (rnd p.toNat false (hlf (plus j.lo.q j.hi.q)))).2)
abbrev xeA (r : X × Int) : AV := .tup [(true, r.1.L), (false, [.lit (.int .i64 r.2)])]
theorem qx0 : qx q0 = zX := by unfold qx zX; rw [show q0.m = 0 from rfl, digs_zero]; rfl
end
section
section
variable {j : J} {z : Int} (g0 : GJ j) (h : ((rmid j z).2 != 0) = false)
include g0 h
end
end
end Go.Proofs.YtcpfepjdeikchaaGreatDoor
