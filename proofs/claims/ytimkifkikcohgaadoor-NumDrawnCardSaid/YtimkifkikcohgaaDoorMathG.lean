/- Numbers by a power of two: sign, natural number, exponent. No program. -/
import Derived.Test.YtimkifkikcohgaaDoorMathB
namespace Go.Proofs.YtimkifkikcohgaaDoor
open Nx

/-- A number: m by 2^e, below 0 if s. -/
structure Q where
  s : Bool
  m : Nat
  e : Int
theorem Q.ext' {a b : Q} (h1 : a.s = b.s) (h2 : a.m = b.m) (h3 : a.e = b.e) : a = b := by cases a; cases b; simp_all
/-- The number 0. -/
def q0 : Q := ⟨false, 0, 0⟩
/-- With its sign. -/
def Q.z (q : Q) : Int := if q.s then -(q.m : Int) else (q.m : Int)
/-- The odd number and its exponent. -/
def nm (s : Bool) (M : Nat) (e : Int) : Q := if M = 0 then q0 else ⟨s, M / 2 ^ ntz M, e + ntz M⟩
def Canon (q : Q) : Prop := (q.m = 0 → q = q0) ∧ (q.m ≠ 0 → q.m % 2 = 1)
theorem canon0 : Canon q0 := ⟨fun _ => rfl, fun h => absurd rfl h⟩
theorem nm_zero (s : Bool) (e : Int) : nm s 0 e = q0 := by unfold nm; rw [if_pos rfl]
theorem odd_part {M : Nat} (h : M ≠ 0) : M = M / 2 ^ ntz M * 2 ^ ntz M ∧ (M / 2 ^ ntz M) % 2 = 1 := by
  obtain ⟨m, h1, h2⟩ := ntz_split h
  have hp : 0 < 2 ^ ntz M := Nat.pow_pos (by omega)
  have h3 : M / 2 ^ ntz M = m := by
    conv => lhs; lhs; rw [h1]
    rw [Nat.mul_div_cancel_left _ hp]
  rw [h3]
  exact ⟨by rw [Nat.mul_comm]; exact h1, h2⟩
theorem nm_canon (s : Bool) (M : Nat) (e : Int) : Canon (nm s M e) := by
  unfold nm
  split
  · exact canon0
  · rename_i h
    have := (odd_part h).2
    exact ⟨fun h' => absurd h' (by show ¬ M / 2 ^ ntz M = 0; omega), fun _ => this⟩
theorem nm_shift (s : Bool) (M : Nat) (e : Int) (k : Nat) : nm s (M * 2 ^ k) (e - k) = nm s M e := by
  have hp : 0 < 2 ^ k := Nat.pow_pos (by omega)
  by_cases h : M = 0
  · subst h; rw [Nat.zero_mul, nm_zero, nm_zero]
  · have h' : M * 2 ^ k ≠ 0 := Nat.mul_ne_zero h (by omega)
    have hz : ntz (M * 2 ^ k) = k + ntz M := by rw [Nat.mul_comm]; exact ntz_shift h k
    unfold nm
    rw [if_neg h, if_neg h', hz]
    apply Q.ext'
    · rfl
    · show M * 2 ^ k / 2 ^ (k + ntz M) = M / 2 ^ ntz M
      rw [Nat.pow_add, ← Nat.div_div_eq_div_mul, Nat.mul_div_cancel _ hp]
    · show e - k + ((k + ntz M : Nat) : Int) = e + ntz M
      omega
theorem nm_of {q : Q} (h : Canon q) : nm q.s q.m q.e = q := by
  unfold nm
  split
  · rename_i h0; exact (h.1 h0).symm
  · rename_i h0
    have := ntz_odd (h.2 h0)
    rw [this]
    apply Q.ext' <;> simp
/-- The number of an integer by 2^e. -/
def ofz (Z : Int) (e : Int) : Q := nm (decide (Z < 0)) Z.natAbs e
theorem ofz_canon (Z e : Int) : Canon (ofz Z e) := nm_canon _ _ _
theorem nm_ofz (s : Bool) (M : Nat) (e : Int) : nm s M e = ofz (if s then -(M : Int) else (M : Int)) e := by
  unfold ofz
  rcases Nat.eq_zero_or_pos M with h | h
  · subst h; cases s <;> simp [nm_zero]
  · cases s <;> simp <;> congr <;> simp <;> omega
theorem ofz_z {q : Q} (h : Canon q) : ofz q.z q.e = q := by
  have := nm_ofz q.s q.m q.e
  rw [nm_of h] at this
  exact this.symm
theorem natAbs_pow (Z : Int) (k : Nat) : (Z * 2 ^ k).natAbs = Z.natAbs * 2 ^ k := by
  rw [Int.natAbs_mul, Int.natAbs_pow]; rfl
theorem pow_posZ (k : Nat) : (0 : Int) < 2 ^ k := Int.pow_pos (by omega)
theorem mul_neg_iff (Z : Int) (k : Nat) : Z * 2 ^ k < 0 ↔ Z < 0 := by
  have hp := pow_posZ k
  constructor
  · intro h
    rcases Int.lt_or_le Z 0 with h' | h'
    · exact h'
    · have := Int.mul_nonneg h' (Int.le_of_lt hp); omega
  · intro h; exact Int.mul_neg_of_neg_of_pos h hp
theorem ofz_shift (Z e : Int) (k : Nat) : ofz (Z * 2 ^ k) (e - k) = ofz Z e := by
  unfold ofz
  rw [natAbs_pow, nm_shift]
  congr 1
  exact decide_eq_decide.2 (mul_neg_iff Z k)
theorem ofz_zero (e : Int) : ofz 0 e = q0 := by unfold ofz; exact nm_zero _ _
theorem ofz_e (Z e : Int) : e ≤ (ofz Z e).e ∨ (ofz Z e) = q0 := by
  unfold ofz nm
  split
  · exact .inr rfl
  · left; show e ≤ e + _; omega
/-- The number, by 2^E. -/
def Q.at (E : Nat) (q : Q) : Int := q.z * 2 ^ (q.e + E).toNat
theorem at0 (E : Nat) : q0.at E = 0 := by unfold Q.at; rw [show q0.z = 0 from rfl, Int.zero_mul]
theorem of_at {E : Nat} {q : Q} (h : Canon q) (hE : -(E : Int) ≤ q.e) : ofz (q.at E) (-(E : Int)) = q := by
  have : -(E : Int) = q.e - ((q.e + E).toNat : Nat) := by omega
  rw [this]
  unfold Q.at
  rw [ofz_shift, ofz_z h]
theorem at_inj {E : Nat} {a b : Q} (ha : Canon a) (hb : Canon b) (h1 : -(E : Int) ≤ a.e) (h2 : -(E : Int) ≤ b.e) (h : a.at E = b.at E) : a = b := by
  rw [← of_at ha h1, ← of_at hb h2, h]
theorem z_nm (s : Bool) (M : Nat) (e : Int) : (nm s M e).z * 2 ^ ((nm s M e).e - e).toNat = if s then -(M : Int) else (M : Int) := by
  by_cases h : M = 0
  · subst h; rw [nm_zero]; cases s <;> simp [Q.z, q0]
  · have h1 := (odd_part h).1
    have e1 : nm s M e = ⟨s, M / 2 ^ ntz M, e + ntz M⟩ := by unfold nm; rw [if_neg h]
    rw [e1]
    have e2 : (e + (ntz M : Int) - e).toNat = ntz M := by omega
    show (if s then -((M / 2 ^ ntz M : Nat) : Int) else ((M / 2 ^ ntz M : Nat) : Int)) * 2 ^ (e + (ntz M : Int) - e).toNat = _
    rw [e2]
    have h3 : ((M / 2 ^ ntz M : Nat) : Int) * 2 ^ ntz M = (M : Int) := by
      conv => rhs; rw [h1]
      rw [Int.natCast_mul, Int.natCast_pow]; rfl
    cases s
    · simpa using h3
    · simp only [if_true]; rw [Int.neg_mul, h3]
theorem z_ofz (Z e : Int) : (ofz Z e).z * 2 ^ ((ofz Z e).e - e).toNat = Z := by
  unfold ofz
  rw [z_nm]
  by_cases h : Z < 0
  · simp [h]; omega
  · simp [h]; omega
theorem at_ofz {E : Nat} {Z e : Int} (h : -(E : Int) ≤ e) : (ofz Z e).at E = Z * 2 ^ (e + E).toNat := by
  rcases ofz_e Z e with h1 | h1
  · have h2 := z_ofz Z e
    unfold Q.at
    have h3 : ((ofz Z e).e + E).toNat = ((ofz Z e).e - e).toNat + (e + E).toNat := by omega
    rw [h3, Int.pow_add, ← Int.mul_assoc, h2]
  · have h2 := z_ofz Z e
    rw [h1, show q0.z = 0 from rfl, Int.zero_mul] at h2
    rw [h1, at0, ← h2, Int.zero_mul]
theorem ofz_low {E : Nat} {Z e : Int} (h : -(E : Int) ≤ e) : -(E : Int) ≤ (ofz Z e).e := by
  rcases ofz_e Z e with h1 | h1
  · omega
  · rw [h1]; show -(E : Int) ≤ 0; omega

/-- Less the number. -/
def Q.neg (q : Q) : Q := if q.m = 0 then q0 else ⟨!q.s, q.m, q.e⟩
def Q.abs (q : Q) : Q := if q.m = 0 then q0 else ⟨false, q.m, q.e⟩
theorem neg_canon {q : Q} (h : Canon q) : Canon q.neg := by
  unfold Q.neg
  split
  · exact canon0
  · rename_i h0; exact ⟨fun h' => absurd h' h0, fun h' => h.2 h'⟩
theorem abs_canon {q : Q} (h : Canon q) : Canon q.abs := by
  unfold Q.abs
  split
  · exact canon0
  · rename_i h0; exact ⟨fun h' => absurd h' h0, fun h' => h.2 h'⟩
theorem z_neg (q : Q) : q.neg.z = -q.z := by
  unfold Q.neg Q.z
  split
  · rename_i h; rw [h]; simp [q0]
  · cases q.s <;> simp
theorem e_neg {q : Q} (h : Canon q) : q.neg.e = q.e := by
  unfold Q.neg
  split
  · rename_i h0; rw [h.1 h0]
  · rfl
theorem m_neg (q : Q) : q.neg.m = q.m := by
  unfold Q.neg
  split
  · rename_i h0; rw [h0]; rfl
  · rfl
/-- The lesser exponent; both numbers for it. -/
def lowe (a b : Q) : Int := min a.e b.e
def Q.up (q : Q) (e : Int) : Int := q.z * 2 ^ (q.e - e).toNat
def plus (a b : Q) : Q := ofz (a.up (lowe a b) + b.up (lowe a b)) (lowe a b)
def minus (a b : Q) : Q := plus a b.neg
def times (a b : Q) : Q := ofz (a.z * b.z) (a.e + b.e)
def scale (a : Q) (k : Int) : Q := if a.m = 0 then q0 else ⟨a.s, a.m, a.e + k⟩
theorem up_at {E : Nat} {q : Q} {e : Int} (h1 : -(E : Int) ≤ e) (h2 : e ≤ q.e) : q.up e * 2 ^ (e + E).toNat = q.at E := by
  unfold Q.up Q.at
  rw [Int.mul_assoc, ← Int.pow_add]
  congr 2; omega
theorem at_plus {E : Nat} {a b : Q} (h1 : -(E : Int) ≤ a.e) (h2 : -(E : Int) ≤ b.e) : (plus a b).at E = a.at E + b.at E := by
  have hl : -(E : Int) ≤ lowe a b := by unfold lowe; omega
  unfold plus
  rw [at_ofz hl, Int.add_mul, up_at hl (by unfold lowe; omega), up_at hl (by unfold lowe; omega)]
theorem low_plus {E : Nat} {a b : Q} (h1 : -(E : Int) ≤ a.e) (h2 : -(E : Int) ≤ b.e) : -(E : Int) ≤ (plus a b).e := ofz_low (by unfold lowe; omega)
theorem at_neg {E : Nat} {a : Q} (h : Canon a) : a.neg.at E = -a.at E := by
  unfold Q.at; rw [z_neg, e_neg h, Int.neg_mul]
theorem at_minus {E : Nat} {a b : Q} (hb : Canon b) (h1 : -(E : Int) ≤ a.e) (h2 : -(E : Int) ≤ b.e) : (minus a b).at E = a.at E - b.at E := by
  unfold minus; rw [at_plus h1 (by rw [e_neg hb]; exact h2), at_neg hb]; omega
theorem low_minus {E : Nat} {a b : Q} (hb : Canon b) (h1 : -(E : Int) ≤ a.e) (h2 : -(E : Int) ≤ b.e) : -(E : Int) ≤ (minus a b).e := low_plus h1 (by rw [e_neg hb]; exact h2)
theorem at_times {E F : Nat} {a b : Q} (h1 : -(E : Int) ≤ a.e) (h2 : -(F : Int) ≤ b.e) : (times a b).at (E + F) = a.at E * b.at F := by
  unfold times
  rw [at_ofz (by omega)]
  unfold Q.at
  have : (a.e + b.e + ((E + F : Nat) : Int)).toNat = (a.e + E).toNat + (b.e + F).toNat := by omega
  rw [this, Int.pow_add]
  generalize (2 : Int) ^ (a.e + E).toNat = p
  generalize (2 : Int) ^ (b.e + F).toNat = r
  rw [Int.mul_assoc, Int.mul_assoc, ← Int.mul_assoc b.z, Int.mul_comm b.z p, Int.mul_assoc p]
theorem low_times {E F : Nat} {a b : Q} (h1 : -(E : Int) ≤ a.e) (h2 : -(F : Int) ≤ b.e) : -((E + F : Nat) : Int) ≤ (times a b).e := ofz_low (by omega)
theorem at_more {E F : Nat} {a : Q} (h1 : -(E : Int) ≤ a.e) : a.at (E + F) = a.at E * 2 ^ F := by
  unfold Q.at
  have : (a.e + ((E + F : Nat) : Int)).toNat = (a.e + E).toNat + F := by omega
  rw [this, Int.pow_add, Int.mul_assoc]
/-- By value. -/
def cmpq (a b : Q) : Int := if a.up (lowe a b) < b.up (lowe a b) then -1 else if b.up (lowe a b) < a.up (lowe a b) then 1 else 0
def signq (a : Q) : Int := if a.m = 0 then 0 else if a.s then -1 else 1
theorem signq_z {a : Q} : signq a = if a.z < 0 then -1 else if 0 < a.z then 1 else 0 := by
  unfold signq Q.z
  rcases Nat.eq_zero_or_pos a.m with h | h
  · simp [h]
  · cases a.s
    · simp; rw [if_neg (by omega), if_neg (by omega), if_pos (by omega)]
    · simp; rw [if_neg (by omega), if_pos (by omega)]
theorem lt_mul_pos {x y p : Int} (hp : 0 < p) : x * p < y * p ↔ x < y := Int.mul_lt_mul_right hp
theorem cmpq_at {E : Nat} {a b : Q} (h1 : -(E : Int) ≤ a.e) (h2 : -(E : Int) ≤ b.e) : cmpq a b = if a.at E < b.at E then -1 else if b.at E < a.at E then 1 else 0 := by
  have hl : -(E : Int) ≤ lowe a b := by unfold lowe; omega
  rw [← up_at hl (q := a) (by unfold lowe; omega), ← up_at hl (q := b) (by unfold lowe; omega)]
  unfold cmpq
  simp only [lt_mul_pos (pow_posZ _)]
theorem signq_at {E : Nat} {a : Q} : signq a = if a.at E < 0 then -1 else if 0 < a.at E then 1 else 0 := by
  rw [signq_z]
  have hp := pow_posZ (a.e + E).toNat
  have e1 := lt_mul_pos (x := a.z) (y := 0) hp
  have e2 := lt_mul_pos (x := 0) (y := a.z) hp
  rw [Int.zero_mul] at e1 e2
  unfold Q.at
  simp only [e1, e2]
end Go.Proofs.YtimkifkikcohgaaDoor
