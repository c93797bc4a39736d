/- num.Mul, num.Scale, num.Int. num.Sign, num.top, num.cmpSizes, num.Cmp; cmp.Compare. num.Cmp, num.Neg, num.Abs. -/
import Derived.Test.YtdmnohmjobofhaaDoorNumDF
import Derived.Test.YtdmnohmjobofhaaDoorRefX
namespace Go.Proofs.YtdmnohmjobofhaaDoor
open Go.RowKit Nx

theorem nm_times {s s' : Bool} {M M' : Nat} {e e' : Int} : nm (s != s') (M * M') (e + e') = times ⟨s, M, e⟩ ⟨s', M', e'⟩ := by
  unfold times Q.z
  rw [nm_ofz]
  congr 1
  cases s <;> cases s' <;> simp [Int.natCast_mul, Int.mul_neg, Int.neg_mul]

/-- A number and an integer. -/
noncomputable def ans1 (s : Bool) (e : Int) (n : Nat) (xs : List Nat) (k : Int) : Q × Int := if okb s e n xs then res (nm s (nval B64 xs) (e + k)) else (q0, 1)
theorem one_bx (w : World) (s : Bool) (e : Int) (A : Option Addr) (n c : Nat) :
    Bx ((w.alloc (.cells #[.bool s, .int .i64 e, .slice A n c] 28)).alloc (.cells #[.bool false, .int .i64 0, .slice none 0 0] 28)) w.heap.size s e A n c ∧
    Bx ((w.alloc (.cells #[.bool s, .int .i64 e, .slice A n c] 28)).alloc (.cells #[.bool false, .int .i64 0, .slice none 0 0] 28)) (w.heap.size + 1) false 0 none 0 0 ∧
    Below w.heap.size w ((w.alloc (.cells #[.bool s, .int .i64 e, .slice A n c] 28)).alloc (.cells #[.bool false, .int .i64 0, .slice none 0 0] 28)) := two_bx w s false e 0 A none n c 0 0
/-- Beyond the bounds no factor makes a valid number. -/
theorem res_far {s : Bool} {M : Nat} {e k : Int} (h : Canon ⟨s, M, e⟩) (h1 : -65536 ≤ e) (h2 : e ≤ 65536) : res (nm s M (e + min (max k (-131073)) 131073)) = res (nm s M (e + k)) := by
  by_cases h0 : M = 0
  · subst h0; rw [nm_zero, nm_zero]
  · by_cases hk : -131073 ≤ k ∧ k ≤ 131073
    · rw [show min (max k (-131073)) 131073 = k by omega]
    · have hz : ntz M = 0 := ntz_odd (h.2 h0)
      have e1 : ∀ t : Int, nm s M t = ⟨s, M / 2 ^ ntz M, t + ntz M⟩ := fun t => by unfold nm; rw [if_neg h0]
      rw [e1, e1, hz]
      rw [res_over, res_over]
      · rintro ⟨_, h3, h4⟩
        simp only at h3 h4
        omega
      · rintro ⟨_, h3, h4⟩
        simp only at h3 h4
        omega

theorem fits_small {s : Bool} {M : Nat} {e : Int} (hM : M < B64 ^ 64) (h1 : -65536 ≤ e) (h2 : e + 4096 ≤ 65536) : Fits (nm s M e) := by
  by_cases h0 : M = 0
  · rw [h0, nm_zero]; exact fits0
  · obtain ⟨k0, hk0⟩ : ∃ k0 : Nat, k0 = 64 := ⟨_, rfl⟩
    have hM' : M < B64 ^ k0 := by rw [hk0]; exact hM
    have hz : ntz M < 64 * k0 := ntz_lt h0 (by rw [← pow64]; exact hM')
    have e1 : nm s M e = ⟨s, M / 2 ^ ntz M, e + ntz M⟩ := by unfold nm; rw [if_neg h0]
    rw [e1]
    exact ⟨Nat.lt_of_le_of_lt (Nat.div_le_self _ _) hM, by show -65536 ≤ e + ntz M; omega, by show e + ntz M ≤ 65536; omega⟩
theorem b64_le : B64 ≤ B64 ^ 64 := by
  have := Nat.pow_le_pow_right (n := B64) (by unfold B64; omega) (show 1 ≤ 64 by omega)
  rwa [Nat.pow_one] at this
/-- Make, of one word that is written out. -/
theorem make_one (W : World) (s : Bool) (M : Nat) (e : Int) (hM : M < B64) (h1 : -65536 ≤ e) (h2 : e + 4096 ≤ 65536) (ht : Tab W) :
    Calls Tryd.prog 12 #[.bool s, .slice (some ⟨W.heap.size, 0, none⟩) 1 1, .int .i64 e] (W.alloc (.cells #[.int .u64 (M : Int)] 41)) (NumPost2 (W.alloc (.cells #[.int .u64 (M : Int)] 41)) (nm s M e, 0)) := by
  have := make_any (W.alloc (.cells #[.int .u64 (M : Int)] 41)) s e (some ⟨W.heap.size, 0, none⟩) 1 1 [M] ⟨one_rd W M, small1 hM⟩ (by omega) (ht.below (one_below _ _))
  rwa [nval1, res_ok (fits_small (Nat.lt_of_lt_of_le hM b64_le) h1 h2)] at this

/-- -1, 0, 1. -/
def cmpi (x y : Int) : Int := if x < y then -1 else if y < x then 1 else 0
theorem cmpi_nat (x y : Nat) : cmpi (x : Int) (y : Int) = cmpv x y := by
  unfold cmpi cmpv
  by_cases h1 : x < y
  · rw [if_pos (by omega), if_pos h1]
  · rw [if_neg (by omega), if_neg h1]
    by_cases h2 : y < x
    · rw [if_pos (by omega), if_pos h2]
    · rw [if_neg (by omega), if_neg h2]
theorem cmpi_neg (x y : Int) : cmpi (-x) (-y) = cmpi y x := by
  unfold cmpi
  by_cases h1 : y < x
  · rw [if_pos (by omega), if_pos h1]
  · rw [if_neg (by omega), if_neg h1]
    by_cases h2 : x < y
    · rw [if_pos (by omega), if_pos h2]
    · rw [if_neg (by omega), if_neg h2]
theorem cmpq_eq (a b : Q) : cmpq a b = cmpi (a.up (lowe a b)) (b.up (lowe a b)) := rfl
theorem up_pos {a : Q} {t : Int} (h : a.m ≠ 0) : 0 < a.m * 2 ^ (a.e - t).toNat := Nat.mul_pos (by omega) (Nat.pow_pos (by omega))
theorem signq_up {a : Q} {t : Int} : (a.up t < 0 ↔ signq a = -1) ∧ (0 < a.up t ↔ signq a = 1) ∧ (a.up t = 0 ↔ signq a = 0) := by
  rw [up_eq]
  unfold signq
  by_cases h : a.m = 0
  · rw [h]; simp
  · have := up_pos (t := t) h
    rw [if_neg h]
    generalize a.m * 2 ^ (a.e - t).toNat = P at *
    cases a.s <;> simp <;> omega
theorem signq_range (a : Q) : signq a = -1 ∨ signq a = 0 ∨ signq a = 1 := by
  unfold signq; split <;> (try split) <;> simp
theorem cmpq_signs {a b : Q} (h : cmpi (signq a) (signq b) ≠ 0) : cmpq a b = cmpi (signq a) (signq b) := by
  obtain ⟨a1, a2, a3⟩ := signq_up (a := a) (t := lowe a b)
  obtain ⟨b1, b2, b3⟩ := signq_up (a := b) (t := lowe a b)
  rw [cmpq_eq]
  generalize a.up (lowe a b) = x at *
  generalize b.up (lowe a b) = y at *
  unfold cmpi at *
  rcases signq_range a with ha | ha | ha <;> rcases signq_range b with hb | hb | hb <;> rw [ha, hb] at h ⊢ <;> simp at h ⊢
  · have := a1.2 ha; have := b3.2 hb; omega
  · have := a1.2 ha; have := b2.2 hb; omega
  · have := a3.2 ha; have := b1.2 hb; omega
  · have := a3.2 ha; have := b2.2 hb; omega
  · have := a2.2 ha; have := b1.2 hb; omega
  · have := a2.2 ha; have := b3.2 hb; omega
theorem cmpq_pos {a b : Q} (h1 : a.s = false) (h2 : b.s = false) : cmpq a b = cmpv (a.m * 2 ^ (a.e - lowe a b).toNat) (b.m * 2 ^ (b.e - lowe a b).toNat) := by
  rw [cmpq_eq, up_eq, up_eq, h1, h2]; exact cmpi_nat _ _
theorem cmpq_neg {a b : Q} (h1 : a.s = true) (h2 : b.s = true) : cmpq a b = cmpv (b.m * 2 ^ (b.e - lowe b a).toNat) (a.m * 2 ^ (a.e - lowe b a).toNat) := by
  have : lowe b a = lowe a b := by unfold lowe; omega
  rw [this, cmpq_eq, up_eq, up_eq, h1, h2]
  simp only [if_true]
  rw [cmpi_neg]; exact cmpi_nat _ _
theorem top_lt_lt {a b : Q} {t : Int} (ha : t ≤ a.e) (hb : t ≤ b.e) (hn : b.m ≠ 0) (h : (nbits a.m : Int) + a.e < nbits b.m + b.e) : a.m * 2 ^ (a.e - t).toNat < b.m * 2 ^ (b.e - t).toNat := by
  have h1 := nbits_lt a.m
  have h2 := nbits_ge hn
  have h3 := nbits_pos hn
  have h4 : a.m * 2 ^ (a.e - t).toNat < 2 ^ (nbits a.m + (a.e - t).toNat) := by rw [Nat.pow_add]; exact Nat.mul_lt_mul_of_pos_right h1 (Nat.pow_pos (by omega))
  have h5 : 2 ^ (nbits b.m - 1 + (b.e - t).toNat) ≤ b.m * 2 ^ (b.e - t).toNat := by rw [Nat.pow_add]; exact Nat.mul_le_mul_right _ h2
  have h6 : 2 ^ (nbits a.m + (a.e - t).toNat) ≤ 2 ^ (nbits b.m - 1 + (b.e - t).toNat) := Nat.pow_le_pow_right (by omega) (by omega)
  omega
/-- The highest bits tell, where they differ. -/
theorem top_tells {a b : Q} (hz : a.m = 0 ↔ b.m = 0) (ha : Canon a) (hb : Canon b) (h : cmpi ((nbits a.m : Int) + a.e) (nbits b.m + b.e) ≠ 0) :
    cmpi ((nbits a.m : Int) + a.e) (nbits b.m + b.e) = cmpv (a.m * 2 ^ (a.e - lowe a b).toNat) (b.m * 2 ^ (b.e - lowe a b).toNat) := by
  have l1 : lowe a b ≤ a.e := by unfold lowe; omega
  have l2 : lowe a b ≤ b.e := by unfold lowe; omega
  by_cases h0 : a.m = 0
  · have h1 := ha.1 h0
    have h2 := hb.1 (hz.1 h0)
    rw [h1, h2] at h
    exact absurd rfl h
  · have h0' : b.m ≠ 0 := fun h => h0 (hz.2 h)
    unfold cmpi at *
    by_cases c1 : (nbits a.m : Int) + a.e < nbits b.m + b.e
    · rw [if_pos c1, cmpv_lt (top_lt_lt l1 l2 h0' c1)]
    · rw [if_neg c1] at h ⊢
      by_cases c2 : (nbits b.m : Int) + b.e < nbits a.m + a.e
      · rw [if_pos c2, cmpv_gt (top_lt_lt l2 l1 h0 c2)]
      · rw [if_neg c2] at h; exact absurd rfl h

def IPost (w : World) (x : Int) (e : Ending) (w' : World) : Prop := e = .returned (.int .i64 x) ∧ Below w.heap.size w w'
theorem box_one (w : World) (s : Bool) (e : Int) (A : Option Addr) (n c : Nat) : Bx (w.alloc (.cells #[.bool s, .int .i64 e, .slice A n c] 28)) w.heap.size s e A n c ∧ Below w.heap.size w (w.alloc (.cells #[.bool s, .int .i64 e, .slice A n c] 28)) := ⟨Bx.new _ _ _ _ _ _, one_below _ _⟩

theorem zero_sign (a : Q) : signq a = 0 ↔ a.m = 0 := by
  unfold signq
  by_cases h : a.m = 0
  · simp [h]
  · simp [h]; cases a.s <;> simp
theorem cmpi_zero {x y : Int} (h : cmpi x y = 0) : x = y := by
  unfold cmpi at h
  split at h
  · omega
  · split at h <;> omega
theorem sign_s {a b : Q} (ha : Canon a) (hb : Canon b) (h : signq a = signq b) : a.s = b.s := by
  by_cases h0 : a.m = 0
  · have h1 := (zero_sign b).1 (h ▸ (zero_sign a).2 h0)
    rw [ha.1 h0, hb.1 h1]
  · have h1 : b.m ≠ 0 := fun h1 => h0 ((zero_sign a).1 (h.trans ((zero_sign b).2 h1)))
    unfold signq at h
    rw [if_neg h0, if_neg h1] at h
    revert h
    cases a.s <;> cases b.s <;> simp

/-- The order of any two numbers. -/
def anscmp (s : Bool) (e : Int) (n : Nat) (xs : List Nat) (s' : Bool) (e' : Int) (m : Nat) (ys : List Nat) : Int :=
  if okb s e n xs && okb s' e' m ys then cmpq ⟨s, nval B64 xs, e⟩ ⟨s', nval B64 ys, e'⟩ else 0

/-- The number with another sign, if it is right and not 0. -/
def anssign (s : Bool) (e : Int) (n : Nat) (xs : List Nat) (t : Bool) : Q := if okb s e n xs then (if nval B64 xs = 0 then q0 else ⟨t, nval B64 xs, e⟩) else q0

end Go.Proofs.YtdmnohmjobofhaaDoor
