/- fathomlineref1: Less, Order, Exact. fathomlineref1: Straight, CmpNum. The contracts for valid numbers; fathomlinehelp.Zero; light. -/
import Derived.Test.YtdmnohmjobofhaaDoorNumMO
namespace Go.Proofs.YtdmnohmjobofhaaDoor
open Go.RowKit Nx

/-- The place of an argument, in a later world. -/
theorem place_arg {w w' : World} {H n c N : Nat} {A : Option Addr} (h : Dg w A n c N) (hp : ∀ ad, 0 < n → A = some ad → ad.block < H ∨ w.heap.size ≤ ad.block) (_hb : Below w.heap.size w w') :
    ∀ ad, 0 < n → A = some ad → ad.block < H ∨ w'.heap.size ≤ ad.block := fun ad hn hA => by
  obtain ⟨ad', hA', _, hlt, _⟩ := h.2.2 hn
  have : ad = ad' := by rw [hA] at hA'; injection hA'
  subst this
  have := hp ad hn hA
  omega

theorem sign_minus {a b : Q} (hb : Canon b) : signq (minus a b) = cmpq a b := by
  obtain ⟨E, hE⟩ : ∃ E : Nat, E = a.e.natAbs + b.e.natAbs := ⟨_, rfl⟩
  have e1 : -(E : Int) ≤ a.e := by omega
  have e2 : -(E : Int) ≤ b.e := by omega
  rw [signq_at (E := E), cmpq_at e1 e2, at_minus hb e1 e2]
  generalize a.at E = x
  generalize b.at E = y
  by_cases h1 : x < y
  · rw [if_pos (by omega), if_pos h1]
  · rw [if_neg (by omega), if_neg h1]
    by_cases h2 : y < x
    · rw [if_pos (by omega), if_pos h2]
    · rw [if_neg (by omega), if_neg h2]

/-- The sum, the difference, the product. -/
def exq (kd : Int) (a b : Q) : Q := if kd = 0 then plus a b else if kd = 1 then minus a b else times a b
theorem exq_canon (kd : Int) (a b : Q) : Canon (exq kd a b) := by
  unfold exq
  split
  · exact ofz_canon _ _
  · split <;> exact ofz_canon _ _

theorem dg_all {w : World} {A : Option Addr} {n c N : Nat} (_h : Dg w A n c N) : ∀ ad, 0 < n → A = some ad → ad.block < w.heap.size ∨ w.heap.size ≤ ad.block := fun ad _ _ => by omega
theorem ofz_le (Z e : Int) : (ofz Z e).m ≤ Z.natAbs := by
  unfold ofz nm
  split
  · exact Nat.zero_le _
  · exact Nat.div_le_self _ _
theorem up_abs {q : Q} {t : Int} : (q.up t).natAbs = q.m * 2 ^ (q.e - t).toNat := by
  rw [up_eq]
  split
  · rw [Int.natAbs_neg, Int.natAbs_natCast]
  · rw [Int.natAbs_natCast]
theorem plus_lt {a b : Q} {k : Nat} (ha : a.m < B64 ^ k) (hb : b.m < B64 ^ k) (h1 : -131072 ≤ a.e) (h2 : a.e ≤ 131072) (h3 : -131072 ≤ b.e) (h4 : b.e ≤ 131072) : (plus a b).m < B64 ^ (k + 4096 + (k + 4096) + 1) := by
  have hl1 : (a.e - lowe a b).toNat ≤ 262144 := by unfold lowe; omega
  have hl2 : (b.e - lowe a b).toNat ≤ 262144 := by unfold lowe; omega
  refine Nat.lt_of_le_of_lt (ofz_le _ _) (Nat.lt_of_le_of_lt (Int.natAbs_add_le _ _) ?_)
  rw [up_abs, up_abs]
  exact lt_add (up_lt ha hl1) (up_lt hb hl2)
theorem times_lt {a b : Q} {k l : Nat} (ha : a.m < B64 ^ k) (hb : b.m < B64 ^ l) : (times a b).m < B64 ^ (k + l) := by
  refine Nat.lt_of_le_of_lt (ofz_le _ _) ?_
  rw [Int.natAbs_mul]
  have h1 : ∀ q : Q, q.z.natAbs = q.m := fun q => by unfold Q.z; cases q.s <;> simp
  rw [h1, h1]
  exact lt_mul ha hb
theorem exq_lt (kd : Int) {a b : Q} (ha : Fits a) (hb : Fits b) : ∃ K : Nat, K ≤ 100000 ∧ (exq kd a b).m < B64 ^ K := by
  obtain ⟨k, hk⟩ : ∃ k : Nat, k = 64 := ⟨_, rfl⟩
  obtain ⟨a1, a2, a3⟩ := ha
  obtain ⟨b1, b2, b3⟩ := hb
  rw [← hk] at a1 b1
  unfold exq
  split
  · exact ⟨_, by omega, plus_lt a1 b1 (by omega) (by omega) (by omega) (by omega)⟩
  · split
    · unfold minus
      refine ⟨_, ?_, plus_lt a1 (by rw [m_neg]; exact b1) (by omega) (by omega) ?_ ?_⟩
      · omega
      · unfold Q.neg; split
        · show -131072 ≤ (0 : Int); omega
        · show -131072 ≤ b.e; omega
      · unfold Q.neg; split
        · show (0 : Int) ≤ 131072; omega
        · show b.e ≤ 131072; omega
    · exact ⟨_, by omega, times_lt a1 b1⟩

instance : DecidableEq Q := fun a b => decidable_of_iff (a.s = b.s ∧ a.m = b.m ∧ a.e = b.e) ⟨fun ⟨h1, h2, h3⟩ => Q.ext' h1 h2 h3, fun h => by subst h; exact ⟨rfl, rfl, rfl⟩⟩
theorem okb_of {w : World} {A : Option Addr} {n c : Nat} {q : Q} (h : Is w A n c q.m) (hv : Valid q) : okb q.s q.e n (digs B64 q.m) = true := by
  obtain ⟨hc, f1, f2, f3⟩ := hv
  have hl : (digs B64 q.m).length = n := h.1
  unfold okb
  by_cases h0 : n = 0
  · rw [if_pos h0]
    have := hc.1 ((is_zero h).1 h0)
    rw [this]; rfl
  · rw [if_neg h0]
    have hm : q.m ≠ 0 := fun hm => h0 ((is_zero h).2 hm)
    have hlast : (digs B64 q.m).getD (n - 1) 0 ≠ 0 := by
      obtain ⟨y, hg⟩ : ∃ y, (digs B64 q.m)[n - 1]? = some y := ⟨_, List.getElem?_eq_getElem (by omega)⟩
      rw [getD_of hg]
      exact digs_last B64_two _ _ (by rw [List.getLast?_eq_getElem?, hl]; exact hg)
    have hodd : (digs B64 q.m).getD 0 0 % 2 = 1 := by
      rw [digs_pos B64_two hm]
      show q.m % B64 % 2 = 1
      have := hc.2 hm
      unfold B64; omega
    have hle : n ≤ 64 := is_len h f1
    simp only [Bool.and_eq_true, decide_eq_true_eq]
    exact ⟨⟨⟨⟨hlast, hle⟩, hodd⟩, f2⟩, f3⟩
section
variable {w : World} {a b : Q} {A B : Option Addr} {n c m d : Nat}
theorem v_arg (h : Is w A n c a.m) (hv : Valid a) : n ≤ 100000 := by have := is_len h hv.2.1; omega
theorem ans2_valid {f : Q → Q → Q} (ha : Is w A n c a.m) (hb : Is w B m d b.m) (va : Valid a) (vb : Valid b) : ans2 f a.s a.e n (digs B64 a.m) b.s b.e m (digs B64 b.m) = res (f a b) := by
  unfold ans2; rw [okb_of ha va, okb_of hb vb, nval_digs B64_two, nval_digs B64_two]; rfl
theorem nright_v (ha : Is w A n c a.m) (va : Valid a) : Calls Tryd.prog 25 #[.agg #[.bool a.s, .int .i64 a.e, .slice A n c]] w (BoolPost w true) := by
  have := nright_any w a.s a.e A n c _ (is_arg ha) (v_arg ha va)
  rwa [okb_of ha va] at this
theorem nsame_v (ha : Is w A n c a.m) (hb : Is w B m d b.m) (va : Valid a) (vb : Valid b) :
    Calls Tryd.prog 13 #[.agg #[.bool a.s, .int .i64 a.e, .slice A n c], .agg #[.bool b.s, .int .i64 b.e, .slice B m d]] w (BoolPost w (sameb a.s a.e (digs B64 a.m) b.s b.e (digs B64 b.m))) :=
  nsame_any w _ _ _ _ A B n c m d _ _ (is_arg ha) (is_arg hb) (v_arg ha va) (v_arg hb vb)
end
theorem valid0 : Valid q0 := ⟨canon0, fits0⟩
theorem sameb_self (q : Q) : sameb q.s q.e (digs B64 q.m) q.s q.e (digs B64 q.m) = true := by simp [sameb]
theorem sameb_iff {a b : Q} : sameb a.s a.e (digs B64 a.m) b.s b.e (digs B64 b.m) = decide (a = b) := by
  unfold sameb
  apply decide_eq_decide.2
  constructor
  · rintro ⟨h1, h2, h3⟩
    refine Q.ext' h1 ?_ h2
    rw [← nval_digs B64_two a.m, h3, nval_digs B64_two]
  · rintro rfl; exact ⟨rfl, rfl, rfl⟩
theorem res_valid {q : Q} (h : Canon q) : Valid (res q).1 := by
  by_cases hf : Fits q
  · rw [res_ok hf]; exact ⟨h, hf⟩
  · rw [res_over hf]; exact valid0

theorem num_is {lo : Nat} {w : World} {A : Option Addr} {n c N : Nat} (h : Rd .u64 w lo w.heap.size A n c (digs B64 N)) : Is w A n c N := h.less (Nat.zero_le _)
/-- A slice of numbers that is written out: the lengths of their words. -/
def LensN (w : World) (g : Nat) (ls : List Nat) : Prop := ∀ (i l : Nat), ls[i]? = some l → ∃ (A : Option Addr) (c : Nat), w.cell? ⟨g, i * 3 + 2, none⟩ = some (.slice A l c)

end Go.Proofs.YtdmnohmjobofhaaDoor
