/- fathomlineref1: Less, Order, Exact. fathomlineref1: Straight, CmpNum. The contracts for valid numbers; fathomlinehelp.Zero; light. -/
import Derived.Test.YtnkbamjjpdmbaaaDoorNumMO
namespace Go.Proofs.YtnkbamjjpdmbaaaDoor
open Go.RowKit Nx

/-- The place of an argument, in a later world. -/
theorem place_arg {w w' : World} {H n c N : Nat} {A : Option Addr} (h : Dg w A n c N) (hp : ∀ ad, 0 < n → A = some ad → ad.block < H ∨ w.heap.size ≤ ad.block) (_hb : Below w.heap.size w w') :
    ∀ ad, 0 < n → A = some ad → ad.block < H ∨ w'.heap.size ≤ ad.block := fun ad hn hA => by
  obtain ⟨ad', hA', _, hlt, _⟩ := h.2.2 hn
  have : ad = ad' := by rw [hA] at hA'; injection hA'
  subst this
  have := hp ad hn hA
  omega

set_option maxRecDepth 100000 in
set_option maxHeartbeats 4000000 in
theorem less_any (w : World) (H : Nat) (a b : Q) (A B : Option Addr) (n c m d k : Nat) (va : Canon a) (vb : Canon b) (ha : Dg w A n c a.m) (hb : Dg w B m d b.m)
    (pa : ∀ ad, 0 < n → A = some ad → ad.block < H ∨ w.heap.size ≤ ad.block) (pb : ∀ ad, 0 < m → B = some ad → ad.block < H ∨ w.heap.size ≤ ad.block) (hH : H ≤ w.heap.size)
    (hX : a.m < B64 ^ k) (hY : b.m < B64 ^ k) (hk : k ≤ 3000) (h1 : -131072 ≤ a.e) (h2 : a.e ≤ 131072) (h3 : -131072 ≤ b.e) (h4 : b.e ≤ 131072) :
    Calls Tryd.prog 89 #[.agg #[.bool a.s, .slice A n c, .int .i64 a.e], .agg #[.bool b.s, .slice B m d, .int .i64 b.e]] w (ValPost w H (minus a b)) := by
  obtain ⟨r, hr⟩ : ∃ r, r = minus a b := ⟨_, rfl⟩
  have hr' : plus a b.neg = r := hr.symm
  rw [← hr]
  obtain ⟨k1, k2, k3, b3⟩ := vals3_bx w a.s b.s a.e b.e A B n c m d
  have d0 := bdr (Below.refl (((w.alloc (.cells #[.bool a.s, .slice A n c, .int .i64 a.e] 56)).alloc (.cells #[.bool b.s, .slice B m d, .int .i64 b.e] 56)).alloc (.cells #[.bool false, .slice none 0 0, .int .i64 0] 56)).heap.size (((w.alloc (.cells #[.bool a.s, .slice A n c, .int .i64 a.e] 56)).alloc (.cells #[.bool b.s, .slice B m d, .int .i64 b.e] 56)).alloc (.cells #[.bool false, .slice none 0 0, .int .i64 0] 56)))
  have d3 := below_step b3 d0
  have CT := Lib.hid (turned_any _ b B m d vb (hb.step d3))
  have CP := fun w4 (h : Below w.heap.size w w4) => Lib.hid (plus_any w4 H a b.neg A B n c m d k va (neg_canon vb) (ha.step h) (by rw [m_neg]; exact hb.step h) (place_arg ha pa h) (place_arg hb pb h) (by have := h.size; omega) hX (by rw [m_neg]; exact hY) hk h1 h2 (by rw [e_neg vb]; exact h3) (by rw [e_neg vb]; exact h4))
  rw [hr'] at CP
  have K1d := Lib.hid (k1.step d0); have K2d := Lib.hid (k2.step d0); have K3d := Lib.hid (k3.step d0); have B3d := Lib.hid d3
  have S0 := And.intro k1.c0 (And.intro k1.c1 (And.intro k1.c2 (And.intro k2.c0 (And.intro k2.c1 k2.c2))))
  clear k1 k2 k3 b3 d0 d3 ha hb pa pb hX hY hr hr' va vb h1 h2 h3 h4
  generalize b.neg = bn at *
  obtain ⟨s, M, e⟩ := a
  obtain ⟨s', M', e'⟩ := b
  simp only at *
  go_enter Tryd.func89, Tryd.ntmps89
  go_wp2_with fail
  generalize (((w.alloc (.cells #[.bool s, .slice A n c, .int .i64 e] 56)).alloc (.cells #[.bool s', .slice B m d, .int .i64 e'] 56)).alloc (.cells #[.bool false, .slice none 0 0, .int .i64 0] 56)) = w2 at *
  go_region_held3 (fun w' => w'.cell? ⟨w.heap.size, 0, none⟩ = some (.bool s) ∧ w'.cell? ⟨w.heap.size, 1, none⟩ = some (.slice A n c) ∧ w'.cell? ⟨w.heap.size, 2, none⟩ = some (.int .i64 e) ∧ w'.cell? ⟨w.heap.size + 1, 0, none⟩ = some (.bool s') ∧ w'.cell? ⟨w.heap.size + 1, 1, none⟩ = some (.slice B m d) ∧ w'.cell? ⟨w.heap.size + 1, 2, none⟩ = some (.int .i64 e'))
        (first | exact S0 | assumption)
        (first
          | (go_at_call 99
             refine CT.out.mono ?_
             rintro _ w6 ⟨rfl, b6⟩
             have K16 := Lib.hid (K1d.out.step b6); have K26 := Lib.hid (K2d.out.step b6); have K36 := Lib.hid (K3d.out.step b6); have B6 := Lib.hid (below_step B3d.out b6)
             have S6 : w6.cell? ⟨w.heap.size, 0, none⟩ = some (.bool s) ∧ w6.cell? ⟨w.heap.size, 1, none⟩ = some (.slice A n c) ∧ w6.cell? ⟨w.heap.size, 2, none⟩ = some (.int .i64 e) ∧ w6.cell? ⟨w.heap.size + 1, 0, none⟩ = some (.bool s') ∧ w6.cell? ⟨w.heap.size + 1, 1, none⟩ = some (.slice B m d) ∧ w6.cell? ⟨w.heap.size + 1, 2, none⟩ = some (.int .i64 e') := ⟨K16.out.c0, K16.out.c1, K16.out.c2, K26.out.c0, K26.out.c1, K26.out.c2⟩
             have CP6 := CP w6 B6.out
             clear b6)
          | (go_at_call 88
             refine CP6.out.mono ?_
             rintro _ w7 ⟨_, rfl, ⟨A7, n7, c7, rfl, h7, p7⟩, b7⟩
             have K17 := Lib.hid (K16.out.step b7); have K27 := Lib.hid (K26.out.step b7); have K37 := Lib.hid (K36.out.step b7)
             have S7 : w7.cell? ⟨w.heap.size, 0, none⟩ = some (.bool s) ∧ w7.cell? ⟨w.heap.size, 1, none⟩ = some (.slice A n c) ∧ w7.cell? ⟨w.heap.size, 2, none⟩ = some (.int .i64 e) ∧ w7.cell? ⟨w.heap.size + 1, 0, none⟩ = some (.bool s') ∧ w7.cell? ⟨w.heap.size + 1, 1, none⟩ = some (.slice B m d) ∧ w7.cell? ⟨w.heap.size + 1, 2, none⟩ = some (.int .i64 e') := ⟨K17.out.c0, K17.out.c1, K17.out.c2, K27.out.c0, K27.out.c1, K27.out.c2⟩
             have r0 := K37.out.c0; have r1 := K37.out.c1; have r2 := K37.out.c2
             have z0 := K37.out.fz 0; have z1 := K37.out.fz 1; have z2 := K37.out.fz 2
             have F := fun (h i : Nat) (hn : h ≠ w.heap.size + 1 + 1) => put3_far w7 (w.heap.size + 1 + 1) h i (.bool r.s) (.slice A7 n7 c7) (.int .i64 r.e) hn
             have S9 := And.intro ((F w.heap.size 0 (by omega)).trans K17.out.c0) (And.intro ((F w.heap.size 1 (by omega)).trans K17.out.c1) (And.intro ((F w.heap.size 2 (by omega)).trans K17.out.c2) (And.intro ((F (w.heap.size + 1) 0 (by omega)).trans K27.out.c0) (And.intro ((F (w.heap.size + 1) 1 (by omega)).trans K27.out.c1) ((F (w.heap.size + 1) 2 (by omega)).trans K27.out.c2)))))
             clear F
             have RN := Lib.hid (ret_val (g := w.heap.size + 1 + 1) (H := H) (below_step B6.out b7) (by omega) K37.out hH K36.out.lt h7 p7)
             clear h7 b7 p7))
  go_wp2
  obtain ⟨kr, nr, br⟩ := RN.out
  refine bodyPost_ret (v := .agg #[.bool r.s, .slice A7 n7 c7, .int .i64 r.e]) ?_ rfl ⟨_, rfl, nr, br⟩
  have u0 := kr.c0; have u1 := kr.c1; have u2 := kr.c2
  unfold put3 at u0 u1 u2
  simp [results, Tryd.results89, go_sem, u0, u1, u2]

theorem sign_minus {a b : Q} (hb : Canon b) : signq (minus a b) = cmpq a b := by
  obtain ⟨E, hE⟩ : ∃ E : Nat, E = a.e.natAbs + b.e.natAbs := ⟨_, rfl⟩
  have e1 : -(E : Int) ≤ a.e := by omega
  have e2 : -(E : Int) ≤ b.e := by omega
  rw [signq_at (E := E), cmpq_at e1 e2, at_minus hb e1 e2]
  generalize a.at E = x
  generalize b.at E = y
  by_cases h1 : x < y
  · rw [if_pos (by omega), if_pos h1]
  · rw [if_neg (by omega), if_neg h1]
    by_cases h2 : y < x
    · rw [if_pos (by omega), if_pos h2]
    · rw [if_neg (by omega), if_neg h2]

/-- The sum, the difference, the product. -/
def exq (kd : Int) (a b : Q) : Q := if kd = 0 then plus a b else if kd = 1 then minus a b else times a b
theorem exq_canon (kd : Int) (a b : Q) : Canon (exq kd a b) := by
  unfold exq
  split
  · exact ofz_canon _ _
  · split <;> exact ofz_canon _ _

set_option maxRecDepth 100000 in
set_option maxHeartbeats 4000000 in
theorem exact_any (w : World) (H : Nat) (kd : Int) (a b : Q) (A B : Option Addr) (n c m d k : Nat) (va : Canon a) (vb : Canon b) (ha : Dg w A n c a.m) (hb : Dg w B m d b.m)
    (pa : ∀ ad, 0 < n → A = some ad → ad.block < H ∨ w.heap.size ≤ ad.block) (pb : ∀ ad, 0 < m → B = some ad → ad.block < H ∨ w.heap.size ≤ ad.block) (hH : H ≤ w.heap.size)
    (hX : a.m < B64 ^ k) (hY : b.m < B64 ^ k) (hk : k ≤ 3000) (h1 : -131072 ≤ a.e) (h2 : a.e ≤ 131072) (h3 : -131072 ≤ b.e) (h4 : b.e ≤ 131072) :
    Calls Tryd.prog 67 #[.int .i64 kd, .agg #[.bool a.s, .slice A n c, .int .i64 a.e], .agg #[.bool b.s, .slice B m d, .int .i64 b.e]] w (ValPost w H (exq kd a b)) := by
  obtain ⟨k1, k2, k3, b3⟩ := vals3_bx w a.s b.s a.e b.e A B n c m d
  have CP := Lib.hid (plus_any _ H a b A B n c m d k va vb (ha.step b3) (hb.step b3) (place_arg ha pa b3) (place_arg hb pb b3) (by have := b3.size; omega) hX hY hk h1 h2 h3 h4)
  have CL := Lib.hid (less_any _ H a b A B n c m d k va vb (ha.step b3) (hb.step b3) (place_arg ha pa b3) (place_arg hb pb b3) (by have := b3.size; omega) hX hY hk h1 h2 h3 h4)
  have CB := Lib.hid (by_any _ a b A B n c m d k k va vb (ha.step b3) (hb.step b3) hX hY (by omega) (by omega) (by omega) (by omega) (by omega) (by omega))
  have K3 := Lib.hid k3; have B3 := Lib.hid b3
  clear k1 k2 k3 b3 ha hb pa pb hX hY va vb h1 h2 h3 h4
  obtain ⟨r, hr⟩ : ∃ r, r = exq kd a b := ⟨_, rfl⟩
  rw [← hr]
  have E0 := Lib.hid (fun h : kd = 0 => show plus a b = r by rw [hr]; unfold exq; rw [if_pos h])
  have E1 := Lib.hid (fun h0 : kd ≠ 0 => fun h : kd = 1 => show minus a b = r by rw [hr]; unfold exq; rw [if_neg h0, if_pos h])
  have E2 := Lib.hid (fun h0 : kd ≠ 0 => fun h : kd ≠ 1 => show times a b = r by rw [hr]; unfold exq; rw [if_neg h0, if_neg h])
  clear hr
  generalize plus a b = r1 at *
  generalize minus a b = r2 at *
  generalize times a b = r3 at *
  obtain ⟨s, M, e⟩ := a
  obtain ⟨s', M', e'⟩ := b
  simp only at *
  go_enter Tryd.func67, Tryd.ntmps67
  by_cases c0 : kd = 0
  · have f0 : (kd == 0) = true := by simp [c0]
    have hE := E0.out c0
    subst hE
    clear E0 E1 E2
    go_wp2_with fail
    refine CP.out.mono ?_
    rintro _ w7 ⟨_, rfl, ⟨A7, n7, c7, rfl, h7, p7⟩, b7⟩
    have K37 := Lib.hid (K3.out.step b7)
    have r0 := K37.out.c0; have r1' := K37.out.c1; have r2' := K37.out.c2
    have z0 := K37.out.fz 0; have z1 := K37.out.fz 1; have z2 := K37.out.fz 2
    have RN := Lib.hid (ret_val (g := w.heap.size + 1 + 1) (H := H) (below_step B3.out b7) (by omega) K37.out hH K3.out.lt h7 (fun ad hn hA => by have := p7 ad hn hA; omega))
    clear h7 b7 p7
    go_wp2
    obtain ⟨kr, nr, br⟩ := RN.out
    refine bodyPost_ret (v := .agg #[.bool r1.s, .slice A7 n7 c7, .int .i64 r1.e]) ?_ rfl ⟨_, rfl, nr, br⟩
    have u0 := kr.c0; have u1 := kr.c1; have u2 := kr.c2
    unfold put3 at u0 u1 u2
    simp [results, Tryd.results67, go_sem, u0, u1, u2]
  · have f0 : (kd == 0) = false := by simpa using c0
    by_cases c1 : kd = 1
    · have f1 : (kd == 1) = true := by simp [c1]
      have hE := E1.out c0 c1
      subst hE
      clear E0 E1 E2
      go_wp2_with fail
      refine CL.out.mono ?_
      rintro _ w7 ⟨_, rfl, ⟨A7, n7, c7, rfl, h7, p7⟩, b7⟩
      have K37 := Lib.hid (K3.out.step b7)
      have r0 := K37.out.c0; have r1' := K37.out.c1; have r2' := K37.out.c2
      have z0 := K37.out.fz 0; have z1 := K37.out.fz 1; have z2 := K37.out.fz 2
      have RN := Lib.hid (ret_val (g := w.heap.size + 1 + 1) (H := H) (below_step B3.out b7) (by omega) K37.out hH K3.out.lt h7 (fun ad hn hA => by have := p7 ad hn hA; omega))
      clear h7 b7 p7
      go_wp2
      obtain ⟨kr, nr, br⟩ := RN.out
      refine bodyPost_ret (v := .agg #[.bool r2.s, .slice A7 n7 c7, .int .i64 r2.e]) ?_ rfl ⟨_, rfl, nr, br⟩
      have u0 := kr.c0; have u1 := kr.c1; have u2 := kr.c2
      unfold put3 at u0 u1 u2
      simp [results, Tryd.results67, go_sem, u0, u1, u2]
    · have f1 : (kd == 1) = false := by simpa using c1
      have hE := E2.out c0 c1
      subst hE
      clear E0 E1 E2
      go_wp2_with fail
      refine CB.out.mono ?_
      rintro _ w7 ⟨_, rfl, ⟨A7, n7, c7, rfl, h7, p7⟩, b7⟩
      have K37 := Lib.hid (K3.out.step b7)
      have r0 := K37.out.c0; have r1' := K37.out.c1; have r2' := K37.out.c2
      have z0 := K37.out.fz 0; have z1 := K37.out.fz 1; have z2 := K37.out.fz 2
      have RN := Lib.hid (ret_val (g := w.heap.size + 1 + 1) (H := H) (below_step B3.out b7) (by omega) K37.out hH K3.out.lt h7 (fun ad hn hA => by have := p7 ad hn hA; omega))
      clear h7 b7 p7
      go_wp2
      obtain ⟨kr, nr, br⟩ := RN.out
      refine bodyPost_ret (v := .agg #[.bool r3.s, .slice A7 n7 c7, .int .i64 r3.e]) ?_ rfl ⟨_, rfl, nr, br⟩
      have u0 := kr.c0; have u1 := kr.c1; have u2 := kr.c2
      unfold put3 at u0 u1 u2
      simp [results, Tryd.results67, go_sem, u0, u1, u2]

theorem dg_all {w : World} {A : Option Addr} {n c N : Nat} (_h : Dg w A n c N) : ∀ ad, 0 < n → A = some ad → ad.block < w.heap.size ∨ w.heap.size ≤ ad.block := fun ad _ _ => by omega
theorem ofz_le (Z e : Int) : (ofz Z e).m ≤ Z.natAbs := by
  unfold ofz nm
  split
  · exact Nat.zero_le _
  · exact Nat.div_le_self _ _
theorem up_abs {q : Q} {t : Int} : (q.up t).natAbs = q.m * 2 ^ (q.e - t).toNat := by
  rw [up_eq]
  split
  · rw [Int.natAbs_neg, Int.natAbs_natCast]
  · rw [Int.natAbs_natCast]
theorem plus_lt {a b : Q} {k : Nat} (ha : a.m < B64 ^ k) (hb : b.m < B64 ^ k) (h1 : -131072 ≤ a.e) (h2 : a.e ≤ 131072) (h3 : -131072 ≤ b.e) (h4 : b.e ≤ 131072) : (plus a b).m < B64 ^ (k + 4096 + (k + 4096) + 1) := by
  have hl1 : (a.e - lowe a b).toNat ≤ 262144 := by unfold lowe; omega
  have hl2 : (b.e - lowe a b).toNat ≤ 262144 := by unfold lowe; omega
  refine Nat.lt_of_le_of_lt (ofz_le _ _) (Nat.lt_of_le_of_lt (Int.natAbs_add_le _ _) ?_)
  rw [up_abs, up_abs]
  exact lt_add (up_lt ha hl1) (up_lt hb hl2)
theorem times_lt {a b : Q} {k l : Nat} (ha : a.m < B64 ^ k) (hb : b.m < B64 ^ l) : (times a b).m < B64 ^ (k + l) := by
  refine Nat.lt_of_le_of_lt (ofz_le _ _) ?_
  rw [Int.natAbs_mul]
  have h1 : ∀ q : Q, q.z.natAbs = q.m := fun q => by unfold Q.z; cases q.s <;> simp
  rw [h1, h1]
  exact lt_mul ha hb
theorem exq_lt (kd : Int) {a b : Q} (ha : Fits a) (hb : Fits b) : ∃ K : Nat, K ≤ 100000 ∧ (exq kd a b).m < B64 ^ K := by
  obtain ⟨k, hk⟩ : ∃ k : Nat, k = 64 := ⟨_, rfl⟩
  obtain ⟨a1, a2, a3⟩ := ha
  obtain ⟨b1, b2, b3⟩ := hb
  rw [← hk] at a1 b1
  unfold exq
  split
  · exact ⟨_, by omega, plus_lt a1 b1 (by omega) (by omega) (by omega) (by omega)⟩
  · split
    · unfold minus
      refine ⟨_, ?_, plus_lt a1 (by rw [m_neg]; exact b1) (by omega) (by omega) ?_ ?_⟩
      · omega
      · unfold Q.neg; split
        · show -131072 ≤ (0 : Int); omega
        · show -131072 ≤ b.e; omega
      · unfold Q.neg; split
        · show (0 : Int) ≤ 131072; omega
        · show b.e ≤ 131072; omega
    · exact ⟨_, by omega, times_lt a1 b1⟩

instance : DecidableEq Q := fun a b => decidable_of_iff (a.s = b.s ∧ a.m = b.m ∧ a.e = b.e) ⟨fun ⟨h1, h2, h3⟩ => Q.ext' h1 h2 h3, fun h => by subst h; exact ⟨rfl, rfl, rfl⟩⟩
theorem okb_of {w : World} {A : Option Addr} {n c : Nat} {q : Q} (h : Is w A n c q.m) (hv : Valid q) : okb q.s q.e n (digs B64 q.m) = true := by
  obtain ⟨hc, f1, f2, f3⟩ := hv
  have hl : (digs B64 q.m).length = n := h.1
  unfold okb
  by_cases h0 : n = 0
  · rw [if_pos h0]
    have := hc.1 ((is_zero h).1 h0)
    rw [this]; rfl
  · rw [if_neg h0]
    have hm : q.m ≠ 0 := fun hm => h0 ((is_zero h).2 hm)
    have hlast : (digs B64 q.m).getD (n - 1) 0 ≠ 0 := by
      obtain ⟨y, hg⟩ : ∃ y, (digs B64 q.m)[n - 1]? = some y := ⟨_, List.getElem?_eq_getElem (by omega)⟩
      rw [getD_of hg]
      exact digs_last B64_two _ _ (by rw [List.getLast?_eq_getElem?, hl]; exact hg)
    have hodd : (digs B64 q.m).getD 0 0 % 2 = 1 := by
      rw [digs_pos B64_two hm]
      show q.m % B64 % 2 = 1
      have := hc.2 hm
      unfold B64; omega
    have hle : n ≤ 64 := is_len h f1
    simp only [Bool.and_eq_true, decide_eq_true_eq]
    exact ⟨⟨⟨⟨hlast, hle⟩, hodd⟩, f2⟩, f3⟩
section
variable {w : World} {a b : Q} {A B : Option Addr} {n c m d : Nat}
theorem v_arg (h : Is w A n c a.m) (hv : Valid a) : n ≤ 100000 := by have := is_len h hv.2.1; omega
theorem ans2_valid {f : Q → Q → Q} (ha : Is w A n c a.m) (hb : Is w B m d b.m) (va : Valid a) (vb : Valid b) : ans2 f a.s a.e n (digs B64 a.m) b.s b.e m (digs B64 b.m) = res (f a b) := by
  unfold ans2; rw [okb_of ha va, okb_of hb vb, nval_digs B64_two, nval_digs B64_two]; rfl
theorem nadd_v (ha : Is w A n c a.m) (hb : Is w B m d b.m) (va : Valid a) (vb : Valid b) (ht : Tab w) :
    Calls Tryd.prog 19 #[.agg #[.bool a.s, .int .i64 a.e, .slice A n c], .agg #[.bool b.s, .int .i64 b.e, .slice B m d]] w (NumPost2 w (res (plus a b))) := by
  rw [← ans2_valid ha hb va vb]; exact nadd_any w _ _ _ _ A B n c m d _ _ (is_arg ha) (is_arg hb) (v_arg ha va) (v_arg hb vb) ht
theorem nsub_v (ha : Is w A n c a.m) (hb : Is w B m d b.m) (va : Valid a) (vb : Valid b) (ht : Tab w) :
    Calls Tryd.prog 21 #[.agg #[.bool a.s, .int .i64 a.e, .slice A n c], .agg #[.bool b.s, .int .i64 b.e, .slice B m d]] w (NumPost2 w (res (minus a b))) := by
  rw [← ans2_valid ha hb va vb]; exact nsub_any w _ _ _ _ A B n c m d _ _ (is_arg ha) (is_arg hb) (v_arg ha va) (v_arg hb vb) ht
theorem nmul_v (ha : Is w A n c a.m) (hb : Is w B m d b.m) (va : Valid a) (vb : Valid b) (ht : Tab w) :
    Calls Tryd.prog 23 #[.agg #[.bool a.s, .int .i64 a.e, .slice A n c], .agg #[.bool b.s, .int .i64 b.e, .slice B m d]] w (NumPost2 w (res (times a b))) := by
  rw [← ans2_valid ha hb va vb]; exact nmul_any w _ _ _ _ A B n c m d _ _ (is_arg ha) (is_arg hb) (v_arg ha va) (v_arg hb vb) ht
theorem nscale_v (k : Int) (ha : Is w A n c a.m) (va : Valid a) (ht : Tab w) :
    Calls Tryd.prog 27 #[.agg #[.bool a.s, .int .i64 a.e, .slice A n c], .int .i64 k] w (NumPost2 w (res (nm a.s a.m (a.e + k)))) := by
  have := nscale_any w a.s a.e k A n c _ (is_arg ha) (v_arg ha va) ht
  unfold ans1 at this
  rwa [okb_of ha va, nval_digs B64_two] at this
theorem nright_v (ha : Is w A n c a.m) (va : Valid a) : Calls Tryd.prog 44 #[.agg #[.bool a.s, .int .i64 a.e, .slice A n c]] w (BoolPost w true) := by
  have := nright_any w a.s a.e A n c _ (is_arg ha) (v_arg ha va)
  rwa [okb_of ha va] at this
theorem nsign_v (ha : Is w A n c a.m) (va : Valid a) : Calls Tryd.prog 30 #[.agg #[.bool a.s, .int .i64 a.e, .slice A n c]] w (IPost w (signq a)) := by
  have := nsign_any w a.s a.e A n c _ (is_arg ha) (v_arg ha va)
  rwa [okb_of ha va, if_pos rfl, nval_digs B64_two] at this
theorem ncmp_v (ha : Is w A n c a.m) (hb : Is w B m d b.m) (va : Valid a) (vb : Valid b) :
    Calls Tryd.prog 25 #[.agg #[.bool a.s, .int .i64 a.e, .slice A n c], .agg #[.bool b.s, .int .i64 b.e, .slice B m d]] w (IPost w (cmpq a b)) := by
  have := ncmp_any w a.s b.s a.e b.e A B n c m d _ _ (is_arg ha) (is_arg hb) (v_arg ha va) (v_arg hb vb)
  unfold anscmp at this
  rwa [okb_of ha va, okb_of hb vb, nval_digs B64_two, nval_digs B64_two] at this
theorem nsame_v (ha : Is w A n c a.m) (hb : Is w B m d b.m) (va : Valid a) (vb : Valid b) :
    Calls Tryd.prog 28 #[.agg #[.bool a.s, .int .i64 a.e, .slice A n c], .agg #[.bool b.s, .int .i64 b.e, .slice B m d]] w (BoolPost w (sameb a.s a.e (digs B64 a.m) b.s b.e (digs B64 b.m))) :=
  nsame_any w _ _ _ _ A B n c m d _ _ (is_arg ha) (is_arg hb) (v_arg ha va) (v_arg hb vb)
theorem rsame_v (ha : Is w A n c a.m) (hb : Is w B m d b.m) (va : Valid a) (vb : Valid b) :
    Calls Tryd.prog 13 #[.agg #[.bool a.s, .int .i64 a.e, .slice A n c], .agg #[.bool b.s, .int .i64 b.e, .slice B m d]] w (BoolPost w (sameb a.s a.e (digs B64 a.m) b.s b.e (digs B64 b.m))) :=
  rsame_any w _ _ _ _ A B n c m d _ _ (is_arg ha) (is_arg hb) (v_arg ha va) (v_arg hb vb)
end
theorem valid0 : Valid q0 := ⟨canon0, fits0⟩
theorem sameb_self (q : Q) : sameb q.s q.e (digs B64 q.m) q.s q.e (digs B64 q.m) = true := by simp [sameb]
theorem sameb_iff {a b : Q} : sameb a.s a.e (digs B64 a.m) b.s b.e (digs B64 b.m) = decide (a = b) := by
  unfold sameb
  apply decide_eq_decide.2
  constructor
  · rintro ⟨h1, h2, h3⟩
    refine Q.ext' h1 ?_ h2
    rw [← nval_digs B64_two a.m, h3, nval_digs B64_two]
  · rintro rfl; exact ⟨rfl, rfl, rfl⟩
theorem res_valid {q : Q} (h : Canon q) : Valid (res q).1 := by
  by_cases hf : Fits q
  · rw [res_ok hf]; exact ⟨h, hf⟩
  · rw [res_over hf]; exact valid0

set_option maxRecDepth 100000 in
set_option maxHeartbeats 1000000 in
theorem zero_v {w : World} {a : Q} {A : Option Addr} {n c : Nat} (ha : Is w A n c a.m) (va : Valid a) :
    Calls Tryd.prog 31 #[.agg #[.bool a.s, .int .i64 a.e, .slice A n c]] w (BoolPost w (decide (a = q0))) := by
  obtain ⟨k1, b1⟩ := box_one w a.s a.e A n c
  have C := Lib.hid (rsame_v (b := q0) (B := none) (m := 0) (d := 0) (ha.step b1) (by show Is _ _ _ _ 0; unfold Is; rw [digs_zero]; exact Rd.none_) va valid0)
  rw [sameb_iff] at C
  have B1 := Lib.hid b1
  clear k1 b1 ha va
  generalize decide (a = q0) = r at *
  obtain ⟨s, M, e⟩ := a
  simp only [q0] at *
  go_enter Tryd.func31, Tryd.ntmps31
  go_wp2_with fail
  refine C.out.mono ?_
  rintro _ w2 ⟨rfl, b2⟩
  have B2 := Lib.hid (below_step B1.out b2)
  clear b2
  go_wp2
  go_ret
  exact ⟨rfl, B2.out⟩

theorem num_is {lo : Nat} {w : World} {A : Option Addr} {n c N : Nat} (h : Rd .u64 w lo w.heap.size A n c (digs B64 N)) : Is w A n c N := h.less (Nat.zero_le _)
/-- A slice of numbers that is written out: the lengths of their words. -/
def LensN (w : World) (g : Nat) (ls : List Nat) : Prop := ∀ (i l : Nat), ls[i]? = some l → ∃ (A : Option Addr) (c : Nat), w.cell? ⟨g, i * 3 + 2, none⟩ = some (.slice A l c)

end Go.Proofs.YtnkbamjjpdmbaaaDoor
