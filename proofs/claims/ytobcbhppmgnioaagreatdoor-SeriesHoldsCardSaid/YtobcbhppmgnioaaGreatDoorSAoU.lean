/- Decks by loops: small boxes, matrices, points in boxes, in matrices. -/
import Derived.Test.YtobcbhppmgnioaaGreatDoorSAm2
import Derived.Test.YtobcbhppmgnioaaGreatDoorSAkM
namespace Go.Proofs.YtobcbhppmgnioaaGreatDoor
set_option maxHeartbeats 4000000
set_option maxRecDepth 100000
open Go.RowKit Nx
set_option linter.unusedVariables false
set_option linter.unusedSimpArgs false
attribute [local go_sem] X.eta J.eta Q.eta brkf_b brkf_t exef_some exif_some condf_b postf_some memOf cntF nmL rnL nmA rnA isV contsOf ndB refO orO pin Int.toNat_zero decide_eq_true_eq wrap0 wrap1 ci1 ci2 BEq.rfl beq_self_eq_true Int.natCast_zero ge_iff_le gt_iff_lt Int.le_refl Nat.zero_mul Nat.one_mul Nat.zero_add Nat.zero_lt_succ Nat.lt_add_one Nat.le_refl List.append_eq dkO dpf_some rK rKI rKJ Int.toNat_natCast dk0 gIJJI noE boxL_nil boxL_cons ptsL_nil ptsL_cons bne_self_eq_false wr2 wr3 wr4 wr5 wr6 wr7 wr8 gB gP gBB gBP gBZ gBBZ bC_nil bC_cons pC_nil pC_cons fvO Lc.up tyB tiS tiBB List.replicate_succ List.replicate_zero List.flatten_cons List.flatten_nil Int.ofNat_lt Int.cast_ofNat_Int Int.ofNat_eq_natCast List.isEmpty_nil List.isEmpty_cons and_false false_and List.cons_ne_nil Nat.add_zero ite_true ite_false if_true if_false Nat.le_zero_eq eq_self tyM tiQ tiMM gA gE asZ asT asV1 asN1 asB_b asP_b asM_m asQ_m ite_self hoO hoK hpin hoO2 hoK2 hpin2 gINNIB
attribute [local go_sem ↓] not_cond outL_box outL_pts clL_box clL_pts okL_box okL_pts ment_box ment_pts olL_box olL_pts cvL_box cvL_pts noO_box noO_pts asB_box asP_pts len_box len_pts
attribute [local irreducible] chk
noncomputable def seqD {α : Type} (g : Nat → Nat → α × Nat) (k : Nat) : Nat → List α × Nat
 | 0 => ([], k)
 | j + 1 => ((seqD g k j).1 ++ [(g j (seqD g k j).2).1], (g j (seqD g k j).2).2)
theorem seqD_len {α : Type} {g : Nat → Nat → α × Nat} {k : Nat} : ∀ n, (seqD g k n).1.length = n := by
 intro n
 induction n with
 | zero => rfl
 | succ n ih => show ((seqD g k n).1 ++ [_]).length = _; rw [List.length_append, ih]; rfl
theorem seqD_pos {α : Type} {g : Nat → Nat → α × Nat} {k c : Nat} {M : Nat} : ∀ n, k + c * n ≤ M → (∀ j q, j < n → k ≤ q → q + c ≤ M → q ≤ (g j q).2 ∧ (g j q).2 ≤ q + c) → k ≤ (seqD g k n).2 ∧ (seqD g k n).2 ≤ k + c * n := by
 intro n
 induction n with
 | zero => intro _ _; exact ⟨Nat.le_refl _, Nat.le_refl _⟩
 | succ n ih =>
  intro hM h
  have hm : c * (n + 1) = c * n + c := Nat.mul_succ c n
  obtain ⟨h1, h2⟩ := ih (by omega) fun j q hj => h j q (by omega)
  obtain ⟨h3, h4⟩ := h n (seqD g k n).2 (by omega) h1 (by omega)
  show k ≤ (g n (seqD g k n).2).2 ∧ (g n (seqD g k n).2).2 ≤ _
  omega
theorem seqD_get {α : Type} {g : Nat → Nat → α × Nat} {k : Nat} {d : α} : ∀ n i, i < n → (seqD g k n).1.getD i d = (g i (seqD g k i).2).1 := by
 intro n
 induction n with
 | zero => intro i h; omega
 | succ n ih =>
  intro i h
  show ((seqD g k n).1 ++ [_]).getD i d = _
  rw [List.getD_eq_getElem?_getD]
  rcases Nat.lt_or_ge i n with h1 | h1
  ·rw [List.getElem?_append_left (by rw [seqD_len]; exact h1), ← List.getD_eq_getElem?_getD]; exact ih i h1
  ·obtain rfl : i = n := by omega
   rw [List.getElem?_append_right (by rw [seqD_len]; omega), seqD_len, Nat.sub_self]; rfl
theorem seqD_mem {α : Type} {g : Nat → Nat → α × Nat} {k n : Nat} {x : α} (hx : x ∈ (seqD g k n).1) : ∃ i, i < n ∧ x = (g i (seqD g k i).2).1 := by
 obtain ⟨i, hi, e⟩ := List.getElem_of_mem hx
 rw [seqD_len] at hi
 refine ⟨i, hi, ?_⟩
 have := seqD_get (g := g) (k := k) (d := x) n i hi
 rw [← this, List.getD_eq_getElem?_getD, List.getElem?_eq_getElem (by rw [seqD_len]; exact hi), ← e]; rfl
def rKA {α : Type} (pa : AV → Option α) (K : Nat → α → Prop × AV × Nat) : DK := fun k rest => match rest with
 | [x] => (match pa x with
  | some l => some (K k l)
  | none => none)
 | _ => none
theorem rKA_ok {α : Type} {pa : AV → Option α} {c : α → AV} {f0 : FuncId} {xs : List Nat} {K : Nat → α → Prop × AV × Nat} (ha : AsOK pa c) (h : ∀ k l, (K k l).1 → DCt f0 xs [c l] k (K k l).2.1 (K k l).2.2) : ∀ k rest e, rKA pa K k rest = some e → e.1 → DCt f0 xs rest k e.2.1 e.2.2 := by
 intro k rest e he hp
 unfold rKA at he
 split at he
 ·split at he
  ·rename_i x l hl
   injection he with he; subst he
   exact fun ρ D w g T A n c us ht hD hA hR hS => h k l hp ρ D w g T A n c us ht hD hA (RA.c (fun u hu => ha _ _ hl _ _ _ _ hu) (fun us h => h) us hR) hS
  ·cases he
 ·cases he
noncomputable def sbx (xs : List Nat) (m k : Nat) : List J × Nat := seqD (fun _ q => sivD xs q) k m
theorem sbx_spec {xs : List Nat} {m k : Nat} (h : k + 3 * m ≤ 800) : (sbx xs m k).1.length = m ∧ (∀ j ∈ (sbx xs m k).1, Good j ∧ FewJ j) ∧ k ≤ (sbx xs m k).2 ∧ (sbx xs m k).2 ≤ k + 3 * m := by
 have hp := fun i (hi : i ≤ m) => seqD_pos (g := fun _ q => sivD xs q) (k := k) (c := 3) (M := 800) i (by omega) fun j q _ _ h => ⟨(sivD_spec (xs := xs) (k := q) (by omega)).2.1, (sivD_spec (xs := xs) (k := q) (by omega)).2.2.1⟩
 refine ⟨seqD_len m, fun j hj => ?_, hp m (Nat.le_refl m)⟩
 obtain ⟨i, hi, rfl⟩ := seqD_mem hj
 have := hp i (by omega)
 exact (sivD_spec (xs := xs) (by omega)).1
def st_d_sbx (s0 : St) (A : Option Addr) (n c : Nat) (S : Nat → List J × Nat) : Nat → St
 | 0 => s0 ++ [(10, .s (.lit (.slice none 0 0))), (12, iA 0), (2001, .v true [.lit (.slice A n c), .lit (.int .i64 (((S 0).2 : Nat) : Int))])]
 | j + 1 => s0 ++ [(10, .s (.ol 16 (j + 1))), (12, iA ((j + 1 : Nat) : Int)), (2001, .v true [.lit (.slice A n c), .lit (.int .i64 (((S (j + 1)).2 : Nat) : Int))]), (33, .pre 28 6 ((S (j + 1)).1.flatMap J.L))]
theorem d_sbx (xs : List Nat) (k m : Nat) (h1 : 1 ≤ m) (h2 : m ≤ 100) (hk : k + 3 * m ≤ 800) : DCt 14 xs [iA (m : Int)] k (.s (.sl true 6 m (bC (seqD (fun _ q => sivD xs q) k m).1))) ((seqD (fun _ q => sivD xs q) k (m)).2) := by
 have hpq : ∀ i, i < m → (seqD (fun _ q => sivD xs q) k i).2 ≤ 800 := fun i hi => by have := (sbx_spec (xs := xs) (m := i) (k := k) (by omega)).2.2.2; show (sbx xs i k).2 ≤ 800; omega
 refine dct_of (O := fun A n c => dkO 15 A n c (rK fun k => (k ≤ 800, jA (sivD xs k).1, (sivD xs k).2))) (by kernel_rfl) tyM_ok (fun A n c F w hA hn => dkO_ok (xs := xs) (ent Tryz.func15 (by kernel_rfl) rfl) (rK_ok fun k hp => (sivD_spec hp).2.2.2) hA hn) [9999999, 0, 2, 8, 10, 12, 2001, 33] ((m + 1) * 400 + 400) 18 [.tmp 4] Tryz.func14 rfl Tryz.ntmps14 (by decide) (by rw [Tryz.results14]) (by simp) rfl (fun A n c hsm hs => ?_)
 simp (maxSteps := 10000000) only [go_sem, seval, reduceCtorEq, rKA]
 generalize hS0 : seqD (fun _ q => sivD xs q) k = S
 have hlen : ∀ j, (S j).1.length = j := fun j => by rw [← hS0]; exact seqD_len j
 have hS1 : ∀ j, (S (j + 1)).1 = (S j).1 ++ [(sivD xs (S j).2).1] := fun j => by rw [← hS0]; rfl
 have hS2 : ∀ j, ((S (j + 1)).2) = (sivD xs (S j).2).2 := fun j => by rw [← hS0]; rfl
 have hk0 : (S 0).2 = k := by rw [← hS0]; rfl
 have h00 : (S 0).1 = [] := by rw [← hS0]; rfl
 have hq : ∀ j, j < m → (S j).2 ≤ 800 := fun j hj => by rw [← hS0]; exact hpq j hj
 refine loop_ind 400 (st_d_sbx [(0, .s (.own 1000 0)), (2, iA (m : Int)), (8, .s (.lit (.slice none 0 0)))] A n c S) (m) (fun j => True) 0 (fun j _ => by cases j with
  | zero => rfl
  | succ j => simp only [st_d_sbx, List.cons_append, List.nil_append, List.all_cons, List.all_nil, mentA, ment, fm_all (p := ment _) (meC_J _), Bool.and_true]; rfl) (fun j mm _ hj _ ih => ?_) (by omega) trivial (by rw [← hk0]; rfl)
 have hln := hlen j
 rcases Nat.lt_or_ge j (m) with hlt | hge
 ·have g0 : (0 ≤ (j : Int)) = True := eq_true (by omega)
  have hw := wrap_nat (j := j) (by omega)
  have hqj := hq j hlt
  have gm : (j < m) = True := eq_true hlt
  have es : (S j).1.flatMap J.L ++ [.lit (.bool (sivD xs (S j).2).1.lo.s), .lit (.int .i64 (sivD xs (S j).2).1.lo.e), .ws (sivD xs (S j).2).1.lo.xs, .lit (.bool (sivD xs (S j).2).1.hi.s), .lit (.int .i64 (sivD xs (S j).2).1.hi.e), .ws (sivD xs (S j).2).1.hi.xs] = (S (j + 1)).1.flatMap J.L := by rw [hS1, ← fm_snoc]; rfl
  have e2 : (sivD xs (S j).2).2 = (S (j + 1)).2 := (hS2 j).symm
  replace ih := ih hlt trivial
  rcases Nat.eq_zero_or_pos j with hj0 | hj0
  ·have hst : st_d_sbx [(0, .s (.own 1000 0)), (2, iA (m : Int)), (8, .s (.lit (.slice none 0 0)))] A n c S j = [(0, .s (.own 1000 0)), (2, iA (m : Int)), (8, .s (.lit (.slice none 0 0)))] ++ [(10, .s (.lit (.slice none 0 0))), (12, iA (j : Int)), (2001, .v true [.lit (.slice A n c), .lit (.int .i64 (((S j).2 : Nat) : Int))])] := by subst hj0; rfl
   rw [hst]
   simp (maxSteps := 10000000) only [go_sem, seval, reduceCtorEq, rKA, gm, g0, hw, e2]
   repeat' with_reducible first | apply And.intro | apply condP <;> intro _
   all_goals first | (show chk _ _ = true; kernel_rfl) | (exact ih _ _ (by subst hj0; rw [st_d_sbx, ← es, h00]; rfl)) | with_reducible assumption | omega | rfl
  ·obtain ⟨j, rfl⟩ : ∃ i, j = i + 1 := ⟨j - 1, by omega⟩
   have hl : ((S (j + 1)).1.flatMap J.L).length = (j + 1) * 6 := by rw [fm_len (s := 6) (fun _ => rfl), hln]
   have g5 : (j + 1 ≤ 100000) = True := eq_true (by omega)
   simp (maxSteps := 10000000) only [go_sem, seval, reduceCtorEq, rKA, st_d_sbx, gm, g0, hw, hl, g5, es, e2]
   repeat' with_reducible first | apply And.intro | apply condP <;> intro _
   all_goals first | (show chk _ _ = true; kernel_rfl) | (exact ih _ _ rfl) | with_reducible assumption | omega | rfl
 ·obtain ⟨i, rfl⟩ : ∃ i, j = i + 1 := ⟨j - 1, by omega⟩
  have hm : m = i + 1 := by omega
  have dn : (i + 1 < m) = False := eq_false (by omega)
  have hl : ((S (i + 1)).1.flatMap J.L).length = (i + 1) * 6 := by rw [fm_len (s := 6) (fun _ => rfl), hln]
  have hdn : dnT ((S (i + 1)).1.flatMap J.L) = some (bC (S (i + 1)).1) := by exact dnT_fm dnT_J _
  rw [hm]
  simp (maxSteps := 10000000) only [go_sem, seval, reduceCtorEq, rKA, st_d_sbx, dn, hl, hdn]
  repeat' with_reducible first | apply And.intro | apply condP <;> intro _
  all_goals first | (show chk _ _ = true; kernel_rfl) | with_reducible assumption | omega | rfl | (rw [hln]) | (simp only [go_sem, *]; done)
theorem d_sbx' {xs : List Nat} {k : Nat} {z : Int} (h : 1 ≤ z ∧ z ≤ 100 ∧ k + 3 * z.toNat ≤ 800) : DCt 14 xs [iA z] k (.s (.sl true 6 (sbx xs z.toNat k).1.length (bC (sbx xs z.toNat k).1))) (sbx xs z.toNat k).2 := by
 obtain ⟨m, rfl⟩ : ∃ m : Nat, z = (m : Int) := ⟨z.toNat, by omega⟩
 have := d_sbx xs k m (by omega) (by omega) h.2.2
 rw [(sbx_spec h.2.2).1]; exact this
noncomputable def inbx (xs : List Nat) (l : List J) (k : Nat) : List X × Nat := seqD (fun j q => (inD xs (l.getD j zJ) q, q + 1)) k l.length
theorem inbx_pos (xs : List Nat) (l : List J) (k : Nat) : ∀ i, (seqD (fun j q => (inD xs (l.getD j zJ) q, q + 1)) k i).2 = k + i := by
 intro i
 induction i with
 | zero => rfl
 | succ i ih => show (seqD (fun j q => (inD xs (l.getD j zJ) q, q + 1)) k i).2 + 1 = _; rw [ih]; omega
theorem inbx_len (xs : List Nat) (l : List J) (k : Nat) : (inbx xs l k).1.length = l.length := seqD_len _
theorem inbx_get {xs : List Nat} {l : List J} {k i : Nat} (hi : i < l.length) : (inbx xs l k).1.getD i zX = inD xs (l.getD i zJ) (k + i) := by
 unfold inbx
 rw [seqD_get _ _ hi, inbx_pos]
def st_d_inbx (s0 : St) (A : Option Addr) (n c : Nat) (S : Nat → List X × Nat) : Nat → St
 | 0 => s0 ++ [(10, .s (.lit (.slice none 0 0))), (12, iA 0), (2001, .v true [.lit (.slice A n c), .lit (.int .i64 (((S 0).2 : Nat) : Int))])]
 | j + 1 => s0 ++ [(10, .s (.ol 21 (j + 1))), (12, iA ((j + 1 : Nat) : Int)), (2001, .v true [.lit (.slice A n c), .lit (.int .i64 (((S (j + 1)).2 : Nat) : Int))]), (43, .pre 26 3 ((S (j + 1)).1.flatMap X.L))]
theorem d_inbx (xs : List Nat) (k : Nat) (l : List J) (hg : ∀ j ∈ l, Good j) (h1 : 1 ≤ l.length) (h2 : l.length ≤ 100) (hk : k + l.length ≤ 900) : DCt 18 xs [bA_ l] k (.s (.sl true 3 l.length (pC (seqD (fun j q => (inD xs (l.getD j zJ) q, q + 1)) k l.length).1))) ((seqD (fun j q => (inD xs (l.getD j zJ) q, q + 1)) k (l.length)).2) := by
 have hpq : ∀ i, i < l.length → (seqD (fun j q => (inD xs (l.getD j zJ) q, q + 1)) k i).2 ≤ 900 := fun i hi => by rw [inbx_pos]; omega
 refine dct_of (O := fun A n c => dkO 19 A n c (rKJ fun k j => (Good j ∧ k ≤ 900, xA (inD xs j k), k + 1))) (by kernel_rfl) tyM_ok (fun A n c F w hA hn => dkO_ok (xs := xs) (ent Tryz.func19 (by kernel_rfl) rfl) (rKJ_ok fun k j hp => (inD_spec hp.1 hp.2).2.1) hA hn) [9999999, 0, 2, 8, 10, 12, 2001, 43] ((l.length + 1) * 400 + 400) 23 [.tmp 4] Tryz.func18 rfl Tryz.ntmps18 (by decide) (by rw [Tryz.results18]) (by simp) rfl (fun A n c hsm hs => ?_)
 simp (maxSteps := 10000000) only [go_sem, seval, reduceCtorEq, rKA]
 generalize hS0 : seqD (fun j q => (inD xs (l.getD j zJ) q, q + 1)) k = S
 have hlen : ∀ j, (S j).1.length = j := fun j => by rw [← hS0]; exact seqD_len j
 have hS1 : ∀ j, (S (j + 1)).1 = (S j).1 ++ [((inD xs (l.getD j zJ) (S j).2, (S j).2 + 1)).1] := fun j => by rw [← hS0]; rfl
 have hS2 : ∀ j, ((S (j + 1)).2) = ((inD xs (l.getD j zJ) (S j).2, (S j).2 + 1)).2 := fun j => by rw [← hS0]; rfl
 have hk0 : (S 0).2 = k := by rw [← hS0]; rfl
 have h00 : (S 0).1 = [] := by rw [← hS0]; rfl
 have hq : ∀ j, j < l.length → (S j).2 ≤ 900 := fun j hj => by rw [← hS0]; exact hpq j hj
 refine loop_ind 400 (st_d_inbx [(0, .s (.own 1000 0)), (2, bA_ l), (8, .s (.lit (.slice none 0 0)))] A n c S) (l.length) (fun j => True) 0 (fun j _ => by cases j with
  | zero => rfl
  | succ j => simp only [st_d_inbx, List.cons_append, List.nil_append, List.all_cons, List.all_nil, mentA, ment, fm_all (p := ment _) (meC_X _), Bool.and_true]; rfl) (fun j mm _ hj _ ih => ?_) (by omega) trivial (by rw [← hk0]; rfl)
 have hln := hlen j
 rcases Nat.lt_or_ge j (l.length) with hlt | hge
 ·have g0 : (0 ≤ (j : Int)) = True := eq_true (by omega)
  have hw := wrap_nat (j := j) (by omega)
  have hqj := hq j hlt
  have el := bC_at' (at_get zJ hlt)
  have gl : (j < l.length) = True := eq_true hlt
  have gd : Good (l.getD j zJ) := hg _ (List.mem_of_getElem? (at_get zJ hlt))
  have ej : (⟨⟨(l.getD j zJ).lo.s, (l.getD j zJ).lo.e, (l.getD j zJ).lo.xs⟩, ⟨(l.getD j zJ).hi.s, (l.getD j zJ).hi.e, (l.getD j zJ).hi.xs⟩⟩ : J) = l.getD j zJ := rfl
  have es : (S j).1.flatMap X.L ++ [.lit (.bool (inD xs (l.getD j zJ) (S j).2).s), .lit (.int .i64 (inD xs (l.getD j zJ) (S j).2).e), .ws (inD xs (l.getD j zJ) (S j).2).xs] = (S (j + 1)).1.flatMap X.L := by rw [hS1, ← fm_snoc]; rfl
  have e2 : (S j).2 + 1 = (S (j + 1)).2 := (hS2 j).symm
  replace ih := ih hlt trivial
  rcases Nat.eq_zero_or_pos j with hj0 | hj0
  ·have hst : st_d_inbx [(0, .s (.own 1000 0)), (2, bA_ l), (8, .s (.lit (.slice none 0 0)))] A n c S j = [(0, .s (.own 1000 0)), (2, bA_ l), (8, .s (.lit (.slice none 0 0)))] ++ [(10, .s (.lit (.slice none 0 0))), (12, iA (j : Int)), (2001, .v true [.lit (.slice A n c), .lit (.int .i64 (((S j).2 : Nat) : Int))])] := by subst hj0; rfl
   rw [hst]
   simp (maxSteps := 10000000) only [go_sem, seval, reduceCtorEq, rKA, el, gl, ej, g0, hw, e2]
   repeat' with_reducible first | apply And.intro | apply condP <;> intro _
   all_goals first | (show chk _ _ = true; kernel_rfl) | (exact ih _ _ (by subst hj0; rw [st_d_inbx, ← es, h00]; rfl)) | with_reducible assumption | omega | rfl
  ·obtain ⟨j, rfl⟩ : ∃ i, j = i + 1 := ⟨j - 1, by omega⟩
   have hl : ((S (j + 1)).1.flatMap X.L).length = (j + 1) * 3 := by rw [fm_len (s := 3) (fun _ => rfl), hln]
   have g5 : (j + 1 ≤ 100000) = True := eq_true (by omega)
   simp (maxSteps := 10000000) only [go_sem, seval, reduceCtorEq, rKA, st_d_inbx, el, gl, ej, g0, hw, hl, g5, es, e2]
   repeat' with_reducible first | apply And.intro | apply condP <;> intro _
   all_goals first | (show chk _ _ = true; kernel_rfl) | (exact ih _ _ rfl) | with_reducible assumption | omega | rfl
 ·obtain ⟨i, rfl⟩ : ∃ i, j = i + 1 := ⟨j - 1, by omega⟩
  have hm : l.length = i + 1 := by omega
  have dn : (i + 1 < l.length) = False := eq_false (by omega)
  have hl : ((S (i + 1)).1.flatMap X.L).length = (i + 1) * 3 := by rw [fm_len (s := 3) (fun _ => rfl), hln]
  have hdn : dnT ((S (i + 1)).1.flatMap X.L) = some (pC (S (i + 1)).1) := by exact dnT_fm dnT_X _
  rw [hm]
  simp (maxSteps := 10000000) only [go_sem, seval, reduceCtorEq, rKA, st_d_inbx, dn, hl, hdn]
  repeat' with_reducible first | apply And.intro | apply condP <;> intro _
  all_goals first | (show chk _ _ = true; kernel_rfl) | with_reducible assumption | omega | rfl | (rw [hln]) | (simp only [go_sem, *]; done)
theorem d_inbx' {xs : List Nat} {k : Nat} {l : List J} (h : (∀ j ∈ l, Good j) ∧ 1 ≤ l.length ∧ l.length ≤ 100 ∧ k + l.length ≤ 900) : DCt 18 xs [bA_ l] k (.s (.sl true 3 (inbx xs l k).1.length (pC (inbx xs l k).1))) (inbx xs l k).2 := by
 rw [inbx_len]
 exact d_inbx xs k l h.1 h.2.1 h.2.2.1 h.2.2.2
end Go.Proofs.YtobcbhppmgnioaaGreatDoor
