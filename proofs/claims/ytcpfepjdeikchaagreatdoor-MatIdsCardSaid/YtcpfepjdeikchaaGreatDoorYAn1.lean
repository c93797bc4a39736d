/- Loops of any length in the engine: a state for each turn. -/
import Derived.Test.YtcpfepjdeikchaaGreatDoorYAi7
import Derived.Test.YtcpfepjdeikchaaGreatDoorYAl1
namespace Go.Proofs.YtcpfepjdeikchaaGreatDoor
set_option linter.unusedSimpArgs false
set_option linter.unusedVariables false
set_option maxHeartbeats 4000000
set_option maxRecDepth 100000
open Go.RowKit Nx
section
theorem loop_ind {ty : TypeId → Option TI} {O : Orac} {N : Nat} {Post : St → Prop} {fg : List Nat} {c : Code} {k : List It} (B : Nat) (ST : Nat → St) (n : Nat) (I : Nat → Prop) (L : Nat)
  (hm : ∀ j, j ≤ n → ((ST j).all fun p => mentA (ST j) p.2) = true)
  (step : ∀ j m, L ≤ m → j ≤ n → I j → (j < n → I (j + 1) → ∀ r st, hdS fg st = ST (j + 1) → lpf (run ty O N Post fg (m + r)) (.code c :: .lp c :: k) (hdS fg st)) → run ty O N Post fg (m + B) (.code c :: .lp c :: k) (ST j))
  {M : Nat} {st : St} (hM : (n + 1) * B + L ≤ M) (hI : I 0) (h0 : hdS fg st = ST 0) : lpf (run ty O N Post fg M) (.code c :: .lp c :: k) (hdS fg st) := by
 have key : ∀ d j, j + d = n → I j → ∀ m, (d + 1) * B + L ≤ m → run ty O N Post fg m (.code c :: .lp c :: k) (ST j) := by
  intro d
  induction d with
  | zero =>
   intro j hj hi m hm'
   have hm' : B + L ≤ m := by simpa using hm'
   obtain ⟨m0, rfl⟩ : ∃ m0, m = m0 + B := ⟨m - B, by omega⟩
   exact step j m0 (by omega) (by omega) hi (fun h => by omega)
  | succ d ih =>
   intro j hj hi m hm'
   have hm' : (d + 1) * B + B + L ≤ m := by rw [← Nat.succ_mul]; exact hm'
   obtain ⟨m0, rfl⟩ : ∃ m0, m = m0 + B := ⟨m - B, by omega⟩
   refine step j m0 (by omega) (by omega) hi fun _ hi' r st' h' => ?_
   rw [h']
   exact ⟨hm (j + 1) (by omega), ih (j + 1) (by omega) hi' (m0 + r) (by omega)⟩
 rw [h0]
 exact ⟨hm 0 (Nat.zero_le _), key n 0 (by omega) hI M hM⟩
theorem wrap_nat {j : Nat} (h : j < 4611686018427387904) : IntKind.i64.wrap ((j : Int) + 1) = ((j + 1 : Nat) : Int) := by rw [IntKind.wrap_i64]; omega
end
section
attribute [local go_sem] X.eta J.eta Q.eta brkf_b brkf_t exef_some exif_some condf_b postf_some memOf cntF nmL rnL nmA rnA isV contsOf ndB refO orO pin Int.toNat_zero decide_eq_true_eq wrap0 wrap1 ci1 ci2 BEq.rfl beq_self_eq_true Int.natCast_zero ge_iff_le gt_iff_lt Int.le_refl Nat.zero_mul Nat.one_mul Nat.zero_add Nat.zero_lt_succ Nat.lt_add_one Nat.le_refl List.append_eq Int.toNat_natCast noE boxL_nil boxL_cons ptsL_nil ptsL_cons bxe pxe bne_self_eq_false wr2 wr3 wr4 wr5 wr6 wr7 wr8 gB gP gBB gBP gBZ gBBZ asP asXs bC_nil bC_cons pC_nil pC_cons fvO Lc.up tyB tiS tiBB List.replicate_succ List.replicate_zero List.flatten_cons List.flatten_nil Int.ofNat_lt Int.cast_ofNat_Int Int.ofNat_eq_natCast List.isEmpty_nil List.isEmpty_cons and_false false_and List.cons_ne_nil Nat.add_zero ite_true ite_false if_true if_false Nat.le_zero_eq eq_self
attribute [local go_sem ↓] not_cond outL_box outL_pts clL_box clL_pts okL_box okL_pts ment_box ment_pts olL_box olL_pts cvL_box cvL_pts noO_box noO_pts asB_box asP_pts len_box len_pts
attribute [local irreducible] chk
theorem pC_at : ∀ {l : List X} {j : Nat} {x : X}, l[j]? = some x → ((pC l).drop (j * 3)).take 3 = [.lit (.bool x.s), .lit (.int .i64 x.e), .ws x.xs] := by
 intro l
 induction l with
 | nil => intro j x h; simp at h
 | cons a l ih =>
  intro j x h
  cases j with
  | zero => simp at h; subst h; rfl
  | succ j =>
   rw [pC_cons, show (j + 1) * 3 = j * 3 + 3 by omega]
   exact ih (by simpa using h)
theorem all2_step {α β : Type} {φ : α → β → Bool} : ∀ {l : List α} {m : List β} {j : Nat} {x : α} {y : β}, l[j]? = some x → m[j]? = some y → (φ x y = false → all2 φ l m = false) ∧ (all2 φ (l.take j) (m.take j) = true → φ x y = true → all2 φ (l.take (j + 1)) (m.take (j + 1)) = true) := by
 intro l
 induction l with
 | nil => intro m j x y h; simp at h
 | cons a l ih =>
  intro m j x y h h1
  cases m with
  | nil => simp at h1
  | cons b m =>
   cases j with
   | zero => simp at h h1; subst h; subst h1; simp [all2]; intro h; simp [h]
   | succ j =>
    obtain ⟨i1, i2⟩ := ih (m := m) (j := j) (x := x) (y := y) (by simpa using h) (by simpa using h1)
    refine ⟨fun hf => by unfold all2; rw [i1 hf, Bool.and_false], fun ht hp => ?_⟩
    simp only [List.take_succ_cons] at ht ⊢
    unfold all2 at ht ⊢
    rw [Bool.and_eq_true] at ht ⊢
    exact ⟨ht.1, i2 ht.2 hp⟩
theorem nums_any (l m : List X) (hl : l.length = m.length) (hb : l.length < 4611686018427387904) : Ct Tryz.prog 129 [pA_ l, pA_ m] (· = bA (all2 samex l m)) := by
 have h1 : ((l.length : Int) != (m.length : Int)) = false := by rw [hl]; exact bne_self_eq_false ..
 refine ct_of (O := tblO Tref_Same) (by kernel_rfl) tyB_ok (fun w => tblO_ok Tref_Same_ok _ w) [9999999, 0, 2, 8, 10] ((l.length + 1) * 200 + 100) 27 [.tmp 4] Tryz.func129 rfl Tryz.ntmps129 (by rw [Tryz.results129]) (by simp) rfl (fun hsm => ?_)
 simp (maxSteps := 10000000) only [go_sem, seval, reduceCtorEq, Tref_Same, h1]
 refine loop_ind 200 (fun j => [(0, pA_ l), (2, pA_ m), (8, bA false), (10, iA (j : Int))]) l.length (fun j => all2 samex (l.take j) (m.take j) = true) 0 (fun j _ => rfl) (fun j mm _ hj hI ih => ?_) (by omega) (by simp [all2]) rfl
 rcases Nat.lt_or_ge j l.length with hlt | hge
 ·have hx := List.getElem?_eq_getElem hlt
  have hy := List.getElem?_eq_getElem (show j < m.length by omega)
  generalize l[j] = x at hx
  generalize m[j] = y at hy
  have d := decide_eq_true (show (j : Int) < (l.length : Int) by omega)
  have g1 : (j < l.length) = True := eq_true hlt
  have g2 : (j < m.length) = True := eq_true (by omega)
  have e1 := pC_at hx
  have e2 := pC_at hy
  have hw := wrap_nat (j := j) (by omega)
  have g0 : (0 ≤ (j : Int)) = True := eq_true (by omega)
  obtain ⟨s1, s2⟩ := all2_step (φ := samex) hx hy
  replace ih := ih hlt
  simp (maxSteps := 10000000) only [go_sem, seval, reduceCtorEq, Tref_Same, d, g0, g1, g2, e1, e2, hw]
  refine ⟨by show chk _ _ = true; kernel_rfl, condP (fun h => ih (s2 hI h) _ _ rfl) fun h => by rw [s1 h]⟩
 ·have hn : j = l.length := by omega
  subst hn
  have d := decide_eq_false (show ¬ (l.length : Int) < (l.length : Int) by omega)
  simp (maxSteps := 10000000) only [go_sem, seval, reduceCtorEq, Tref_Same, d]
  rw [List.take_of_length_le (Nat.le_refl _), List.take_of_length_le (by omega)] at hI
  rw [hI]
end
section
attribute [local go_sem] X.eta J.eta Q.eta brkf_b brkf_t exef_some exif_some condf_b postf_some memOf cntF nmL rnL nmA rnA isV contsOf ndB refO orO pin Int.toNat_zero decide_eq_true_eq wrap0 wrap1 ci1 ci2 BEq.rfl beq_self_eq_true Int.natCast_zero ge_iff_le gt_iff_lt Int.le_refl Nat.zero_mul Nat.one_mul Nat.zero_add Nat.zero_lt_succ Nat.lt_add_one Nat.le_refl List.append_eq Int.toNat_natCast noE boxL_nil boxL_cons ptsL_nil ptsL_cons bxe pxe bne_self_eq_false wr2 wr3 wr4 wr5 wr6 wr7 wr8 gB gP gBB gBP gBZ gBBZ asP asXs bC_nil bC_cons pC_nil pC_cons fvO Lc.up tyB tiS tiBB List.replicate_succ List.replicate_zero List.flatten_cons List.flatten_nil Int.ofNat_lt Int.cast_ofNat_Int Int.ofNat_eq_natCast List.isEmpty_nil List.isEmpty_cons and_false false_and List.cons_ne_nil Nat.add_zero ite_true ite_false if_true if_false Nat.le_zero_eq eq_self
attribute [local go_sem ↓] not_cond outL_box outL_pts clL_box clL_pts okL_box okL_pts ment_box ment_pts olL_box olL_pts cvL_box cvL_pts noO_box noO_pts asB_box asP_pts len_box len_pts
attribute [local irreducible] chk
theorem bC_at : ∀ {l : List J} {j : Nat} {x : J}, l[j]? = some x → ((bC l).drop (j * 6)).take 6 = [.lit (.bool x.lo.s), .lit (.int .i64 x.lo.e), .ws x.lo.xs, .lit (.bool x.hi.s), .lit (.int .i64 x.hi.e), .ws x.hi.xs] := by
 intro l
 induction l with
 | nil => intro j x h; simp at h
 | cons a l ih =>
  intro j x h
  cases j with
  | zero => simp at h; subst h; rfl
  | succ j =>
   rw [bC_cons, show (j + 1) * 6 = j * 6 + 6 by omega]
   exact ih (by simpa using h)
theorem tbn {g : FuncId} {d : Nat} {st : St} {args : List AV} : tblO noT g d st args = none := rfl
theorem eqaJ {w : World} {f : FuncId} {caps : List Value} {φ : J → J → Bool} (ht : Tab w) (hf : Fv Tryz.prog w f caps (gJJ fun a b => (True, bA (φ a b)))) (l : List J) (m : List J) (hl : l.length = m.length) (hb : l.length < 4611686018427387904) : Hc Tryz.prog w 113 [bA_ l, bA_ m, fvA f caps] (bA (all2 φ l m)) := by
 have h1 : ((l.length : Int) != (m.length : Int)) = false := by rw [hl]; exact bne_self_eq_false ..
 refine hc_of (O := orO (fvO 2 f caps (gJJ fun a b => (True, bA (φ a b)))) (tblO noT)) (by kernel_rfl) tyB_ok (fvO_or (fvO_ok hf) (tblO_ok noT_ok _ w) (fun g d st args h => tbn)) ht [9999999, 0, 2, 4, 12, 30, 32, 34] ((l.length + 1) * 200 + 100) 32 [.tmp 6] Tryz.func113 rfl Tryz.ntmps113 (by rw [Tryz.results113]) (by simp) rfl (fun hsm => ?_)
 simp (maxSteps := 10000000) only [go_sem, seval, reduceCtorEq, h1]
 refine loop_ind 200 (fun j => [(0, bA_ l), (2, bA_ m), (4, fvA f caps), (12, bA false), (30, bA_ l), (32, iA (l.length : Int)), (34, iA (j : Int))]) l.length (fun j => all2 φ (l.take j) (m.take j) = true) 0 (fun j _ => rfl) (fun j mm _ hj hI ih => ?_) (by omega) (by simp [all2]) rfl
 rcases Nat.lt_or_ge j l.length with hlt | hge
 ·have hx := List.getElem?_eq_getElem hlt
  have hy := List.getElem?_eq_getElem (show j < m.length by omega)
  generalize l[j] = x at hx
  generalize m[j] = y at hy
  have d := decide_eq_true (show (j : Int) < (l.length : Int) by omega)
  have g1 : (j < l.length) = True := eq_true hlt
  have g2 : (j < m.length) = True := eq_true (by omega)
  have e1 := bC_at hx
  have e2 := bC_at hy
  have hw := wrap_nat (j := j) (by omega)
  have g0 : (0 ≤ (j : Int)) = True := eq_true (by omega)
  obtain ⟨s1, s2⟩ := all2_step (φ := φ) hx hy
  replace ih := ih hlt
  simp (maxSteps := 10000000) only [go_sem, seval, reduceCtorEq, d, g0, g1, g2, e1, e2, hw]
  repeat' with_reducible first | apply And.intro | apply condP <;> intro _
  all_goals first | (show chk _ _ = true; kernel_rfl) | (exact ih (s2 hI (by assumption)) _ _ rfl) | (rw [s1 (by assumption)])
 ·have hn : j = l.length := by omega
  subst hn
  have d := decide_eq_false (show ¬ (l.length : Int) < (l.length : Int) by omega)
  simp (maxSteps := 10000000) only [go_sem, seval, reduceCtorEq, d]
  rw [List.take_of_length_le (Nat.le_refl _), List.take_of_length_le (by omega)] at hI
  rw [hI]
end
end Go.Proofs.YtcpfepjdeikchaaGreatDoor
