/- Package box by loops: what is right; pairs, each; sums, differences, multiples, middles. -/
import Derived.Test.YtcpfepjdeikchaaGreatDoorYAo1
import Derived.Test.YtcpfepjdeikchaaGreatDoorYAl2
namespace Go.Proofs.YtcpfepjdeikchaaGreatDoor
set_option linter.unusedSimpArgs false
set_option linter.unusedVariables false
set_option maxHeartbeats 4000000
set_option maxRecDepth 100000
open Go.RowKit Nx
attribute [local irreducible] chk
section
attribute [local go_sem] tyM tiQ tiMM gA gE asZ asT asV1 asN1 asB_b asP_b asM_m asQ_m ite_self hoO hoK hpin hoO2 hoK2
def hpin2 (L : List (List Lf)) (c0 : FuncId) (L2 : List (List Lf)) (c2 : FuncId) (A : List AV) (r : AV) : HK2 := fun ls c ls2 d xs => some ((ls = L ∧ c = c0) ∧ (ls2 = L2 ∧ d = c2) ∧ xs = A, r)
theorem at_get {α : Type} {l : List α} {j : Nat} (d : α) (h : j < l.length) : l[j]? = some (l.getD j d) := by
 rw [List.getD_eq_getElem?_getD, List.getElem?_eq_getElem h]; rfl
theorem orT_none {S T : Tbl} {f : FuncId} {args : List AV} (h1 : S f args = none) (h2 : T f args = none) : orT S T f args = none := by unfold orT; rw [h1]; exact h2
theorem bC_at' {l : List J} {j : Nat} {x : J} (h : l[j]? = some x) : List.take 6 (List.drop (j * 6) (bC l)) = [.lit (.bool x.lo.s), .lit (.int .i64 x.lo.e), .ws x.lo.xs, .lit (.bool x.hi.s), .lit (.int .i64 x.hi.e), .ws x.hi.xs] := bC_at h
theorem pC_at' {l : List X} {j : Nat} {x : X} (h : l[j]? = some x) : List.take 3 (List.drop (j * 3) (pC l)) = [.lit (.bool x.s), .lit (.int .i64 x.e), .ws x.xs] := pC_at h
def pairN {α : Type} (φ : J → J → α × Int) (l m : List J) : List α × Int := bif (bif rightB l then rightB m else false) then (bif ((l.length : Int) != (m.length : Int)) then ([], 1) else eachN (fun j => φ (l.getD j zJ) (m.getD j zJ)) l.length) else ([], 1)
def oneN {α : Type} (φ : J → α × Int) (l : List J) : List α × Int := bif rightB l then eachN (fun j => φ (l.getD j zJ)) l.length else ([], 1)
theorem pairN_one {α : Type} {φ : J → α × Int} {l : List J} : pairN (fun x _ => φ x) l l = oneN φ l := by
 unfold pairN oneN
 rw [bne_self_eq_false]
 cases rightB l <;> rfl
theorem xr0 (l : List J) (h : (bif decide ((l.length : Int) < 1) then true else decide (4 < (l.length : Int))) = true) : Ct Tryz.prog 50 [bA_ l] (· = bA (rightB l)) := by
 have hr : rightB l = false := by
  unfold rightB
  cases h1 : decide ((l.length : Int) < 1) with
  | true => have := of_decide_eq_true h1; rw [decide_eq_false (show ¬ 1 ≤ l.length by omega)]; rfl
  | false => rw [h1, cond_false] at h; have := of_decide_eq_true h; rw [decide_eq_false (show ¬ l.length ≤ 4 by omega), Bool.and_false]; rfl
 cases h1 : decide ((l.length : Int) < 1) with
 | true =>
  refine ct_of (O := tblO noT) (by kernel_rfl) tyM_ok (fun w => tblO_ok noT_ok _ w) [] 300 23 [.tmp 2] Tryz.func50 rfl Tryz.ntmps50 (by rw [Tryz.results50]) (by simp) rfl (fun hsm => ?_)
  simp (maxSteps := 10000000) only [go_sem, seval, reduceCtorEq, hpin2, h1, hr]
  repeat' with_reducible first | apply And.intro | apply condP <;> intro _
  all_goals first | (show chk _ _ = true; kernel_rfl) | assumption | rfl | (simp only [go_sem, *] <;> rfl)
 | false =>
  rw [h1, cond_false] at h
  refine ct_of (O := tblO noT) (by kernel_rfl) tyM_ok (fun w => tblO_ok noT_ok _ w) [] 300 23 [.tmp 2] Tryz.func50 rfl Tryz.ntmps50 (by rw [Tryz.results50]) (by simp) rfl (fun hsm => ?_)
  simp (maxSteps := 10000000) only [go_sem, seval, reduceCtorEq, hpin2, h1, h, hr]
  repeat' with_reducible first | apply And.intro | apply condP <;> intro _
  all_goals first | (show chk _ _ = true; kernel_rfl) | assumption | rfl | (simp only [go_sem, *] <;> rfl)
theorem xr1 (l : List J) (h1 : 1 ≤ l.length) (h2 : l.length ≤ 4) : Ct Tryz.prog 50 [bA_ l] (· = bA (rightB l)) := by
 have c1 : decide ((l.length : Int) < 1) = false := decide_eq_false (by omega)
 have c2 : decide (4 < (l.length : Int)) = false := decide_eq_false (by omega)
 have hR : rightB l = l.all okJ := by unfold rightB; rw [decide_eq_true h1, decide_eq_true h2]; rfl
 refine ct_of (O := tblO Tiv_Right) (by kernel_rfl) tyM_ok (fun w => tblO_ok Tiv_Right_ok _ w) [9999999, 0, 26, 28, 30] ((l.length + 1) * 200 + 100) 23 [.tmp 2] Tryz.func50 rfl Tryz.ntmps50 (by rw [Tryz.results50]) (by simp) rfl (fun hsm => ?_)
 simp (maxSteps := 10000000) only [go_sem, seval, reduceCtorEq, hpin2, Tiv_Right, c1, c2]
 refine loop_ind 200 (fun j => [(0, bA_ l), (26, bA_ l), (28, iA (l.length : Int)), (30, iA (j : Int))]) l.length (fun j => (l.take j).all okJ = true) 0 (fun j _ => rfl) (fun j mm _ hj hI ih => ?_) (by omega) rfl rfl
 rcases Nat.lt_or_ge j l.length with hlt | hge
 ·have hx := at_get zJ hlt
  generalize l.getD j zJ = x at hx
  have e1 := bC_at' hx
  have d := decide_eq_true (show (j : Int) < (l.length : Int) by omega)
  have g1 : (j < l.length) = True := eq_true hlt
  have g0 : (0 ≤ (j : Int)) = True := eq_true (by omega)
  have hw := wrap_nat (j := j) (by omega)
  have ht : l.take (j + 1) = l.take j ++ [x] := by rw [List.take_add_one, hx]; rfl
  cases hr : okJ x with
  | false =>
   have hm : rightB l = false := by
    rw [hR, List.all_eq_false]
    exact ⟨x, List.mem_of_getElem? hx, by rw [hr]; simp⟩
   simp (maxSteps := 10000000) only [go_sem, seval, reduceCtorEq, hpin2, Tiv_Right, e1, hr, hm, d, g0, g1, hw]
   repeat' with_reducible first | apply And.intro | apply condP <;> intro _
   all_goals first | (show chk _ _ = true; kernel_rfl) | assumption | rfl | (simp only [go_sem, *] <;> rfl)
  | true =>
   replace ih := ih hlt (by rw [ht, List.all_append, hI, List.all_cons, hr]; rfl)
   simp (maxSteps := 10000000) only [go_sem, seval, reduceCtorEq, hpin2, Tiv_Right, e1, hr, d, g0, g1, hw]
   repeat' with_reducible first | apply And.intro | apply condP <;> intro _
   all_goals first | (show chk _ _ = true; kernel_rfl) | (exact ih _ _ rfl) | assumption | rfl
 ·have hn : j = l.length := by omega
  subst hn
  have d := decide_eq_false (show ¬ (l.length : Int) < (l.length : Int) by omega)
  rw [List.take_length] at hI
  rw [hR, hI]
  simp (maxSteps := 10000000) only [go_sem, seval, reduceCtorEq, hpin2, d]
  repeat' with_reducible first | apply And.intro | apply condP <;> intro _
  all_goals first | (show chk _ _ = true; kernel_rfl) | assumption | rfl | (simp only [go_sem, *] <;> rfl)
theorem xr (l : List J) : Ct Tryz.prog 50 [bA_ l] (· = bA (rightB l)) := by
 cases h : (bif decide ((l.length : Int) < 1) then true else decide (4 < (l.length : Int))) with
 | true => exact xr0 l h
 | false =>
  cases h1 : decide ((l.length : Int) < 1) with
  | true => rw [h1] at h; cases h
  | false =>
   rw [h1, cond_false] at h
   have := of_decide_eq_false h1
   have := of_decide_eq_false h
   exact xr1 l (by omega) (by omega)
noncomputable def Tw_Right : Tbl := one 50 (gA asB fun l => gE (True, bA (rightB l)))
theorem Tw_Right_ok : TbOK Tryz.prog Tw_Right := one_t (ent Tryz.func50 (by kernel_rfl) rfl) (.a asB_ok fun l => .e fun _ => xr l)
theorem fv_right {w : World} {f : FuncId} {caps : List Value} {k : List AV → Option (Prop × AV)} (hf : Fv Tryz.prog w f caps k) : OrOK Tryz.prog (orO (fvO 2 f caps k) (tblO Tw_Right)) (fun _ => False) w := by
 refine orO_ok (fvO_ok hf) (tblO_ok Tw_Right_ok _ w) (fun g d st args e he st' => ?_)
 unfold tblO at he
 split at he
 case h_2 => cases he
 rename_i q hq
 unfold Tw_Right one at hq
 split at hq
 case isFalse => cases hq
 match args, hq with
 | [], hq => cases hq
 | [_], _ => rfl
 | x :: y :: r, hq =>
  simp only [List.map_cons, gA, gE] at hq
  split at hq <;> cases hq
theorem xpJe1 {w : World} {f : FuncId} {caps : List Value} {φ : J → J → J × Int} (ht : Tab w) (hf : Fv Tryz.prog w f caps (gJJ fun a b => (True, jeA (φ a b)))) (l m : List J) (h1 : rightB l = false) : Hc Tryz.prog w 149 [bA_ l, bA_ m, fvA f caps] (bxe ([], 1)) := by
 have hO := fv_right hf
 refine hc_of (O := orO (fvO 2 f caps (gJJ fun a b => (True, jeA (φ a b)))) (tblO Tw_Right)) (by kernel_rfl) tyM_ok hO ht [] 400 57 [.tmp 6, .tmp 7] Tryz.func149 rfl Tryz.ntmps149 (by rw [Tryz.results149]) (by simp) rfl (fun hsm => ?_)
 simp (maxSteps := 10000000) only [go_sem, seval, reduceCtorEq, hpin2, Tw_Right, h1]
 repeat' with_reducible first | apply And.intro | apply condP <;> intro _
 all_goals first | (show chk _ _ = true; kernel_rfl) | assumption | rfl | (simp only [go_sem, *] <;> rfl)
theorem xpJe2 {w : World} {f : FuncId} {caps : List Value} {φ : J → J → J × Int} (ht : Tab w) (hf : Fv Tryz.prog w f caps (gJJ fun a b => (True, jeA (φ a b)))) (l m : List J) (h1 : rightB l = true) (h2 : rightB m = false) : Hc Tryz.prog w 149 [bA_ l, bA_ m, fvA f caps] (bxe ([], 1)) := by
 have hO := fv_right hf
 refine hc_of (O := orO (fvO 2 f caps (gJJ fun a b => (True, jeA (φ a b)))) (tblO Tw_Right)) (by kernel_rfl) tyM_ok hO ht [] 400 57 [.tmp 6, .tmp 7] Tryz.func149 rfl Tryz.ntmps149 (by rw [Tryz.results149]) (by simp) rfl (fun hsm => ?_)
 simp (maxSteps := 10000000) only [go_sem, seval, reduceCtorEq, hpin2, Tw_Right, h1, h2]
 repeat' with_reducible first | apply And.intro | apply condP <;> intro _
 all_goals first | (show chk _ _ = true; kernel_rfl) | assumption | rfl | (simp only [go_sem, *] <;> rfl)
theorem xpJe3 {w : World} {f : FuncId} {caps : List Value} {φ : J → J → J × Int} (ht : Tab w) (hf : Fv Tryz.prog w f caps (gJJ fun a b => (True, jeA (φ a b)))) (l m : List J) (h1 : rightB l = true) (h2 : rightB m = true) (h3 : ((l.length : Int) != (m.length : Int)) = true) : Hc Tryz.prog w 149 [bA_ l, bA_ m, fvA f caps] (bxe ([], 1)) := by
 have hO := fv_right hf
 refine hc_of (O := orO (fvO 2 f caps (gJJ fun a b => (True, jeA (φ a b)))) (tblO Tw_Right)) (by kernel_rfl) tyM_ok hO ht [] 400 57 [.tmp 6, .tmp 7] Tryz.func149 rfl Tryz.ntmps149 (by rw [Tryz.results149]) (by simp) rfl (fun hsm => ?_)
 simp (maxSteps := 10000000) only [go_sem, seval, reduceCtorEq, hpin2, Tw_Right, h1, h2, h3]
 repeat' with_reducible first | apply And.intro | apply condP <;> intro _
 all_goals first | (show chk _ _ = true; kernel_rfl) | assumption | rfl | (simp only [go_sem, *] <;> rfl)
theorem xpJg {w : World} {f : FuncId} {caps : List Value} {φ : J → J → J × Int} (ht : Tab w) (hf : Fv Tryz.prog w f caps (gJJ fun a b => (True, jeA (φ a b)))) (l m : List J) (h1 : rightB l = true) (h2 : rightB m = true) (h3 : ((l.length : Int) != (m.length : Int)) = false) (h4 : l.length ≤ 4) : Hc Tryz.prog w 149 [bA_ l, bA_ m, fvA f caps] (bxe (eachN (fun j => φ (l.getD j zJ) (m.getD j zJ)) l.length)) := by
 have hF : ∃ F : Nat → J × Int, F = fun j => φ (l.getD j zJ) (m.getD j zJ) := ⟨_, rfl⟩
 obtain ⟨F, hF0⟩ := hF
 rw [← hF0]
 have hO := fv_right hf
 have c1 : (0 ≤ (l.length : Int)) = True := eq_true (by omega)
 have c2 : ((l.length : Int) ≤ 1000) = True := eq_true (by omega)
 have e0 : (List.replicate l.length [.lit (.bool false), .lit (.int .i64 0), .ws [], .lit (.bool false), .lit (.int .i64 0), .ws []]).flatten = cJ_ l.length ([] : List J) := (cA_nil (cf := J.L) (zf := zJ.L)).symm
 refine hc_of (O := orO (fvO 2 f caps (gJJ fun a b => (True, jeA (φ a b)))) (tblO Tw_Right)) (by kernel_rfl) tyM_ok hO ht [9999999, 0, 2, 4, 16, 59, 62, 64] ((l.length + 1) * 300 + 200) 57 [.tmp 6, .tmp 7] Tryz.func149 rfl Tryz.ntmps149 (by rw [Tryz.results149]) (by simp) rfl (fun hsm => ?_)
 simp (maxSteps := 10000000) only [go_sem, seval, reduceCtorEq, hpin2, Tw_Right, h1, h2, h3, c1, c2, e0]
 refine loop_ind 300 (fun j => [(0, bA_ l), (2, bA_ m), (4, fvA f caps), (16, .s (.osl 29 l.length)), (59, .v true (cJ_ l.length (eachN F j).1)), (62, iA (l.length : Int)), (64, iA (j : Int))]) l.length (fun j => (eachN F j).2 = 0) 0 (fun j _ => by simp only [List.all_cons, List.all_nil, mentA, ment, cJ_me, Bool.and_true]; rfl) (fun j mm _ hj hI ih => ?_) (by omega) rfl rfl
 have hlen := eachN_len hI
 rcases Nat.lt_or_ge j l.length with hlt | hge
 ·have hl2 : l.length = m.length := by have : (l.length : Int) = (m.length : Int) := by simpa using h3
                                       omega
  have hFj : φ (l.getD j zJ) (m.getD j zJ) = F j := by rw [hF0]
  have hx := at_get zJ hlt
  have hy := at_get zJ (show j < m.length by omega)
  have e1 := bC_at' hx
  have e2 := bC_at' hy
  have d := decide_eq_true (show (j : Int) < (l.length : Int) by omega)
  have g1 : (j < l.length) = True := eq_true hlt
  have g0 : (0 ≤ (j : Int)) = True := eq_true (by omega)
  have hw := wrap_nat (j := j) (by omega)
  have g2 : (j < m.length) = True := eq_true (by omega)
  have hl := cJ_len (n := l.length) (l := (eachN F j).1) (by omega)
  have g3 : (j * 6 + 6 ≤ l.length * 6) = True := eq_true (by omega)
  cases hF : (F j).2 != 0 with
  | true =>
   have hr := eachN_at hI hF hlt
   simp (maxSteps := 10000000) only [go_sem, seval, reduceCtorEq, hpin2, Tw_Right, g2, e1, e2, hF, hr, hFj, d, g0, g1, hw]
   repeat' with_reducible first | apply And.intro | apply condP <;> intro _
   all_goals first | (show chk _ _ = true; kernel_rfl) | assumption | rfl | (simp only [go_sem, *] <;> rfl)
  | false =>
   have hF0 : (F j).2 = 0 := by simpa using hF
   have hk := eachN_ok hI hF0
   have es := cA_set (cf := J.L) (zf := zJ.L) (s := 6) (fun _ => rfl) rfl (F j).1 hlen hlt
   have es : List.take (j * 6) (cJ_ l.length (eachN F j).1) ++ [.lit (.bool (F j).1.lo.s), .lit (.int .i64 (F j).1.lo.e), .ws (F j).1.lo.xs, .lit (.bool (F j).1.hi.s), .lit (.int .i64 (F j).1.hi.e), .ws (F j).1.hi.xs] ++ List.drop (j * 6 + 6) (cJ_ l.length (eachN F j).1) = cJ_ l.length (eachN F (j + 1)).1 := by rw [hk]; exact es
   have hk2 : (eachN F (j + 1)).2 = 0 := by rw [hk]
   replace ih := ih hlt hk2
   simp (maxSteps := 10000000) only [go_sem, seval, reduceCtorEq, hpin2, Tw_Right, g2, e1, e2, g3, hl, es, hF, hFj, d, g0, g1, hw]
   repeat' with_reducible first | apply And.intro | apply condP <;> intro _
   all_goals first | (show chk _ _ = true; kernel_rfl) | (exact ih _ _ rfl) | assumption | rfl
 ·have hn : j = l.length := by omega
  subst hn
  have d := decide_eq_false (show ¬ (l.length : Int) < (l.length : Int) by omega)
  have hl := cJ_len (n := l.length) (l := (eachN F l.length).1) (by omega)
  have hq : l.length * 6 / l.length = 6 := Nat.mul_div_cancel_left _ (rightB_len h1).1
  have hdn : dnT (cJ_ l.length (eachN F l.length).1) = some (bC (eachN F l.length).1) := by unfold cJ_; rw [cA_full hlen]; exact dnT_fm dnT_J _
  have hfin : bxe (eachN F l.length) = .tup [(false, [.sl true 6 l.length (bC (eachN F l.length).1)]), (false, [.lit (.int .i64 0)])] := by
   have := (rightB_len h1).1
   generalize l.length = n at *
   cases hx : eachN F n with
   | mk q e =>
    rw [hx] at hI hlen
    have hI : e = 0 := hI
    have hlen : q.length = n := hlen
    subst hI; subst hlen
    cases q with
    | nil => simp at this
    | cons a q => rfl
  simp (maxSteps := 10000000) only [go_sem, seval, reduceCtorEq, hpin2, d, hl, hq, hdn, hfin]
  repeat' with_reducible first | apply And.intro | apply condP <;> intro _
  all_goals first | (show chk _ _ = true; kernel_rfl) | assumption | rfl | (simp only [go_sem, *] <;> rfl)
theorem xpJ {w : World} {f : FuncId} {caps : List Value} {φ : J → J → J × Int} (ht : Tab w) (hf : Fv Tryz.prog w f caps (gJJ fun a b => (True, jeA (φ a b)))) (l m : List J) : Hc Tryz.prog w 149 [bA_ l, bA_ m, fvA f caps] (bxe (pairN φ l m)) := by
 unfold pairN
 cases h1 : rightB l with
 | false => exact xpJe1 ht hf l m h1
 | true =>
  cases h2 : rightB m with
  | false => exact xpJe2 ht hf l m h1 h2
  | true =>
   rw [cond_true, cond_true]
   cases h3 : ((l.length : Int) != (m.length : Int)) with
   | true => exact xpJe3 ht hf l m h1 h2 h3
   | false => exact xpJg ht hf l m h1 h2 h3 (rightB_len h1).2
theorem xpXe1 {w : World} {f : FuncId} {caps : List Value} {φ : J → J → X × Int} (ht : Tab w) (hf : Fv Tryz.prog w f caps (gJJ fun a b => (True, xeA (φ a b)))) (l m : List J) (h1 : rightB l = false) : Hc Tryz.prog w 195 [bA_ l, bA_ m, fvA f caps] (pxe ([], 1)) := by
 have hO := fv_right hf
 refine hc_of (O := orO (fvO 2 f caps (gJJ fun a b => (True, xeA (φ a b)))) (tblO Tw_Right)) (by kernel_rfl) tyM_ok hO ht [] 400 57 [.tmp 6, .tmp 7] Tryz.func195 rfl Tryz.ntmps195 (by rw [Tryz.results195]) (by simp) rfl (fun hsm => ?_)
 simp (maxSteps := 10000000) only [go_sem, seval, reduceCtorEq, hpin2, Tw_Right, h1]
 repeat' with_reducible first | apply And.intro | apply condP <;> intro _
 all_goals first | (show chk _ _ = true; kernel_rfl) | assumption | rfl | (simp only [go_sem, *] <;> rfl)
theorem xpXe2 {w : World} {f : FuncId} {caps : List Value} {φ : J → J → X × Int} (ht : Tab w) (hf : Fv Tryz.prog w f caps (gJJ fun a b => (True, xeA (φ a b)))) (l m : List J) (h1 : rightB l = true) (h2 : rightB m = false) : Hc Tryz.prog w 195 [bA_ l, bA_ m, fvA f caps] (pxe ([], 1)) := by
 have hO := fv_right hf
 refine hc_of (O := orO (fvO 2 f caps (gJJ fun a b => (True, xeA (φ a b)))) (tblO Tw_Right)) (by kernel_rfl) tyM_ok hO ht [] 400 57 [.tmp 6, .tmp 7] Tryz.func195 rfl Tryz.ntmps195 (by rw [Tryz.results195]) (by simp) rfl (fun hsm => ?_)
 simp (maxSteps := 10000000) only [go_sem, seval, reduceCtorEq, hpin2, Tw_Right, h1, h2]
 repeat' with_reducible first | apply And.intro | apply condP <;> intro _
 all_goals first | (show chk _ _ = true; kernel_rfl) | assumption | rfl | (simp only [go_sem, *] <;> rfl)
theorem xpXe3 {w : World} {f : FuncId} {caps : List Value} {φ : J → J → X × Int} (ht : Tab w) (hf : Fv Tryz.prog w f caps (gJJ fun a b => (True, xeA (φ a b)))) (l m : List J) (h1 : rightB l = true) (h2 : rightB m = true) (h3 : ((l.length : Int) != (m.length : Int)) = true) : Hc Tryz.prog w 195 [bA_ l, bA_ m, fvA f caps] (pxe ([], 1)) := by
 have hO := fv_right hf
 refine hc_of (O := orO (fvO 2 f caps (gJJ fun a b => (True, xeA (φ a b)))) (tblO Tw_Right)) (by kernel_rfl) tyM_ok hO ht [] 400 57 [.tmp 6, .tmp 7] Tryz.func195 rfl Tryz.ntmps195 (by rw [Tryz.results195]) (by simp) rfl (fun hsm => ?_)
 simp (maxSteps := 10000000) only [go_sem, seval, reduceCtorEq, hpin2, Tw_Right, h1, h2, h3]
 repeat' with_reducible first | apply And.intro | apply condP <;> intro _
 all_goals first | (show chk _ _ = true; kernel_rfl) | assumption | rfl | (simp only [go_sem, *] <;> rfl)
theorem xpXg {w : World} {f : FuncId} {caps : List Value} {φ : J → J → X × Int} (ht : Tab w) (hf : Fv Tryz.prog w f caps (gJJ fun a b => (True, xeA (φ a b)))) (l m : List J) (h1 : rightB l = true) (h2 : rightB m = true) (h3 : ((l.length : Int) != (m.length : Int)) = false) (h4 : l.length ≤ 4) : Hc Tryz.prog w 195 [bA_ l, bA_ m, fvA f caps] (pxe (eachN (fun j => φ (l.getD j zJ) (m.getD j zJ)) l.length)) := by
 have hF : ∃ F : Nat → X × Int, F = fun j => φ (l.getD j zJ) (m.getD j zJ) := ⟨_, rfl⟩
 obtain ⟨F, hF0⟩ := hF
 rw [← hF0]
 have hO := fv_right hf
 have c1 : (0 ≤ (l.length : Int)) = True := eq_true (by omega)
 have c2 : ((l.length : Int) ≤ 1000) = True := eq_true (by omega)
 have e0 : (List.replicate l.length [.lit (.bool false), .lit (.int .i64 0), .ws []]).flatten = cX_ l.length ([] : List X) := (cA_nil (cf := X.L) (zf := zX.L)).symm
 refine hc_of (O := orO (fvO 2 f caps (gJJ fun a b => (True, xeA (φ a b)))) (tblO Tw_Right)) (by kernel_rfl) tyM_ok hO ht [9999999, 0, 2, 4, 16, 59, 62, 64] ((l.length + 1) * 300 + 200) 57 [.tmp 6, .tmp 7] Tryz.func195 rfl Tryz.ntmps195 (by rw [Tryz.results195]) (by simp) rfl (fun hsm => ?_)
 simp (maxSteps := 10000000) only [go_sem, seval, reduceCtorEq, hpin2, Tw_Right, h1, h2, h3, c1, c2, e0]
 refine loop_ind 300 (fun j => [(0, bA_ l), (2, bA_ m), (4, fvA f caps), (16, .s (.osl 29 l.length)), (59, .v true (cX_ l.length (eachN F j).1)), (62, iA (l.length : Int)), (64, iA (j : Int))]) l.length (fun j => (eachN F j).2 = 0) 0 (fun j _ => by simp only [List.all_cons, List.all_nil, mentA, ment, cX_me, Bool.and_true]; rfl) (fun j mm _ hj hI ih => ?_) (by omega) rfl rfl
 have hlen := eachN_len hI
 rcases Nat.lt_or_ge j l.length with hlt | hge
 ·have hl2 : l.length = m.length := by have : (l.length : Int) = (m.length : Int) := by simpa using h3
                                       omega
  have hFj : φ (l.getD j zJ) (m.getD j zJ) = F j := by rw [hF0]
  have hx := at_get zJ hlt
  have hy := at_get zJ (show j < m.length by omega)
  have e1 := bC_at' hx
  have e2 := bC_at' hy
  have d := decide_eq_true (show (j : Int) < (l.length : Int) by omega)
  have g1 : (j < l.length) = True := eq_true hlt
  have g0 : (0 ≤ (j : Int)) = True := eq_true (by omega)
  have hw := wrap_nat (j := j) (by omega)
  have g2 : (j < m.length) = True := eq_true (by omega)
  have hl := cX_len (n := l.length) (l := (eachN F j).1) (by omega)
  have g3 : (j * 3 + 3 ≤ l.length * 3) = True := eq_true (by omega)
  cases hF : (F j).2 != 0 with
  | true =>
   have hr := eachN_at hI hF hlt
   simp (maxSteps := 10000000) only [go_sem, seval, reduceCtorEq, hpin2, Tw_Right, g2, e1, e2, hF, hr, hFj, d, g0, g1, hw]
   repeat' with_reducible first | apply And.intro | apply condP <;> intro _
   all_goals first | (show chk _ _ = true; kernel_rfl) | assumption | rfl | (simp only [go_sem, *] <;> rfl)
  | false =>
   have hF0 : (F j).2 = 0 := by simpa using hF
   have hk := eachN_ok hI hF0
   have es := cA_set (cf := X.L) (zf := zX.L) (s := 3) (fun _ => rfl) rfl (F j).1 hlen hlt
   have es : List.take (j * 3) (cX_ l.length (eachN F j).1) ++ [.lit (.bool (F j).1.s), .lit (.int .i64 (F j).1.e), .ws (F j).1.xs] ++ List.drop (j * 3 + 3) (cX_ l.length (eachN F j).1) = cX_ l.length (eachN F (j + 1)).1 := by rw [hk]; exact es
   have hk2 : (eachN F (j + 1)).2 = 0 := by rw [hk]
   replace ih := ih hlt hk2
   simp (maxSteps := 10000000) only [go_sem, seval, reduceCtorEq, hpin2, Tw_Right, g2, e1, e2, g3, hl, es, hF, hFj, d, g0, g1, hw]
   repeat' with_reducible first | apply And.intro | apply condP <;> intro _
   all_goals first | (show chk _ _ = true; kernel_rfl) | (exact ih _ _ rfl) | assumption | rfl
 ·have hn : j = l.length := by omega
  subst hn
  have d := decide_eq_false (show ¬ (l.length : Int) < (l.length : Int) by omega)
  have hl := cX_len (n := l.length) (l := (eachN F l.length).1) (by omega)
  have hq : l.length * 3 / l.length = 3 := Nat.mul_div_cancel_left _ (rightB_len h1).1
  have hdn : dnT (cX_ l.length (eachN F l.length).1) = some (pC (eachN F l.length).1) := by unfold cX_; rw [cA_full hlen]; exact dnT_fm dnT_X _
  have hfin : pxe (eachN F l.length) = .tup [(false, [.sl true 3 l.length (pC (eachN F l.length).1)]), (false, [.lit (.int .i64 0)])] := by
   have := (rightB_len h1).1
   generalize l.length = n at *
   cases hx : eachN F n with
   | mk q e =>
    rw [hx] at hI hlen
    have hI : e = 0 := hI
    have hlen : q.length = n := hlen
    subst hI; subst hlen
    cases q with
    | nil => simp at this
    | cons a q => rfl
  simp (maxSteps := 10000000) only [go_sem, seval, reduceCtorEq, hpin2, d, hl, hq, hdn, hfin]
  repeat' with_reducible first | apply And.intro | apply condP <;> intro _
  all_goals first | (show chk _ _ = true; kernel_rfl) | assumption | rfl | (simp only [go_sem, *] <;> rfl)
theorem xpX {w : World} {f : FuncId} {caps : List Value} {φ : J → J → X × Int} (ht : Tab w) (hf : Fv Tryz.prog w f caps (gJJ fun a b => (True, xeA (φ a b)))) (l m : List J) : Hc Tryz.prog w 195 [bA_ l, bA_ m, fvA f caps] (pxe (pairN φ l m)) := by
 unfold pairN
 cases h1 : rightB l with
 | false => exact xpXe1 ht hf l m h1
 | true =>
  cases h2 : rightB m with
  | false => exact xpXe2 ht hf l m h1 h2
  | true =>
   rw [cond_true, cond_true]
   cases h3 : ((l.length : Int) != (m.length : Int)) with
   | true => exact xpXe3 ht hf l m h1 h2 h3
   | false => exact xpXg ht hf l m h1 h2 h3 (rightB_len h1).2
theorem xeJ {w : World} {f : FuncId} {caps : List Value} {φ : J → J × Int} (ht : Tab w) (hf : Fv Tryz.prog w f caps (gJ fun j => (True, jeA (φ j)))) (l : List J) : Hc Tryz.prog w 153 [bA_ l, fvA f caps] (bxe (oneN φ l)) := by
 rw [← pairN_one]
 refine hc_of (O := orO (hoO 149 2 (hpin [[.lit (.func (.func f) #[] caps.toArray)]] 194 [bA_ l, bA_ l] (bxe (pairN (fun a _ => φ a) l l)))) (tblO noT)) (by kernel_rfl) tyM_ok (hoO_or (hoO_ok (ent Tryz.func149 (by kernel_rfl) rfl) (fun ls c xs e he hp S w' gs hb ht' hL => by
  injection he with he; subst he
  obtain ⟨rfl, rfl, rfl⟩ := hp
  exact xpJ ht' (echJ1 hL (hf.mono hb)) l l)) (tblO_ok noT_ok _ w) (fun _ _ _ => tblO_none fun _ => rfl)) ht [] 300 12 [.tmp 4, .tmp 5] Tryz.func153 rfl Tryz.ntmps153 (by rw [Tryz.results153]) (by simp) rfl (fun hsm => ?_)
 simp (maxSteps := 10000000) only [go_sem, seval, reduceCtorEq, hpin2, bxe, pxe, lpf, hdS, hd1, pick, forget, frh, frz, frS, frA, frL]
 repeat' with_reducible first | apply And.intro | apply condP <;> intro _
 all_goals first | (show chk _ _ = true; kernel_rfl) | assumption | rfl | (simp only [go_sem, *, hoO, hoK, hpin] <;> rfl)
theorem xeX {w : World} {f : FuncId} {caps : List Value} {φ : J → X × Int} (ht : Tab w) (hf : Fv Tryz.prog w f caps (gJ fun j => (True, xeA (φ j)))) (l : List J) : Hc Tryz.prog w 155 [bA_ l, fvA f caps] (pxe (oneN φ l)) := by
 rw [← pairN_one]
 refine hc_of (O := orO (hoO 195 2 (hpin [[.lit (.func (.func f) #[] caps.toArray)]] 196 [bA_ l, bA_ l] (pxe (pairN (fun a _ => φ a) l l)))) (tblO noT)) (by kernel_rfl) tyM_ok (hoO_or (hoO_ok (ent Tryz.func195 (by kernel_rfl) rfl) (fun ls c xs e he hp S w' gs hb ht' hL => by
  injection he with he; subst he
  obtain ⟨rfl, rfl, rfl⟩ := hp
  exact xpX ht' (echX1 hL (hf.mono hb)) l l)) (tblO_ok noT_ok _ w) (fun _ _ _ => tblO_none fun _ => rfl)) ht [] 300 12 [.tmp 4, .tmp 5] Tryz.func155 rfl Tryz.ntmps155 (by rw [Tryz.results155]) (by simp) rfl (fun hsm => ?_)
 simp (maxSteps := 10000000) only [go_sem, seval, reduceCtorEq, hpin2, bxe, pxe, lpf, hdS, hd1, pick, forget, frh, frz, frS, frA, frL]
 repeat' with_reducible first | apply And.intro | apply condP <;> intro _
 all_goals first | (show chk _ _ = true; kernel_rfl) | assumption | rfl | (simp only [go_sem, *, hoO, hoK, hpin] <;> rfl)
theorem x_add (l : List J) (m : List J) (z : Int) : Ct Tryz.prog 103 [bA_ l, bA_ m, iA z] (· = bxe (pairN (fun a b => addJ a b z) l m)) := by
 refine ct_of (O := orO (hoO 149 2 (hpin [[.lit (.int .i64 z)]] 150 [bA_ l, bA_ m] (bxe (pairN (fun a b => addJ a b z) l m)))) (tblO noT)) (by kernel_rfl) tyM_ok (fun w => hoO_or (hoO_ok (ent Tryz.func149 (by kernel_rfl) rfl) (fun ls c xs e he hp S w' gs hb ht' hL => by
  injection he with he; subst he
  obtain ⟨rfl, rfl, rfl⟩ := hp
  exact xpJ ht' (c_add hL) l m)) (tblO_ok noT_ok _ w) (fun _ _ _ => tblO_none fun _ => rfl)) [] 600 14 [.tmp 6, .tmp 7] Tryz.func103 rfl Tryz.ntmps103 (by rw [Tryz.results103]) (by simp) rfl (fun hsm => ?_)
 simp (maxSteps := 10000000) only [go_sem, seval, reduceCtorEq, hpin2, bxe, pxe, lpf, hdS, hd1, pick, forget, frh, frz, frS, frA, frL]
 repeat' with_reducible first | apply And.intro | apply condP <;> intro _
 all_goals first | (show chk _ _ = true; kernel_rfl) | assumption | rfl | (simp only [go_sem, *, hoO, hoK, hpin] <;> rfl)
noncomputable def Tw_add : Tbl := one 103 (gA asB fun l => gA asB fun m => gA asZ fun z => gE (True, bxe (pairN (fun a b => addJ a b z) l m)))
theorem Tw_add_ok : TbOK Tryz.prog Tw_add := one_t (ent Tryz.func103 (by kernel_rfl) rfl) (.a asB_ok fun l => .a asB_ok fun m => .a asZ_ok fun z => .e fun _ => x_add l m z)
theorem x_sub (l : List J) (m : List J) (z : Int) : Ct Tryz.prog 105 [bA_ l, bA_ m, iA z] (· = bxe (pairN (fun a b => subJ a b z) l m)) := by
 refine ct_of (O := orO (hoO 149 2 (hpin [[.lit (.int .i64 z)]] 151 [bA_ l, bA_ m] (bxe (pairN (fun a b => subJ a b z) l m)))) (tblO noT)) (by kernel_rfl) tyM_ok (fun w => hoO_or (hoO_ok (ent Tryz.func149 (by kernel_rfl) rfl) (fun ls c xs e he hp S w' gs hb ht' hL => by
  injection he with he; subst he
  obtain ⟨rfl, rfl, rfl⟩ := hp
  exact xpJ ht' (c_sub hL) l m)) (tblO_ok noT_ok _ w) (fun _ _ _ => tblO_none fun _ => rfl)) [] 600 14 [.tmp 6, .tmp 7] Tryz.func105 rfl Tryz.ntmps105 (by rw [Tryz.results105]) (by simp) rfl (fun hsm => ?_)
 simp (maxSteps := 10000000) only [go_sem, seval, reduceCtorEq, hpin2, bxe, pxe, lpf, hdS, hd1, pick, forget, frh, frz, frS, frA, frL]
 repeat' with_reducible first | apply And.intro | apply condP <;> intro _
 all_goals first | (show chk _ _ = true; kernel_rfl) | assumption | rfl | (simp only [go_sem, *, hoO, hoK, hpin] <;> rfl)
noncomputable def Tw_sub : Tbl := one 105 (gA asB fun l => gA asB fun m => gA asZ fun z => gE (True, bxe (pairN (fun a b => subJ a b z) l m)))
theorem Tw_sub_ok : TbOK Tryz.prog Tw_sub := one_t (ent Tryz.func105 (by kernel_rfl) rfl) (.a asB_ok fun l => .a asB_ok fun m => .a asZ_ok fun z => .e fun _ => x_sub l m z)
theorem x_tim (x : J) (l : List J) (z : Int) : Ct Tryz.prog 108 [jA x, bA_ l, iA z] (· = bxe (oneN (fun a => mulJ x a z) l)) := by
 refine ct_of (O := orO (hoO 153 1 (hpin [x.L, [.lit (.int .i64 z)]] 154 [bA_ l] (bxe (oneN (fun a => mulJ x a z) l)))) (tblO noT)) (by kernel_rfl) tyM_ok (fun w => hoO_or (hoO_ok (ent Tryz.func153 (by kernel_rfl) rfl) (fun ls c xs e he hp S w' gs hb ht' hL => by
  injection he with he; subst he
  obtain ⟨rfl, rfl, rfl⟩ := hp
  exact xeJ ht' (c_times hL) l)) (tblO_ok noT_ok _ w) (fun _ _ _ => tblO_none fun _ => rfl)) [] 600 13 [.tmp 6, .tmp 7] Tryz.func108 rfl Tryz.ntmps108 (by rw [Tryz.results108]) (by simp) rfl (fun hsm => ?_)
 simp (maxSteps := 10000000) only [go_sem, seval, reduceCtorEq, hpin2, bxe, pxe, lpf, hdS, hd1, pick, forget, frh, frz, frS, frA, frL]
 repeat' with_reducible first | apply And.intro | apply condP <;> intro _
 all_goals first | (show chk _ _ = true; kernel_rfl) | assumption | rfl | (simp only [go_sem, *, hoO, hoK, hpin] <;> rfl)
noncomputable def Tw_tim : Tbl := one 108 (gA asV1 fun x => gA asB fun l => gA asZ fun z => gE (True, bxe (oneN (fun a => mulJ x a z) l)))
theorem Tw_tim_ok : TbOK Tryz.prog Tw_tim := one_t (ent Tryz.func108 (by kernel_rfl) rfl) (.a asV1_ok fun x => .a asB_ok fun l => .a asZ_ok fun z => .e fun _ => x_tim x l z)
theorem x_mid (l : List J) (z : Int) : Ct Tryz.prog 112 [bA_ l, iA z] (· = pxe (oneN (fun a => midX a z) l)) := by
 refine ct_of (O := orO (hoO 155 1 (hpin [[.lit (.int .i64 z)]] 156 [bA_ l] (pxe (oneN (fun a => midX a z) l)))) (tblO noT)) (by kernel_rfl) tyM_ok (fun w => hoO_or (hoO_ok (ent Tryz.func155 (by kernel_rfl) rfl) (fun ls c xs e he hp S w' gs hb ht' hL => by
  injection he with he; subst he
  obtain ⟨rfl, rfl, rfl⟩ := hp
  exact xeX ht' (c_mid hL) l)) (tblO_ok noT_ok _ w) (fun _ _ _ => tblO_none fun _ => rfl)) [] 600 11 [.tmp 4, .tmp 5] Tryz.func112 rfl Tryz.ntmps112 (by rw [Tryz.results112]) (by simp) rfl (fun hsm => ?_)
 simp (maxSteps := 10000000) only [go_sem, seval, reduceCtorEq, hpin2, bxe, pxe, lpf, hdS, hd1, pick, forget, frh, frz, frS, frA, frL]
 repeat' with_reducible first | apply And.intro | apply condP <;> intro _
 all_goals first | (show chk _ _ = true; kernel_rfl) | assumption | rfl | (simp only [go_sem, *, hoO, hoK, hpin] <;> rfl)
noncomputable def Tw_mid : Tbl := one 112 (gA asB fun l => gA asZ fun z => gE (True, pxe (oneN (fun a => midX a z) l)))
theorem Tw_mid_ok : TbOK Tryz.prog Tw_mid := one_t (ent Tryz.func112 (by kernel_rfl) rfl) (.a asB_ok fun l => .a asZ_ok fun z => .e fun _ => x_mid l z)
end
section
attribute [local go_sem] tyM tiQ tiMM gA gE asZ asT asV1 asN1 asB_b asP_b asM_m asQ_m ite_self hoO hoK hpin hoO2 hoK2 hpin2
def mC (m : List (List J)) : Lc := .sl 1 m.length (m.map rC)
abbrev mm_ (l : List (List (List J))) : AV := .s (.sl false 1 l.length (l.map mC))
def asMs : List Lc → Option (List (List (List J)))
 | [] => some []
 | .sl sz n ls :: r => (match asRs ls, asMs r with
  | some m, some l => if sz = 1 ∧ n = m.length then some (m :: l) else none
  | _, _ => none)
 | _ => none
def asMM (x : AV) : Option (List (List (List J))) := match x with
 | .v false [.sl false sz n ls] => (match asMs ls with
  | some l => if sz = 1 ∧ n = l.length then some l else none
  | none => none)
 | _ => none
theorem asMs_R {S : Nat → Prop} {w : World} : ∀ {ls : List Lc} {m : List (List (List J))}, asMs ls = some m → ls.length = (m.map mC).length ∧ ∀ us, LcL S w ls us → LcL S w (m.map mC) us := by
 intro ls
 induction ls with
 | nil => intro m h; injection h with h; subst h; exact ⟨rfl, fun _ h => h⟩
 | cons l ls ih =>
  intro m h
  unfold asMs at h
  split at h
  ·rename_i e; cases e
  ·rename_i sz n ks r e
   injection e with e1 e2; subst e1; subst e2
   split at h
   ·rename_i l' m' h1 h2
    split at h
    ·rename_i hc
     injection h with h; subst h
     obtain ⟨rfl, rfl⟩ := hc
     obtain ⟨i1, i2⟩ := ih h2
     refine ⟨by simp [i1], ?_⟩
     rintro us ⟨u, r, rfl, h3, h4⟩
     exact ⟨u, r, rfl, slR_map (asRs_R (S := S) (w := w) h1).1 (asRs_R h1).2 h3, i2 _ h4⟩
    ·cases h
   ·cases h
  ·cases h
theorem asMM_ok : AsOK asMM mm_ := by
 intro x m h ρ D w u hR
 unfold asMM at h
 split at h
 ·split at h
  ·rename_i ls m' hl
   split at h
   ·rename_i hc
    injection h with h; subst h
    obtain ⟨rfl, rfl⟩ := hc
    exact RL.one.2 (slR_map (asMs_R (S := SepF false ρ D) (w := w) hl).1 (asMs_R hl).2 (RL.one.1 hR))
   ·cases h
  ·cases h
 ·cases h
theorem rC_at {m : List (List J)} {j : Nat} {r : List J} (h : m[j]? = some r) : List.take 1 (List.drop (j * 1) (List.map rC m)) = [Lc.sl 6 r.length (bC r)] := by
 rw [Nat.mul_one, ← List.map_drop, ← List.map_take]
 have hlt : j < m.length := (List.getElem?_eq_some_iff.1 h).1
 rw [List.drop_eq_getElem_cons hlt, List.take_succ_cons, List.take_zero, (List.getElem?_eq_some_iff.1 h).2]
 rfl
theorem rP_at {m : List (List X)} {j : Nat} {r : List X} (h : m[j]? = some r) : List.take 1 (List.drop (j * 1) (List.map rP m)) = [Lc.sl 3 r.length (pC r)] := by
 rw [Nat.mul_one, ← List.map_drop, ← List.map_take]
 have hlt : j < m.length := (List.getElem?_eq_some_iff.1 h).1
 rw [List.drop_eq_getElem_cons hlt, List.take_succ_cons, List.take_zero, (List.getElem?_eq_some_iff.1 h).2]
 rfl
theorem mC_at {m : List (List (List J))} {j : Nat} {r : List (List J)} (h : m[j]? = some r) : List.take 1 (List.drop (j * 1) (List.map mC m)) = [Lc.sl 1 r.length (r.map rC)] := by
 rw [Nat.mul_one, ← List.map_drop, ← List.map_take]
 have hlt : j < m.length := (List.getElem?_eq_some_iff.1 h).1
 rw [List.drop_eq_getElem_cons hlt, List.take_succ_cons, List.take_zero, (List.getElem?_eq_some_iff.1 h).2]
 rfl
def rng (n a b : Int) : Bool := bif decide (a ≤ n) then decide (n ≤ b) else false
def rowOk (n : Nat) (r : List J) : Bool := bif ((r.length : Int) != (n : Int)) then false else rightB r
def rightM (m : List (List J)) : Bool := bif rng m.length 1 4 then m.all (rowOk m.length) else false
theorem m_range (x a b : Int) : Ct Tryz.prog 49 [iA x, iA a, iA b] (· = bA (rng x a b)) := by
 refine ct_of (O := tblO noT) (by kernel_rfl) tyM_ok (fun w => tblO_ok noT_ok _ w) [] 600 15 [.tmp 6] Tryz.func49 rfl Tryz.ntmps49 (by rw [Tryz.results49]) (by simp) rfl (fun hsm => ?_)
 simp (maxSteps := 10000000) only [go_sem, seval, reduceCtorEq, rng, bxe, pxe, lpf, hdS, hd1, pick, forget, frh, frz, frS, frA, frL]
 repeat' with_reducible first | apply And.intro | apply condP <;> intro _
 all_goals first | (show chk _ _ = true; kernel_rfl) | assumption | rfl | (simp only [go_sem, *, rng] <;> rfl)
noncomputable def Tm_range : Tbl := one 49 (gA asZ fun x => gA asZ fun a => gA asZ fun b => gE (True, bA (rng x a b)))
theorem Tm_range_ok : TbOK Tryz.prog Tm_range := one_t (ent Tryz.func49 (by kernel_rfl) rfl) (.a asZ_ok fun x => .a asZ_ok fun a => .a asZ_ok fun b => .e fun _ => m_range x a b)
theorem m_right0 (m : List (List J)) (h : rng m.length 1 4 = false) : Ct Tryz.prog 9 [mA_ m] (· = bA (rightM m)) := by
 have hr : rightM m = false := by unfold rightM; rw [h]; rfl
 refine ct_of (O := tblO Tm_range) (by kernel_rfl) tyM_ok (fun w => tblO_ok Tm_range_ok _ w) [] 600 30 [.tmp 2] Tryz.func9 rfl Tryz.ntmps9 (by rw [Tryz.results9]) (by simp) rfl (fun hsm => ?_)
 simp (maxSteps := 10000000) only [go_sem, seval, reduceCtorEq, Tm_range, h, hr, bxe, pxe, lpf, hdS, hd1, pick, forget, frh, frz, frS, frA, frL]
 repeat' with_reducible first | apply And.intro | apply condP <;> intro _
 all_goals first | (show chk _ _ = true; kernel_rfl) | assumption | rfl | (simp only [go_sem, *] <;> rfl)
theorem m_right1 (m : List (List J)) (h : rng m.length 1 4 = true) : Ct Tryz.prog 9 [mA_ m] (· = bA (rightM m)) := by
 have hb : m.length ≤ 4 := by
  unfold rng at h
  cases h1 : decide ((1 : Int) ≤ (m.length : Int)) with
  | false => rw [h1] at h; cases h
  | true => rw [h1, cond_true] at h; have := of_decide_eq_true h; omega
 refine ct_of (O := tblO (orT Tm_range Tw_Right)) (by kernel_rfl) tyM_ok (fun w => tblO_ok (orT_ok Tm_range_ok Tw_Right_ok) _ w) [9999999, 0, 6, 20, 22] ((m.length + 1) * 300 + 200) 30 [.tmp 2] Tryz.func9 rfl Tryz.ntmps9 (by rw [Tryz.results9]) (by simp) rfl (fun hsm => ?_)
 simp (maxSteps := 10000000) only [go_sem, seval, reduceCtorEq, Tm_range, Tw_Right, h]
 refine loop_ind 300 (fun j => [(0, mA_ m), (6, iA (m.length : Int)), (20, iA (m.length : Int)), (22, iA (j : Int))]) m.length (fun j => (m.take j).all (rowOk m.length) = true) 0 (fun j _ => rfl) (fun j mm _ hj hI ih => ?_) (by omega) rfl rfl
 rcases Nat.lt_or_ge j m.length with hlt | hge
 ·have hx := at_get [] hlt
  generalize m.getD j [] = r at hx
  have e1 := rC_at hx
  have d := decide_eq_true (show (j : Int) < (m.length : Int) by omega)
  have g1 : (j < m.length) = True := eq_true hlt
  have g0 : (0 ≤ (j : Int)) = True := eq_true (by omega)
  have hw := wrap_nat (j := j) (by omega)
  have ht : m.take (j + 1) = m.take j ++ [r] := by rw [List.take_add_one, hx]; rfl
  cases hr : rowOk m.length r with
  | false =>
   have hm : rightM m = false := by
    unfold rightM
    rw [h, cond_true, List.all_eq_false]
    exact ⟨r, List.mem_of_getElem? hx, by rw [hr]; simp⟩
   unfold rowOk at hr
   cases hq : ((r.length : Int) != (m.length : Int)) with
   | true =>
    simp (maxSteps := 10000000) only [go_sem, seval, reduceCtorEq, Tm_range, Tw_Right, d, g0, g1, e1, hw, hq, hm]
    repeat' with_reducible first | apply And.intro | apply condP <;> intro _
    all_goals first | (show chk _ _ = true; kernel_rfl) | assumption | rfl | (simp only [go_sem, *] <;> rfl)
   | false =>
    rw [hq, cond_false] at hr
    simp (maxSteps := 10000000) only [go_sem, seval, reduceCtorEq, Tm_range, Tw_Right, d, g0, g1, e1, hw, hq, hr, hm]
    repeat' with_reducible first | apply And.intro | apply condP <;> intro _
    all_goals first | (show chk _ _ = true; kernel_rfl) | assumption | rfl | (simp only [go_sem, *] <;> rfl)
  | true =>
   replace ih := ih hlt (by rw [ht, List.all_append, hI, List.all_cons, hr]; rfl)
   unfold rowOk at hr
   cases hq : ((r.length : Int) != (m.length : Int)) with
   | true => rw [hq] at hr; cases hr
   | false =>
    rw [hq, cond_false] at hr
    simp (maxSteps := 10000000) only [go_sem, seval, reduceCtorEq, Tm_range, Tw_Right, d, g0, g1, e1, hw, hq, hr]
    repeat' with_reducible first | apply And.intro | apply condP <;> intro _
    all_goals first | (show chk _ _ = true; kernel_rfl) | (exact ih _ _ rfl) | assumption | rfl
 ·have hn : j = m.length := by omega
  subst hn
  have d := decide_eq_false (show ¬ (m.length : Int) < (m.length : Int) by omega)
  rw [List.take_length] at hI
  have hm : rightM m = true := by unfold rightM; rw [h, hI]; rfl
  simp (maxSteps := 10000000) only [go_sem, seval, reduceCtorEq, Tm_range, Tw_Right, d, hm]
  repeat' with_reducible first | apply And.intro | apply condP <;> intro _
  all_goals first | (show chk _ _ = true; kernel_rfl) | assumption | rfl | (simp only [go_sem, *] <;> rfl)
theorem m_right (m : List (List J)) : Ct Tryz.prog 9 [mA_ m] (· = bA (rightM m)) := by
 cases h : rng m.length 1 4 with
 | false => exact m_right0 m h
 | true => exact m_right1 m h
noncomputable def Tm_Right : Tbl := one 9 (gA asM fun m => gE (True, bA (rightM m)))
theorem Tm_Right_ok : TbOK Tryz.prog Tm_Right := one_t (ent Tryz.func9 (by kernel_rfl) rfl) (.a asM_ok fun m => .e fun _ => m_right m)
theorem m_rights (p : Int) (l : List (List (List J))) (hl : l.length ≤ 100) : Ct Tryz.prog 73 [iA p, mm_ l] (· = bA (bif l.all rightM then rng p 8 256 else false)) := by
 refine ct_of (O := tblO (orT Tm_range Tm_Right)) (by kernel_rfl) tyM_ok (fun w => tblO_ok (orT_ok Tm_range_ok Tm_Right_ok) _ w) [9999999, 0, 14, 16, 18] ((l.length + 1) * 300 + 200) 19 [.tmp 4] Tryz.func73 rfl Tryz.ntmps73 (by rw [Tryz.results73]) (by simp) rfl (fun hsm => ?_)
 simp (maxSteps := 10000000) only [go_sem, seval, reduceCtorEq, Tm_range, Tm_Right]
 refine loop_ind 300 (fun j => [(0, iA p), (14, mm_ l), (16, iA (l.length : Int)), (18, iA (j : Int))]) l.length (fun j => (l.take j).all rightM = true) 0 (fun j _ => rfl) (fun j mm _ hj hI ih => ?_) (by omega) rfl rfl
 rcases Nat.lt_or_ge j l.length with hlt | hge
 ·have hx := at_get [] hlt
  generalize l.getD j [] = r at hx
  have e1 := mC_at hx
  have d := decide_eq_true (show (j : Int) < (l.length : Int) by omega)
  have g1 : (j < l.length) = True := eq_true hlt
  have g0 : (0 ≤ (j : Int)) = True := eq_true (by omega)
  have hw := wrap_nat (j := j) (by omega)
  have ht : l.take (j + 1) = l.take j ++ [r] := by rw [List.take_add_one, hx]; rfl
  cases hr : rightM r with
  | false =>
   have hm : l.all rightM = false := by
    rw [List.all_eq_false]
    exact ⟨r, List.mem_of_getElem? hx, by rw [hr]; simp⟩
   simp (maxSteps := 10000000) only [go_sem, seval, reduceCtorEq, Tm_range, Tm_Right, d, g0, g1, e1, hw, hr, hm]
   repeat' with_reducible first | apply And.intro | apply condP <;> intro _
   all_goals first | (show chk _ _ = true; kernel_rfl) | assumption | rfl | (simp only [go_sem, *] <;> rfl)
  | true =>
   replace ih := ih hlt (by rw [ht, List.all_append, hI, List.all_cons, hr]; rfl)
   simp (maxSteps := 10000000) only [go_sem, seval, reduceCtorEq, Tm_range, Tm_Right, d, g0, g1, e1, hw, hr]
   repeat' with_reducible first | apply And.intro | apply condP <;> intro _
   all_goals first | (show chk _ _ = true; kernel_rfl) | (exact ih _ _ rfl) | assumption | rfl
 ·have hn : j = l.length := by omega
  subst hn
  have d := decide_eq_false (show ¬ (l.length : Int) < (l.length : Int) by omega)
  rw [List.take_length] at hI
  simp (maxSteps := 10000000) only [go_sem, seval, reduceCtorEq, Tm_range, Tm_Right, d, hI]
  repeat' with_reducible first | apply And.intro | apply condP <;> intro _
  all_goals first | (show chk _ _ = true; kernel_rfl) | assumption | rfl | (simp only [go_sem, *] <;> rfl)
noncomputable def Tm_rights : Tbl := one 73 (gA asZ fun p => gA asMM fun l => gE (l.length ≤ 100, bA (bif l.all rightM then rng p 8 256 else false)))
theorem Tm_rights_ok : TbOK Tryz.prog Tm_rights := one_t (ent Tryz.func73 (by kernel_rfl) rfl) (.a asZ_ok fun p => .a asMM_ok fun l => .e fun h => m_rights p l h)
end
section
attribute [local go_sem] tyM tiQ tiMM gA gE asZ asT asV1 asN1 asB_b asP_b asM_m asQ_m ite_self hoO hoK hpin hoO2 hoK2 hpin2
def poi (l : List X) : List J := l.map fun x => ⟨x, x⟩
theorem poi_len (l : List X) : (poi l).length = l.length := by unfold poi; simp
theorem poi_step {l : List X} {j : Nat} {x : X} (h : l[j]? = some x) : (poi l).take (j + 1) = (poi l).take j ++ [⟨x, x⟩] := by
 unfold poi
 rw [List.take_add_one, List.getElem?_map, h]; rfl
theorem poi_take {l : List X} {j : Nat} (h : j ≤ l.length) : ((poi l).take j).length = j := by rw [List.length_take, poi_len]; omega
theorem sl_nil {ρ : Env} {D : Nat → Bool} {w : World} {u : Value} {s s' : Nat} (h : (Lf.sl true s 0 []).R ρ D w u) : (Lf.sl true s' 0 []).R ρ D w u := by
 obtain ⟨_, A, c, e, hc, _⟩ := h
 exact ⟨by simp, A, c, e, hc, .inl rfl⟩
def cW_ (n : Nat) (l : List (List J)) : List Lf := cA (fun r : List J => [.sl true 6 r.length (bC r)]) [.lit (.slice none 0 0)] n l
theorem cW_len {n : Nat} {l : List (List J)} (hl : l.length ≤ n) : (cW_ n l).length = n * 1 := cA_len (cf := fun r : List J => [.sl true 6 r.length (bC r)]) (zf := [.lit (.slice none 0 0)]) (s := 1) (fun _ => rfl) rfl hl
theorem cW_me {st : St} {n : Nat} {l : List (List J)} : (cW_ n l).all (ment st) = true := cA_all (p := ment st) (fun _ => rfl) rfl
theorem cW_dn {n : Nat} {l : List (List J)} (hl : l.length = n) : dnT (cW_ n l) = some (l.map rC) := by
 unfold cW_
 rw [cA_full hl, ← fm_one]
 exact dnT_fm (fun _ => rfl) _
theorem cW_set {n j : Nat} {l : List (List J)} (r : List J) (hl : l.length = j) (hj : j < n) : List.take (j * 1) (cW_ n l) ++ [.sl true 6 r.length (bC r)] ++ List.drop (j * 1 + 1) (cW_ n l) = cW_ n (l ++ [r]) := cA_set (cf := fun r : List J => [.sl true 6 r.length (bC r)]) (zf := [.lit (.slice none 0 0)]) (s := 1) (fun _ => rfl) rfl r hl hj
def noN : Lf → Bool
 | .osl _ _ => false
 | .ol _ _ => false
 | _ => true
theorem fr_id {b : Nat} {st : St} : ∀ {ls : List Lf}, ls.all noN = true → ls.map (frL b st) = ls := by
 intro ls
 induction ls with
 | nil => intro _; rfl
 | cons l ls ih =>
  intro h
  rw [List.all_cons, Bool.and_eq_true] at h
  rw [List.map_cons, ih h.2]
  congr 1
  cases l <;> first | rfl | exact absurd h.1 (by simp [noN])
theorem all_take {p : Lf → Bool} {ls : List Lf} (h : ls.all p = true) (k : Nat) : (ls.take k).all p = true := List.all_eq_true.2 fun l hl => List.all_eq_true.1 h l (List.mem_of_mem_take hl)
theorem all_drop {p : Lf → Bool} {ls : List Lf} (h : ls.all p = true) (k : Nat) : (ls.drop k).all p = true := List.all_eq_true.2 fun l hl => List.all_eq_true.1 h l (List.mem_of_mem_drop hl)
theorem cW_no {n : Nat} {l : List (List J)} : (cW_ n l).all noN = true := cA_all (fun _ => rfl) rfl
theorem bx_of0  : Ct Tryz.prog 42 [pA_ []] (· = .s (.sl true 6 (poi []).length (bC (poi [])))) := by
 refine Ct.wk ?_ (wk_one (l := .sl true 0 0 []) (fun _ _ _ _ h => sl_nil h) rfl)
 refine ct_of (O := tblO Tiv_Of) (by kernel_rfl) tyM_ok (fun w => tblO_ok Tiv_Of_ok _ w) [] 600 23 [.tmp 2] Tryz.func42 rfl Tryz.ntmps42 (by rw [Tryz.results42]) (by simp) rfl (fun hsm => ?_)
 simp (maxSteps := 10000000) only [go_sem, seval, reduceCtorEq, Tiv_Of, asB, lpf, hdS, hd1, pick, forget, bxe, pxe, frh, frz, frS, frA, frL]
 repeat' with_reducible first | apply And.intro | apply condP <;> intro _
 all_goals first | (show chk _ _ = true; kernel_rfl) | assumption | rfl | (simp only [go_sem, *] <;> rfl)
theorem bx_of1 (l : List X) (h1 : 1 ≤ l.length) (h2 : l.length ≤ 100) : Ct Tryz.prog 42 [pA_ l] (· = .s (.sl true 6 (poi l).length (bC (poi l)))) := by
 have c1 : (0 ≤ (l.length : Int)) = True := eq_true (by omega)
 have c2 : ((l.length : Int) ≤ 1000) = True := eq_true (by omega)
 have e0 : (List.replicate l.length [.lit (.bool false), .lit (.int .i64 0), .ws [], .lit (.bool false), .lit (.int .i64 0), .ws []]).flatten = cJ_ l.length ([] : List J) := (cA_nil (cf := J.L) (zf := zJ.L)).symm
 refine ct_of (O := tblO Tiv_Of) (by kernel_rfl) tyM_ok (fun w => tblO_ok Tiv_Of_ok _ w) [9999999, 0, 6, 17, 18, 20, 22] ((l.length + 1) * 200 + 100) 23 [.tmp 2] Tryz.func42 rfl Tryz.ntmps42 (by rw [Tryz.results42]) (by simp) rfl (fun hsm => ?_)
 simp (maxSteps := 10000000) only [go_sem, seval, reduceCtorEq, Tiv_Of, c1, c2, e0]
 refine loop_ind 200 (fun j => [(0, pA_ l), (6, .s (.osl 8 l.length)), (17, .v true (cJ_ l.length ((poi l).take j))), (18, pA_ l), (20, iA (l.length : Int)), (22, iA (j : Int))]) l.length (fun j => True) 0 (fun j _ => by simp only [List.all_cons, List.all_nil, mentA, ment, cJ_me, Bool.and_true]; rfl) (fun j mm _ hj _ ih => ?_) (by omega) trivial rfl
 rcases Nat.lt_or_ge j l.length with hlt | hge
 ·have hx := at_get zX hlt
  generalize l.getD j zX = x at hx
  have e1 := pC_at' hx
  have d := decide_eq_true (show (j : Int) < (l.length : Int) by omega)
  have g1 : (j < l.length) = True := eq_true hlt
  have g0 : (0 ≤ (j : Int)) = True := eq_true (by omega)
  have hw := wrap_nat (j := j) (by omega)
  have hl := cJ_len (n := l.length) (l := (poi l).take j) (by rw [poi_take hj]; omega)
  have g3 : (j * 6 + 6 ≤ l.length * 6) = True := eq_true (by omega)
  have es := cA_set (cf := J.L) (zf := zJ.L) (s := 6) (fun _ => rfl) rfl ⟨x, x⟩ (poi_take hj) hlt
  have es : List.take (j * 6) (cJ_ l.length ((poi l).take j)) ++ [.lit (.bool x.s), .lit (.int .i64 x.e), .ws x.xs, .lit (.bool x.s), .lit (.int .i64 x.e), .ws x.xs] ++ List.drop (j * 6 + 6) (cJ_ l.length ((poi l).take j)) = cJ_ l.length ((poi l).take (j + 1)) := by rw [poi_step hx]; exact es
  replace ih := ih hlt trivial
  simp (maxSteps := 10000000) only [go_sem, seval, reduceCtorEq, Tiv_Of, e1, hl, g3, es, d, g0, g1, hw]
  repeat' with_reducible first | apply And.intro | apply condP <;> intro _
  all_goals first | (show chk _ _ = true; kernel_rfl) | (exact ih _ _ rfl) | assumption | rfl
 ·have hn : j = l.length := by omega
  subst hn
  have d := decide_eq_false (show ¬ (l.length : Int) < (l.length : Int) by omega)
  have ht : (poi l).take l.length = poi l := by rw [← poi_len l, List.take_length]
  have hl := cJ_len (n := l.length) (l := poi l) (by rw [poi_len]; omega)
  have hq : l.length * 6 / l.length = 6 := Nat.mul_div_cancel_left _ h1
  have hdn : dnT (cJ_ l.length (poi l)) = some (bC (poi l)) := by unfold cJ_; rw [cA_full (poi_len l)]; exact dnT_fm dnT_J _
  rw [ht]
  simp (maxSteps := 10000000) only [go_sem, seval, reduceCtorEq, Tiv_Of, d, hl, hq, hdn, poi_len]
  repeat' with_reducible first | apply And.intro | apply condP <;> intro _
  all_goals first | (show chk _ _ = true; kernel_rfl) | assumption | rfl | (simp only [go_sem, *] <;> rfl)
noncomputable def Tb_Of : Tbl := one 42 (gA asP fun l => gE (l.length ≤ 100, .s (.sl true 6 (poi l).length (bC (poi l)))))
theorem Tb_Of_ok : TbOK Tryz.prog Tb_Of := one_t (ent Tryz.func42 (by kernel_rfl) rfl) (.a asP_ok fun l => .e fun h => by
 rcases Nat.eq_zero_or_pos l.length with h0 | h0
 ·obtain rfl := List.eq_nil_of_length_eq_zero h0; exact bx_of0
 ·exact bx_of1 l h0 h)
theorem all2_ne {α β : Type} {φ : α → β → Bool} : ∀ {l : List α} {m : List β}, l.length ≠ m.length → all2 φ l m = false := by
 intro l
 induction l with
 | nil => intro m h; cases m with
  | nil => simp at h
  | cons _ _ => rfl
 | cons a l ih => intro m h; cases m with
  | nil => rfl
  | cons b m => unfold all2; rw [ih (by simpa using h), Bool.and_false]
theorem eqaN {w : World} {f : FuncId} {caps : List Value} {φ : J → J → Bool} (ht : Tab w) (hf : Fv Tryz.prog w f caps (gJJ fun a b => (True, bA (φ a b)))) (l : List J) (m : List J) (hl : l.length ≠ m.length) : Hc Tryz.prog w 113 [bA_ l, bA_ m, fvA f caps] (bA (all2 φ l m)) := by
 have h1 : ((l.length : Int) != (m.length : Int)) = true := bne_iff_ne.2 (by omega)
 rw [all2_ne hl]
 refine hc_of (O := orO (fvO 2 f caps (gJJ fun a b => (True, bA (φ a b)))) (tblO noT)) (by kernel_rfl) tyM_ok (fvO_or (fvO_ok hf) (tblO_ok noT_ok _ w) (fun g d st args h => tbn)) ht [] 300 32 [.tmp 6] Tryz.func113 rfl Tryz.ntmps113 (by rw [Tryz.results113]) (by simp) rfl (fun hsm => ?_)
 simp (maxSteps := 10000000) only [go_sem, seval, reduceCtorEq, h1]
 repeat' with_reducible first | apply And.intro | apply condP <;> intro _
 all_goals first | (show chk _ _ = true; kernel_rfl) | assumption | rfl | (simp only [go_sem, *] <;> rfl)
theorem eqJ {w : World} {f : FuncId} {caps : List Value} {φ : J → J → Bool} (ht : Tab w) (hf : Fv Tryz.prog w f caps (gJJ fun a b => (True, bA (φ a b)))) (l : List J) (m : List J) (hb : l.length ≤ 1000) : Hc Tryz.prog w 113 [bA_ l, bA_ m, fvA f caps] (bA (all2 φ l m)) := by
 by_cases h : l.length = m.length
 ·exact eqaJ ht hf l m h (by omega)
 ·exact eqaN ht hf l m h
theorem bx_same (l m : List J) (hb0 : l.length ≤ 1000) : Ct Tryz.prog 53 [bA_ l, bA_ m] (· = bA (sameB l m)) := by
 refine ct_of (O := orO (hoO 113 2 (hpin [] 114 [bA_ l, bA_ m] (bA (all2 sameJ l m)))) (tblO noT)) (by kernel_rfl) tyM_ok (fun w => hoO_or (hoO_ok (ent Tryz.func113 (by kernel_rfl) rfl) (fun ls c xs e he hp S w' gs hb ht' hL => by
  injection he with he; subst he
  obtain ⟨rfl, rfl, rfl⟩ := hp
  obtain rfl : gs = [] := List.eq_nil_of_length_eq_zero hL.1
  exact eqJ ht' (fvT Tiv_Same_ok (ent Tryz.func114 (by kernel_rfl) rfl)) l m hb0)) (tblO_ok noT_ok _ w) (fun _ _ _ => tblO_none fun _ => rfl)) [] 600 8 [.tmp 4] Tryz.func53 rfl Tryz.ntmps53 (by rw [Tryz.results53]) (by simp) rfl (fun hsm => ?_)
 simp (maxSteps := 10000000) only [go_sem, seval, reduceCtorEq, bxe, pxe, lpf, hdS, hd1, pick, forget, frh, frz, frS, frA, frL]
 repeat' with_reducible first | apply And.intro | apply condP <;> intro _
 all_goals first | (show chk _ _ = true; kernel_rfl) | assumption | rfl | (simp only [go_sem, *, hoO, hoK, hpin, sameB] <;> rfl)
noncomputable def Tb_Same : Tbl := one 53 (gA asB fun l => gA asB fun m => gE (l.length ≤ 1000, bA (sameB l m)))
theorem Tb_Same_ok : TbOK Tryz.prog Tb_Same := one_t (ent Tryz.func53 (by kernel_rfl) rfl) (.a asB_ok fun l => .a asB_ok fun m => .e fun h => bx_same l m h)
theorem bx_in (l m : List J) (hb0 : l.length ≤ 1000) : Ct Tryz.prog 55 [bA_ l, bA_ m] (· = bA (inB l m)) := by
 refine ct_of (O := orO (hoO 113 2 (hpin [] 116 [bA_ l, bA_ m] (bA (all2 inJ l m)))) (tblO Tw_Right)) (by kernel_rfl) tyM_ok (fun w => hoO_or (hoO_ok (ent Tryz.func113 (by kernel_rfl) rfl) (fun ls c xs e he hp S w' gs hb ht' hL => by
  injection he with he; subst he
  obtain ⟨rfl, rfl, rfl⟩ := hp
  obtain rfl : gs = [] := List.eq_nil_of_length_eq_zero hL.1
  exact eqJ ht' (fvT Tiv_In_ok (ent Tryz.func116 (by kernel_rfl) rfl)) l m hb0)) (tblO_ok Tw_Right_ok _ w) (fun _ _ _ => tblO_none fun _ => one_none (by decide))) [] 600 16 [.tmp 4] Tryz.func55 rfl Tryz.ntmps55 (by rw [Tryz.results55]) (by simp) rfl (fun hsm => ?_)
 simp (maxSteps := 10000000) only [go_sem, seval, reduceCtorEq, Tw_Right, bxe, pxe, lpf, hdS, hd1, pick, forget, frh, frz, frS, frA, frL]
 repeat' with_reducible first | apply And.intro | apply condP <;> intro _
 all_goals first | (show chk _ _ = true; kernel_rfl) | assumption | rfl | (simp only [go_sem, *, hoO, hoK, hpin, inB] <;> rfl)
noncomputable def Tb_In : Tbl := one 55 (gA asB fun l => gA asB fun m => gE (l.length ≤ 1000, bA (inB l m)))
theorem Tb_In_ok : TbOK Tryz.prog Tb_In := one_t (ent Tryz.func55 (by kernel_rfl) rfl) (.a asB_ok fun l => .a asB_ok fun m => .e fun h => bx_in l m h)
theorem mt_of1 (a : List (List X)) (h1 : 1 ≤ a.length) (h2 : a.length ≤ 100) (h3 : ∀ r ∈ a, r.length ≤ 100) : Ct Tryz.prog 26 [qA_ a] (· = .s (.sl true 1 (a.map poi).length ((a.map poi).map rC))) := by
 have c1 : (0 ≤ (a.length : Int)) = True := eq_true (by omega)
 have c2 : ((a.length : Int) ≤ 1000) = True := eq_true (by omega)
 have e0 : (List.replicate a.length [Lf.lit (.slice none 0 0)]).flatten = cW_ a.length ([] : List (List J)) := (cA_nil (cf := fun r : List J => [.sl true 6 r.length (bC r)]) (zf := [.lit (.slice none 0 0)])).symm
 refine ct_of (O := tblO Tb_Of) (by kernel_rfl) tyM_ok (fun w => tblO_ok Tb_Of_ok _ w) [9999999, 0, 6, 15, 18, 20] ((a.length + 1) * 200 + 100) 23 [.tmp 2] Tryz.func26 rfl Tryz.ntmps26 (by rw [Tryz.results26]) (by simp) rfl (fun hsm => ?_)
 simp (maxSteps := 10000000) only [go_sem, seval, reduceCtorEq, Tb_Of, c1, c2, e0]
 refine loop_ind 200 (fun j => [(0, qA_ a), (6, .s (.osl 7 a.length)), (15, .v true (cW_ a.length ((a.map poi).take j))), (18, iA (a.length : Int)), (20, iA (j : Int))]) a.length (fun j => True) 0 (fun j _ => by simp only [List.all_cons, List.all_nil, mentA, ment, cW_me, Bool.and_true]; rfl) (fun j mm _ hj _ ih => ?_) (by omega) trivial rfl
 have hlj : ((a.map poi).take j).length = j := by rw [List.length_take, List.length_map]; omega
 rcases Nat.lt_or_ge j a.length with hlt | hge
 ·have hx := at_get [] hlt
  have hr := h3 _ (List.mem_of_getElem? hx)
  generalize a.getD j [] = x at hx hr
  have e1 := rP_at hx
  have d := decide_eq_true (show (j : Int) < (a.length : Int) by omega)
  have g1 : (j < a.length) = True := eq_true hlt
  have g0 : (0 ≤ (j : Int)) = True := eq_true (by omega)
  have hw := wrap_nat (j := j) (by omega)
  have hl := cW_len (n := a.length) (l := (a.map poi).take j) (by omega)
  have g3 : (j * 1 + 1 ≤ a.length * 1) = True := eq_true (by omega)
  have g4 : (x.length ≤ 100) = True := eq_true hr
  have ht : (a.map poi).take (j + 1) = (a.map poi).take j ++ [poi x] := by rw [List.take_add_one, List.getElem?_map, hx]; rfl
  have es := cW_set (poi x) hlj hlt
  rw [← ht] at es
  replace ih := ih hlt trivial
  simp (maxSteps := 10000000) only [go_sem, seval, reduceCtorEq, Tb_Of, e1, hl, g3, g4, es, d, g0, g1, hw]
  repeat' with_reducible first | apply And.intro | apply condP <;> intro _
  all_goals first | (show chk _ _ = true; kernel_rfl) | (exact ih _ _ rfl) | assumption | rfl
 ·have hn : j = a.length := by omega
  subst hn
  have d := decide_eq_false (show ¬ (a.length : Int) < (a.length : Int) by omega)
  have ht : (a.map poi).take a.length = a.map poi := by rw [← List.length_map poi, List.take_length]
  have hl := cW_len (n := a.length) (l := a.map poi) (by simp)
  have hq : a.length * 1 / a.length = 1 := Nat.mul_div_cancel_left _ h1
  have hdn := cW_dn (n := a.length) (l := a.map poi) (by simp)
  rw [ht]
  simp (maxSteps := 10000000) only [go_sem, seval, reduceCtorEq, Tb_Of, d, hl, hq, hdn, List.length_map]
  repeat' with_reducible first | apply And.intro | apply condP <;> intro _
  all_goals first | (show chk _ _ = true; kernel_rfl) | assumption | rfl | (simp only [go_sem, *] <;> rfl)
theorem eqR0 {w : World} {f : FuncId} {caps : List Value} {φ : List J → List J → Bool} (ht : Tab w) (hf : Fv Tryz.prog w f caps (gA asB fun a => gA asB fun b => gE (a.length ≤ 1000, bA (φ a b)))) (l m : List (List J)) (hl : l.length ≠ m.length) : Hc Tryz.prog w 52 [mA_ l, mA_ m, fvA f caps] (bA (all2 φ l m)) := by
 have h1 : ((l.length : Int) != (m.length : Int)) = true := bne_iff_ne.2 (by omega)
 rw [all2_ne hl]
 refine hc_of (O := orO (fvO 2 f caps (gA asB fun a => gA asB fun b => gE (a.length ≤ 1000, bA (φ a b)))) (tblO noT)) (by kernel_rfl) tyM_ok (fvO_or (fvO_ok hf) (tblO_ok noT_ok _ w) (fun g d st args h => tbn)) ht [] 300 32 [.tmp 6] Tryz.func52 rfl Tryz.ntmps52 (by rw [Tryz.results52]) (by simp) rfl (fun hsm => ?_)
 simp (maxSteps := 10000000) only [go_sem, seval, reduceCtorEq, h1]
 repeat' with_reducible first | apply And.intro | apply condP <;> intro _
 all_goals first | (show chk _ _ = true; kernel_rfl) | assumption | rfl | (simp only [go_sem, *] <;> rfl)
theorem eqR1 {w : World} {f : FuncId} {caps : List Value} {φ : List J → List J → Bool} (ht : Tab w) (hf : Fv Tryz.prog w f caps (gA asB fun a => gA asB fun b => gE (a.length ≤ 1000, bA (φ a b)))) (l m : List (List J)) (hl : l.length = m.length) (hb : l.length ≤ 1000) (h3 : ∀ r ∈ l, r.length ≤ 1000) : Hc Tryz.prog w 52 [mA_ l, mA_ m, fvA f caps] (bA (all2 φ l m)) := by
 have h1 : ((l.length : Int) != (m.length : Int)) = false := by rw [hl]; exact bne_self_eq_false ..
 refine hc_of (O := orO (fvO 2 f caps (gA asB fun a => gA asB fun b => gE (a.length ≤ 1000, bA (φ a b)))) (tblO noT)) (by kernel_rfl) tyM_ok (fvO_or (fvO_ok hf) (tblO_ok noT_ok _ w) (fun g d st args h => tbn)) ht [9999999, 0, 2, 4, 12, 30, 32, 34] ((l.length + 1) * 200 + 100) 32 [.tmp 6] Tryz.func52 rfl Tryz.ntmps52 (by rw [Tryz.results52]) (by simp) rfl (fun hsm => ?_)
 simp (maxSteps := 10000000) only [go_sem, seval, reduceCtorEq, h1]
 refine loop_ind 200 (fun j => [(0, mA_ l), (2, mA_ m), (4, fvA f caps), (12, bA false), (30, mA_ l), (32, iA (l.length : Int)), (34, iA (j : Int))]) l.length (fun j => all2 φ (l.take j) (m.take j) = true) 0 (fun j _ => rfl) (fun j mm _ hj hI ih => ?_) (by omega) (by simp [all2]) rfl
 rcases Nat.lt_or_ge j l.length with hlt | hge
 ·have hx := at_get [] hlt
  have hy := at_get [] (show j < m.length by omega)
  have hr := h3 _ (List.mem_of_getElem? hx)
  generalize l.getD j [] = x at hx hr
  generalize m.getD j [] = y at hy
  have e1 := rC_at hx
  have e2 := rC_at hy
  have d := decide_eq_true (show (j : Int) < (l.length : Int) by omega)
  have g1 : (j < l.length) = True := eq_true hlt
  have g0 : (0 ≤ (j : Int)) = True := eq_true (by omega)
  have hw := wrap_nat (j := j) (by omega)
  have g2 : (j < m.length) = True := eq_true (by omega)
  have g4 : (x.length ≤ 1000) = True := eq_true hr
  obtain ⟨s1, s2⟩ := all2_step (φ := φ) hx hy
  replace ih := ih hlt
  cases hp : φ x y with
  | false =>
   have s1 := s1 hp
   simp (maxSteps := 10000000) only [go_sem, seval, reduceCtorEq, d, g0, g1, hw, g2, g4, e1, e2, hp, s1]
   repeat' with_reducible first | apply And.intro | apply condP <;> intro _
   all_goals first | (show chk _ _ = true; kernel_rfl) | assumption | rfl | (simp only [go_sem, *] <;> rfl)
  | true =>
   replace ih := ih (s2 hI hp)
   simp (maxSteps := 10000000) only [go_sem, seval, reduceCtorEq, d, g0, g1, hw, g2, g4, e1, e2, hp]
   repeat' with_reducible first | apply And.intro | apply condP <;> intro _
   all_goals first | (show chk _ _ = true; kernel_rfl) | (exact ih _ _ rfl) | assumption | rfl
 ·have hn : j = l.length := by omega
  subst hn
  have d := decide_eq_false (show ¬ (l.length : Int) < (l.length : Int) by omega)
  rw [List.take_of_length_le (Nat.le_refl _), List.take_of_length_le (by omega)] at hI
  simp (maxSteps := 10000000) only [go_sem, seval, reduceCtorEq, d, hI]
  repeat' with_reducible first | apply And.intro | apply condP <;> intro _
  all_goals first | (show chk _ _ = true; kernel_rfl) | assumption | rfl | (simp only [go_sem, *] <;> rfl)
theorem eqR {w : World} {f : FuncId} {caps : List Value} {φ : List J → List J → Bool} (ht : Tab w) (hf : Fv Tryz.prog w f caps (gA asB fun a => gA asB fun b => gE (a.length ≤ 1000, bA (φ a b)))) (l m : List (List J)) (hb : l.length ≤ 1000) (h3 : ∀ r ∈ l, r.length ≤ 1000) : Hc Tryz.prog w 52 [mA_ l, mA_ m, fvA f caps] (bA (all2 φ l m)) := by
 by_cases h : l.length = m.length
 ·exact eqR1 ht hf l m h hb h3
 ·exact eqR0 ht hf l m h
def sameM : List (List J) → List (List J) → Bool := all2 sameB
def inM (a b : List (List J)) : Bool := bif (bif rightM a then rightM b else false) then all2 inB a b else false
theorem mt_same (l m : List (List J)) (hb0 : l.length ≤ 1000 ∧ ∀ r ∈ l, r.length ≤ 1000) : Ct Tryz.prog 11 [mA_ l, mA_ m] (· = bA (sameM l m)) := by
 refine ct_of (O := orO (hoO 52 2 (hpin [] 53 [mA_ l, mA_ m] (bA (all2 sameB l m)))) (tblO noT)) (by kernel_rfl) tyM_ok (fun w => hoO_or (hoO_ok (ent Tryz.func52 (by kernel_rfl) rfl) (fun ls c xs e he hp S w' gs hb ht' hL => by
  injection he with he; subst he
  obtain ⟨rfl, rfl, rfl⟩ := hp
  obtain rfl : gs = [] := List.eq_nil_of_length_eq_zero hL.1
  exact eqR ht' (fvT Tb_Same_ok (ent Tryz.func53 (by kernel_rfl) rfl)) l m hb0.1 hb0.2)) (tblO_ok noT_ok _ w) (fun _ _ _ => tblO_none fun _ => rfl)) [] 600 8 [.tmp 4] Tryz.func11 rfl Tryz.ntmps11 (by rw [Tryz.results11]) (by simp) rfl (fun hsm => ?_)
 simp (maxSteps := 10000000) only [go_sem, seval, reduceCtorEq, bxe, pxe, lpf, hdS, hd1, pick, forget, frh, frz, frS, frA, frL]
 repeat' with_reducible first | apply And.intro | apply condP <;> intro _
 all_goals first | (show chk _ _ = true; kernel_rfl) | assumption | rfl | (simp only [go_sem, *, hoO, hoK, hpin, sameM] <;> rfl)
theorem mt_in (l m : List (List J)) (hb0 : l.length ≤ 1000 ∧ ∀ r ∈ l, r.length ≤ 1000) : Ct Tryz.prog 13 [mA_ l, mA_ m] (· = bA (inM l m)) := by
 refine ct_of (O := orO (hoO 52 2 (hpin [] 55 [mA_ l, mA_ m] (bA (all2 inB l m)))) (tblO Tm_Right)) (by kernel_rfl) tyM_ok (fun w => hoO_or (hoO_ok (ent Tryz.func52 (by kernel_rfl) rfl) (fun ls c xs e he hp S w' gs hb ht' hL => by
  injection he with he; subst he
  obtain ⟨rfl, rfl, rfl⟩ := hp
  obtain rfl : gs = [] := List.eq_nil_of_length_eq_zero hL.1
  exact eqR ht' (fvT Tb_In_ok (ent Tryz.func55 (by kernel_rfl) rfl)) l m hb0.1 hb0.2)) (tblO_ok Tm_Right_ok _ w) (fun _ _ _ => tblO_none fun _ => one_none (by decide))) [] 600 16 [.tmp 4] Tryz.func13 rfl Tryz.ntmps13 (by rw [Tryz.results13]) (by simp) rfl (fun hsm => ?_)
 simp (maxSteps := 10000000) only [go_sem, seval, reduceCtorEq, Tm_Right, bxe, pxe, lpf, hdS, hd1, pick, forget, frh, frz, frS, frA, frL]
 repeat' with_reducible first | apply And.intro | apply condP <;> intro _
 all_goals first | (show chk _ _ = true; kernel_rfl) | assumption | rfl | (simp only [go_sem, *, hoO, hoK, hpin, inM] <;> rfl)
noncomputable def Tm_In : Tbl := one 13 (gA asM fun l => gA asM fun m => gE (l.length ≤ 1000 ∧ ∀ r ∈ l, r.length ≤ 1000, bA (inM l m)))
theorem Tm_In_ok : TbOK Tryz.prog Tm_In := one_t (ent Tryz.func13 (by kernel_rfl) rfl) (.a asM_ok fun l => .a asM_ok fun m => .e fun h => mt_in l m h)
end
end Go.Proofs.YtcpfepjdeikchaaGreatDoor
