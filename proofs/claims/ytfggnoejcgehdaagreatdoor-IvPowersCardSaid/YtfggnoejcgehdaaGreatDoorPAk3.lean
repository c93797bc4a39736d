/- The laws without decks. -/
import Derived.Test.YtfggnoejcgehdaaGreatDoorPAk2
namespace Go.Proofs.YtfggnoejcgehdaaGreatDoor
open Go.RowKit Nx
set_option linter.unusedVariables false
set_option linter.unusedSimpArgs false
attribute [local go_sem] run init X.L J.L vL X.eta J.eta Q.eta List.cons_append List.nil_append brkK brkf_b brkf_t exef_some exif_some condf_b opf bodyE addR skipE stepOp stepLoad stepStore stepField stepCall stepBS stepBi stepCv stepIx lpf forget inL mentA ment dom evs evl evp evd okeys look fillA capsOf wordsOf rowsOf lenOf convK binV shV intV unV boolT tyT tiB tiI tiW tiD tiF tiR tiU tiNum tiIv tiVal tiSc okLf okD keysOf tblO orT noT one asNum asIv asVal postf_some resA tupA clA clL dropTo decide_true decide_false List.all_cons List.all_nil Bool.and_true Bool.and_self true_and and_true and_self List.length_cons List.length_nil List.drop_succ_cons List.drop_zero List.take_succ_cons List.take_zero List.getElem?_cons_zero List.getElem?_cons_succ List.map_cons List.map_nil false_implies true_implies Option.bind_some List.getElem?_toArray Bool.false_eq_true List.append_nil List.flatMap_cons List.flatMap_nil true_or or_true forall_const List.reverse_cons List.reverse_nil Option.isSome_some Option.any_some Nat.lt_irrefl not_true_eq_false Bool.not_true Bool.not_false imp_self implies_true Bool.not_eq_true' Bool.not_eq_false' Bool.true_eq_false memOf cntF nmL rnL nmA rnA isV contsOf ndB refO orO pin Int.toNat_zero decide_eq_true_eq wrap0 wrap1 ci1 ci2 BEq.rfl beq_self_eq_true Int.natCast_zero ge_iff_le gt_iff_lt Int.le_refl Nat.zero_mul Nat.one_mul Nat.zero_add Nat.zero_lt_succ Nat.lt_add_one Nat.le_refl List.append_eq gN gNN gNI gI gNNIB gNIB gV gVV gVIB gVVIB gWW gJ gJJ gJN gJJI gJI gJII gNNI gBWI gVVVV gVVVVI gVI gIJJI gJJN gJB AV.s cond_true cond_false Bool.true_and Bool.and_false Bool.false_and Bool.or_true Bool.true_or Bool.or_false Bool.false_or
def Hx (s : Bool) (e : Int) (A : Option Addr) (n c : Nat) : List Lf := [.lit (.bool s), .lit (.int .i64 e), .lit (.slice A n c)]
structure H where
  s : Bool
  e : Int
  A : Option Addr
  n : Nat
  c : Nat
def H.L (h : H) : List Lf := Hx h.s h.e h.A h.n h.c
structure HJ where
  lo : H
  hi : H
def HJ.L (h : HJ) : List Lf := [.lit (.bool h.lo.s), .lit (.int .i64 h.lo.e), .lit (.slice h.lo.A h.lo.n h.lo.c), .lit (.bool h.hi.s), .lit (.int .i64 h.hi.e), .lit (.slice h.hi.A h.hi.n h.hi.c)]
def HJ.few (h : HJ) : Bool := !(decide ((h.lo.n : Int) > 70)) && !(decide ((h.hi.n : Int) > 70))
set_option maxRecDepth 100000 in
set_option maxHeartbeats 4000000 in
theorem l_lighth1 (j : HJ) : RCt Tryz.prog 13 [.s (.osl 1000 1)] [j.L] (bA j.few) := by
  refine rct_of (O := tblO noT) (by kernel_rfl) tyT_ok (fun w => tblO_ok noT_ok _ w) [] 2000 28 [.tmp 2] Tryz.func13 rfl Tryz.ntmps13 (by rw [Tryz.results13]) (by simp) (fun hsm hsb => ?_)
  simp (maxSteps := 10000000) only [go_sem, ↓cond_true, ↓cond_false, ↓not_cond, ↓reduceIte, Nat.reduceMul, Nat.reduceAdd, Nat.reduceEqDiff, Nat.reduceLeDiff, Nat.reduceLT, reduceCtorEq, Int.reduceNeg, Int.reduceLT, Int.reduceLE, Int.reduceAdd, Int.reduceToNat, Nat.reduceBEq, Int.reduceMul, Int.reduceSub, Nat.reduceSub, Int.reduceEq, gC, gCC, asSc, SX.L, SX.eta, H.L, Hx, HJ.L]
  repeat' first | (with_reducible apply And.intro) | (with_reducible apply condP <;> intro _)
  all_goals first | (show chk _ _ = true; kernel_rfl) | assumption | (simp only [go_sem, *, HJ.few, HJ.L, gt_iff_lt]; done) | rfl | (simp only [go_sem, *, HJ.few, HJ.L, gt_iff_lt]; rfl) | (exfalso; simp_all only [Bool.true_eq_false, Bool.false_eq_true, reduceCtorEq]; done)
set_option maxRecDepth 100000 in
set_option maxHeartbeats 4000000 in
theorem l_lighth2 (j j1 : HJ) : RCt Tryz.prog 13 [.s (.osl 1000 2)] [j.L ++ j1.L] (bA (j.few && j1.few)) := by
  refine rct_of (O := tblO noT) (by kernel_rfl) tyT_ok (fun w => tblO_ok noT_ok _ w) [] 2000 28 [.tmp 2] Tryz.func13 rfl Tryz.ntmps13 (by rw [Tryz.results13]) (by simp) (fun hsm hsb => ?_)
  simp (maxSteps := 10000000) only [go_sem, ↓cond_true, ↓cond_false, ↓not_cond, ↓reduceIte, Nat.reduceMul, Nat.reduceAdd, Nat.reduceEqDiff, Nat.reduceLeDiff, Nat.reduceLT, reduceCtorEq, Int.reduceNeg, Int.reduceLT, Int.reduceLE, Int.reduceAdd, Int.reduceToNat, Nat.reduceBEq, Int.reduceMul, Int.reduceSub, Nat.reduceSub, Int.reduceEq, gC, gCC, asSc, SX.L, SX.eta, H.L, Hx, HJ.L, wrap2]
  repeat' first | (with_reducible apply And.intro) | (with_reducible apply condP <;> intro _)
  all_goals first | (show chk _ _ = true; kernel_rfl) | assumption | (simp only [go_sem, *, HJ.few, HJ.L, gt_iff_lt]; done) | rfl | (simp only [go_sem, *, HJ.few, HJ.L, gt_iff_lt]; rfl) | (exfalso; simp_all only [Bool.true_eq_false, Bool.false_eq_true, reduceCtorEq]; done)
set_option maxRecDepth 100000 in
set_option maxHeartbeats 4000000 in
theorem v_parts (j j1 : J) (x : X) : Ct Tryz.prog 3 [.v true j.L, .v true j1.L, .v true x.L] (· = bA true) := by
  refine ct_of (O := orO (refO 13 (pin [.s (.osl 1000 2)] [j.L ++ j1.L] (bA (lightJ j && lightJ j1)))) (tblO (orT Tlaw5_known (Tlaw5_parts)))) (by kernel_rfl) tyT_ok (fun w => refO_or (refO_ok (ent Tryz.func13 (by kernel_rfl) rfl) (pin_ok (l_light2 j j1)) _ _) (tblO_ok (orT_ok Tlaw5_known_ok (Tlaw5_parts_ok)) _ w) (fun d st args => by simp [orO, refO, tblO, orT, noT, one, Tlaw5_known, Tlaw5_parts])) [] 2000 24 [.tmp 6] Tryz.func3 rfl Tryz.ntmps3 (by rw [Tryz.results3]) (by simp) rfl (fun hsm => ?_)
  simp (maxSteps := 10000000) only [go_sem, ↓cond_true, ↓cond_false, ↓not_cond, ↓reduceIte, Nat.reduceMul, Nat.reduceAdd, Nat.reduceEqDiff, Nat.reduceLeDiff, Nat.reduceLT, reduceCtorEq, Int.reduceNeg, Tlaw5_known, Tlaw5_parts, Int.reduceLT, Int.reduceLE, Int.reduceAdd, Int.reduceToNat, Nat.reduceBEq, Int.reduceMul, Int.reduceSub, Nat.reduceSub, Int.reduceEq, gC, gCC, asSc, SX.L, SX.eta, H.L, Hx, HJ.L]
  repeat' first | (with_reducible apply And.intro) | (with_reducible apply condP <;> intro _)
  all_goals first | (show chk _ _ = true; kernel_rfl) | assumption | (simp only [go_sem, *]; done) | rfl | (simp only [go_sem, *]; rfl) | (exfalso; simp_all only [Bool.true_eq_false, Bool.false_eq_true, reduceCtorEq]; done)
set_option maxRecDepth 100000 in
set_option maxHeartbeats 4000000 in
theorem v_partsh (j j1 : HJ) (x : H) (hf : (j.few && j1.few) = false ∨ decide (70 < (x.n : Int)) = true) : Ct Tryz.prog 3 [.v true j.L, .v true j1.L, .v true x.L] (· = bA true) := by
  refine ct_of (O := orO (refO 13 (pin [.s (.osl 1000 2)] [j.L ++ j1.L] (bA (j.few && j1.few)))) (tblO (Tlaw5_known))) (by kernel_rfl) tyT_ok (fun w => refO_or (refO_ok (ent Tryz.func13 (by kernel_rfl) rfl) (pin_ok (l_lighth2 j j1)) _ _) (tblO_ok (Tlaw5_known_ok) _ w) (fun d st args => by simp [orO, refO, tblO, orT, noT, one, Tlaw5_known])) [] 2000 24 [.tmp 6] Tryz.func3 rfl Tryz.ntmps3 (by rw [Tryz.results3]) (by simp) rfl (fun hsm => ?_)
  simp (maxSteps := 10000000) only [go_sem, ↓cond_true, ↓cond_false, ↓not_cond, ↓reduceIte, Nat.reduceMul, Nat.reduceAdd, Nat.reduceEqDiff, Nat.reduceLeDiff, Nat.reduceLT, reduceCtorEq, Int.reduceNeg, Tlaw5_known, Int.reduceLT, Int.reduceLE, Int.reduceAdd, Int.reduceToNat, Nat.reduceBEq, Int.reduceMul, Int.reduceSub, Nat.reduceSub, Int.reduceEq, gC, gCC, asSc, SX.L, SX.eta, H.L, Hx, HJ.L]
  repeat' first | (with_reducible apply And.intro) | (with_reducible apply condP <;> intro _)
  all_goals first | (show chk _ _ = true; kernel_rfl) | assumption | (exfalso; simp_all only [Bool.true_eq_false, Bool.false_eq_true, reduceCtorEq, or_self]; done) | (simp only [go_sem, *]; done) | rfl | (simp only [go_sem, *]; rfl) | (exfalso; simp_all only [Bool.true_eq_false, Bool.false_eq_true, reduceCtorEq]; done)
set_option maxRecDepth 100000 in
set_option maxHeartbeats 4000000 in
theorem v_reckons (j j1 : J) (z : Int) : Ct Tryz.prog 5 [.v true j.L, .v true j1.L, iA z] (· = bA true) := by
  refine ct_of (O := orO (refO 13 (pin [.s (.osl 1000 2)] [j.L ++ j1.L] (bA (lightJ j && lightJ j1)))) (tblO (orT Tlaw5_known (Tlaw5_four)))) (by kernel_rfl) tyT_ok (fun w => refO_or (refO_ok (ent Tryz.func13 (by kernel_rfl) rfl) (pin_ok (l_light2 j j1)) _ _) (tblO_ok (orT_ok Tlaw5_known_ok (Tlaw5_four_ok)) _ w) (fun d st args => by simp [orO, refO, tblO, orT, noT, one, Tlaw5_known, Tlaw5_four])) [] 2000 18 [.tmp 6] Tryz.func5 rfl Tryz.ntmps5 (by rw [Tryz.results5]) (by simp) rfl (fun hsm => ?_)
  have hg : GJ j := ⟨hsm.1.2.2.1.1, hsm.1.2.2.2.2.2.1.1⟩
  have hg1 : GJ j1 := ⟨hsm.2.1.2.2.1.1, hsm.2.1.2.2.2.2.2.1.1⟩
  have ft := four_true hg hg1
  simp (maxSteps := 10000000) only [go_sem, ↓cond_true, ↓cond_false, ↓not_cond, ↓reduceIte, Nat.reduceMul, Nat.reduceAdd, Nat.reduceEqDiff, Nat.reduceLeDiff, Nat.reduceLT, reduceCtorEq, Int.reduceNeg, Tlaw5_known, Tlaw5_four, Int.reduceLT, Int.reduceLE, Int.reduceAdd, Int.reduceToNat, Nat.reduceBEq, Int.reduceMul, Int.reduceSub, Nat.reduceSub, Int.reduceEq, gC, gCC, asSc, SX.L, SX.eta, H.L, Hx, HJ.L, ft]
  repeat' first | (with_reducible apply And.intro) | (with_reducible apply condP <;> intro _)
  all_goals first | (show chk _ _ = true; kernel_rfl) | assumption | (simp only [go_sem, *]; done) | rfl | (simp only [go_sem, *]; rfl) | (exfalso; simp_all only [Bool.true_eq_false, Bool.false_eq_true, reduceCtorEq]; done)
set_option maxRecDepth 100000 in
set_option maxHeartbeats 4000000 in
theorem v_reckonsh (j j1 : HJ) (z : Int) (hf : (j.few && j1.few) = false) : Ct Tryz.prog 5 [.v true j.L, .v true j1.L, iA z] (· = bA true) := by
  refine ct_of (O := orO (refO 13 (pin [.s (.osl 1000 2)] [j.L ++ j1.L] (bA (j.few && j1.few)))) (tblO (Tlaw5_known))) (by kernel_rfl) tyT_ok (fun w => refO_or (refO_ok (ent Tryz.func13 (by kernel_rfl) rfl) (pin_ok (l_lighth2 j j1)) _ _) (tblO_ok (Tlaw5_known_ok) _ w) (fun d st args => by simp [orO, refO, tblO, orT, noT, one, Tlaw5_known])) [] 2000 18 [.tmp 6] Tryz.func5 rfl Tryz.ntmps5 (by rw [Tryz.results5]) (by simp) rfl (fun hsm => ?_)
  simp (maxSteps := 10000000) only [go_sem, ↓cond_true, ↓cond_false, ↓not_cond, ↓reduceIte, Nat.reduceMul, Nat.reduceAdd, Nat.reduceEqDiff, Nat.reduceLeDiff, Nat.reduceLT, reduceCtorEq, Int.reduceNeg, Tlaw5_known, Int.reduceLT, Int.reduceLE, Int.reduceAdd, Int.reduceToNat, Nat.reduceBEq, Int.reduceMul, Int.reduceSub, Nat.reduceSub, Int.reduceEq, gC, gCC, asSc, SX.L, SX.eta, H.L, Hx, HJ.L, hf]
  repeat' first | (with_reducible apply And.intro) | (with_reducible apply condP <;> intro _)
  all_goals first | (show chk _ _ = true; kernel_rfl) | assumption | (simp only [go_sem, *]; done) | rfl | (simp only [go_sem, *]; rfl) | (exfalso; simp_all only [Bool.true_eq_false, Bool.false_eq_true, reduceCtorEq]; done)
set_option maxRecDepth 100000 in
set_option maxHeartbeats 4000000 in
theorem v_mids (j : J) (z : Int) : Ct Tryz.prog 10 [.v true j.L, iA z] (· = bA true) := by
  refine ct_of (O := orO (refO 13 (pin [.s (.osl 1000 1)] [j.L] (bA (lightJ j)))) (tblO (orT Tlaw5_known (orT Tiv_Mid (orT Tiv_Rad (orT Tiv_Wide (orT Tref_Mid (orT Tref_Rad (orT Tref_Wide (orT Tref_Same (orT Tiv_Mag (Tref_Mag)))))))))))) (by kernel_rfl) tyT_ok (fun w => refO_or (refO_ok (ent Tryz.func13 (by kernel_rfl) rfl) (pin_ok (l_light1 j)) _ _) (tblO_ok (orT_ok Tlaw5_known_ok (orT_ok Tiv_Mid_ok (orT_ok Tiv_Rad_ok (orT_ok Tiv_Wide_ok (orT_ok Tref_Mid_ok (orT_ok Tref_Rad_ok (orT_ok Tref_Wide_ok (orT_ok Tref_Same_ok (orT_ok Tiv_Mag_ok (Tref_Mag_ok)))))))))) _ w) (fun d st args => by simp [orO, refO, tblO, orT, noT, one, Tlaw5_known, Tiv_Mid, Tiv_Rad, Tiv_Wide, Tref_Mid, Tref_Rad, Tref_Wide, Tref_Same, Tiv_Mag, Tref_Mag])) [] 2000 94 [.tmp 4] Tryz.func10 rfl Tryz.ntmps10 (by rw [Tryz.results10]) (by simp) rfl (fun hsm => ?_)
  have hg : GJ j := ⟨hsm.1.2.2.1.1, hsm.1.2.2.2.2.2.1.1⟩
  have m1 := mid_eq hg
  have m2 := rad_eq hg
  have m3 := mag_eq hg
  simp (maxSteps := 10000000) only [go_sem, ↓cond_true, ↓cond_false, ↓not_cond, ↓reduceIte, Nat.reduceMul, Nat.reduceAdd, Nat.reduceEqDiff, Nat.reduceLeDiff, Nat.reduceLT, reduceCtorEq, Int.reduceNeg, Tlaw5_known, Tiv_Mid, Tiv_Rad, Tiv_Wide, Tref_Mid, Tref_Rad, Tref_Wide, Tref_Same, Tiv_Mag, Tref_Mag, Int.reduceLT, Int.reduceLE, Int.reduceAdd, Int.reduceToNat, Nat.reduceBEq, Int.reduceMul, Int.reduceSub, Nat.reduceSub, Int.reduceEq, gC, gCC, asSc, SX.L, SX.eta, H.L, Hx, HJ.L, m1, m2, m3, wide_eq, prX, samex_refl]
  repeat' first | (with_reducible apply And.intro) | (with_reducible apply condP <;> intro _)
  all_goals first | (show chk _ _ = true; kernel_rfl) | assumption | (simp only [go_sem, *]; done) | rfl | (simp only [go_sem, *]; rfl) | (exfalso; simp_all only [Bool.true_eq_false, Bool.false_eq_true, reduceCtorEq]; done)
set_option maxRecDepth 100000 in
set_option maxHeartbeats 4000000 in
theorem v_midsh (j : HJ) (z : Int) (hf : j.few = false) : Ct Tryz.prog 10 [.v true j.L, iA z] (· = bA true) := by
  refine ct_of (O := orO (refO 13 (pin [.s (.osl 1000 1)] [j.L] (bA j.few))) (tblO (Tlaw5_known))) (by kernel_rfl) tyT_ok (fun w => refO_or (refO_ok (ent Tryz.func13 (by kernel_rfl) rfl) (pin_ok (l_lighth1 j)) _ _) (tblO_ok (Tlaw5_known_ok) _ w) (fun d st args => by simp [orO, refO, tblO, orT, noT, one, Tlaw5_known])) [] 2000 94 [.tmp 4] Tryz.func10 rfl Tryz.ntmps10 (by rw [Tryz.results10]) (by simp) rfl (fun hsm => ?_)
  simp (maxSteps := 10000000) only [go_sem, ↓cond_true, ↓cond_false, ↓not_cond, ↓reduceIte, Nat.reduceMul, Nat.reduceAdd, Nat.reduceEqDiff, Nat.reduceLeDiff, Nat.reduceLT, reduceCtorEq, Int.reduceNeg, Tlaw5_known, Int.reduceLT, Int.reduceLE, Int.reduceAdd, Int.reduceToNat, Nat.reduceBEq, Int.reduceMul, Int.reduceSub, Nat.reduceSub, Int.reduceEq, gC, gCC, asSc, SX.L, SX.eta, H.L, Hx, HJ.L, hf]
  repeat' first | (with_reducible apply And.intro) | (with_reducible apply condP <;> intro _)
  all_goals first | (show chk _ _ = true; kernel_rfl) | assumption | (simp only [go_sem, *]; done) | rfl | (simp only [go_sem, *]; rfl) | (exfalso; simp_all only [Bool.true_eq_false, Bool.false_eq_true, reduceCtorEq]; done)
end Go.Proofs.YtfggnoejcgehdaaGreatDoor
namespace Go.Proofs.YtfggnoejcgehdaaGreatDoor
open Go.RowKit Nx
set_option linter.unusedVariables false
set_option linter.unusedSimpArgs false
theorem law_calls {f : FuncId} {args : List AV} {us : List Value} {W : World} (h : Ct Tryz.prog f args (· = bA true)) (ht : Tab W) (hR : RA (fun n => n) (fun _ => false) W args us) :
    Calls Tryz.prog f us.toArray W fun e W' => e = .returned (.bool true) ∧ Below W.heap.size W W' := by
  refine (h _ _ W us ht hR).mono ?_
  rintro e w' ⟨u, r, rfl, rfl, _, h2, h3⟩
  rw [show u = .bool true from RL.one.1 h2]
  exact ⟨rfl, h3⟩
section
variable {ρ : Nat → Nat} {D : Nat → Bool} {W : World}
theorem r_iv {s : Bool} {e : Int} {A : Option Addr} {n c : Nat} {xs : List Nat} {s' : Bool} {e' : Int} {A' : Option Addr} {n' c' : Nat} {xs' : List Nat} (h : Arg W A n c xs) (h' : Arg W A' n' c' xs') (hn : n ≤ 100000) (hn' : n' ≤ 100000) :
    AV.R ρ D W (.v true (J.L ⟨⟨s, e, xs⟩, ⟨s', e', xs'⟩⟩)) (.agg #[.bool s, .int .i64 e, .slice A n c, .bool s', .int .i64 e', .slice A' n' c']) :=
  ⟨[.bool s, .int .i64 e, .slice A n c, .bool s', .int .i64 e', .slice A' n' c'], rfl, _, _, rfl, rfl, _, _, rfl, rfl, _, _, rfl, ⟨A, n, c, rfl, h, hn⟩, _, _, rfl, rfl, _, _, rfl, rfl, _, _, rfl, ⟨A', n', c', rfl, h', hn'⟩, rfl⟩
theorem r_ivh {s : Bool} {e : Int} {A : Option Addr} {n c : Nat} {s' : Bool} {e' : Int} {A' : Option Addr} {n' c' : Nat} :
    AV.R ρ D W (.v true (HJ.L ⟨⟨s, e, A, n, c⟩, ⟨s', e', A', n', c'⟩⟩)) (.agg #[.bool s, .int .i64 e, .slice A n c, .bool s', .int .i64 e', .slice A' n' c']) :=
  ⟨[.bool s, .int .i64 e, .slice A n c, .bool s', .int .i64 e', .slice A' n' c'], rfl, _, _, rfl, rfl, _, _, rfl, rfl, _, _, rfl, rfl, _, _, rfl, rfl, _, _, rfl, rfl, _, _, rfl, rfl, rfl⟩
theorem r_nm {s : Bool} {e : Int} {A : Option Addr} {n c : Nat} {xs : List Nat} (h : Arg W A n c xs) (hn : n ≤ 100000) : AV.R ρ D W (.v true (X.L ⟨s, e, xs⟩)) (.agg #[.bool s, .int .i64 e, .slice A n c]) :=
  ⟨[.bool s, .int .i64 e, .slice A n c], rfl, _, _, rfl, rfl, _, _, rfl, rfl, _, _, rfl, ⟨A, n, c, rfl, h, hn⟩, rfl⟩
theorem r_nmh {s : Bool} {e : Int} {A : Option Addr} {n c : Nat} : AV.R ρ D W (.v true (H.L ⟨s, e, A, n, c⟩)) (.agg #[.bool s, .int .i64 e, .slice A n c]) :=
  ⟨[.bool s, .int .i64 e, .slice A n c], rfl, _, _, rfl, rfl, _, _, rfl, rfl, _, _, rfl, rfl, rfl⟩
theorem r_int {z : Int} : AV.R ρ D W (iA z) (.int .i64 z) := RL.one.2 rfl
theorem few_of {j : HJ} (h : ¬ j.few = false) : j.lo.n ≤ 70 ∧ j.hi.n ≤ 70 := by
  have h : j.few = true := by simpa using h
  unfold HJ.few at h
  simp only [Bool.and_eq_true, Bool.not_eq_true', decide_eq_false_iff_not] at h
  omega
end
theorem ivparts_walk (W : World) (s0 : Bool) (e0 : Int) (a0 : Option Addr) (l0 c0 : Nat) (xs0 : List Nat) (S0 : Bool) (E0 : Int) (A0 : Option Addr) (L0 C0 : Nat) (XS0 : List Nat) (s1 : Bool) (e1 : Int) (a1 : Option Addr) (l1 c1 : Nat) (xs1 : List Nat) (S1 : Bool) (E1 : Int) (A1 : Option Addr) (L1 C1 : Nat) (XS1 : List Nat)
    (s2 : Bool) (e2 : Int) (a2 : Option Addr) (l2 c2 : Nat) (xs2 : List Nat) (hx0 : Arg W a0 l0 c0 xs0) (HX0 : Arg W A0 L0 C0 XS0) (hx1 : Arg W a1 l1 c1 xs1) (HX1 : Arg W A1 L1 C1 XS1) (hx2 : Arg W a2 l2 c2 xs2) (ht : Tab W) :
    Calls Tryz.prog 3 #[.agg #[.bool s0, .int .i64 e0, .slice a0 l0 c0, .bool S0, .int .i64 E0, .slice A0 L0 C0], .agg #[.bool s1, .int .i64 e1, .slice a1 l1 c1, .bool S1, .int .i64 E1, .slice A1 L1 C1], .agg #[.bool s2, .int .i64 e2, .slice a2 l2 c2]] W fun e W' => e = .returned (.bool true) ∧ Below W.heap.size W W' := by
  obtain ⟨j, hj⟩ : ∃ j : HJ, j = ⟨⟨s0, e0, a0, l0, c0⟩, ⟨S0, E0, A0, L0, C0⟩⟩ := ⟨_, rfl⟩
  obtain ⟨j1, hj1⟩ : ∃ j : HJ, j = ⟨⟨s1, e1, a1, l1, c1⟩, ⟨S1, E1, A1, L1, C1⟩⟩ := ⟨_, rfl⟩
  by_cases hf : (j.few && j1.few) = false ∨ decide (70 < (l2 : Int)) = true
  · subst hj hj1
    exact law_calls (v_partsh _ _ ⟨s2, e2, a2, l2, c2⟩ hf) ht ⟨_, _, rfl, r_ivh, _, _, rfl, r_ivh, _, _, rfl, r_nmh, rfl⟩
  · rw [not_or, Bool.and_eq_false_iff, not_or, decide_eq_true_eq] at hf
    have f1 := few_of hf.1.1
    have f2 := few_of hf.1.2
    subst hj hj1
    exact law_calls (v_parts _ _ _) ht ⟨_, _, rfl, r_iv hx0 HX0 (Nat.le_trans f1.1 (by omega)) (Nat.le_trans f1.2 (by omega)), _, _, rfl, r_iv hx1 HX1 (Nat.le_trans f2.1 (by omega)) (Nat.le_trans f2.2 (by omega)), _, _, rfl, r_nm hx2 (by omega), rfl⟩
theorem ivreckons_walk (W : World) (s0 : Bool) (e0 : Int) (a0 : Option Addr) (l0 c0 : Nat) (xs0 : List Nat) (S0 : Bool) (E0 : Int) (A0 : Option Addr) (L0 C0 : Nat) (XS0 : List Nat) (s1 : Bool) (e1 : Int) (a1 : Option Addr) (l1 c1 : Nat) (xs1 : List Nat) (S1 : Bool) (E1 : Int) (A1 : Option Addr) (L1 C1 : Nat) (XS1 : List Nat)
    (z : Int) (hx0 : Arg W a0 l0 c0 xs0) (HX0 : Arg W A0 L0 C0 XS0) (hx1 : Arg W a1 l1 c1 xs1) (HX1 : Arg W A1 L1 C1 XS1) (ht : Tab W) :
    Calls Tryz.prog 5 #[.agg #[.bool s0, .int .i64 e0, .slice a0 l0 c0, .bool S0, .int .i64 E0, .slice A0 L0 C0], .agg #[.bool s1, .int .i64 e1, .slice a1 l1 c1, .bool S1, .int .i64 E1, .slice A1 L1 C1], .int .i64 z] W fun e W' => e = .returned (.bool true) ∧ Below W.heap.size W W' := by
  obtain ⟨j, hj⟩ : ∃ j : HJ, j = ⟨⟨s0, e0, a0, l0, c0⟩, ⟨S0, E0, A0, L0, C0⟩⟩ := ⟨_, rfl⟩
  obtain ⟨j1, hj1⟩ : ∃ j : HJ, j = ⟨⟨s1, e1, a1, l1, c1⟩, ⟨S1, E1, A1, L1, C1⟩⟩ := ⟨_, rfl⟩
  by_cases hf : (j.few && j1.few) = false
  · subst hj hj1
    exact law_calls (v_reckonsh _ _ z hf) ht ⟨_, _, rfl, r_ivh, _, _, rfl, r_ivh, _, _, rfl, r_int, rfl⟩
  · rw [Bool.and_eq_false_iff, not_or] at hf
    have f1 := few_of hf.1
    have f2 := few_of hf.2
    subst hj hj1
    exact law_calls (v_reckons _ _ _) ht ⟨_, _, rfl, r_iv hx0 HX0 (Nat.le_trans f1.1 (by omega)) (Nat.le_trans f1.2 (by omega)), _, _, rfl, r_iv hx1 HX1 (Nat.le_trans f2.1 (by omega)) (Nat.le_trans f2.2 (by omega)), _, _, rfl, r_int, rfl⟩
theorem ivmids_walk (W : World) (s0 : Bool) (e0 : Int) (a0 : Option Addr) (l0 c0 : Nat) (xs0 : List Nat) (S0 : Bool) (E0 : Int) (A0 : Option Addr) (L0 C0 : Nat) (XS0 : List Nat)
    (z : Int) (hx0 : Arg W a0 l0 c0 xs0) (HX0 : Arg W A0 L0 C0 XS0) (ht : Tab W) :
    Calls Tryz.prog 10 #[.agg #[.bool s0, .int .i64 e0, .slice a0 l0 c0, .bool S0, .int .i64 E0, .slice A0 L0 C0], .int .i64 z] W fun e W' => e = .returned (.bool true) ∧ Below W.heap.size W W' := by
  obtain ⟨j, hj⟩ : ∃ j : HJ, j = ⟨⟨s0, e0, a0, l0, c0⟩, ⟨S0, E0, A0, L0, C0⟩⟩ := ⟨_, rfl⟩
  by_cases hf : j.few = false
  · subst hj
    exact law_calls (v_midsh _ z hf) ht ⟨_, _, rfl, r_ivh, _, _, rfl, r_int, rfl⟩
  · have f1 := few_of hf
    subst hj
    exact law_calls (v_mids _ _) ht ⟨_, _, rfl, r_iv hx0 HX0 (Nat.le_trans f1.1 (by omega)) (Nat.le_trans f1.2 (by omega)), _, _, rfl, r_int, rfl⟩
end Go.Proofs.YtfggnoejcgehdaaGreatDoor
