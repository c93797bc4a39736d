/- Laws with a deck: IvDrawn, IvFour, IvPowers. -/
import Derived.Test.YtfggnoejcgehdaaGreatDoorPAkM
import Derived.Test.YtfggnoejcgehdaaGreatDoorPAk3
namespace Go.Proofs.YtfggnoejcgehdaaGreatDoor
open Go.RowKit Nx
set_option linter.unusedVariables false
set_option linter.unusedSimpArgs false
attribute [local go_sem] run init X.L J.L vL X.eta J.eta Q.eta List.cons_append List.nil_append brkK brkf_b brkf_t exef_some exif_some condf_b opf bodyE addR skipE stepOp stepLoad stepStore stepField stepCall stepBS stepBi stepCv stepIx lpf forget inL mentA ment dom evs evl evp evd okeys look fillA capsOf wordsOf rowsOf lenOf convK binV shV intV unV boolT tyT tiB tiI tiW tiD tiF tiR tiU tiNum tiIv tiVal tiSc okLf okD keysOf tblO orT noT one asNum asIv asVal postf_some resA tupA clA clL dropTo decide_true decide_false List.all_cons List.all_nil Bool.and_true Bool.and_self true_and and_true and_self List.length_cons List.length_nil List.drop_succ_cons List.drop_zero List.take_succ_cons List.take_zero List.getElem?_cons_zero List.getElem?_cons_succ List.map_cons List.map_nil false_implies true_implies Option.bind_some List.getElem?_toArray Bool.false_eq_true List.append_nil List.flatMap_cons List.flatMap_nil true_or or_true forall_const List.reverse_cons List.reverse_nil Option.isSome_some Option.any_some Nat.lt_irrefl not_true_eq_false Bool.not_true Bool.not_false imp_self implies_true Bool.not_eq_true' Bool.not_eq_false' Bool.true_eq_false memOf cntF nmL rnL nmA rnA isV contsOf ndB refO orO pin Int.toNat_zero decide_eq_true_eq wrap0 wrap1 ci1 ci2 BEq.rfl beq_self_eq_true Int.natCast_zero ge_iff_le gt_iff_lt Int.le_refl Nat.zero_mul Nat.one_mul Nat.zero_add Nat.zero_lt_succ Nat.lt_add_one Nat.le_refl List.append_eq ub wrap2 bits_in wrap_in Bool.not_eq_true dkO dpf_some rK rKI rKJ Int.toNat_natCast Int.natCast_nonneg dk0 gN gNN gNI gI gNNIB gNIB gV gVV gVIB gVVIB gWW gJ gJJ gJN gJJI gJI gJII gNNI gBWI gVVVV gVVVVI gVI gIJJI gJJN gJB AV.s cond_true cond_false Bool.true_and Bool.and_false Bool.false_and Bool.or_true Bool.true_or Bool.or_false Bool.false_or
def LCt (f : FuncId) (A : Option Addr) (n c : Nat) (xs : List Nat) (args : List AV) : Prop := ∀ w us, Tab w → Arg w A n c xs → RA (fun n => n) (fun _ => false) w args us →
  Calls Tryz.prog f us.toArray w fun e w' => e = .returned (.bool true) ∧ Below w.heap.size w w'
theorem lct_of {ty : TypeId → Option TI} {O : Orac} (hm : Tryz.prog.follows .mixedOrders = true) (hty : ∀ t i, ty t = some i → TiOK Tryz.prog t i) {f : FuncId} {fn : Func} {c0 : Code} {args : List AV} {A : Option Addr} {n c : Nat} {xs : List Nat}
    (hO : ∀ w, Arg w A n c xs → (∀ ad, 0 < n → A = some ad → ¬ (fun _ : Nat => False) ad.block) → OrOK Tryz.prog O (fun _ => False) w) (fg : List Nat)
    (fuel N : Nat) (rs : List ResultVar) (hf : Tryz.prog.funcs[f]? = some fn) (hb : fn.body = some c0) (hN : fn.ntmps = N) (hr : fn.results.toList = rs) (hl : args.length ≤ N) (hc : args.all clA = true)
    (h : smAs args → Small B64 xs → run ty O N (fun st => postf (· = bA true) (resA ty st rs)) fg fuel [.code c0] (init 0 args)) : LCt f A n c xs args := by
  intro w us ht hX hA
  replace h := h hA.sm hX.2
  refine (call_of (mem := []) (ρ := fun n => n) hm hty (hO w hX (fun _ _ _ h => h)) fg fuel N rs hf hb hN hr hl ht (fun k v h => by cases h) (fun b v h => by cases h) (fun b b' h => by cases h) (hA.closed hc) (by rw [List.append_nil]; exact h)).mono ?_
  rintro e w' ⟨u, r, rfl, rfl, hcl, hR, hb⟩
  rw [show u = .bool true from RL.one.1 (hR (fun n => n) (fun _ => false))]
  exact ⟨rfl, hb⟩
set_option maxRecDepth 100000 in
set_option maxHeartbeats 4000000 in
theorem v_drawn (xs : List Nat) (A : Option Addr) (n c : Nat)  : LCt 4 A n c xs [.s (.lit (.slice A n c))] := by
  refine lct_of (O := orO ofO (orO (dkO 16 A n c (rK fun k => (k ≤ 800, jA (ivD xs k).1, (ivD xs k).2))) (orO (dkO 17 A n c (rKJ fun k j => (Good j ∧ k ≤ 900, xA (inD xs j k), k + 1))) (orO (dkO 18 A n c (rKJ fun k j => (Good j ∧ k ≤ 800, jA (partD xs j k), k + 1 + 1))) (tblO (orT Tlaw5_known (orT Tlaw5_parts (Tiv_Has)))))))) (by kernel_rfl) tyT_ok (fun w hA hn => only_or ofO_only (ofO_ok _ _) (only_or dkO_only (dkO_ok (xs := xs) (ent Tryz.func16 (by kernel_rfl) rfl) (rK_ok fun k hp => (ivD_spec hp).2.2.2) hA hn) (only_or dkO_only (dkO_ok (xs := xs) (ent Tryz.func17 (by kernel_rfl) rfl) (rKJ_ok fun k j hp => (inD_spec hp.1 hp.2).2.1) hA hn) (only_or dkO_only (dkO_ok (xs := xs) (ent Tryz.func18 (by kernel_rfl) rfl) (rKJ_ok fun k j hp => d_part xs k j hp.1 hp.2) hA hn) (tblO_ok (orT_ok Tlaw5_known_ok (orT_ok Tlaw5_parts_ok (Tiv_Has_ok))) _ w) (fun d st args => by simp [orO, refO, dkO, ofO, tblO, orT, noT, one, Tlaw5_known, Tlaw5_parts, Tiv_Has])) (fun d st args => by simp [orO, refO, dkO, ofO, tblO, orT, noT, one, Tlaw5_known, Tlaw5_parts, Tiv_Has])) (fun d st args => by simp [orO, refO, dkO, ofO, tblO, orT, noT, one, Tlaw5_known, Tlaw5_parts, Tiv_Has])) (fun d st args => by simp [orO, refO, dkO, ofO, tblO, orT, noT, one, Tlaw5_known, Tlaw5_parts, Tiv_Has])) [] 2000 50 [.tmp 2] Tryz.func4 rfl Tryz.ntmps4 (by rw [Tryz.results4]) (by simp) rfl (fun hsm hs => ?_)
  have s1 := ivD_spec (xs := xs) (k := 0) (by omega)
  have u1 := s1.2.1
  have u2 := s1.2.2.1
  have s2 := ivD_spec (xs := xs) (k := (ivD xs 0).2) (by omega)
  have u3 := s2.2.1
  have u4 := s2.2.2.1
  have G1 := s1.1
  have G2 := s2.1
  have g1 := s1.1.2
  have g2 := s2.1.2
  have x1 := inD_spec (xs := xs) (j := (ivD xs 0).1) (k := (ivD xs (ivD xs 0).2).2) G1 (by omega)
  have x2 := x1.1.2
  simp (maxSteps := 10000000) only [go_sem, ↓cond_true, ↓cond_false, ↓not_cond, ↓reduceIte, Nat.reduceMul, Nat.reduceAdd, Nat.reduceEqDiff, Nat.reduceLeDiff, Nat.reduceLT, reduceCtorEq, Int.reduceNeg, Tlaw5_known, Tlaw5_parts, Tiv_Has, Int.reduceLT, Int.reduceLE, Int.reduceAdd, Int.reduceToNat, Nat.reduceBEq, Int.reduceMul, Int.reduceSub, Nat.reduceSub, Int.reduceEq, gC, gCC, asSc, SX.L, SX.eta, ofO, x2]
  repeat' first | (with_reducible apply And.intro) | (with_reducible apply condP <;> intro _)
  all_goals first | omega | (show chk _ _ = true; kernel_rfl) | with_reducible assumption | (simp only [go_sem, *]; done) | rfl | (simp only [go_sem, *]; rfl) | (exfalso; simp_all only [Bool.true_eq_false, Bool.false_eq_true, reduceCtorEq]; done)
set_option maxRecDepth 100000 in
set_option maxHeartbeats 4000000 in
theorem v_four (xs : List Nat) (A : Option Addr) (n c : Nat)  : LCt 6 A n c xs [.s (.lit (.slice A n c))] := by
  refine lct_of (O := orO ofO (orO (dkO 16 A n c (rK fun k => (k ≤ 800, jA (ivD xs k).1, (ivD xs k).2))) (orO (dkO 21 A n c (rK fun k => (k ≤ 900, iA (precD xs k).1, (precD xs k).2))) (tblO (orT Tlaw5_known (Tlaw5_four)))))) (by kernel_rfl) tyT_ok (fun w hA hn => only_or ofO_only (ofO_ok _ _) (only_or dkO_only (dkO_ok (xs := xs) (ent Tryz.func16 (by kernel_rfl) rfl) (rK_ok fun k hp => (ivD_spec hp).2.2.2) hA hn) (only_or dkO_only (dkO_ok (xs := xs) (ent Tryz.func21 (by kernel_rfl) rfl) (rK_ok fun k hp => (precD_spec hp).2.2.2) hA hn) (tblO_ok (orT_ok Tlaw5_known_ok (Tlaw5_four_ok)) _ w) (fun d st args => by simp [orO, refO, dkO, ofO, tblO, orT, noT, one, Tlaw5_known, Tlaw5_four])) (fun d st args => by simp [orO, refO, dkO, ofO, tblO, orT, noT, one, Tlaw5_known, Tlaw5_four])) (fun d st args => by simp [orO, refO, dkO, ofO, tblO, orT, noT, one, Tlaw5_known, Tlaw5_four])) [] 2000 33 [.tmp 2] Tryz.func6 rfl Tryz.ntmps6 (by rw [Tryz.results6]) (by simp) rfl (fun hsm hs => ?_)
  have s1 := ivD_spec (xs := xs) (k := 0) (by omega)
  have u1 := s1.2.1
  have u2 := s1.2.2.1
  have s2 := ivD_spec (xs := xs) (k := (ivD xs 0).2) (by omega)
  have u3 := s2.2.1
  have u4 := s2.2.2.1
  have G1 := s1.1
  have G2 := s2.1
  have g1 := s1.1.2
  have g2 := s2.1.2
  have f1 := fun z => four_true g1 g2 z
  have f2 := fun z => four_true g2 g1 z
  have f3 := fun z => four_true g1 g1 z
  simp (maxSteps := 10000000) only [go_sem, ↓cond_true, ↓cond_false, ↓not_cond, ↓reduceIte, Nat.reduceMul, Nat.reduceAdd, Nat.reduceEqDiff, Nat.reduceLeDiff, Nat.reduceLT, reduceCtorEq, Int.reduceNeg, Tlaw5_known, Tlaw5_four, Int.reduceLT, Int.reduceLE, Int.reduceAdd, Int.reduceToNat, Nat.reduceBEq, Int.reduceMul, Int.reduceSub, Nat.reduceSub, Int.reduceEq, gC, gCC, asSc, SX.L, SX.eta, ofO, f1, f2, f3]
  repeat' first | (with_reducible apply And.intro) | (with_reducible apply condP <;> intro _)
  all_goals first | omega | (show chk _ _ = true; kernel_rfl) | with_reducible assumption | (simp only [go_sem, *]; done) | rfl | (simp only [go_sem, *]; rfl) | (exfalso; simp_all only [Bool.true_eq_false, Bool.false_eq_true, reduceCtorEq]; done)
theorem wrap9 : IntKind.i64.wrap 9 = 9 := by kernel_rfl
set_option maxRecDepth 100000 in
set_option maxHeartbeats 4000000 in
theorem v_powers (xs : List Nat) (A : Option Addr) (n c : Nat) (j : J) (k z : Int) : LCt 7 A n c xs [.v true j.L, .s (.lit (.slice A n c)), iA k, iA z] := by
  refine lct_of (O := orO (refO 13 (pin [.s (.osl 1000 1)] [j.L] (bA (lightJ j)))) (orO ofO (orO (dkO 16 A n c (rK fun k => (k ≤ 800, jA (ivD xs k).1, (ivD xs k).2))) (orO (dkO 21 A n c (rK fun k => (k ≤ 900, iA (precD xs k).1, (precD xs k).2))) (tblO (orT Tlaw5_known (orT Tiv_Pow (orT Tref_Pow (Tref_SameIv))))))))) (by kernel_rfl) tyT_ok (fun w hA hn => refO_or (refO_ok (ent Tryz.func13 (by kernel_rfl) rfl) (pin_ok (l_light1 j)) _ _) (only_or ofO_only (ofO_ok _ _) (only_or dkO_only (dkO_ok (xs := xs) (ent Tryz.func16 (by kernel_rfl) rfl) (rK_ok fun k hp => (ivD_spec hp).2.2.2) hA hn) (only_or dkO_only (dkO_ok (xs := xs) (ent Tryz.func21 (by kernel_rfl) rfl) (rK_ok fun k hp => (precD_spec hp).2.2.2) hA hn) (tblO_ok (orT_ok Tlaw5_known_ok (orT_ok Tiv_Pow_ok (orT_ok Tref_Pow_ok (Tref_SameIv_ok)))) _ w) (fun d st args => by simp [orO, refO, dkO, ofO, tblO, orT, noT, one, Tlaw5_known, Tiv_Pow, Tref_Pow, Tref_SameIv])) (fun d st args => by simp [orO, refO, dkO, ofO, tblO, orT, noT, one, Tlaw5_known, Tiv_Pow, Tref_Pow, Tref_SameIv])) (fun d st args => by simp [orO, refO, dkO, ofO, tblO, orT, noT, one, Tlaw5_known, Tiv_Pow, Tref_Pow, Tref_SameIv])) (fun d st args => by simp [orO, refO, dkO, ofO, tblO, orT, noT, one, Tlaw5_known, Tiv_Pow, Tref_Pow, Tref_SameIv])) [34, 35, 38, 39] 2000 83 [.tmp 8] Tryz.func7 rfl Tryz.ntmps7 (by rw [Tryz.results7]) (by simp) rfl (fun hsm hs => ?_)
  have s1 := ivD_spec (xs := xs) (k := 0) (by omega)
  have u1 := s1.2.1
  have u2 := s1.2.2.1
  have g1 := s1.1.2
  have gj : GJ j := ⟨hsm.1.2.2.1.1, hsm.1.2.2.2.2.2.1.1⟩
  have p1 := fun k z => pow_eq g1 k z
  have p2 := fun k z => pow_eq gj k z
  simp (maxSteps := 10000000) only [go_sem, ↓cond_true, ↓cond_false, ↓not_cond, ↓reduceIte, Nat.reduceMul, Nat.reduceAdd, Nat.reduceEqDiff, Nat.reduceLeDiff, Nat.reduceLT, reduceCtorEq, Int.reduceNeg, Tlaw5_known, Tiv_Pow, Tref_Pow, Tref_SameIv, Int.reduceLT, Int.reduceLE, Int.reduceAdd, Int.reduceToNat, Nat.reduceBEq, Int.reduceMul, Int.reduceSub, Nat.reduceSub, Int.reduceEq, gC, gCC, asSc, SX.L, SX.eta, ofO, p1, p2, sameJ_refl, bne_self_eq_false, wrap3, wrap4, wrap5, wrap6, wrap7, wrap8, wrap9]
  repeat' first | (with_reducible apply And.intro) | (with_reducible apply condP <;> intro _)
  all_goals first | omega | (show chk _ _ = true; kernel_rfl) | with_reducible assumption | (simp only [go_sem, *]; done) | rfl | (simp only [go_sem, *]; rfl) | (exfalso; simp_all only [Bool.true_eq_false, Bool.false_eq_true, reduceCtorEq]; done)
set_option maxRecDepth 100000 in
set_option maxHeartbeats 4000000 in
theorem v_powersh (xs : List Nat) (A : Option Addr) (n c : Nat) (j : HJ) (k z : Int) (hf : j.few = false) : LCt 7 A n c xs [.v true j.L, .s (.lit (.slice A n c)), iA k, iA z] := by
  refine lct_of (O := orO (refO 13 (pin [.s (.osl 1000 1)] [j.L] (bA j.few))) (tblO (Tlaw5_known))) (by kernel_rfl) tyT_ok (fun w hA hn => refO_or (refO_ok (ent Tryz.func13 (by kernel_rfl) rfl) (pin_ok (l_lighth1 j)) _ _) (tblO_ok (Tlaw5_known_ok) _ w) (fun d st args => by simp [orO, refO, dkO, ofO, tblO, orT, noT, one, Tlaw5_known])) [] 2000 83 [.tmp 8] Tryz.func7 rfl Tryz.ntmps7 (by rw [Tryz.results7]) (by simp) rfl (fun hsm hs => ?_)
  simp (maxSteps := 10000000) only [go_sem, ↓cond_true, ↓cond_false, ↓not_cond, ↓reduceIte, Nat.reduceMul, Nat.reduceAdd, Nat.reduceEqDiff, Nat.reduceLeDiff, Nat.reduceLT, reduceCtorEq, Int.reduceNeg, Tlaw5_known, Int.reduceLT, Int.reduceLE, Int.reduceAdd, Int.reduceToNat, Nat.reduceBEq, Int.reduceMul, Int.reduceSub, Nat.reduceSub, Int.reduceEq, gC, gCC, asSc, SX.L, SX.eta, ofO, hf, HJ.L]
  repeat' first | (with_reducible apply And.intro) | (with_reducible apply condP <;> intro _)
  all_goals first | omega | (show chk _ _ = true; kernel_rfl) | with_reducible assumption | (simp only [go_sem, *]; done) | rfl | (simp only [go_sem, *]; rfl) | (exfalso; simp_all only [Bool.true_eq_false, Bool.false_eq_true, reduceCtorEq]; done)
end Go.Proofs.YtfggnoejcgehdaaGreatDoor
namespace Go.Proofs.YtfggnoejcgehdaaGreatDoor
open Go.RowKit Nx
set_option linter.unusedVariables false
set_option linter.unusedSimpArgs false
theorem r_slc {ρ : Nat → Nat} {D : Nat → Bool} {W : World} {A : Option Addr} {n c : Nat} : AV.R ρ D W (.s (.lit (.slice A n c))) (.slice A n c) := RL.one.2 rfl
theorem ivdrawn_walk (W : World) (a0 : Option Addr) (l0 c0 : Nat) (xs0 : List Nat) (hx0 : Arg W a0 l0 c0 xs0) (ht : Tab W) :
    Calls Tryz.prog 4 #[.slice a0 l0 c0] W fun e W' => e = .returned (.bool true) ∧ Below W.heap.size W W' :=
  v_drawn xs0 a0 l0 c0 W _ ht hx0 ⟨_, _, rfl, r_slc, rfl⟩
theorem ivfour_walk (W : World) (a0 : Option Addr) (l0 c0 : Nat) (xs0 : List Nat) (hx0 : Arg W a0 l0 c0 xs0) (ht : Tab W) :
    Calls Tryz.prog 6 #[.slice a0 l0 c0] W fun e W' => e = .returned (.bool true) ∧ Below W.heap.size W W' :=
  v_four xs0 a0 l0 c0 W _ ht hx0 ⟨_, _, rfl, r_slc, rfl⟩
theorem ivpowers_walk (W : World) (s0 : Bool) (e0 : Int) (a0 : Option Addr) (l0 c0 : Nat) (xs0 : List Nat) (S0 : Bool) (E0 : Int) (A0 : Option Addr) (L0 C0 : Nat) (XS0 : List Nat) (a1 : Option Addr) (l1 c1 : Nat) (xs1 : List Nat)
    (k z : Int) (hx0 : Arg W a0 l0 c0 xs0) (HX0 : Arg W A0 L0 C0 XS0) (hx1 : Arg W a1 l1 c1 xs1) (ht : Tab W) :
    Calls Tryz.prog 7 #[.agg #[.bool s0, .int .i64 e0, .slice a0 l0 c0, .bool S0, .int .i64 E0, .slice A0 L0 C0], .slice a1 l1 c1, .int .i64 k, .int .i64 z] W fun e W' => e = .returned (.bool true) ∧ Below W.heap.size W W' := by
  obtain ⟨j, hj⟩ : ∃ j : HJ, j = ⟨⟨s0, e0, a0, l0, c0⟩, ⟨S0, E0, A0, L0, C0⟩⟩ := ⟨_, rfl⟩
  by_cases hf : j.few = false
  · subst hj
    exact v_powersh xs1 a1 l1 c1 _ k z hf W _ ht hx1 ⟨_, _, rfl, r_ivh, _, _, rfl, r_slc, _, _, rfl, r_int, _, _, rfl, r_int, rfl⟩
  · have f1 := few_of hf
    subst hj
    exact v_powers xs1 a1 l1 c1 _ k z W _ ht hx1 ⟨_, _, rfl, r_iv hx0 HX0 (Nat.le_trans f1.1 (by omega)) (Nat.le_trans f1.2 (by omega)), _, _, rfl, r_slc, _, _, rfl, r_int, _, _, rfl, r_int, rfl⟩
end Go.Proofs.YtfggnoejcgehdaaGreatDoor
