/- BoxDrawn. -/
import Derived.Test.YthhaelnildaemaaGreatDoorPAlQ
import Derived.Test.YthhaelnildaemaaGreatDoorPAlN
import Derived.Test.YthhaelnildaemaaGreatDoorPAlM
namespace Go.Proofs.YthhaelnildaemaaGreatDoor
open Go.RowKit Nx
set_option linter.unusedVariables false
set_option linter.unusedSimpArgs false
set_option maxRecDepth 100000
set_option maxHeartbeats 4000000
attribute [local go_sem] run init X.L J.L vL X.eta J.eta Q.eta List.cons_append List.nil_append brkK brkf_b brkf_t exef_some exif_some condf_b opf bodyE addR skipE stepOp stepLoad stepStore stepField stepCall stepBS stepBi stepCv stepIx lpf hdS pick forget inL mentA ment dom evs evl evp evd okeys look fillA capsOf wordsOf rowsOf lenOf convK binV shV intV unV boolT tyT tiB tiI tiW tiD tiF tiR tiU tiNum tiIv tiVal tiSc okLf okD keysOf tblO cvA cvL dnL olA olL noO noA cbL cbA orT noT one asNum asIv asVal postf_some resA tupA clA clL dropTo decide_true decide_false List.all_cons List.all_nil Bool.and_true Bool.and_self true_and and_true and_self List.length_cons List.length_nil List.drop_succ_cons List.drop_zero List.take_succ_cons List.take_zero List.getElem?_cons_zero List.getElem?_cons_succ List.map_cons List.map_nil false_implies true_implies Option.bind_some List.getElem?_toArray Bool.false_eq_true List.append_nil List.flatMap_cons List.flatMap_nil true_or or_true forall_const List.reverse_cons List.reverse_nil Option.isSome_some Option.any_some Nat.lt_irrefl not_true_eq_false Bool.not_true Bool.not_false imp_self implies_true Bool.not_eq_true' Bool.not_eq_false' Bool.true_eq_false memOf cntF nmL rnL nmA rnA isV contsOf ndB refO orO pin Int.toNat_zero decide_eq_true_eq wrap0 wrap1 ci1 ci2 BEq.rfl beq_self_eq_true Int.natCast_zero ge_iff_le gt_iff_lt Int.le_refl Nat.zero_mul Nat.one_mul Nat.zero_add Nat.zero_lt_succ Nat.lt_add_one Nat.le_refl List.append_eq dkO dpf_some rK rKI rKJ Int.toNat_natCast dk0 gN gNN gNI gI gNNIB gNIB gJ gJJ gJN gJJI gJI stepB0 stepMk stepSl stepAp apY optI okO nilV slT resB outPs outLs outL dnT noE boxL_nil boxL_cons ptsL_nil ptsL_cons bxe pxe bne_self_eq_false wr2 wr3 wr4 wr5 wr6 wr7 wr8 gB gP gBB gBP gBZ gBBZ asB asP nilB asJs asXs wsOf bC_nil bC_cons pC_nil pC_cons fvO Lc.up tyB tiS tiBB List.replicate_succ List.replicate_zero List.flatten_cons List.flatten_nil Int.ofNat_lt Int.cast_ofNat_Int Int.ofNat_eq_natCast List.isEmpty_nil List.isEmpty_cons and_false false_and List.cons_ne_nil Nat.add_zero ite_true ite_false if_true if_false Nat.le_zero_eq eq_self Bool.and_false Bool.false_and Bool.true_and AV.s cond_true cond_false Bool.or_true Bool.true_or Bool.or_false Bool.false_or
attribute [local go_sem ↓] cond_true cond_false not_cond outL_box outL_pts clL_box clL_pts okL_box okL_pts ment_box ment_pts olL_box olL_pts cvL_box cvL_pts noO_box noO_pts asB_box asP_pts len_box len_pts cb_box cb_pts
attribute [local irreducible] chk
def LC6 (f : FuncId) (A : Option Addr) (n c : Nat) (xs : List Nat) (args : List AV) : Prop := ∀ w us, Tab w → Arg w A n c xs → RA envA (fun _ => false) w args us →
  Calls Tryz.prog f us.toArray w fun e w' => e = .returned (.bool true) ∧ Below w.heap.size w w'
theorem lc6_of {ty : TypeId → Option TI} {O : Orac} (hm : Tryz.prog.follows .mixedOrders = true) (hty : ∀ t i, ty t = some i → TiOK Tryz.prog t i) {f : FuncId} {fn : Func} {c0 : Code} {args : List AV} {A : Option Addr} {n c : Nat} {xs : List Nat}
    (hO : ∀ w, Arg w A n c xs → (∀ ad, 0 < n → A = some ad → ¬ (fun _ : Nat => False) ad.block) → OrOK Tryz.prog O (fun _ => False) w) (fg : List Nat)
    (fuel N : Nat) (rs : List ResultVar) (hf : Tryz.prog.funcs[f]? = some fn) (hb : fn.body = some c0) (hN : fn.ntmps = N) (hr : fn.results.toList = rs) (hl : args.length ≤ N) (hc : args.all cbA = true)
    (h : smAs args → Small B64 xs → run ty O N (fun st => postf (· = bA true) (resA ty st rs)) fg fuel [.code c0] (init 0 args)) : LC6 f A n c xs args := by
  intro w us ht hX hA
  replace h := h hA.sm hX.2
  refine (call_of (mem := []) (ρ := ⟨fun n => n, w.heap.size, fun _ => undef, fun _ => 0, fun _ => false⟩) hm hty (hO w hX (fun _ _ _ h => h)) fg fuel N rs hf hb hN hr hl ht (fun k v h => by cases h) (fun b v h => by cases h) (fun b b' h => by cases h) (hA.closed hc fun _ _ => ⟨fun _ h => (by cases h), fun _ h => (by cases h)⟩) rfl rfl (by rw [List.append_nil]; exact h)).mono ?_
  rintro e w' ⟨u, r, rfl, rfl, hcl, hR, hb⟩
  rw [show u = .bool true from RL.one.1 (hR envA (fun _ => false) ⟨fun _ h => (by cases h), fun _ _ h => (by cases h), Nat.zero_le _⟩)]
  exact ⟨rfl, hb⟩
theorem len1 {α : Type} {l : List α} (h : l.length = 1) : ∃ a, l = [a] := by
  match l, h with
  | [a], _ => exact ⟨a, rfl⟩
theorem len2 {α : Type} {l : List α} (h : l.length = 2) : ∃ a b, l = [a, b] := by
  match l, h with
  | [a, b], _ => exact ⟨a, b, rfl⟩
theorem len3 {α : Type} {l : List α} (h : l.length = 3) : ∃ a b c, l = [a, b, c] := by
  match l, h with
  | [a, b, c], _ => exact ⟨a, b, c, rfl⟩
theorem len4 {α : Type} {l : List α} (h : l.length = 4) : ∃ a b c d, l = [a, b, c, d] := by
  match l, h with
  | [a, b, c, d], _ => exact ⟨a, b, c, d, rfl⟩
theorem hasB_of {xs : List Nat} {l : List J} {k : Nat} (hg : Goods l) (h1 : 1 ≤ l.length) (h4 : l.length ≤ 4) (hk : k ≤ 700) : hasB l (pD xs l k) = true := by
  unfold hasB
  rw [rightB_good hg h1 h4, pD_has hg (by omega)]; rfl
theorem inB_of {xs : List Nat} {l : List J} {k : Nat} (hg : Goods l) (h1 : 1 ≤ l.length) (h4 : l.length ≤ 4) (hk : k ≤ 700) : inB (ptD xs l k) l = true := by
  obtain ⟨g, h⟩ := ptD_in (xs := xs) (k := k) hg (by omega)
  unfold inB
  rw [rightB_good g (by rw [ptD_len]; exact h1) (by rw [ptD_len]; exact h4), rightB_good hg h1 h4, h]; rfl
theorem v_bd0 (xs : List Nat) (A : Option Addr) (n c : Nat) (hd : ((dk xs 0 % 4 : Nat) : Int) = 0) : LC6 4 A n c xs [.s (.lit (.slice A n c))] := by
  refine lc6_of (O := orO ofO (orO (dkO 12 A n c (rK fun k => (k ≤ 900 ∧ ((dk xs k % 4 : Nat) : Int) = 0, iA 1, k + 1))) (orO (dkO 13 A n c (rKI fun k z => (k ≤ 700 ∧ 0 < z ∧ z ≤ 4, .s (boxL (ivsD xs z.toNat k).1), (ivsD xs z.toNat k).2))) (orO (dkO 14 A n c (rKB fun k l => (Goods l ∧ 1 ≤ l.length ∧ l.length ≤ 4 ∧ k ≤ 700, .s (ptsL (pD xs l k)), k + 1 * l.length))) (orO (dkO 15 A n c (rKB fun k l => (Goods l ∧ 1 ≤ l.length ∧ l.length ≤ 4 ∧ k ≤ 700, .s (boxL (ptD xs l k)), k + 2 * l.length))) (tblO (orT Tlaw6_known (orT Tlaw6_parts (orT Tbox_Has Tbox_In))))))))) (by kernel_rfl) tyB_ok (fun w hA hn => only_or ofO_only (ofO_ok _ _) (only_or dkO_only (dkO_ok (xs := xs) (ent Tryz.func12 (by kernel_rfl) rfl) (rK_ok fun k hp => d_dim0 xs k hp.1 hp.2) hA hn) (only_or dkO_only (dkO_ok (xs := xs) (ent Tryz.func13 (by kernel_rfl) rfl) (rKI_ok fun k z hp => d_box hp) hA hn) (only_or dkO_only (dkO_ok (xs := xs) (ent Tryz.func14 (by kernel_rfl) rfl) (rKB_ok fun k l hp => d_inbox hp) hA hn) (only_or dkO_only (dkO_ok (xs := xs) (ent Tryz.func15 (by kernel_rfl) rfl) (rKB_ok fun k l hp => d_partbox hp) hA hn) (tblO_ok (orT_ok Tlaw6_known_ok (orT_ok Tlaw6_parts_ok (orT_ok Tbox_Has_ok Tbox_In_ok))) _ w) (fun d st args => by simp [orO, refO, dkO, ofO, tblO, orT, noT, one, Tlaw6_known, Tlaw6_parts, Tbox_Has, Tbox_In])) (fun d st args => by simp [orO, refO, dkO, ofO, tblO, orT, noT, one, Tlaw6_known, Tlaw6_parts, Tbox_Has, Tbox_In])) (fun d st args => by simp [orO, refO, dkO, ofO, tblO, orT, noT, one, Tlaw6_known, Tlaw6_parts, Tbox_Has, Tbox_In])) (fun d st args => by simp [orO, refO, dkO, ofO, tblO, orT, noT, one, Tlaw6_known, Tlaw6_parts, Tbox_Has, Tbox_In])) (fun d st args => by simp [orO, refO, dkO, ofO, tblO, orT, noT, one, Tlaw6_known, Tlaw6_parts, Tbox_Has, Tbox_In])) [] 2000 56 [.tmp 2] Tryz.func4 rfl Tryz.ntmps4 (by rw [Tryz.results4]) (by simp) rfl (fun hsm hs => ?_)
  obtain ⟨l1, g1, u1, w1⟩ := ivsD_spec (xs := xs) (n := 1) (k := 1) (by omega)
  generalize hp1 : ivsD xs 1 1 = p1 at l1 g1 u1 w1
  obtain ⟨q1, k1⟩ := p1
  have l1 : q1.length = 1 := l1
  have u1 : 1 ≤ k1 := u1
  have w1 : k1 ≤ 1 + 9 * 1 := w1
  have g1 : Goods q1 := g1
  obtain ⟨aa, rfl⟩ := len1 l1
  obtain ⟨l2, g2, u2, w2⟩ := ivsD_spec (xs := xs) (n := 1) (k := k1) (by omega)
  generalize hp2 : ivsD xs 1 k1 = p2 at l2 g2 u2 w2
  obtain ⟨q2, k2⟩ := p2
  have l2 : q2.length = 1 := l2
  have w2 : k2 ≤ k1 + 9 * 1 := w2
  have g2 : Goods q2 := g2
  obtain ⟨ba, rfl⟩ := len1 l2
  have hh : hasB [aa] (pD xs [aa] k2) = true := hasB_of g1 (by simp) (by simp) (by omega)
  have hi : inB (ptD xs [ba] (k2 + 1 + 2)) [ba] = true := inB_of g2 (by simp) (by simp) (by omega)
  clear l1 l2 u1 u2
  simp (maxSteps := 10000000) only [go_sem, ↓reduceIte, Nat.reduceMul, Nat.reduceDiv, Nat.reduceAdd, Nat.reduceEqDiff, Nat.reduceLeDiff, Nat.reduceLT, reduceCtorEq, Int.reduceNeg, Int.reduceLT, Int.reduceLE, Int.reduceAdd, Int.reduceToNat, Nat.reduceBEq, Int.reduceMul, Int.reduceSub, Nat.reduceSub, Int.reduceBNe, Nat.reduceBNe, Tlaw6_known, Tlaw6_parts, Tbox_Has, Tbox_In, rKB, ofO, hp1, hp2, hh, hi, pD_len, ptD_len, gBBP, Int.toNat_one]
  repeat' first | (with_reducible apply And.intro) | (with_reducible apply condP <;> intro _)
  all_goals first | omega | (show chk _ _ = true; kernel_rfl) | with_reducible assumption | (simp only [go_sem, *, hd, pD_len, ptD_len, List.length_cons, List.length_nil, Nat.reduceAdd, Nat.reduceLeDiff, Int.reduceLT, Int.reduceLE] <;> rfl) | rfl | (exfalso; simp_all only [Bool.true_eq_false, Bool.false_eq_true, reduceCtorEq]; done)
theorem v_bd1 (xs : List Nat) (A : Option Addr) (n c : Nat) (hd : ((dk xs 0 % 4 : Nat) : Int) = 1) : LC6 4 A n c xs [.s (.lit (.slice A n c))] := by
  refine lc6_of (O := orO ofO (orO (dkO 12 A n c (rK fun k => (k ≤ 900 ∧ ((dk xs k % 4 : Nat) : Int) = 1, iA 2, k + 1))) (orO (dkO 13 A n c (rKI fun k z => (k ≤ 700 ∧ 0 < z ∧ z ≤ 4, .s (boxL (ivsD xs z.toNat k).1), (ivsD xs z.toNat k).2))) (orO (dkO 14 A n c (rKB fun k l => (Goods l ∧ 1 ≤ l.length ∧ l.length ≤ 4 ∧ k ≤ 700, .s (ptsL (pD xs l k)), k + 1 * l.length))) (orO (dkO 15 A n c (rKB fun k l => (Goods l ∧ 1 ≤ l.length ∧ l.length ≤ 4 ∧ k ≤ 700, .s (boxL (ptD xs l k)), k + 2 * l.length))) (tblO (orT Tlaw6_known (orT Tlaw6_parts (orT Tbox_Has Tbox_In))))))))) (by kernel_rfl) tyB_ok (fun w hA hn => only_or ofO_only (ofO_ok _ _) (only_or dkO_only (dkO_ok (xs := xs) (ent Tryz.func12 (by kernel_rfl) rfl) (rK_ok fun k hp => d_dim1 xs k hp.1 hp.2) hA hn) (only_or dkO_only (dkO_ok (xs := xs) (ent Tryz.func13 (by kernel_rfl) rfl) (rKI_ok fun k z hp => d_box hp) hA hn) (only_or dkO_only (dkO_ok (xs := xs) (ent Tryz.func14 (by kernel_rfl) rfl) (rKB_ok fun k l hp => d_inbox hp) hA hn) (only_or dkO_only (dkO_ok (xs := xs) (ent Tryz.func15 (by kernel_rfl) rfl) (rKB_ok fun k l hp => d_partbox hp) hA hn) (tblO_ok (orT_ok Tlaw6_known_ok (orT_ok Tlaw6_parts_ok (orT_ok Tbox_Has_ok Tbox_In_ok))) _ w) (fun d st args => by simp [orO, refO, dkO, ofO, tblO, orT, noT, one, Tlaw6_known, Tlaw6_parts, Tbox_Has, Tbox_In])) (fun d st args => by simp [orO, refO, dkO, ofO, tblO, orT, noT, one, Tlaw6_known, Tlaw6_parts, Tbox_Has, Tbox_In])) (fun d st args => by simp [orO, refO, dkO, ofO, tblO, orT, noT, one, Tlaw6_known, Tlaw6_parts, Tbox_Has, Tbox_In])) (fun d st args => by simp [orO, refO, dkO, ofO, tblO, orT, noT, one, Tlaw6_known, Tlaw6_parts, Tbox_Has, Tbox_In])) (fun d st args => by simp [orO, refO, dkO, ofO, tblO, orT, noT, one, Tlaw6_known, Tlaw6_parts, Tbox_Has, Tbox_In])) [] 2000 56 [.tmp 2] Tryz.func4 rfl Tryz.ntmps4 (by rw [Tryz.results4]) (by simp) rfl (fun hsm hs => ?_)
  obtain ⟨l1, g1, u1, w1⟩ := ivsD_spec (xs := xs) (n := 2) (k := 1) (by omega)
  generalize hp1 : ivsD xs 2 1 = p1 at l1 g1 u1 w1
  obtain ⟨q1, k1⟩ := p1
  have l1 : q1.length = 2 := l1
  have u1 : 1 ≤ k1 := u1
  have w1 : k1 ≤ 1 + 9 * 2 := w1
  have g1 : Goods q1 := g1
  obtain ⟨aa, ab, rfl⟩ := len2 l1
  obtain ⟨l2, g2, u2, w2⟩ := ivsD_spec (xs := xs) (n := 2) (k := k1) (by omega)
  generalize hp2 : ivsD xs 2 k1 = p2 at l2 g2 u2 w2
  obtain ⟨q2, k2⟩ := p2
  have l2 : q2.length = 2 := l2
  have w2 : k2 ≤ k1 + 9 * 2 := w2
  have g2 : Goods q2 := g2
  obtain ⟨ba, bb, rfl⟩ := len2 l2
  have hh : hasB [aa, ab] (pD xs [aa, ab] k2) = true := hasB_of g1 (by simp) (by simp) (by omega)
  have hi : inB (ptD xs [ba, bb] (k2 + 2 + 4)) [ba, bb] = true := inB_of g2 (by simp) (by simp) (by omega)
  clear l1 l2 u1 u2
  simp (maxSteps := 10000000) only [go_sem, ↓reduceIte, Nat.reduceMul, Nat.reduceDiv, Nat.reduceAdd, Nat.reduceEqDiff, Nat.reduceLeDiff, Nat.reduceLT, reduceCtorEq, Int.reduceNeg, Int.reduceLT, Int.reduceLE, Int.reduceAdd, Int.reduceToNat, Nat.reduceBEq, Int.reduceMul, Int.reduceSub, Nat.reduceSub, Int.reduceBNe, Nat.reduceBNe, Tlaw6_known, Tlaw6_parts, Tbox_Has, Tbox_In, rKB, ofO, hp1, hp2, hh, hi, pD_len, ptD_len, gBBP, Int.toNat_one]
  repeat' first | (with_reducible apply And.intro) | (with_reducible apply condP <;> intro _)
  all_goals first | omega | (show chk _ _ = true; kernel_rfl) | with_reducible assumption | (simp only [go_sem, *, hd, pD_len, ptD_len, List.length_cons, List.length_nil, Nat.reduceAdd, Nat.reduceLeDiff, Int.reduceLT, Int.reduceLE] <;> rfl) | rfl | (exfalso; simp_all only [Bool.true_eq_false, Bool.false_eq_true, reduceCtorEq]; done)
theorem v_bd2 (xs : List Nat) (A : Option Addr) (n c : Nat) (hd : ((dk xs 0 % 4 : Nat) : Int) = 2) : LC6 4 A n c xs [.s (.lit (.slice A n c))] := by
  refine lc6_of (O := orO ofO (orO (dkO 12 A n c (rK fun k => (k ≤ 900 ∧ ((dk xs k % 4 : Nat) : Int) = 2, iA 3, k + 1))) (orO (dkO 13 A n c (rKI fun k z => (k ≤ 700 ∧ 0 < z ∧ z ≤ 4, .s (boxL (ivsD xs z.toNat k).1), (ivsD xs z.toNat k).2))) (orO (dkO 14 A n c (rKB fun k l => (Goods l ∧ 1 ≤ l.length ∧ l.length ≤ 4 ∧ k ≤ 700, .s (ptsL (pD xs l k)), k + 1 * l.length))) (orO (dkO 15 A n c (rKB fun k l => (Goods l ∧ 1 ≤ l.length ∧ l.length ≤ 4 ∧ k ≤ 700, .s (boxL (ptD xs l k)), k + 2 * l.length))) (tblO (orT Tlaw6_known (orT Tlaw6_parts (orT Tbox_Has Tbox_In))))))))) (by kernel_rfl) tyB_ok (fun w hA hn => only_or ofO_only (ofO_ok _ _) (only_or dkO_only (dkO_ok (xs := xs) (ent Tryz.func12 (by kernel_rfl) rfl) (rK_ok fun k hp => d_dim2 xs k hp.1 hp.2) hA hn) (only_or dkO_only (dkO_ok (xs := xs) (ent Tryz.func13 (by kernel_rfl) rfl) (rKI_ok fun k z hp => d_box hp) hA hn) (only_or dkO_only (dkO_ok (xs := xs) (ent Tryz.func14 (by kernel_rfl) rfl) (rKB_ok fun k l hp => d_inbox hp) hA hn) (only_or dkO_only (dkO_ok (xs := xs) (ent Tryz.func15 (by kernel_rfl) rfl) (rKB_ok fun k l hp => d_partbox hp) hA hn) (tblO_ok (orT_ok Tlaw6_known_ok (orT_ok Tlaw6_parts_ok (orT_ok Tbox_Has_ok Tbox_In_ok))) _ w) (fun d st args => by simp [orO, refO, dkO, ofO, tblO, orT, noT, one, Tlaw6_known, Tlaw6_parts, Tbox_Has, Tbox_In])) (fun d st args => by simp [orO, refO, dkO, ofO, tblO, orT, noT, one, Tlaw6_known, Tlaw6_parts, Tbox_Has, Tbox_In])) (fun d st args => by simp [orO, refO, dkO, ofO, tblO, orT, noT, one, Tlaw6_known, Tlaw6_parts, Tbox_Has, Tbox_In])) (fun d st args => by simp [orO, refO, dkO, ofO, tblO, orT, noT, one, Tlaw6_known, Tlaw6_parts, Tbox_Has, Tbox_In])) (fun d st args => by simp [orO, refO, dkO, ofO, tblO, orT, noT, one, Tlaw6_known, Tlaw6_parts, Tbox_Has, Tbox_In])) [] 2000 56 [.tmp 2] Tryz.func4 rfl Tryz.ntmps4 (by rw [Tryz.results4]) (by simp) rfl (fun hsm hs => ?_)
  obtain ⟨l1, g1, u1, w1⟩ := ivsD_spec (xs := xs) (n := 3) (k := 1) (by omega)
  generalize hp1 : ivsD xs 3 1 = p1 at l1 g1 u1 w1
  obtain ⟨q1, k1⟩ := p1
  have l1 : q1.length = 3 := l1
  have u1 : 1 ≤ k1 := u1
  have w1 : k1 ≤ 1 + 9 * 3 := w1
  have g1 : Goods q1 := g1
  obtain ⟨aa, ab, ac, rfl⟩ := len3 l1
  obtain ⟨l2, g2, u2, w2⟩ := ivsD_spec (xs := xs) (n := 3) (k := k1) (by omega)
  generalize hp2 : ivsD xs 3 k1 = p2 at l2 g2 u2 w2
  obtain ⟨q2, k2⟩ := p2
  have l2 : q2.length = 3 := l2
  have w2 : k2 ≤ k1 + 9 * 3 := w2
  have g2 : Goods q2 := g2
  obtain ⟨ba, bb, bc, rfl⟩ := len3 l2
  have hh : hasB [aa, ab, ac] (pD xs [aa, ab, ac] k2) = true := hasB_of g1 (by simp) (by simp) (by omega)
  have hi : inB (ptD xs [ba, bb, bc] (k2 + 3 + 6)) [ba, bb, bc] = true := inB_of g2 (by simp) (by simp) (by omega)
  clear l1 l2 u1 u2
  simp (maxSteps := 10000000) only [go_sem, ↓reduceIte, Nat.reduceMul, Nat.reduceDiv, Nat.reduceAdd, Nat.reduceEqDiff, Nat.reduceLeDiff, Nat.reduceLT, reduceCtorEq, Int.reduceNeg, Int.reduceLT, Int.reduceLE, Int.reduceAdd, Int.reduceToNat, Nat.reduceBEq, Int.reduceMul, Int.reduceSub, Nat.reduceSub, Int.reduceBNe, Nat.reduceBNe, Tlaw6_known, Tlaw6_parts, Tbox_Has, Tbox_In, rKB, ofO, hp1, hp2, hh, hi, pD_len, ptD_len, gBBP, Int.toNat_one]
  repeat' first | (with_reducible apply And.intro) | (with_reducible apply condP <;> intro _)
  all_goals first | omega | (show chk _ _ = true; kernel_rfl) | with_reducible assumption | (simp only [go_sem, *, hd, pD_len, ptD_len, List.length_cons, List.length_nil, Nat.reduceAdd, Nat.reduceLeDiff, Int.reduceLT, Int.reduceLE] <;> rfl) | rfl | (exfalso; simp_all only [Bool.true_eq_false, Bool.false_eq_true, reduceCtorEq]; done)
theorem v_bd3 (xs : List Nat) (A : Option Addr) (n c : Nat) (hd : ((dk xs 0 % 4 : Nat) : Int) = 3) : LC6 4 A n c xs [.s (.lit (.slice A n c))] := by
  refine lc6_of (O := orO ofO (orO (dkO 12 A n c (rK fun k => (k ≤ 900 ∧ ((dk xs k % 4 : Nat) : Int) = 3, iA 4, k + 1))) (orO (dkO 13 A n c (rKI fun k z => (k ≤ 700 ∧ 0 < z ∧ z ≤ 4, .s (boxL (ivsD xs z.toNat k).1), (ivsD xs z.toNat k).2))) (orO (dkO 14 A n c (rKB fun k l => (Goods l ∧ 1 ≤ l.length ∧ l.length ≤ 4 ∧ k ≤ 700, .s (ptsL (pD xs l k)), k + 1 * l.length))) (orO (dkO 15 A n c (rKB fun k l => (Goods l ∧ 1 ≤ l.length ∧ l.length ≤ 4 ∧ k ≤ 700, .s (boxL (ptD xs l k)), k + 2 * l.length))) (tblO (orT Tlaw6_known (orT Tlaw6_parts (orT Tbox_Has Tbox_In))))))))) (by kernel_rfl) tyB_ok (fun w hA hn => only_or ofO_only (ofO_ok _ _) (only_or dkO_only (dkO_ok (xs := xs) (ent Tryz.func12 (by kernel_rfl) rfl) (rK_ok fun k hp => d_dim3 xs k hp.1 hp.2) hA hn) (only_or dkO_only (dkO_ok (xs := xs) (ent Tryz.func13 (by kernel_rfl) rfl) (rKI_ok fun k z hp => d_box hp) hA hn) (only_or dkO_only (dkO_ok (xs := xs) (ent Tryz.func14 (by kernel_rfl) rfl) (rKB_ok fun k l hp => d_inbox hp) hA hn) (only_or dkO_only (dkO_ok (xs := xs) (ent Tryz.func15 (by kernel_rfl) rfl) (rKB_ok fun k l hp => d_partbox hp) hA hn) (tblO_ok (orT_ok Tlaw6_known_ok (orT_ok Tlaw6_parts_ok (orT_ok Tbox_Has_ok Tbox_In_ok))) _ w) (fun d st args => by simp [orO, refO, dkO, ofO, tblO, orT, noT, one, Tlaw6_known, Tlaw6_parts, Tbox_Has, Tbox_In])) (fun d st args => by simp [orO, refO, dkO, ofO, tblO, orT, noT, one, Tlaw6_known, Tlaw6_parts, Tbox_Has, Tbox_In])) (fun d st args => by simp [orO, refO, dkO, ofO, tblO, orT, noT, one, Tlaw6_known, Tlaw6_parts, Tbox_Has, Tbox_In])) (fun d st args => by simp [orO, refO, dkO, ofO, tblO, orT, noT, one, Tlaw6_known, Tlaw6_parts, Tbox_Has, Tbox_In])) (fun d st args => by simp [orO, refO, dkO, ofO, tblO, orT, noT, one, Tlaw6_known, Tlaw6_parts, Tbox_Has, Tbox_In])) [] 2000 56 [.tmp 2] Tryz.func4 rfl Tryz.ntmps4 (by rw [Tryz.results4]) (by simp) rfl (fun hsm hs => ?_)
  obtain ⟨l1, g1, u1, w1⟩ := ivsD_spec (xs := xs) (n := 4) (k := 1) (by omega)
  generalize hp1 : ivsD xs 4 1 = p1 at l1 g1 u1 w1
  obtain ⟨q1, k1⟩ := p1
  have l1 : q1.length = 4 := l1
  have u1 : 1 ≤ k1 := u1
  have w1 : k1 ≤ 1 + 9 * 4 := w1
  have g1 : Goods q1 := g1
  obtain ⟨aa, ab, ac, ad, rfl⟩ := len4 l1
  obtain ⟨l2, g2, u2, w2⟩ := ivsD_spec (xs := xs) (n := 4) (k := k1) (by omega)
  generalize hp2 : ivsD xs 4 k1 = p2 at l2 g2 u2 w2
  obtain ⟨q2, k2⟩ := p2
  have l2 : q2.length = 4 := l2
  have w2 : k2 ≤ k1 + 9 * 4 := w2
  have g2 : Goods q2 := g2
  obtain ⟨ba, bb, bc, bd, rfl⟩ := len4 l2
  have hh : hasB [aa, ab, ac, ad] (pD xs [aa, ab, ac, ad] k2) = true := hasB_of g1 (by simp) (by simp) (by omega)
  have hi : inB (ptD xs [ba, bb, bc, bd] (k2 + 4 + 8)) [ba, bb, bc, bd] = true := inB_of g2 (by simp) (by simp) (by omega)
  clear l1 l2 u1 u2
  simp (maxSteps := 10000000) only [go_sem, ↓reduceIte, Nat.reduceMul, Nat.reduceDiv, Nat.reduceAdd, Nat.reduceEqDiff, Nat.reduceLeDiff, Nat.reduceLT, reduceCtorEq, Int.reduceNeg, Int.reduceLT, Int.reduceLE, Int.reduceAdd, Int.reduceToNat, Nat.reduceBEq, Int.reduceMul, Int.reduceSub, Nat.reduceSub, Int.reduceBNe, Nat.reduceBNe, Tlaw6_known, Tlaw6_parts, Tbox_Has, Tbox_In, rKB, ofO, hp1, hp2, hh, hi, pD_len, ptD_len, gBBP, Int.toNat_one]
  repeat' first | (with_reducible apply And.intro) | (with_reducible apply condP <;> intro _)
  all_goals first | omega | (show chk _ _ = true; kernel_rfl) | with_reducible assumption | (simp only [go_sem, *, hd, pD_len, ptD_len, List.length_cons, List.length_nil, Nat.reduceAdd, Nat.reduceLeDiff, Int.reduceLT, Int.reduceLE] <;> rfl) | rfl | (exfalso; simp_all only [Bool.true_eq_false, Bool.false_eq_true, reduceCtorEq]; done)
theorem boxdrawn_walk (W : World) (a : Option Addr) (l c : Nat) (xs : List Nat) (hx : Arg W a l c xs) (ht : Tab W) : Calls Tryz.prog 4 #[.slice a l c] W fun e w' => e = .returned (.bool true) ∧ Below W.heap.size W w' := by
  have hA : RA envA (fun _ => false) W [.s (.lit (.slice a l c))] [.slice a l c] := ⟨_, _, rfl, RL.one.2 rfl, rfl⟩
  have h4 : dk xs 0 % 4 = 0 ∨ dk xs 0 % 4 = 1 ∨ dk xs 0 % 4 = 2 ∨ dk xs 0 % 4 = 3 := by omega
  rcases h4 with h | h | h | h
  · exact v_bd0 xs a l c (by rw [h]; rfl) W _ ht hx hA
  · exact v_bd1 xs a l c (by rw [h]; rfl) W _ ht hx hA
  · exact v_bd2 xs a l c (by rw [h]; rfl) W _ ht hx hA
  · exact v_bd3 xs a l c (by rw [h]; rfl) W _ ht hx hA
end Go.Proofs.YthhaelnildaemaaGreatDoor
