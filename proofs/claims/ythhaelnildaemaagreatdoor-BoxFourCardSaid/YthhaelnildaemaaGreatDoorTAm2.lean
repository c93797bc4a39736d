/- Decks: boxes, points in boxes, parts of boxes, as they are drawn. -/
import Derived.Test.YthhaelnildaemaaGreatDoorTAkM
import Derived.Test.YthhaelnildaemaaGreatDoorTAl2
import Derived.Test.YthhaelnildaemaaGreatDoorTAl9
namespace Go.Proofs.YthhaelnildaemaaGreatDoor
open Go.RowKit Nx
set_option linter.unusedVariables false
set_option linter.unusedSimpArgs false
set_option maxRecDepth 100000
set_option maxHeartbeats 4000000
attribute [local go_sem] run init X.L J.L vL X.eta J.eta Q.eta List.cons_append List.nil_append brkK brkf_b brkf_t exef_some exif_some condf_b opf bodyE addR skipE stepOp stepLoad stepStore stepField stepCall stepBS stepBi stepCv stepIx lpf hdS pick forget inL mentA ment dom evs evl evp evd okeys look fillA capsOf wordsOf rowsOf lenOf convK binV shV intV unV boolT tyT tiB tiI tiW tiD tiF tiR tiU tiNum tiIv tiVal tiSc okLf okD keysOf tblO cvA cvL dnL olA olL noO noA cbL cbA orT noT one asNum asIv asVal postf_some resA tupA clA clL dropTo decide_true decide_false List.all_cons List.all_nil Bool.and_true Bool.and_self true_and and_true and_self List.length_cons List.length_nil List.drop_succ_cons List.drop_zero List.take_succ_cons List.take_zero List.getElem?_cons_zero List.getElem?_cons_succ List.map_cons List.map_nil false_implies true_implies Option.bind_some List.getElem?_toArray Bool.false_eq_true List.append_nil List.flatMap_cons List.flatMap_nil true_or or_true forall_const List.reverse_cons List.reverse_nil Option.isSome_some Option.any_some Nat.lt_irrefl not_true_eq_false Bool.not_true Bool.not_false imp_self implies_true Bool.not_eq_true' Bool.not_eq_false' Bool.true_eq_false memOf cntF nmL rnL nmA rnA isV contsOf ndB refO orO pin Int.toNat_zero decide_eq_true_eq wrap0 wrap1 ci1 ci2 BEq.rfl beq_self_eq_true Int.natCast_zero ge_iff_le gt_iff_lt Int.le_refl Nat.zero_mul Nat.one_mul Nat.zero_add Nat.zero_lt_succ Nat.lt_add_one Nat.le_refl dkO dpf_some rK rKI rKJ Int.toNat_natCast dk0 gN gNN gNI gI gNNIB gNIB gJ gJJ gJN gJJI gJI stepB0 stepMk stepSl stepAp apY optI okO nilV slT resB outPs outLs outL dnT noE boxL_nil boxL_cons ptsL_nil ptsL_cons bxe pxe bne_self_eq_false wr2 wr3 wr4 wr5 wr6 wr7 wr8 gB gP gBB gBP gBZ gBBZ asB asP nilB asJs asXs wsOf bC_nil bC_cons pC_nil pC_cons fvO Lc.up tyB tiS tiBB List.replicate_succ List.replicate_zero List.flatten_cons List.flatten_nil Int.ofNat_lt Int.cast_ofNat_Int Int.ofNat_eq_natCast List.isEmpty_nil List.isEmpty_cons and_false false_and List.cons_ne_nil Nat.add_zero ite_true ite_false if_true if_false Nat.le_zero_eq eq_self Bool.and_false Bool.false_and Bool.true_and AV.s cond_true cond_false Bool.or_true Bool.true_or Bool.or_false Bool.false_or
attribute [local go_sem ↓] cond_true cond_false not_cond outL_box outL_pts clL_box clL_pts okL_box okL_pts ment_box ment_pts olL_box olL_pts cvL_box cvL_pts noO_box noO_pts asB_box asP_pts len_box len_pts
attribute [local irreducible] chk
noncomputable def ivsD (xs : List Nat) : Nat → Nat → List J × Nat
  | 0, k => ([], k)
  | n + 1, k => ((ivD xs k).1 :: (ivsD xs n (ivD xs k).2).1, (ivsD xs n (ivD xs k).2).2)
def Goods (l : List J) : Prop := ∀ j ∈ l, Good j
theorem ivsD_spec {xs : List Nat} : ∀ {n k : Nat}, k + 9 * n ≤ 800 → (ivsD xs n k).1.length = n ∧ Goods (ivsD xs n k).1 ∧ k ≤ (ivsD xs n k).2 ∧ (ivsD xs n k).2 ≤ k + 9 * n := by
  intro n
  induction n with
  | zero => intro k h; exact ⟨rfl, fun j hj => (by cases hj), Nat.le_refl _, by show k ≤ k + 9 * 0; omega⟩
  | succ n ih =>
    intro k h
    obtain ⟨s1, s2, s3, _⟩ := ivD_spec (xs := xs) (k := k) (by omega)
    obtain ⟨h1, h2, h3, h4⟩ := ih (k := (ivD xs k).2) (by omega)
    refine ⟨congrArg (· + 1) h1, fun j hj => ?_, Nat.le_trans s2 h3, by show (ivsD xs n (ivD xs k).2).2 ≤ _; omega⟩
    rcases List.mem_cons.1 hj with rfl | hj
    · exact s1
    · exact h2 j hj
def rKB (K : Nat → List J → Prop × AV × Nat) : DK := fun k rest => match rest with
  | [x] => (match asB x with
    | some l => some (K k l)
    | none => none)
  | _ => none
section
variable {l : List J} {m : List X}
theorem cb_box : cbL (boxC l) = true := by cases l <;> rfl
theorem cb_pts : cbL (ptsC m) = true := by cases m <;> rfl
end
theorem d_dim0 (xs : List Nat) (k : Nat) (hk : k ≤ 900) (h : ((dk xs k % 4 : Nat) : Int) = 0) : DCt 12 xs [] k (iA 1) (k + 1) := by
  refine dct_of (O := fun A n c => dkO 49 A n c (rKI fun k z => (k ≤ 1000 ∧ 0 < z ∧ z ≤ 1000, iA ((dk xs k % z.toNat : Nat) : Int), k + 1))) (by kernel_rfl) tyB_ok (fun A n c F w hA hn => dkO_ok (xs := xs) (ent Tryz.func49 (by kernel_rfl) rfl) (rKI_ok fun k z hp => dn_dct hp) hA hn) [] 1500 6 [.tmp 2] Tryz.func12 rfl Tryz.ntmps12 (by decide) (by rw [Tryz.results12]) (by simp) rfl (fun A n c hsm hs => ?_)
  simp (maxSteps := 10000000) only [go_sem, ↓reduceIte, Nat.reduceMul, Nat.reduceDiv, Nat.reduceAdd, Nat.reduceEqDiff, Nat.reduceLeDiff, Nat.reduceLT, reduceCtorEq, Int.reduceNeg, Int.reduceLT, Int.reduceLE, Int.reduceAdd, Int.reduceToNat, Nat.reduceBEq, Int.reduceMul, Int.reduceSub, Nat.reduceSub, Int.reduceBNe, Nat.reduceBNe, rKB, ↓cb_box, ↓cb_pts, h]
  repeat' first | (with_reducible apply And.intro) | (with_reducible apply condP <;> intro _)
  all_goals first | (show chk _ _ = true; kernel_rfl) | with_reducible assumption | omega | (simp only [go_sem, *, Int.reduceToNat, h] <;> rfl) | rfl | (exfalso; simp_all only [Bool.true_eq_false, Bool.false_eq_true, reduceCtorEq]; done)
theorem d_dim1 (xs : List Nat) (k : Nat) (hk : k ≤ 900) (h : ((dk xs k % 4 : Nat) : Int) = 1) : DCt 12 xs [] k (iA 2) (k + 1) := by
  refine dct_of (O := fun A n c => dkO 49 A n c (rKI fun k z => (k ≤ 1000 ∧ 0 < z ∧ z ≤ 1000, iA ((dk xs k % z.toNat : Nat) : Int), k + 1))) (by kernel_rfl) tyB_ok (fun A n c F w hA hn => dkO_ok (xs := xs) (ent Tryz.func49 (by kernel_rfl) rfl) (rKI_ok fun k z hp => dn_dct hp) hA hn) [] 1500 6 [.tmp 2] Tryz.func12 rfl Tryz.ntmps12 (by decide) (by rw [Tryz.results12]) (by simp) rfl (fun A n c hsm hs => ?_)
  simp (maxSteps := 10000000) only [go_sem, ↓reduceIte, Nat.reduceMul, Nat.reduceDiv, Nat.reduceAdd, Nat.reduceEqDiff, Nat.reduceLeDiff, Nat.reduceLT, reduceCtorEq, Int.reduceNeg, Int.reduceLT, Int.reduceLE, Int.reduceAdd, Int.reduceToNat, Nat.reduceBEq, Int.reduceMul, Int.reduceSub, Nat.reduceSub, Int.reduceBNe, Nat.reduceBNe, rKB, ↓cb_box, ↓cb_pts, h]
  repeat' first | (with_reducible apply And.intro) | (with_reducible apply condP <;> intro _)
  all_goals first | (show chk _ _ = true; kernel_rfl) | with_reducible assumption | omega | (simp only [go_sem, *, Int.reduceToNat, h] <;> rfl) | rfl | (exfalso; simp_all only [Bool.true_eq_false, Bool.false_eq_true, reduceCtorEq]; done)
theorem d_dim2 (xs : List Nat) (k : Nat) (hk : k ≤ 900) (h : ((dk xs k % 4 : Nat) : Int) = 2) : DCt 12 xs [] k (iA 3) (k + 1) := by
  refine dct_of (O := fun A n c => dkO 49 A n c (rKI fun k z => (k ≤ 1000 ∧ 0 < z ∧ z ≤ 1000, iA ((dk xs k % z.toNat : Nat) : Int), k + 1))) (by kernel_rfl) tyB_ok (fun A n c F w hA hn => dkO_ok (xs := xs) (ent Tryz.func49 (by kernel_rfl) rfl) (rKI_ok fun k z hp => dn_dct hp) hA hn) [] 1500 6 [.tmp 2] Tryz.func12 rfl Tryz.ntmps12 (by decide) (by rw [Tryz.results12]) (by simp) rfl (fun A n c hsm hs => ?_)
  simp (maxSteps := 10000000) only [go_sem, ↓reduceIte, Nat.reduceMul, Nat.reduceDiv, Nat.reduceAdd, Nat.reduceEqDiff, Nat.reduceLeDiff, Nat.reduceLT, reduceCtorEq, Int.reduceNeg, Int.reduceLT, Int.reduceLE, Int.reduceAdd, Int.reduceToNat, Nat.reduceBEq, Int.reduceMul, Int.reduceSub, Nat.reduceSub, Int.reduceBNe, Nat.reduceBNe, rKB, ↓cb_box, ↓cb_pts, h]
  repeat' first | (with_reducible apply And.intro) | (with_reducible apply condP <;> intro _)
  all_goals first | (show chk _ _ = true; kernel_rfl) | with_reducible assumption | omega | (simp only [go_sem, *, Int.reduceToNat, h] <;> rfl) | rfl | (exfalso; simp_all only [Bool.true_eq_false, Bool.false_eq_true, reduceCtorEq]; done)
theorem d_dim3 (xs : List Nat) (k : Nat) (hk : k ≤ 900) (h : ((dk xs k % 4 : Nat) : Int) = 3) : DCt 12 xs [] k (iA 4) (k + 1) := by
  refine dct_of (O := fun A n c => dkO 49 A n c (rKI fun k z => (k ≤ 1000 ∧ 0 < z ∧ z ≤ 1000, iA ((dk xs k % z.toNat : Nat) : Int), k + 1))) (by kernel_rfl) tyB_ok (fun A n c F w hA hn => dkO_ok (xs := xs) (ent Tryz.func49 (by kernel_rfl) rfl) (rKI_ok fun k z hp => dn_dct hp) hA hn) [] 1500 6 [.tmp 2] Tryz.func12 rfl Tryz.ntmps12 (by decide) (by rw [Tryz.results12]) (by simp) rfl (fun A n c hsm hs => ?_)
  simp (maxSteps := 10000000) only [go_sem, ↓reduceIte, Nat.reduceMul, Nat.reduceDiv, Nat.reduceAdd, Nat.reduceEqDiff, Nat.reduceLeDiff, Nat.reduceLT, reduceCtorEq, Int.reduceNeg, Int.reduceLT, Int.reduceLE, Int.reduceAdd, Int.reduceToNat, Nat.reduceBEq, Int.reduceMul, Int.reduceSub, Nat.reduceSub, Int.reduceBNe, Nat.reduceBNe, rKB, ↓cb_box, ↓cb_pts, h]
  repeat' first | (with_reducible apply And.intro) | (with_reducible apply condP <;> intro _)
  all_goals first | (show chk _ _ = true; kernel_rfl) | with_reducible assumption | omega | (simp only [go_sem, *, Int.reduceToNat, h] <;> rfl) | rfl | (exfalso; simp_all only [Bool.true_eq_false, Bool.false_eq_true, reduceCtorEq]; done)
theorem d_box1 (xs : List Nat) (k : Nat) (hk : k ≤ 700) : DCt 13 xs [iA 1] k (.s (boxL (ivsD xs 1 k).1)) ((ivsD xs 1 k).2) := by
  refine dct_of (O := fun A n c => dkO 18 A n c (rK fun k => (k ≤ 800, jA (ivD xs k).1, (ivD xs k).2))) (by kernel_rfl) tyB_ok (fun A n c F w hA hn => dkO_ok (xs := xs) (ent Tryz.func18 (by kernel_rfl) rfl) (rK_ok fun k hp => (ivD_spec hp).2.2.2) hA hn) [30, 31] 1500 18 [.tmp 4] Tryz.func13 rfl Tryz.ntmps13 (by decide) (by rw [Tryz.results13]) (by simp) rfl (fun A n c hsm hs => ?_)
  have e0 : k ≤ 800 := by omega
  have s1 := ivD_spec (xs := xs) (k := k) (by omega)
  have u1 := s1.2.1
  have v1 := s1.2.2.1
  clear s1
  simp (maxSteps := 10000000) only [go_sem, ↓reduceIte, Nat.reduceMul, Nat.reduceDiv, Nat.reduceAdd, Nat.reduceEqDiff, Nat.reduceLeDiff, Nat.reduceLT, reduceCtorEq, Int.reduceNeg, Int.reduceLT, Int.reduceLE, Int.reduceAdd, Int.reduceToNat, Nat.reduceBEq, Int.reduceMul, Int.reduceSub, Nat.reduceSub, Int.reduceBNe, Nat.reduceBNe, rKB, ↓cb_box, ↓cb_pts]
  repeat' first | (with_reducible apply And.intro) | (with_reducible apply condP <;> intro _)
  all_goals first | (show chk _ _ = true; kernel_rfl) | with_reducible assumption | omega | (simp only [go_sem, *, ivsD, Nat.reduceAdd] <;> rfl) | rfl | (exfalso; simp_all only [Bool.true_eq_false, Bool.false_eq_true, reduceCtorEq]; done)
theorem d_box2 (xs : List Nat) (k : Nat) (hk : k ≤ 700) : DCt 13 xs [iA 2] k (.s (boxL (ivsD xs 2 k).1)) ((ivsD xs 2 k).2) := by
  refine dct_of (O := fun A n c => dkO 18 A n c (rK fun k => (k ≤ 800, jA (ivD xs k).1, (ivD xs k).2))) (by kernel_rfl) tyB_ok (fun A n c F w hA hn => dkO_ok (xs := xs) (ent Tryz.func18 (by kernel_rfl) rfl) (rK_ok fun k hp => (ivD_spec hp).2.2.2) hA hn) [30, 31] 1500 18 [.tmp 4] Tryz.func13 rfl Tryz.ntmps13 (by decide) (by rw [Tryz.results13]) (by simp) rfl (fun A n c hsm hs => ?_)
  have e0 : k ≤ 800 := by omega
  have s1 := ivD_spec (xs := xs) (k := k) (by omega)
  have u1 := s1.2.1
  have v1 := s1.2.2.1
  have e1 : (ivD xs k).2 ≤ 800 := by omega
  have s2 := ivD_spec (xs := xs) (k := (ivD xs k).2) (by omega)
  have u2 := s2.2.1
  have v2 := s2.2.2.1
  clear s1
  clear s2
  simp (maxSteps := 10000000) only [go_sem, ↓reduceIte, Nat.reduceMul, Nat.reduceDiv, Nat.reduceAdd, Nat.reduceEqDiff, Nat.reduceLeDiff, Nat.reduceLT, reduceCtorEq, Int.reduceNeg, Int.reduceLT, Int.reduceLE, Int.reduceAdd, Int.reduceToNat, Nat.reduceBEq, Int.reduceMul, Int.reduceSub, Nat.reduceSub, Int.reduceBNe, Nat.reduceBNe, rKB, ↓cb_box, ↓cb_pts]
  repeat' first | (with_reducible apply And.intro) | (with_reducible apply condP <;> intro _)
  all_goals first | (show chk _ _ = true; kernel_rfl) | with_reducible assumption | omega | (simp only [go_sem, *, ivsD, Nat.reduceAdd] <;> rfl) | rfl | (exfalso; simp_all only [Bool.true_eq_false, Bool.false_eq_true, reduceCtorEq]; done)
theorem d_box3 (xs : List Nat) (k : Nat) (hk : k ≤ 700) : DCt 13 xs [iA 3] k (.s (boxL (ivsD xs 3 k).1)) ((ivsD xs 3 k).2) := by
  refine dct_of (O := fun A n c => dkO 18 A n c (rK fun k => (k ≤ 800, jA (ivD xs k).1, (ivD xs k).2))) (by kernel_rfl) tyB_ok (fun A n c F w hA hn => dkO_ok (xs := xs) (ent Tryz.func18 (by kernel_rfl) rfl) (rK_ok fun k hp => (ivD_spec hp).2.2.2) hA hn) [30, 31] 1500 18 [.tmp 4] Tryz.func13 rfl Tryz.ntmps13 (by decide) (by rw [Tryz.results13]) (by simp) rfl (fun A n c hsm hs => ?_)
  have e0 : k ≤ 800 := by omega
  have s1 := ivD_spec (xs := xs) (k := k) (by omega)
  have u1 := s1.2.1
  have v1 := s1.2.2.1
  have e1 : (ivD xs k).2 ≤ 800 := by omega
  have s2 := ivD_spec (xs := xs) (k := (ivD xs k).2) (by omega)
  have u2 := s2.2.1
  have v2 := s2.2.2.1
  have e2 : (ivD xs (ivD xs k).2).2 ≤ 800 := by omega
  have s3 := ivD_spec (xs := xs) (k := (ivD xs (ivD xs k).2).2) (by omega)
  have u3 := s3.2.1
  have v3 := s3.2.2.1
  clear s1
  clear s2
  clear s3
  simp (maxSteps := 10000000) only [go_sem, ↓reduceIte, Nat.reduceMul, Nat.reduceDiv, Nat.reduceAdd, Nat.reduceEqDiff, Nat.reduceLeDiff, Nat.reduceLT, reduceCtorEq, Int.reduceNeg, Int.reduceLT, Int.reduceLE, Int.reduceAdd, Int.reduceToNat, Nat.reduceBEq, Int.reduceMul, Int.reduceSub, Nat.reduceSub, Int.reduceBNe, Nat.reduceBNe, rKB, ↓cb_box, ↓cb_pts]
  repeat' first | (with_reducible apply And.intro) | (with_reducible apply condP <;> intro _)
  all_goals first | (show chk _ _ = true; kernel_rfl) | with_reducible assumption | omega | (simp only [go_sem, *, ivsD, Nat.reduceAdd] <;> rfl) | rfl | (exfalso; simp_all only [Bool.true_eq_false, Bool.false_eq_true, reduceCtorEq]; done)
theorem d_box4 (xs : List Nat) (k : Nat) (hk : k ≤ 700) : DCt 13 xs [iA 4] k (.s (boxL (ivsD xs 4 k).1)) ((ivsD xs 4 k).2) := by
  refine dct_of (O := fun A n c => dkO 18 A n c (rK fun k => (k ≤ 800, jA (ivD xs k).1, (ivD xs k).2))) (by kernel_rfl) tyB_ok (fun A n c F w hA hn => dkO_ok (xs := xs) (ent Tryz.func18 (by kernel_rfl) rfl) (rK_ok fun k hp => (ivD_spec hp).2.2.2) hA hn) [30, 31] 1500 18 [.tmp 4] Tryz.func13 rfl Tryz.ntmps13 (by decide) (by rw [Tryz.results13]) (by simp) rfl (fun A n c hsm hs => ?_)
  have e0 : k ≤ 800 := by omega
  have s1 := ivD_spec (xs := xs) (k := k) (by omega)
  have u1 := s1.2.1
  have v1 := s1.2.2.1
  have e1 : (ivD xs k).2 ≤ 800 := by omega
  have s2 := ivD_spec (xs := xs) (k := (ivD xs k).2) (by omega)
  have u2 := s2.2.1
  have v2 := s2.2.2.1
  have e2 : (ivD xs (ivD xs k).2).2 ≤ 800 := by omega
  have s3 := ivD_spec (xs := xs) (k := (ivD xs (ivD xs k).2).2) (by omega)
  have u3 := s3.2.1
  have v3 := s3.2.2.1
  have e3 : (ivD xs (ivD xs (ivD xs k).2).2).2 ≤ 800 := by omega
  have s4 := ivD_spec (xs := xs) (k := (ivD xs (ivD xs (ivD xs k).2).2).2) (by omega)
  have u4 := s4.2.1
  have v4 := s4.2.2.1
  clear s1
  clear s2
  clear s3
  clear s4
  simp (maxSteps := 10000000) only [go_sem, ↓reduceIte, Nat.reduceMul, Nat.reduceDiv, Nat.reduceAdd, Nat.reduceEqDiff, Nat.reduceLeDiff, Nat.reduceLT, reduceCtorEq, Int.reduceNeg, Int.reduceLT, Int.reduceLE, Int.reduceAdd, Int.reduceToNat, Nat.reduceBEq, Int.reduceMul, Int.reduceSub, Nat.reduceSub, Int.reduceBNe, Nat.reduceBNe, rKB, ↓cb_box, ↓cb_pts]
  repeat' first | (with_reducible apply And.intro) | (with_reducible apply condP <;> intro _)
  all_goals first | (show chk _ _ = true; kernel_rfl) | with_reducible assumption | omega | (simp only [go_sem, *, ivsD, Nat.reduceAdd] <;> rfl) | rfl | (exfalso; simp_all only [Bool.true_eq_false, Bool.false_eq_true, reduceCtorEq]; done)
theorem d_box {xs : List Nat} {k : Nat} {z : Int} (hp : k ≤ 700 ∧ 0 < z ∧ z ≤ 4) : DCt 13 xs [iA z] k (.s (boxL (ivsD xs z.toNat k).1)) (ivsD xs z.toNat k).2 := by
  obtain rfl | rfl | rfl | rfl : z = 1 ∨ z = 2 ∨ z = 3 ∨ z = 4 := by omega
  · exact d_box1 xs k hp.1
  · exact d_box2 xs k hp.1
  · exact d_box3 xs k hp.1
  · exact d_box4 xs k hp.1
end Go.Proofs.YthhaelnildaemaaGreatDoor
namespace Go.Proofs.YthhaelnildaemaaGreatDoor
open Go.RowKit Nx
set_option linter.unusedVariables false
set_option linter.unusedSimpArgs false
attribute [local irreducible] chk
def LC6 (f : FuncId) (A : Option Addr) (n c : Nat) (xs : List Nat) (args : List AV) : Prop := ∀ w us, Tab w → Arg w A n c xs → RA envA (fun _ => false) w args us →
  Calls Tryz.prog f us.toArray w fun e w' => e = .returned (.bool true) ∧ Below w.heap.size w w'
theorem lc6_of {ty : TypeId → Option TI} {O : Orac} (hm : Tryz.prog.follows .mixedOrders = true) (hty : ∀ t i, ty t = some i → TiOK Tryz.prog t i) {f : FuncId} {fn : Func} {c0 : Code} {args : List AV} {A : Option Addr} {n c : Nat} {xs : List Nat}
    (hO : ∀ w, Arg w A n c xs → (∀ ad, 0 < n → A = some ad → ¬ (fun _ : Nat => False) ad.block) → OrOK Tryz.prog O (fun _ => False) w) (fg : List Nat)
    (fuel N : Nat) (rs : List ResultVar) (hf : Tryz.prog.funcs[f]? = some fn) (hb : fn.body = some c0) (hN : fn.ntmps = N) (hr : fn.results.toList = rs) (hl : args.length ≤ N) (hc : args.all cbA = true)
    (h : smAs args → Small B64 xs → run ty O N (fun st => postf (· = bA true) (resA ty st rs)) fg fuel [.code c0] (init 0 args)) : LC6 f A n c xs args := by
  intro w us ht hX hA
  replace h := h hA.sm hX.2
  refine (call_of (mem := []) (ρ := ⟨fun n => n, w.heap.size, fun _ => undef, fun _ => 0, fun _ => false⟩) hm hty (hO w hX (fun _ _ _ h => h)) fg fuel N rs hf hb hN hr hl ht (fun k v h => by cases h) (fun b v h => by cases h) (fun b b' h => by cases h) (hA.closed hc fun _ _ => ⟨fun _ h => (by cases h), fun _ h => (by cases h)⟩) rfl rfl (by rw [List.append_nil]; exact h)).mono ?_
  rintro e w' ⟨u, r, rfl, rfl, hcl, hR, hb⟩
  rw [show u = .bool true from RL.one.1 (hR envA (fun _ => false) ⟨fun _ h => (by cases h), fun _ _ h => (by cases h), Nat.zero_le _⟩)]
  exact ⟨rfl, hb⟩
theorem len1 {α : Type} {l : List α} (h : l.length = 1) : ∃ a, l = [a] := by
  match l, h with
  | [a], _ => exact ⟨a, rfl⟩
theorem len2 {α : Type} {l : List α} (h : l.length = 2) : ∃ a b, l = [a, b] := by
  match l, h with
  | [a, b], _ => exact ⟨a, b, rfl⟩
theorem len3 {α : Type} {l : List α} (h : l.length = 3) : ∃ a b c, l = [a, b, c] := by
  match l, h with
  | [a, b, c], _ => exact ⟨a, b, c, rfl⟩
theorem len4 {α : Type} {l : List α} (h : l.length = 4) : ∃ a b c d, l = [a, b, c, d] := by
  match l, h with
  | [a, b, c, d], _ => exact ⟨a, b, c, d, rfl⟩
end Go.Proofs.YthhaelnildaemaaGreatDoor
