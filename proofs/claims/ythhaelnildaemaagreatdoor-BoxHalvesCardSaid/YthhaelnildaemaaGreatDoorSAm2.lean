/- Decks: boxes, points in boxes, parts of boxes, as they are drawn. -/
import Derived.Test.YthhaelnildaemaaGreatDoorSAkM
import Derived.Test.YthhaelnildaemaaGreatDoorSAl2
import Derived.Test.YthhaelnildaemaaGreatDoorSAl9
namespace Go.Proofs.YthhaelnildaemaaGreatDoor
open Go.RowKit Nx
set_option linter.unusedVariables false
set_option linter.unusedSimpArgs false
set_option maxRecDepth 100000
set_option maxHeartbeats 4000000
attribute [local go_sem] run init X.L J.L vL X.eta J.eta Q.eta List.cons_append List.nil_append brkK brkf_b brkf_t exef_some exif_some condf_b opf bodyE addR skipE stepOp stepLoad stepStore stepField stepCall stepBS stepBi stepCv stepIx lpf hdS pick forget inL mentA ment dom evs evl evp evd okeys look fillA capsOf wordsOf rowsOf lenOf convK binV shV intV unV boolT tyT tiB tiI tiW tiD tiF tiR tiU tiNum tiIv tiVal tiSc okLf okD keysOf tblO cvA cvL dnL olA olL noO noA cbL cbA orT noT one asNum asIv asVal postf_some resA tupA clA clL dropTo decide_true decide_false List.all_cons List.all_nil Bool.and_true Bool.and_self true_and and_true and_self List.length_cons List.length_nil List.drop_succ_cons List.drop_zero List.take_succ_cons List.take_zero List.getElem?_cons_zero List.getElem?_cons_succ List.map_cons List.map_nil false_implies true_implies Option.bind_some List.getElem?_toArray Bool.false_eq_true List.append_nil List.flatMap_cons List.flatMap_nil true_or or_true forall_const List.reverse_cons List.reverse_nil Option.isSome_some Option.any_some Nat.lt_irrefl not_true_eq_false Bool.not_true Bool.not_false imp_self implies_true Bool.not_eq_true' Bool.not_eq_false' Bool.true_eq_false memOf cntF nmL rnL nmA rnA isV contsOf ndB refO orO pin Int.toNat_zero decide_eq_true_eq wrap0 wrap1 ci1 ci2 BEq.rfl beq_self_eq_true Int.natCast_zero ge_iff_le gt_iff_lt Int.le_refl Nat.zero_mul Nat.one_mul Nat.zero_add Nat.zero_lt_succ Nat.lt_add_one Nat.le_refl dkO dpf_some rK rKI rKJ Int.toNat_natCast dk0 gN gNN gNI gI gNNIB gNIB gJ gJJ gJN gJJI gJI stepB0 stepMk stepSl stepAp apY optI okO nilV slT resB outPs outLs outL dnT noE boxL_nil boxL_cons ptsL_nil ptsL_cons bxe pxe bne_self_eq_false wr2 wr3 wr4 wr5 wr6 wr7 wr8 gB gP gBB gBP gBZ gBBZ asB asP nilB asJs asXs wsOf bC_nil bC_cons pC_nil pC_cons fvO Lc.up tyB tiS tiBB List.replicate_succ List.replicate_zero List.flatten_cons List.flatten_nil Int.ofNat_lt Int.cast_ofNat_Int Int.ofNat_eq_natCast List.isEmpty_nil List.isEmpty_cons and_false false_and List.cons_ne_nil Nat.add_zero ite_true ite_false if_true if_false Nat.le_zero_eq eq_self Bool.and_false Bool.false_and Bool.true_and AV.s cond_true cond_false Bool.or_true Bool.true_or Bool.or_false Bool.false_or
attribute [local go_sem ↓] cond_true cond_false not_cond outL_box outL_pts clL_box clL_pts okL_box okL_pts ment_box ment_pts olL_box olL_pts cvL_box cvL_pts noO_box noO_pts asB_box asP_pts len_box len_pts
attribute [local irreducible] chk
noncomputable def sivsD (xs : List Nat) : Nat → Nat → List J × Nat
  | 0, k => ([], k)
  | n + 1, k => ((sivD xs k).1 :: (sivsD xs n (sivD xs k).2).1, (sivsD xs n (sivD xs k).2).2)
noncomputable def pD (xs : List Nat) : List J → Nat → List X
  | [], _ => []
  | j :: l, k => inD xs j k :: pD xs l (k + 1)
def Goods (l : List J) : Prop := ∀ j ∈ l, Good j
theorem sivsD_spec {xs : List Nat} : ∀ {n k : Nat}, k + 3 * n ≤ 800 → (sivsD xs n k).1.length = n ∧ (∀ j ∈ (sivsD xs n k).1, Good j ∧ FewJ j) ∧ k ≤ (sivsD xs n k).2 ∧ (sivsD xs n k).2 ≤ k + 3 * n := by
  intro n
  induction n with
  | zero => intro k h; exact ⟨rfl, fun j hj => (by cases hj), Nat.le_refl _, by show k ≤ k + 3 * 0; omega⟩
  | succ n ih =>
    intro k h
    obtain ⟨s1, s2, s3, _⟩ := sivD_spec (xs := xs) (k := k) (by omega)
    obtain ⟨h1, h2, h3, h4⟩ := ih (k := (sivD xs k).2) (by omega)
    refine ⟨congrArg (· + 1) h1, fun j hj => ?_, Nat.le_trans s2 h3, by show (sivsD xs n (sivD xs k).2).2 ≤ _; omega⟩
    rcases List.mem_cons.1 hj with rfl | hj
    · exact s1
    · exact h2 j hj
theorem rightB_good {l : List J} (h : Goods l) (h1 : 1 ≤ l.length) (h4 : l.length ≤ 4) : rightB l = true := by
  unfold rightB
  rw [decide_eq_true h1, decide_eq_true h4]
  exact List.all_eq_true.2 fun j hj => (h j hj).1
theorem pD_has {xs : List Nat} : ∀ {l : List J} {k : Nat}, Goods l → k + l.length ≤ 900 → all2 hasJ l (pD xs l k) = true := by
  intro l
  induction l with
  | nil => intro k _ _; rfl
  | cons j l ih =>
    intro k h hk
    rw [List.length_cons] at hk
    unfold pD all2
    rw [((inD_spec (xs := xs) (k := k) (h j (List.mem_cons_self ..)) (by omega)).1).2, ih (fun j hj => h j (List.mem_cons_of_mem _ hj)) (by omega)]; rfl
theorem inJ_v {a b : J} (ha : Good a) (hb : Good b) (h1 : b.lo.v ≤ a.lo.v) (h2 : a.hi.v ≤ b.hi.v) : inJ a b = true := by
  obtain ⟨a1, a2, _⟩ := okJ_parts ha.1
  obtain ⟨b1, b2, _⟩ := okJ_parts hb.1
  unfold inJ
  rw [ha.1, hb.1]
  have e1 : decide (cmpx b.lo a.lo ≤ 0) = true := decide_eq_true ((cmpx_le b1 a1).2 h1)
  have e2 : decide (cmpx a.hi b.hi ≤ 0) = true := decide_eq_true ((cmpx_le a2 b2).2 h2)
  simp [e1, e2]
def rKB (K : Nat → List J → Prop × AV × Nat) : DK := fun k rest => match rest with
  | [x] => (match asB x with
    | some l => some (K k l)
    | none => none)
  | _ => none
theorem rKB_ok {f0 : FuncId} {xs : List Nat} {K : Nat → List J → Prop × AV × Nat} (h : ∀ k l, (K k l).1 → DCt f0 xs [bA_ l] k (K k l).2.1 (K k l).2.2) : ∀ k rest e, rKB K k rest = some e → e.1 → DCt f0 xs rest k e.2.1 e.2.2 := by
  intro k rest e he hp
  unfold rKB at he
  split at he
  · split at he
    · rename_i x l hl
      injection he with he; subst he
      exact fun ρ D w g T A n c us ht hD hA hR hS => h k l hp ρ D w g T A n c us ht hD hA (RA.c (fun u => asB_R hl) (fun us h => h) us hR) hS
    · cases he
  · cases he
section
variable {l : List J} {m : List X}
theorem cb_box : cbL (boxC l) = true := by cases l <;> rfl
theorem cb_pts : cbL (ptsC m) = true := by cases m <;> rfl
end
theorem d_dim0 (xs : List Nat) (k : Nat) (hk : k ≤ 900) (h : ((dk xs k % 4 : Nat) : Int) = 0) : DCt 12 xs [] k (iA 1) (k + 1) := by
  refine dct_of (O := fun A n c => dkO 49 A n c (rKI fun k z => (k ≤ 1000 ∧ 0 < z ∧ z ≤ 1000, iA ((dk xs k % z.toNat : Nat) : Int), k + 1))) (by kernel_rfl) tyB_ok (fun A n c F w hA hn => dkO_ok (xs := xs) (ent Tryz.func49 (by kernel_rfl) rfl) (rKI_ok fun k z hp => dn_dct hp) hA hn) [] 1500 6 [.tmp 2] Tryz.func12 rfl Tryz.ntmps12 (by decide) (by rw [Tryz.results12]) (by simp) rfl (fun A n c hsm hs => ?_)
  simp (maxSteps := 10000000) only [go_sem, ↓reduceIte, Nat.reduceMul, Nat.reduceDiv, Nat.reduceAdd, Nat.reduceEqDiff, Nat.reduceLeDiff, Nat.reduceLT, reduceCtorEq, Int.reduceNeg, Int.reduceLT, Int.reduceLE, Int.reduceAdd, Int.reduceToNat, Nat.reduceBEq, Int.reduceMul, Int.reduceSub, Nat.reduceSub, Int.reduceBNe, Nat.reduceBNe, rKB, ↓cb_box, ↓cb_pts, h]
  repeat' first | (with_reducible apply And.intro) | (with_reducible apply condP <;> intro _)
  all_goals first | (show chk _ _ = true; kernel_rfl) | with_reducible assumption | omega | (simp only [go_sem, *, Int.reduceToNat, h] <;> rfl) | rfl | (exfalso; simp_all only [Bool.true_eq_false, Bool.false_eq_true, reduceCtorEq]; done)
theorem d_dim1 (xs : List Nat) (k : Nat) (hk : k ≤ 900) (h : ((dk xs k % 4 : Nat) : Int) = 1) : DCt 12 xs [] k (iA 2) (k + 1) := by
  refine dct_of (O := fun A n c => dkO 49 A n c (rKI fun k z => (k ≤ 1000 ∧ 0 < z ∧ z ≤ 1000, iA ((dk xs k % z.toNat : Nat) : Int), k + 1))) (by kernel_rfl) tyB_ok (fun A n c F w hA hn => dkO_ok (xs := xs) (ent Tryz.func49 (by kernel_rfl) rfl) (rKI_ok fun k z hp => dn_dct hp) hA hn) [] 1500 6 [.tmp 2] Tryz.func12 rfl Tryz.ntmps12 (by decide) (by rw [Tryz.results12]) (by simp) rfl (fun A n c hsm hs => ?_)
  simp (maxSteps := 10000000) only [go_sem, ↓reduceIte, Nat.reduceMul, Nat.reduceDiv, Nat.reduceAdd, Nat.reduceEqDiff, Nat.reduceLeDiff, Nat.reduceLT, reduceCtorEq, Int.reduceNeg, Int.reduceLT, Int.reduceLE, Int.reduceAdd, Int.reduceToNat, Nat.reduceBEq, Int.reduceMul, Int.reduceSub, Nat.reduceSub, Int.reduceBNe, Nat.reduceBNe, rKB, ↓cb_box, ↓cb_pts, h]
  repeat' first | (with_reducible apply And.intro) | (with_reducible apply condP <;> intro _)
  all_goals first | (show chk _ _ = true; kernel_rfl) | with_reducible assumption | omega | (simp only [go_sem, *, Int.reduceToNat, h] <;> rfl) | rfl | (exfalso; simp_all only [Bool.true_eq_false, Bool.false_eq_true, reduceCtorEq]; done)
theorem d_dim2 (xs : List Nat) (k : Nat) (hk : k ≤ 900) (h : ((dk xs k % 4 : Nat) : Int) = 2) : DCt 12 xs [] k (iA 3) (k + 1) := by
  refine dct_of (O := fun A n c => dkO 49 A n c (rKI fun k z => (k ≤ 1000 ∧ 0 < z ∧ z ≤ 1000, iA ((dk xs k % z.toNat : Nat) : Int), k + 1))) (by kernel_rfl) tyB_ok (fun A n c F w hA hn => dkO_ok (xs := xs) (ent Tryz.func49 (by kernel_rfl) rfl) (rKI_ok fun k z hp => dn_dct hp) hA hn) [] 1500 6 [.tmp 2] Tryz.func12 rfl Tryz.ntmps12 (by decide) (by rw [Tryz.results12]) (by simp) rfl (fun A n c hsm hs => ?_)
  simp (maxSteps := 10000000) only [go_sem, ↓reduceIte, Nat.reduceMul, Nat.reduceDiv, Nat.reduceAdd, Nat.reduceEqDiff, Nat.reduceLeDiff, Nat.reduceLT, reduceCtorEq, Int.reduceNeg, Int.reduceLT, Int.reduceLE, Int.reduceAdd, Int.reduceToNat, Nat.reduceBEq, Int.reduceMul, Int.reduceSub, Nat.reduceSub, Int.reduceBNe, Nat.reduceBNe, rKB, ↓cb_box, ↓cb_pts, h]
  repeat' first | (with_reducible apply And.intro) | (with_reducible apply condP <;> intro _)
  all_goals first | (show chk _ _ = true; kernel_rfl) | with_reducible assumption | omega | (simp only [go_sem, *, Int.reduceToNat, h] <;> rfl) | rfl | (exfalso; simp_all only [Bool.true_eq_false, Bool.false_eq_true, reduceCtorEq]; done)
theorem d_dim3 (xs : List Nat) (k : Nat) (hk : k ≤ 900) (h : ((dk xs k % 4 : Nat) : Int) = 3) : DCt 12 xs [] k (iA 4) (k + 1) := by
  refine dct_of (O := fun A n c => dkO 49 A n c (rKI fun k z => (k ≤ 1000 ∧ 0 < z ∧ z ≤ 1000, iA ((dk xs k % z.toNat : Nat) : Int), k + 1))) (by kernel_rfl) tyB_ok (fun A n c F w hA hn => dkO_ok (xs := xs) (ent Tryz.func49 (by kernel_rfl) rfl) (rKI_ok fun k z hp => dn_dct hp) hA hn) [] 1500 6 [.tmp 2] Tryz.func12 rfl Tryz.ntmps12 (by decide) (by rw [Tryz.results12]) (by simp) rfl (fun A n c hsm hs => ?_)
  simp (maxSteps := 10000000) only [go_sem, ↓reduceIte, Nat.reduceMul, Nat.reduceDiv, Nat.reduceAdd, Nat.reduceEqDiff, Nat.reduceLeDiff, Nat.reduceLT, reduceCtorEq, Int.reduceNeg, Int.reduceLT, Int.reduceLE, Int.reduceAdd, Int.reduceToNat, Nat.reduceBEq, Int.reduceMul, Int.reduceSub, Nat.reduceSub, Int.reduceBNe, Nat.reduceBNe, rKB, ↓cb_box, ↓cb_pts, h]
  repeat' first | (with_reducible apply And.intro) | (with_reducible apply condP <;> intro _)
  all_goals first | (show chk _ _ = true; kernel_rfl) | with_reducible assumption | omega | (simp only [go_sem, *, Int.reduceToNat, h] <;> rfl) | rfl | (exfalso; simp_all only [Bool.true_eq_false, Bool.false_eq_true, reduceCtorEq]; done)
theorem d_smallbox1 (xs : List Nat) (k : Nat) (hk : k ≤ 700) : DCt 21 xs [iA 1] k (.s (boxL (sivsD xs 1 k).1)) ((sivsD xs 1 k).2) := by
  refine dct_of (O := fun A n c => dkO 22 A n c (rK fun k => (k ≤ 800, jA (sivD xs k).1, (sivD xs k).2))) (by kernel_rfl) tyB_ok (fun A n c F w hA hn => dkO_ok (xs := xs) (ent Tryz.func22 (by kernel_rfl) rfl) (rK_ok fun k hp => (sivD_spec hp).2.2.2) hA hn) [30, 31] 1500 18 [.tmp 4] Tryz.func21 rfl Tryz.ntmps21 (by decide) (by rw [Tryz.results21]) (by simp) rfl (fun A n c hsm hs => ?_)
  have e0 : k ≤ 800 := by omega
  have s1 := sivD_spec (xs := xs) (k := k) (by omega)
  have u1 := s1.2.1
  have v1 := s1.2.2.1
  clear s1
  simp (maxSteps := 10000000) only [go_sem, ↓reduceIte, Nat.reduceMul, Nat.reduceDiv, Nat.reduceAdd, Nat.reduceEqDiff, Nat.reduceLeDiff, Nat.reduceLT, reduceCtorEq, Int.reduceNeg, Int.reduceLT, Int.reduceLE, Int.reduceAdd, Int.reduceToNat, Nat.reduceBEq, Int.reduceMul, Int.reduceSub, Nat.reduceSub, Int.reduceBNe, Nat.reduceBNe, rKB, ↓cb_box, ↓cb_pts]
  repeat' first | (with_reducible apply And.intro) | (with_reducible apply condP <;> intro _)
  all_goals first | (show chk _ _ = true; kernel_rfl) | with_reducible assumption | omega | (simp only [go_sem, *, sivsD, Nat.reduceAdd] <;> rfl) | rfl | (exfalso; simp_all only [Bool.true_eq_false, Bool.false_eq_true, reduceCtorEq]; done)
theorem d_smallbox2 (xs : List Nat) (k : Nat) (hk : k ≤ 700) : DCt 21 xs [iA 2] k (.s (boxL (sivsD xs 2 k).1)) ((sivsD xs 2 k).2) := by
  refine dct_of (O := fun A n c => dkO 22 A n c (rK fun k => (k ≤ 800, jA (sivD xs k).1, (sivD xs k).2))) (by kernel_rfl) tyB_ok (fun A n c F w hA hn => dkO_ok (xs := xs) (ent Tryz.func22 (by kernel_rfl) rfl) (rK_ok fun k hp => (sivD_spec hp).2.2.2) hA hn) [30, 31] 1500 18 [.tmp 4] Tryz.func21 rfl Tryz.ntmps21 (by decide) (by rw [Tryz.results21]) (by simp) rfl (fun A n c hsm hs => ?_)
  have e0 : k ≤ 800 := by omega
  have s1 := sivD_spec (xs := xs) (k := k) (by omega)
  have u1 := s1.2.1
  have v1 := s1.2.2.1
  have e1 : (sivD xs k).2 ≤ 800 := by omega
  have s2 := sivD_spec (xs := xs) (k := (sivD xs k).2) (by omega)
  have u2 := s2.2.1
  have v2 := s2.2.2.1
  clear s1
  clear s2
  simp (maxSteps := 10000000) only [go_sem, ↓reduceIte, Nat.reduceMul, Nat.reduceDiv, Nat.reduceAdd, Nat.reduceEqDiff, Nat.reduceLeDiff, Nat.reduceLT, reduceCtorEq, Int.reduceNeg, Int.reduceLT, Int.reduceLE, Int.reduceAdd, Int.reduceToNat, Nat.reduceBEq, Int.reduceMul, Int.reduceSub, Nat.reduceSub, Int.reduceBNe, Nat.reduceBNe, rKB, ↓cb_box, ↓cb_pts]
  repeat' first | (with_reducible apply And.intro) | (with_reducible apply condP <;> intro _)
  all_goals first | (show chk _ _ = true; kernel_rfl) | with_reducible assumption | omega | (simp only [go_sem, *, sivsD, Nat.reduceAdd] <;> rfl) | rfl | (exfalso; simp_all only [Bool.true_eq_false, Bool.false_eq_true, reduceCtorEq]; done)
theorem d_smallbox3 (xs : List Nat) (k : Nat) (hk : k ≤ 700) : DCt 21 xs [iA 3] k (.s (boxL (sivsD xs 3 k).1)) ((sivsD xs 3 k).2) := by
  refine dct_of (O := fun A n c => dkO 22 A n c (rK fun k => (k ≤ 800, jA (sivD xs k).1, (sivD xs k).2))) (by kernel_rfl) tyB_ok (fun A n c F w hA hn => dkO_ok (xs := xs) (ent Tryz.func22 (by kernel_rfl) rfl) (rK_ok fun k hp => (sivD_spec hp).2.2.2) hA hn) [30, 31] 1500 18 [.tmp 4] Tryz.func21 rfl Tryz.ntmps21 (by decide) (by rw [Tryz.results21]) (by simp) rfl (fun A n c hsm hs => ?_)
  have e0 : k ≤ 800 := by omega
  have s1 := sivD_spec (xs := xs) (k := k) (by omega)
  have u1 := s1.2.1
  have v1 := s1.2.2.1
  have e1 : (sivD xs k).2 ≤ 800 := by omega
  have s2 := sivD_spec (xs := xs) (k := (sivD xs k).2) (by omega)
  have u2 := s2.2.1
  have v2 := s2.2.2.1
  have e2 : (sivD xs (sivD xs k).2).2 ≤ 800 := by omega
  have s3 := sivD_spec (xs := xs) (k := (sivD xs (sivD xs k).2).2) (by omega)
  have u3 := s3.2.1
  have v3 := s3.2.2.1
  clear s1
  clear s2
  clear s3
  simp (maxSteps := 10000000) only [go_sem, ↓reduceIte, Nat.reduceMul, Nat.reduceDiv, Nat.reduceAdd, Nat.reduceEqDiff, Nat.reduceLeDiff, Nat.reduceLT, reduceCtorEq, Int.reduceNeg, Int.reduceLT, Int.reduceLE, Int.reduceAdd, Int.reduceToNat, Nat.reduceBEq, Int.reduceMul, Int.reduceSub, Nat.reduceSub, Int.reduceBNe, Nat.reduceBNe, rKB, ↓cb_box, ↓cb_pts]
  repeat' first | (with_reducible apply And.intro) | (with_reducible apply condP <;> intro _)
  all_goals first | (show chk _ _ = true; kernel_rfl) | with_reducible assumption | omega | (simp only [go_sem, *, sivsD, Nat.reduceAdd] <;> rfl) | rfl | (exfalso; simp_all only [Bool.true_eq_false, Bool.false_eq_true, reduceCtorEq]; done)
theorem d_smallbox4 (xs : List Nat) (k : Nat) (hk : k ≤ 700) : DCt 21 xs [iA 4] k (.s (boxL (sivsD xs 4 k).1)) ((sivsD xs 4 k).2) := by
  refine dct_of (O := fun A n c => dkO 22 A n c (rK fun k => (k ≤ 800, jA (sivD xs k).1, (sivD xs k).2))) (by kernel_rfl) tyB_ok (fun A n c F w hA hn => dkO_ok (xs := xs) (ent Tryz.func22 (by kernel_rfl) rfl) (rK_ok fun k hp => (sivD_spec hp).2.2.2) hA hn) [30, 31] 1500 18 [.tmp 4] Tryz.func21 rfl Tryz.ntmps21 (by decide) (by rw [Tryz.results21]) (by simp) rfl (fun A n c hsm hs => ?_)
  have e0 : k ≤ 800 := by omega
  have s1 := sivD_spec (xs := xs) (k := k) (by omega)
  have u1 := s1.2.1
  have v1 := s1.2.2.1
  have e1 : (sivD xs k).2 ≤ 800 := by omega
  have s2 := sivD_spec (xs := xs) (k := (sivD xs k).2) (by omega)
  have u2 := s2.2.1
  have v2 := s2.2.2.1
  have e2 : (sivD xs (sivD xs k).2).2 ≤ 800 := by omega
  have s3 := sivD_spec (xs := xs) (k := (sivD xs (sivD xs k).2).2) (by omega)
  have u3 := s3.2.1
  have v3 := s3.2.2.1
  have e3 : (sivD xs (sivD xs (sivD xs k).2).2).2 ≤ 800 := by omega
  have s4 := sivD_spec (xs := xs) (k := (sivD xs (sivD xs (sivD xs k).2).2).2) (by omega)
  have u4 := s4.2.1
  have v4 := s4.2.2.1
  clear s1
  clear s2
  clear s3
  clear s4
  simp (maxSteps := 10000000) only [go_sem, ↓reduceIte, Nat.reduceMul, Nat.reduceDiv, Nat.reduceAdd, Nat.reduceEqDiff, Nat.reduceLeDiff, Nat.reduceLT, reduceCtorEq, Int.reduceNeg, Int.reduceLT, Int.reduceLE, Int.reduceAdd, Int.reduceToNat, Nat.reduceBEq, Int.reduceMul, Int.reduceSub, Nat.reduceSub, Int.reduceBNe, Nat.reduceBNe, rKB, ↓cb_box, ↓cb_pts]
  repeat' first | (with_reducible apply And.intro) | (with_reducible apply condP <;> intro _)
  all_goals first | (show chk _ _ = true; kernel_rfl) | with_reducible assumption | omega | (simp only [go_sem, *, sivsD, Nat.reduceAdd] <;> rfl) | rfl | (exfalso; simp_all only [Bool.true_eq_false, Bool.false_eq_true, reduceCtorEq]; done)
theorem d_smallbox {xs : List Nat} {k : Nat} {z : Int} (hp : k ≤ 700 ∧ 0 < z ∧ z ≤ 4) : DCt 21 xs [iA z] k (.s (boxL (sivsD xs z.toNat k).1)) (sivsD xs z.toNat k).2 := by
  obtain rfl | rfl | rfl | rfl : z = 1 ∨ z = 2 ∨ z = 3 ∨ z = 4 := by omega
  · exact d_smallbox1 xs k hp.1
  · exact d_smallbox2 xs k hp.1
  · exact d_smallbox3 xs k hp.1
  · exact d_smallbox4 xs k hp.1
theorem d_inbox1 (xs : List Nat) (k : Nat) (a : J) (ga : Good a) (hk : k ≤ 700) : DCt 14 xs [bA_ [a]] k (.s (ptsL (pD xs [a] k))) (k + 1) := by
  refine dct_of (O := fun A n c => dkO 27 A n c (rKJ fun k j => (Good j ∧ k ≤ 900, xA (inD xs j k), k + 1))) (by kernel_rfl) tyB_ok (fun A n c F w hA hn => dkO_ok (xs := xs) (ent Tryz.func27 (by kernel_rfl) rfl) (rKJ_ok fun k j hp => (inD_spec hp.1 hp.2).2.1) hA hn) [40, 41] 1500 23 [.tmp 4] Tryz.func14 rfl Tryz.ntmps14 (by decide) (by rw [Tryz.results14]) (by simp) rfl (fun A n c hsm hs => ?_)
  have e0 : k ≤ 900 := by omega
  simp (maxSteps := 10000000) only [go_sem, ↓reduceIte, Nat.reduceMul, Nat.reduceDiv, Nat.reduceAdd, Nat.reduceEqDiff, Nat.reduceLeDiff, Nat.reduceLT, reduceCtorEq, Int.reduceNeg, Int.reduceLT, Int.reduceLE, Int.reduceAdd, Int.reduceToNat, Nat.reduceBEq, Int.reduceMul, Int.reduceSub, Nat.reduceSub, Int.reduceBNe, Nat.reduceBNe, rKB, ↓cb_box, ↓cb_pts]
  repeat' first | (with_reducible apply And.intro) | (with_reducible apply condP <;> intro _)
  all_goals first | (show chk _ _ = true; kernel_rfl) | with_reducible assumption | omega | (simp only [go_sem, *, pD, Nat.reduceAdd] <;> rfl) | rfl | (exfalso; simp_all only [Bool.true_eq_false, Bool.false_eq_true, reduceCtorEq]; done)
theorem d_inbox2 (xs : List Nat) (k : Nat) (a b : J) (ga : Good a) (gb : Good b) (hk : k ≤ 700) : DCt 14 xs [bA_ [a, b]] k (.s (ptsL (pD xs [a, b] k))) (k + 1 + 1) := by
  refine dct_of (O := fun A n c => dkO 27 A n c (rKJ fun k j => (Good j ∧ k ≤ 900, xA (inD xs j k), k + 1))) (by kernel_rfl) tyB_ok (fun A n c F w hA hn => dkO_ok (xs := xs) (ent Tryz.func27 (by kernel_rfl) rfl) (rKJ_ok fun k j hp => (inD_spec hp.1 hp.2).2.1) hA hn) [40, 41] 1500 23 [.tmp 4] Tryz.func14 rfl Tryz.ntmps14 (by decide) (by rw [Tryz.results14]) (by simp) rfl (fun A n c hsm hs => ?_)
  have e0 : k ≤ 900 := by omega
  have e1 : k + 1 ≤ 900 := by omega
  simp (maxSteps := 10000000) only [go_sem, ↓reduceIte, Nat.reduceMul, Nat.reduceDiv, Nat.reduceAdd, Nat.reduceEqDiff, Nat.reduceLeDiff, Nat.reduceLT, reduceCtorEq, Int.reduceNeg, Int.reduceLT, Int.reduceLE, Int.reduceAdd, Int.reduceToNat, Nat.reduceBEq, Int.reduceMul, Int.reduceSub, Nat.reduceSub, Int.reduceBNe, Nat.reduceBNe, rKB, ↓cb_box, ↓cb_pts]
  repeat' first | (with_reducible apply And.intro) | (with_reducible apply condP <;> intro _)
  all_goals first | (show chk _ _ = true; kernel_rfl) | with_reducible assumption | omega | (simp only [go_sem, *, pD, Nat.reduceAdd] <;> rfl) | rfl | (exfalso; simp_all only [Bool.true_eq_false, Bool.false_eq_true, reduceCtorEq]; done)
theorem d_inbox3 (xs : List Nat) (k : Nat) (a b c : J) (ga : Good a) (gb : Good b) (gc : Good c) (hk : k ≤ 700) : DCt 14 xs [bA_ [a, b, c]] k (.s (ptsL (pD xs [a, b, c] k))) (k + 1 + 1 + 1) := by
  refine dct_of (O := fun A n c => dkO 27 A n c (rKJ fun k j => (Good j ∧ k ≤ 900, xA (inD xs j k), k + 1))) (by kernel_rfl) tyB_ok (fun A n c F w hA hn => dkO_ok (xs := xs) (ent Tryz.func27 (by kernel_rfl) rfl) (rKJ_ok fun k j hp => (inD_spec hp.1 hp.2).2.1) hA hn) [40, 41] 1500 23 [.tmp 4] Tryz.func14 rfl Tryz.ntmps14 (by decide) (by rw [Tryz.results14]) (by simp) rfl (fun A n c hsm hs => ?_)
  have e0 : k ≤ 900 := by omega
  have e1 : k + 1 ≤ 900 := by omega
  have e2 : k + 1 + 1 ≤ 900 := by omega
  simp (maxSteps := 10000000) only [go_sem, ↓reduceIte, Nat.reduceMul, Nat.reduceDiv, Nat.reduceAdd, Nat.reduceEqDiff, Nat.reduceLeDiff, Nat.reduceLT, reduceCtorEq, Int.reduceNeg, Int.reduceLT, Int.reduceLE, Int.reduceAdd, Int.reduceToNat, Nat.reduceBEq, Int.reduceMul, Int.reduceSub, Nat.reduceSub, Int.reduceBNe, Nat.reduceBNe, rKB, ↓cb_box, ↓cb_pts]
  repeat' first | (with_reducible apply And.intro) | (with_reducible apply condP <;> intro _)
  all_goals first | (show chk _ _ = true; kernel_rfl) | with_reducible assumption | omega | (simp only [go_sem, *, pD, Nat.reduceAdd] <;> rfl) | rfl | (exfalso; simp_all only [Bool.true_eq_false, Bool.false_eq_true, reduceCtorEq]; done)
theorem d_inbox4 (xs : List Nat) (k : Nat) (a b c d : J) (ga : Good a) (gb : Good b) (gc : Good c) (gd : Good d) (hk : k ≤ 700) : DCt 14 xs [bA_ [a, b, c, d]] k (.s (ptsL (pD xs [a, b, c, d] k))) (k + 1 + 1 + 1 + 1) := by
  refine dct_of (O := fun A n c => dkO 27 A n c (rKJ fun k j => (Good j ∧ k ≤ 900, xA (inD xs j k), k + 1))) (by kernel_rfl) tyB_ok (fun A n c F w hA hn => dkO_ok (xs := xs) (ent Tryz.func27 (by kernel_rfl) rfl) (rKJ_ok fun k j hp => (inD_spec hp.1 hp.2).2.1) hA hn) [40, 41] 1500 23 [.tmp 4] Tryz.func14 rfl Tryz.ntmps14 (by decide) (by rw [Tryz.results14]) (by simp) rfl (fun A n c hsm hs => ?_)
  have e0 : k ≤ 900 := by omega
  have e1 : k + 1 ≤ 900 := by omega
  have e2 : k + 1 + 1 ≤ 900 := by omega
  have e3 : k + 1 + 1 + 1 ≤ 900 := by omega
  simp (maxSteps := 10000000) only [go_sem, ↓reduceIte, Nat.reduceMul, Nat.reduceDiv, Nat.reduceAdd, Nat.reduceEqDiff, Nat.reduceLeDiff, Nat.reduceLT, reduceCtorEq, Int.reduceNeg, Int.reduceLT, Int.reduceLE, Int.reduceAdd, Int.reduceToNat, Nat.reduceBEq, Int.reduceMul, Int.reduceSub, Nat.reduceSub, Int.reduceBNe, Nat.reduceBNe, rKB, ↓cb_box, ↓cb_pts]
  repeat' first | (with_reducible apply And.intro) | (with_reducible apply condP <;> intro _)
  all_goals first | (show chk _ _ = true; kernel_rfl) | with_reducible assumption | omega | (simp only [go_sem, *, pD, Nat.reduceAdd] <;> rfl) | rfl | (exfalso; simp_all only [Bool.true_eq_false, Bool.false_eq_true, reduceCtorEq]; done)
theorem d_inbox {xs : List Nat} {k : Nat} {l : List J} (hp : Goods l ∧ 1 ≤ l.length ∧ l.length ≤ 4 ∧ k ≤ 700) : DCt 14 xs [bA_ l] k (.s (ptsL (pD xs l k))) (k + 1 * l.length) := by
  obtain ⟨hg, h1, h4, hk⟩ := hp
  match l, hg, h1, h4 with
  | [], _, h, _ => exact absurd h (by simp)
  | [a], hg, _, _ => exact d_inbox1 xs k a (hg a (by simp)) hk
  | [a, b], hg, _, _ => exact d_inbox2 xs k a b (hg a (by simp)) (hg b (by simp)) hk
  | [a, b, c], hg, _, _ => exact d_inbox3 xs k a b c (hg a (by simp)) (hg b (by simp)) (hg c (by simp)) hk
  | [a, b, c, d], hg, _, _ => exact d_inbox4 xs k a b c d (hg a (by simp)) (hg b (by simp)) (hg c (by simp)) (hg d (by simp)) hk
  | _ :: _ :: _ :: _ :: _ :: _, _, _, h => exact absurd h (by simp)
end Go.Proofs.YthhaelnildaemaaGreatDoor
namespace Go.Proofs.YthhaelnildaemaaGreatDoor
open Go.RowKit Nx
set_option linter.unusedVariables false
set_option linter.unusedSimpArgs false
attribute [local irreducible] chk
def LC6 (f : FuncId) (A : Option Addr) (n c : Nat) (xs : List Nat) (args : List AV) : Prop := ∀ w us, Tab w → Arg w A n c xs → RA envA (fun _ => false) w args us →
  Calls Tryz.prog f us.toArray w fun e w' => e = .returned (.bool true) ∧ Below w.heap.size w w'
theorem lc6_of {ty : TypeId → Option TI} {O : Orac} (hm : Tryz.prog.follows .mixedOrders = true) (hty : ∀ t i, ty t = some i → TiOK Tryz.prog t i) {f : FuncId} {fn : Func} {c0 : Code} {args : List AV} {A : Option Addr} {n c : Nat} {xs : List Nat}
    (hO : ∀ w, Arg w A n c xs → (∀ ad, 0 < n → A = some ad → ¬ (fun _ : Nat => False) ad.block) → OrOK Tryz.prog O (fun _ => False) w) (fg : List Nat)
    (fuel N : Nat) (rs : List ResultVar) (hf : Tryz.prog.funcs[f]? = some fn) (hb : fn.body = some c0) (hN : fn.ntmps = N) (hr : fn.results.toList = rs) (hl : args.length ≤ N) (hc : args.all cbA = true)
    (h : smAs args → Small B64 xs → run ty O N (fun st => postf (· = bA true) (resA ty st rs)) fg fuel [.code c0] (init 0 args)) : LC6 f A n c xs args := by
  intro w us ht hX hA
  replace h := h hA.sm hX.2
  refine (call_of (mem := []) (ρ := ⟨fun n => n, w.heap.size, fun _ => undef, fun _ => 0, fun _ => false⟩) hm hty (hO w hX (fun _ _ _ h => h)) fg fuel N rs hf hb hN hr hl ht (fun k v h => by cases h) (fun b v h => by cases h) (fun b b' h => by cases h) (hA.closed hc fun _ _ => ⟨fun _ h => (by cases h), fun _ h => (by cases h)⟩) rfl rfl (by rw [List.append_nil]; exact h)).mono ?_
  rintro e w' ⟨u, r, rfl, rfl, hcl, hR, hb⟩
  rw [show u = .bool true from RL.one.1 (hR envA (fun _ => false) ⟨fun _ h => (by cases h), fun _ _ h => (by cases h), Nat.zero_le _⟩)]
  exact ⟨rfl, hb⟩
theorem hasB_of {xs : List Nat} {l : List J} {k : Nat} (hg : Goods l) (h1 : 1 ≤ l.length) (h4 : l.length ≤ 4) (hk : k ≤ 700) : hasB l (pD xs l k) = true := by
  unfold hasB
  rw [rightB_good hg h1 h4, pD_has hg (by omega)]; rfl
end Go.Proofs.YthhaelnildaemaaGreatDoor
