/- Decks: what is drawn. -/
import Derived.Test.YthhaelnildaemaaGreatDoorTAi7
import Derived.Test.YthhaelnildaemaaGreatDoorTAkA
import Derived.Test.YthhaelnildaemaaGreatDoorTAj2
namespace Go.Proofs.YthhaelnildaemaaGreatDoor
open Go.RowKit Nx
set_option linter.unusedVariables false
set_option linter.unusedSimpArgs false
set_option maxRecDepth 100000
set_option maxHeartbeats 4000000
attribute [local go_sem] run init X.L J.L vL X.eta J.eta Q.eta List.cons_append List.nil_append brkK brkf_b brkf_t exef_some exif_some condf_b opf bodyE addR skipE stepOp stepLoad stepStore stepField stepCall stepBS stepBi stepCv stepIx lpf hdS pick forget inL mentA ment dom evs evl evp evd okeys look fillA capsOf wordsOf rowsOf lenOf convK binV shV intV unV boolT tyT tiB tiI tiW tiD tiF tiR tiU tiNum tiIv tiVal tiSc okLf okD keysOf tblO cvA cvL dnL olA olL noO noA cbL cbA orT noT one asNum asIv asVal postf_some resA tupA clA clL dropTo decide_true decide_false List.all_cons List.all_nil Bool.and_true Bool.and_self true_and and_true and_self List.length_cons List.length_nil List.drop_succ_cons List.drop_zero List.take_succ_cons List.take_zero List.getElem?_cons_zero List.getElem?_cons_succ List.map_cons List.map_nil false_implies true_implies Option.bind_some List.getElem?_toArray Bool.false_eq_true List.append_nil List.flatMap_cons List.flatMap_nil true_or or_true forall_const List.reverse_cons List.reverse_nil Option.isSome_some Option.any_some Nat.lt_irrefl not_true_eq_false Bool.not_true Bool.not_false imp_self implies_true Bool.not_eq_true' Bool.not_eq_false' Bool.true_eq_false memOf cntF nmL rnL nmA rnA isV contsOf ndB refO orO pin Int.toNat_zero decide_eq_true_eq wrap0 wrap1 ci1 ci2 BEq.rfl beq_self_eq_true Int.natCast_zero ge_iff_le gt_iff_lt Int.le_refl Nat.zero_mul Nat.one_mul Nat.zero_add Nat.zero_lt_succ Nat.lt_add_one Nat.le_refl List.append_eq wrap2 Bool.not_eq_true dkO dpf_some rK rKI rKJ Int.toNat_natCast Int.natCast_nonneg gN gNN gNI gI gNNIB gNIB gV gVV gVIB gVVIB gWW gJ gJJ gJN gJJI gJI gJII gNNI gBWI gVVVV gVVVVI gVI gIJJI gJB stepB0 stepMk stepSl stepAp apY optI okO nilV slT resB outPs outLs outL dnT noE List.isEmpty_nil AV.s cond_true cond_false Bool.true_and Bool.and_false Bool.false_and Bool.or_true Bool.true_or Bool.or_false Bool.false_or
attribute [local go_sem ↓] cond_true cond_false not_cond
theorem ub : IntKind.u64.bits = 64 := rfl
theorem dk0 {k : Nat} : (0 : Int) ≤ ((k : Nat) : Int) := Int.natCast_nonneg k
noncomputable def Tseat_num : Tbl := one 108 (gBWI fun b l z => (l.length ≤ 100, nA (res (nm b (nval B64 l) z)).1))
theorem Tseat_num_ok : TbOK Tryz.prog Tseat_num := one_ok (ent Tryz.func108 (by kernel_rfl) rfl) fun args e h hp => by
  obtain ⟨b, l, z, rfl, rfl⟩ := gBWI_eq h
  exact ctBWI rfl (fun w Al nl cl ht hl hn => (snum_any w b z Al nl cl l hl (by have := hl.1.1; have hp : l.length ≤ 100 := hp; omega)).mono fun _ _ h => post_n (res_fits _) h)
theorem bits_in {op : BinOp} {a b : Int} : (0 ≤ bits op .u64 a b ∧ bits op .u64 a b < 18446744073709551616) ↔ True := by
  refine iff_of_true ?_ trivial
  unfold bits
  simp only [IntKind.wrap_u64]
  omega
theorem wrap_in {a : Int} : (0 ≤ IntKind.u64.wrap a ∧ IntKind.u64.wrap a < 18446744073709551616) ↔ True := by
  refine iff_of_true ?_ trivial
  rw [IntKind.wrap_u64]; omega
theorem dk_in {xs : List Nat} {k : Nat} (h : Small B64 xs) : (((dk xs k : Nat) : Int) < 18446744073709551616) ↔ True := iff_of_true (by have := dk_lt h k; unfold B64 at this; omega) trivial
theorem shr_nat (v t : Nat) (ht : t ≤ 64) : ((v : Int).fdiv (2 ^ min t 64)) = ((v / 2 ^ t : Nat) : Int) := by
  rw [Nat.min_eq_left ht, Int.fdiv_eq_ediv_of_nonneg _ (Int.le_of_lt (pow_posZ t)), Int.natCast_ediv, Int.natCast_pow]; rfl
theorem d_small (xs : List Nat) (k : Nat)  (hk : k ≤ 900) : DCt 57 xs [] k (nA (res (nm (bits .and .u64 ((dk xs k : Nat) : Int) 1 == 1) (nval B64 [(bits .and .u64 ((((dk xs k : Nat) : Int)).fdiv (2 ^ min 1 64)) 63).toNat]) (IntKind.i64.wrap (IntKind.i64.wrap (((((dk xs k : Nat) : Int)).fdiv (2 ^ min 7 64)).tmod 9) - 6)))).1) (k + 1) := by
  refine dct_of (O := fun A n c => orO (dkO 107 A n c (rK fun k => (k ≤ 1000, .s (.lit (.int .u64 (dk xs k : Int))), k + 1))) (tblO (Tseat_num))) (by kernel_rfl) tyT_ok (fun A n c F w hA hn => only_or dkO_only (dkO_ok (xs := xs) (ent Tryz.func107 (by kernel_rfl) rfl) (rK_ok fun k hp => next_dct hp) hA hn) (tblO_ok (Tseat_num_ok) _ _) (fun d st args => by simp [orO, dkO, tblO, orT, noT, one, Tseat_num])) [] 1000 19 [.cell 2 28] Tryz.func57 rfl Tryz.ntmps57 (by decide) (by rw [Tryz.results57]) (by simp) rfl (fun A n c hsm hs => ?_)
  have hk0 : k ≤ 1000 := by omega
  simp (maxSteps := 10000000) only [go_sem, ↓reduceIte, Nat.reduceMul, Nat.reduceDiv, Nat.reduceAdd, Nat.reduceEqDiff, Nat.reduceLeDiff, Nat.reduceLT, reduceCtorEq, Int.reduceNeg, Tseat_num, Int.reduceLT, Int.reduceLE, Int.reduceAdd, Int.reduceToNat, Nat.reduceBEq, Int.reduceMul, Int.reduceSub, Nat.reduceSub, gC, gCC, asSc, SX.L, SX.eta, Int.reduceEq, ub, ↓bits_in, ↓wrap_in, dk0, inW]
  repeat' first | (with_reducible apply And.intro) | (with_reducible apply condP <;> intro _)
  all_goals first | (show chk _ _ = true; kernel_rfl) | with_reducible assumption | (simp only [go_sem, *] <;> rfl) | rfl | (exfalso; simp_all only [Bool.true_eq_false, Bool.false_eq_true, reduceCtorEq]; done)
theorem small_ex {xs : List Nat} {k : Nat} (hs : Small B64 xs) (hk : k ≤ 900) : ∃ q : Q, Few q ∧ DCt 57 xs [] k (nA q) (k + 1) := by
  refine ⟨_, ?_, d_small xs k hk⟩
  have hv := dk_lt hs k
  obtain ⟨v, hv0⟩ : ∃ v, v = dk xs k := ⟨_, rfl⟩
  rw [← hv0] at hv ⊢
  rw [shr_nat v 1 (by omega), shr_nat v 7 (by omega), bits63 (v / 2 ^ 1) (Nat.lt_of_le_of_lt (Nat.div_le_self _ _) hv), Int.toNat_natCast, nval1]
  have e1 : IntKind.i64.wrap (IntKind.i64.wrap ((((v / 2 ^ 7 : Nat) : Int)).tmod 9) - 6) = ((v / 2 ^ 7 % 9 : Nat) : Int) - 6 := by
    rw [Int.tmod_eq_emod_of_nonneg (Int.natCast_nonneg _), IntKind.wrap_i64, IntKind.wrap_i64]
    omega
  rw [e1]
  have hf := few_nm (s := (bits .and .u64 (v : Int) 1 == 1)) (M := v / 2 ^ 1 % 64) (e := ((v / 2 ^ 7 % 9 : Nat) : Int) - 6) (Nat.mod_lt _ (by omega)) (by omega) (by omega)
  rw [res_ok hf.valid.2]; exact hf
open Classical in
noncomputable def smallD (xs : List Nat) (k : Nat) : Q := if h : Small B64 xs ∧ k ≤ 900 then (small_ex h.1 h.2).choose else q0
theorem smallD_few (xs : List Nat) (k : Nat) : Few (smallD xs k) := by
  unfold smallD
  split
  · rename_i h; exact (small_ex h.1 h.2).choose_spec.1
  · exact ⟨canon0, by decide, by decide, by decide⟩
theorem smallD_dct {xs : List Nat} {k : Nat} (h : Small B64 xs ∧ k ≤ 900) : DCt 57 xs [] k (nA (smallD xs k)) (k + 1) := by
  unfold smallD
  rw [dif_pos h]; exact (small_ex h.1 h.2).choose_spec.2
theorem d_prec1 (xs : List Nat) (k : Nat)  (hk : k ≤ 900) (h0 : (((dk xs k % 6 : Nat) : Int) == 0) = true) : DCt 19 xs [] k (iA 8) (k + 1) := by
  refine dct_of (O := fun A n c => orO (dkO 49 A n c (rKI fun k z => (k ≤ 1000 ∧ 0 < z ∧ z ≤ 1000, iA ((dk xs k % z.toNat : Nat) : Int), k + 1))) (tblO noT)) (by kernel_rfl) tyT_ok (fun A n c F w hA hn => only_or dkO_only (dkO_ok (xs := xs) (ent Tryz.func49 (by kernel_rfl) rfl) (rKI_ok fun k z hp => dn_dct hp) hA hn) (tblO_ok noT_ok _ _) (fun d st args => by simp [orO, dkO, tblO, orT, noT, one])) [] 1000 12 [.tmp 2] Tryz.func19 rfl Tryz.ntmps19 (by decide) (by rw [Tryz.results19]) (by simp) rfl (fun A n c hsm hs => ?_)
  have hk0 : k ≤ 1000 := by omega
  have hk1 : k + 1 ≤ 1000 := by omega
  simp (maxSteps := 10000000) only [go_sem, ↓reduceIte, Nat.reduceMul, Nat.reduceDiv, Nat.reduceAdd, Nat.reduceEqDiff, Nat.reduceLeDiff, Nat.reduceLT, reduceCtorEq, Int.reduceNeg, Int.reduceLT, Int.reduceLE, Int.reduceAdd, Int.reduceToNat, Nat.reduceBEq, Int.reduceMul, Int.reduceSub, Nat.reduceSub, gC, gCC, asSc, SX.L, SX.eta, Int.reduceEq, ub, ↓bits_in, ↓wrap_in, dk0, h0]
  repeat' first | (with_reducible apply And.intro) | (with_reducible apply condP <;> intro _)
  all_goals first | (show chk _ _ = true; kernel_rfl) | with_reducible assumption | (simp only [go_sem, *] <;> rfl) | rfl | (exfalso; simp_all only [Bool.true_eq_false, Bool.false_eq_true, reduceCtorEq]; done)
theorem d_prec2 (xs : List Nat) (k : Nat)  (hk : k ≤ 900) (h0 : (((dk xs k % 6 : Nat) : Int) == 0) = false) (h1 : (((dk xs k % 6 : Nat) : Int) == 1) = true) : DCt 19 xs [] k (iA 256) (k + 1) := by
  refine dct_of (O := fun A n c => orO (dkO 49 A n c (rKI fun k z => (k ≤ 1000 ∧ 0 < z ∧ z ≤ 1000, iA ((dk xs k % z.toNat : Nat) : Int), k + 1))) (tblO noT)) (by kernel_rfl) tyT_ok (fun A n c F w hA hn => only_or dkO_only (dkO_ok (xs := xs) (ent Tryz.func49 (by kernel_rfl) rfl) (rKI_ok fun k z hp => dn_dct hp) hA hn) (tblO_ok noT_ok _ _) (fun d st args => by simp [orO, dkO, tblO, orT, noT, one])) [] 1000 12 [.tmp 2] Tryz.func19 rfl Tryz.ntmps19 (by decide) (by rw [Tryz.results19]) (by simp) rfl (fun A n c hsm hs => ?_)
  have hk0 : k ≤ 1000 := by omega
  have hk1 : k + 1 ≤ 1000 := by omega
  simp (maxSteps := 10000000) only [go_sem, ↓reduceIte, Nat.reduceMul, Nat.reduceDiv, Nat.reduceAdd, Nat.reduceEqDiff, Nat.reduceLeDiff, Nat.reduceLT, reduceCtorEq, Int.reduceNeg, Int.reduceLT, Int.reduceLE, Int.reduceAdd, Int.reduceToNat, Nat.reduceBEq, Int.reduceMul, Int.reduceSub, Nat.reduceSub, gC, gCC, asSc, SX.L, SX.eta, Int.reduceEq, ub, ↓bits_in, ↓wrap_in, dk0, h0, h1]
  repeat' first | (with_reducible apply And.intro) | (with_reducible apply condP <;> intro _)
  all_goals first | (show chk _ _ = true; kernel_rfl) | with_reducible assumption | (simp only [go_sem, *] <;> rfl) | rfl | (exfalso; simp_all only [Bool.true_eq_false, Bool.false_eq_true, reduceCtorEq]; done)
theorem d_prec3 (xs : List Nat) (k : Nat)  (hk : k ≤ 900) (h0 : (((dk xs k % 6 : Nat) : Int) == 0) = false) (h1 : (((dk xs k % 6 : Nat) : Int) == 1) = false) : DCt 19 xs [] k (iA (IntKind.i64.wrap (12 + ((dk xs (k + 1) % 60 : Nat) : Int)))) (k + 1 + 1) := by
  refine dct_of (O := fun A n c => orO (dkO 49 A n c (rKI fun k z => (k ≤ 1000 ∧ 0 < z ∧ z ≤ 1000, iA ((dk xs k % z.toNat : Nat) : Int), k + 1))) (tblO noT)) (by kernel_rfl) tyT_ok (fun A n c F w hA hn => only_or dkO_only (dkO_ok (xs := xs) (ent Tryz.func49 (by kernel_rfl) rfl) (rKI_ok fun k z hp => dn_dct hp) hA hn) (tblO_ok noT_ok _ _) (fun d st args => by simp [orO, dkO, tblO, orT, noT, one])) [] 1000 12 [.tmp 2] Tryz.func19 rfl Tryz.ntmps19 (by decide) (by rw [Tryz.results19]) (by simp) rfl (fun A n c hsm hs => ?_)
  have hk0 : k ≤ 1000 := by omega
  have hk1 : k + 1 ≤ 1000 := by omega
  simp (maxSteps := 10000000) only [go_sem, ↓reduceIte, Nat.reduceMul, Nat.reduceDiv, Nat.reduceAdd, Nat.reduceEqDiff, Nat.reduceLeDiff, Nat.reduceLT, reduceCtorEq, Int.reduceNeg, Int.reduceLT, Int.reduceLE, Int.reduceAdd, Int.reduceToNat, Nat.reduceBEq, Int.reduceMul, Int.reduceSub, Nat.reduceSub, gC, gCC, asSc, SX.L, SX.eta, Int.reduceEq, ub, ↓bits_in, ↓wrap_in, dk0, h0, h1]
  repeat' first | (with_reducible apply And.intro) | (with_reducible apply condP <;> intro _)
  all_goals first | (show chk _ _ = true; kernel_rfl) | with_reducible assumption | omega | (simp only [go_sem, *] <;> rfl) | rfl | (exfalso; simp_all only [Bool.true_eq_false, Bool.false_eq_true, reduceCtorEq]; done)
theorem prec_ex {xs : List Nat} {k : Nat} (hk : k ≤ 900) : ∃ (p : Int) (k' : Nat), prl p = true ∧ k ≤ k' ∧ k' ≤ k + 2 ∧ DCt 19 xs [] k (iA p) k' := by
  cases h0 : ((((dk xs k % 6 : Nat) : Int) == 0))
  · cases h1 : ((((dk xs k % 6 : Nat) : Int) == 1))
    · refine ⟨_, _, ?_, ?_, ?_, d_prec3 xs k hk h0 h1⟩
      · have : dk xs (k + 1) % 60 < 60 := Nat.mod_lt _ (by omega)
        rw [IntKind.wrap_i64]; unfold prl
        simp only [Bool.and_eq_true, decide_eq_true_eq]; omega
      · omega
      · omega
    · exact ⟨_, _, by decide, by omega, by omega, d_prec2 xs k hk h0 h1⟩
  · exact ⟨_, _, by decide, by omega, by omega, d_prec1 xs k hk h0⟩
open Classical in
noncomputable def precD (xs : List Nat) (k : Nat) : Int × Nat := if h : k ≤ 900 then ((prec_ex (xs := xs) h).choose, (prec_ex (xs := xs) h).choose_spec.choose) else (8, k)
theorem precD_spec {xs : List Nat} {k : Nat} (h : k ≤ 900) : prl (precD xs k).1 = true ∧ k ≤ (precD xs k).2 ∧ (precD xs k).2 ≤ k + 2 ∧ DCt 19 xs [] k (iA (precD xs k).1) (precD xs k).2 := by
  have := (prec_ex (xs := xs) h).choose_spec.choose_spec
  unfold precD
  rw [dif_pos h]; exact this
theorem d_num0 (xs : List Nat) (k : Nat)  (hk : k ≤ 900) (h0 : ((((((dk xs k : Nat) : Int)).fdiv (2 ^ min 7 64)).tmod 8) == 0) = true) : ∃ (q : Q) (k' : Nat), Valid q ∧ k ≤ k' ∧ k' ≤ k + 4 ∧ DCt 55 xs [] k (nA q) k' := by
  apply Exists.intro
  refine ⟨k + 1, ?val, by omega, by omega, ?main⟩
  case main =>
    refine dct_of (O := fun A n c => orO (dkO 107 A n c (rK fun k => (k ≤ 1000, .s (.lit (.int .u64 (dk xs k : Int))), k + 1))) (tblO (Tseat_num))) (by kernel_rfl) tyT_ok (fun A n c F w hA hn => only_or dkO_only (dkO_ok (xs := xs) (ent Tryz.func107 (by kernel_rfl) rfl) (rK_ok fun k hp => next_dct hp) hA hn) (tblO_ok (Tseat_num_ok) _ _) (fun d st args => by simp [orO, dkO, tblO, orT, noT, one, Tseat_num])) [] 1000 105 [.cell 2 28] Tryz.func55 rfl Tryz.ntmps55 (by decide) (by rw [Tryz.results55]) (by simp) rfl (fun A n c hsm hs => ?_)
    have hk0 : k ≤ 1000 := by omega
    have hk1 : k + 1 ≤ 1000 := by omega
    have hk2 : k + 1 + 1 ≤ 1000 := by omega
    have hk3 : k + 1 + 1 + 1 ≤ 1000 := by omega
    have hk4 : k + 1 + 1 + 1 + 1 ≤ 1000 := by omega
    have hn : ∀ a : Int, 0 ≤ a → 0 ≤ a.tmod 64 := fun a h => Int.tmod_nonneg _ h
    have hq0 : 0 ≤ (((((dk xs k : Nat) : Int)).fdiv (2 ^ min 20 64)).tmod 64) := by rw [shr_nat _ 20 (by omega)]; exact Int.tmod_nonneg _ (Int.natCast_nonneg _)
    have hq1 : ¬ (((((dk xs k : Nat) : Int)).fdiv (2 ^ min 20 64)).tmod 64 < 0) := by omega
    simp (maxSteps := 10000000) only [go_sem, ↓reduceIte, Nat.reduceMul, Nat.reduceDiv, Nat.reduceAdd, Nat.reduceEqDiff, Nat.reduceLeDiff, Nat.reduceLT, reduceCtorEq, Int.reduceNeg, Tseat_num, Int.reduceLT, Int.reduceLE, Int.reduceAdd, Int.reduceToNat, Nat.reduceBEq, Int.reduceMul, Int.reduceSub, Nat.reduceSub, gC, gCC, asSc, SX.L, SX.eta, Int.reduceEq, ub, ↓bits_in, ↓wrap_in, dk0, inW, dk_in hs, hq1, if_false, h0]
    repeat' first | (with_reducible apply And.intro) | (with_reducible apply condP <;> intro _)
    all_goals first | (show chk _ _ = true; kernel_rfl) | with_reducible assumption | omega | (simp only [go_sem, *] <;> rfl) | rfl | (exfalso; simp_all only [Bool.true_eq_false, Bool.false_eq_true, reduceCtorEq]; done)
  exact res_valid (nm_canon _ _ _)
theorem d_num1 (xs : List Nat) (k : Nat)  (hk : k ≤ 900) (h0 : ((((((dk xs k : Nat) : Int)).fdiv (2 ^ min 7 64)).tmod 8) == 0) = false) (h1 : ((((((dk xs k : Nat) : Int)).fdiv (2 ^ min 7 64)).tmod 8) == 1) = true) : ∃ (q : Q) (k' : Nat), Valid q ∧ k ≤ k' ∧ k' ≤ k + 4 ∧ DCt 55 xs [] k (nA q) k' := by
  apply Exists.intro
  refine ⟨k + 1 + 1 + 1 + 1, ?val, by omega, by omega, ?main⟩
  case main =>
    refine dct_of (O := fun A n c => orO (dkO 107 A n c (rK fun k => (k ≤ 1000, .s (.lit (.int .u64 (dk xs k : Int))), k + 1))) (tblO (Tseat_num))) (by kernel_rfl) tyT_ok (fun A n c F w hA hn => only_or dkO_only (dkO_ok (xs := xs) (ent Tryz.func107 (by kernel_rfl) rfl) (rK_ok fun k hp => next_dct hp) hA hn) (tblO_ok (Tseat_num_ok) _ _) (fun d st args => by simp [orO, dkO, tblO, orT, noT, one, Tseat_num])) [] 1000 105 [.cell 2 28] Tryz.func55 rfl Tryz.ntmps55 (by decide) (by rw [Tryz.results55]) (by simp) rfl (fun A n c hsm hs => ?_)
    have hk0 : k ≤ 1000 := by omega
    have hk1 : k + 1 ≤ 1000 := by omega
    have hk2 : k + 1 + 1 ≤ 1000 := by omega
    have hk3 : k + 1 + 1 + 1 ≤ 1000 := by omega
    have hk4 : k + 1 + 1 + 1 + 1 ≤ 1000 := by omega
    have hn : ∀ a : Int, 0 ≤ a → 0 ≤ a.tmod 64 := fun a h => Int.tmod_nonneg _ h
    have hq0 : 0 ≤ (((((dk xs k : Nat) : Int)).fdiv (2 ^ min 20 64)).tmod 64) := by rw [shr_nat _ 20 (by omega)]; exact Int.tmod_nonneg _ (Int.natCast_nonneg _)
    have hq1 : ¬ (((((dk xs k : Nat) : Int)).fdiv (2 ^ min 20 64)).tmod 64 < 0) := by omega
    simp (maxSteps := 10000000) only [go_sem, ↓reduceIte, Nat.reduceMul, Nat.reduceDiv, Nat.reduceAdd, Nat.reduceEqDiff, Nat.reduceLeDiff, Nat.reduceLT, reduceCtorEq, Int.reduceNeg, Tseat_num, Int.reduceLT, Int.reduceLE, Int.reduceAdd, Int.reduceToNat, Nat.reduceBEq, Int.reduceMul, Int.reduceSub, Nat.reduceSub, gC, gCC, asSc, SX.L, SX.eta, Int.reduceEq, ub, ↓bits_in, ↓wrap_in, dk0, inW, dk_in hs, hq1, if_false, h0, h1]
    repeat' first | (with_reducible apply And.intro) | (with_reducible apply condP <;> intro _)
    all_goals first | (show chk _ _ = true; kernel_rfl) | with_reducible assumption | omega | (simp only [go_sem, *] <;> rfl) | rfl | (exfalso; simp_all only [Bool.true_eq_false, Bool.false_eq_true, reduceCtorEq]; done)
  exact res_valid (nm_canon _ _ _)
theorem d_num2 (xs : List Nat) (k : Nat)  (hk : k ≤ 900) (h0 : ((((((dk xs k : Nat) : Int)).fdiv (2 ^ min 7 64)).tmod 8) == 0) = false) (h1 : ((((((dk xs k : Nat) : Int)).fdiv (2 ^ min 7 64)).tmod 8) == 1) = false) (h2 : ((((((dk xs k : Nat) : Int)).fdiv (2 ^ min 7 64)).tmod 8) == 2) = true) : ∃ (q : Q) (k' : Nat), Valid q ∧ k ≤ k' ∧ k' ≤ k + 4 ∧ DCt 55 xs [] k (nA q) k' := by
  apply Exists.intro
  refine ⟨k + 1, ?val, by omega, by omega, ?main⟩
  case main =>
    refine dct_of (O := fun A n c => orO (dkO 107 A n c (rK fun k => (k ≤ 1000, .s (.lit (.int .u64 (dk xs k : Int))), k + 1))) (tblO (Tseat_num))) (by kernel_rfl) tyT_ok (fun A n c F w hA hn => only_or dkO_only (dkO_ok (xs := xs) (ent Tryz.func107 (by kernel_rfl) rfl) (rK_ok fun k hp => next_dct hp) hA hn) (tblO_ok (Tseat_num_ok) _ _) (fun d st args => by simp [orO, dkO, tblO, orT, noT, one, Tseat_num])) [] 1000 105 [.cell 2 28] Tryz.func55 rfl Tryz.ntmps55 (by decide) (by rw [Tryz.results55]) (by simp) rfl (fun A n c hsm hs => ?_)
    have hk0 : k ≤ 1000 := by omega
    have hk1 : k + 1 ≤ 1000 := by omega
    have hk2 : k + 1 + 1 ≤ 1000 := by omega
    have hk3 : k + 1 + 1 + 1 ≤ 1000 := by omega
    have hk4 : k + 1 + 1 + 1 + 1 ≤ 1000 := by omega
    have hn : ∀ a : Int, 0 ≤ a → 0 ≤ a.tmod 64 := fun a h => Int.tmod_nonneg _ h
    have hq0 : 0 ≤ (((((dk xs k : Nat) : Int)).fdiv (2 ^ min 20 64)).tmod 64) := by rw [shr_nat _ 20 (by omega)]; exact Int.tmod_nonneg _ (Int.natCast_nonneg _)
    have hq1 : ¬ (((((dk xs k : Nat) : Int)).fdiv (2 ^ min 20 64)).tmod 64 < 0) := by omega
    simp (maxSteps := 10000000) only [go_sem, ↓reduceIte, Nat.reduceMul, Nat.reduceDiv, Nat.reduceAdd, Nat.reduceEqDiff, Nat.reduceLeDiff, Nat.reduceLT, reduceCtorEq, Int.reduceNeg, Tseat_num, Int.reduceLT, Int.reduceLE, Int.reduceAdd, Int.reduceToNat, Nat.reduceBEq, Int.reduceMul, Int.reduceSub, Nat.reduceSub, gC, gCC, asSc, SX.L, SX.eta, Int.reduceEq, ub, ↓bits_in, ↓wrap_in, dk0, inW, dk_in hs, hq1, if_false, h0, h1, h2]
    repeat' first | (with_reducible apply And.intro) | (with_reducible apply condP <;> intro _)
    all_goals first | (show chk _ _ = true; kernel_rfl) | with_reducible assumption | omega | (simp only [go_sem, *] <;> rfl) | rfl | (exfalso; simp_all only [Bool.true_eq_false, Bool.false_eq_true, reduceCtorEq]; done)
  exact res_valid (nm_canon _ _ _)
theorem d_num3 (xs : List Nat) (k : Nat)  (hk : k ≤ 900) (h0 : ((((((dk xs k : Nat) : Int)).fdiv (2 ^ min 7 64)).tmod 8) == 0) = false) (h1 : ((((((dk xs k : Nat) : Int)).fdiv (2 ^ min 7 64)).tmod 8) == 1) = false) (h2 : ((((((dk xs k : Nat) : Int)).fdiv (2 ^ min 7 64)).tmod 8) == 2) = false) (h3 : ((((((dk xs k : Nat) : Int)).fdiv (2 ^ min 7 64)).tmod 8) == 3) = true) (h4 : ((((((dk xs k : Nat) : Int)).fdiv (2 ^ min 11 64)).tmod 4) == 0) = true) : ∃ (q : Q) (k' : Nat), Valid q ∧ k ≤ k' ∧ k' ≤ k + 4 ∧ DCt 55 xs [] k (nA q) k' := by
  apply Exists.intro
  refine ⟨k + 1, ?val, by omega, by omega, ?main⟩
  case main =>
    refine dct_of (O := fun A n c => orO (dkO 107 A n c (rK fun k => (k ≤ 1000, .s (.lit (.int .u64 (dk xs k : Int))), k + 1))) (tblO (Tseat_num))) (by kernel_rfl) tyT_ok (fun A n c F w hA hn => only_or dkO_only (dkO_ok (xs := xs) (ent Tryz.func107 (by kernel_rfl) rfl) (rK_ok fun k hp => next_dct hp) hA hn) (tblO_ok (Tseat_num_ok) _ _) (fun d st args => by simp [orO, dkO, tblO, orT, noT, one, Tseat_num])) [] 1000 105 [.cell 2 28] Tryz.func55 rfl Tryz.ntmps55 (by decide) (by rw [Tryz.results55]) (by simp) rfl (fun A n c hsm hs => ?_)
    have hk0 : k ≤ 1000 := by omega
    have hk1 : k + 1 ≤ 1000 := by omega
    have hk2 : k + 1 + 1 ≤ 1000 := by omega
    have hk3 : k + 1 + 1 + 1 ≤ 1000 := by omega
    have hk4 : k + 1 + 1 + 1 + 1 ≤ 1000 := by omega
    have hn : ∀ a : Int, 0 ≤ a → 0 ≤ a.tmod 64 := fun a h => Int.tmod_nonneg _ h
    have hq0 : 0 ≤ (((((dk xs k : Nat) : Int)).fdiv (2 ^ min 20 64)).tmod 64) := by rw [shr_nat _ 20 (by omega)]; exact Int.tmod_nonneg _ (Int.natCast_nonneg _)
    have hq1 : ¬ (((((dk xs k : Nat) : Int)).fdiv (2 ^ min 20 64)).tmod 64 < 0) := by omega
    simp (maxSteps := 10000000) only [go_sem, ↓reduceIte, Nat.reduceMul, Nat.reduceDiv, Nat.reduceAdd, Nat.reduceEqDiff, Nat.reduceLeDiff, Nat.reduceLT, reduceCtorEq, Int.reduceNeg, Tseat_num, Int.reduceLT, Int.reduceLE, Int.reduceAdd, Int.reduceToNat, Nat.reduceBEq, Int.reduceMul, Int.reduceSub, Nat.reduceSub, gC, gCC, asSc, SX.L, SX.eta, Int.reduceEq, ub, ↓bits_in, ↓wrap_in, dk0, inW, dk_in hs, hq1, if_false, h0, h1, h2, h3, h4]
    repeat' first | (with_reducible apply And.intro) | (with_reducible apply condP <;> intro _)
    all_goals first | (show chk _ _ = true; kernel_rfl) | with_reducible assumption | omega | (simp only [go_sem, *] <;> rfl) | rfl | (exfalso; simp_all only [Bool.true_eq_false, Bool.false_eq_true, reduceCtorEq]; done)
  exact res_valid (nm_canon _ _ _)
theorem d_num4 (xs : List Nat) (k : Nat)  (hk : k ≤ 900) (h0 : ((((((dk xs k : Nat) : Int)).fdiv (2 ^ min 7 64)).tmod 8) == 0) = false) (h1 : ((((((dk xs k : Nat) : Int)).fdiv (2 ^ min 7 64)).tmod 8) == 1) = false) (h2 : ((((((dk xs k : Nat) : Int)).fdiv (2 ^ min 7 64)).tmod 8) == 2) = false) (h3 : ((((((dk xs k : Nat) : Int)).fdiv (2 ^ min 7 64)).tmod 8) == 3) = true) (h4 : ((((((dk xs k : Nat) : Int)).fdiv (2 ^ min 11 64)).tmod 4) == 0) = false) (h5 : ((((((dk xs k : Nat) : Int)).fdiv (2 ^ min 11 64)).tmod 4) == 1) = true) : ∃ (q : Q) (k' : Nat), Valid q ∧ k ≤ k' ∧ k' ≤ k + 4 ∧ DCt 55 xs [] k (nA q) k' := by
  apply Exists.intro
  refine ⟨k + 1, ?val, by omega, by omega, ?main⟩
  case main =>
    refine dct_of (O := fun A n c => orO (dkO 107 A n c (rK fun k => (k ≤ 1000, .s (.lit (.int .u64 (dk xs k : Int))), k + 1))) (tblO (Tseat_num))) (by kernel_rfl) tyT_ok (fun A n c F w hA hn => only_or dkO_only (dkO_ok (xs := xs) (ent Tryz.func107 (by kernel_rfl) rfl) (rK_ok fun k hp => next_dct hp) hA hn) (tblO_ok (Tseat_num_ok) _ _) (fun d st args => by simp [orO, dkO, tblO, orT, noT, one, Tseat_num])) [] 1000 105 [.cell 2 28] Tryz.func55 rfl Tryz.ntmps55 (by decide) (by rw [Tryz.results55]) (by simp) rfl (fun A n c hsm hs => ?_)
    have hk0 : k ≤ 1000 := by omega
    have hk1 : k + 1 ≤ 1000 := by omega
    have hk2 : k + 1 + 1 ≤ 1000 := by omega
    have hk3 : k + 1 + 1 + 1 ≤ 1000 := by omega
    have hk4 : k + 1 + 1 + 1 + 1 ≤ 1000 := by omega
    have hn : ∀ a : Int, 0 ≤ a → 0 ≤ a.tmod 64 := fun a h => Int.tmod_nonneg _ h
    have hq0 : 0 ≤ (((((dk xs k : Nat) : Int)).fdiv (2 ^ min 20 64)).tmod 64) := by rw [shr_nat _ 20 (by omega)]; exact Int.tmod_nonneg _ (Int.natCast_nonneg _)
    have hq1 : ¬ (((((dk xs k : Nat) : Int)).fdiv (2 ^ min 20 64)).tmod 64 < 0) := by omega
    simp (maxSteps := 10000000) only [go_sem, ↓reduceIte, Nat.reduceMul, Nat.reduceDiv, Nat.reduceAdd, Nat.reduceEqDiff, Nat.reduceLeDiff, Nat.reduceLT, reduceCtorEq, Int.reduceNeg, Tseat_num, Int.reduceLT, Int.reduceLE, Int.reduceAdd, Int.reduceToNat, Nat.reduceBEq, Int.reduceMul, Int.reduceSub, Nat.reduceSub, gC, gCC, asSc, SX.L, SX.eta, Int.reduceEq, ub, ↓bits_in, ↓wrap_in, dk0, inW, dk_in hs, hq1, if_false, h0, h1, h2, h3, h4, h5]
    repeat' first | (with_reducible apply And.intro) | (with_reducible apply condP <;> intro _)
    all_goals first | (show chk _ _ = true; kernel_rfl) | with_reducible assumption | omega | (simp only [go_sem, *] <;> rfl) | rfl | (exfalso; simp_all only [Bool.true_eq_false, Bool.false_eq_true, reduceCtorEq]; done)
  exact res_valid (nm_canon _ _ _)
theorem d_num5 (xs : List Nat) (k : Nat)  (hk : k ≤ 900) (h0 : ((((((dk xs k : Nat) : Int)).fdiv (2 ^ min 7 64)).tmod 8) == 0) = false) (h1 : ((((((dk xs k : Nat) : Int)).fdiv (2 ^ min 7 64)).tmod 8) == 1) = false) (h2 : ((((((dk xs k : Nat) : Int)).fdiv (2 ^ min 7 64)).tmod 8) == 2) = false) (h3 : ((((((dk xs k : Nat) : Int)).fdiv (2 ^ min 7 64)).tmod 8) == 3) = true) (h4 : ((((((dk xs k : Nat) : Int)).fdiv (2 ^ min 11 64)).tmod 4) == 0) = false) (h5 : ((((((dk xs k : Nat) : Int)).fdiv (2 ^ min 11 64)).tmod 4) == 1) = false) : ∃ (q : Q) (k' : Nat), Valid q ∧ k ≤ k' ∧ k' ≤ k + 4 ∧ DCt 55 xs [] k (nA q) k' := by
  apply Exists.intro
  refine ⟨k + 1, ?val, by omega, by omega, ?main⟩
  case main =>
    refine dct_of (O := fun A n c => orO (dkO 107 A n c (rK fun k => (k ≤ 1000, .s (.lit (.int .u64 (dk xs k : Int))), k + 1))) (tblO (Tseat_num))) (by kernel_rfl) tyT_ok (fun A n c F w hA hn => only_or dkO_only (dkO_ok (xs := xs) (ent Tryz.func107 (by kernel_rfl) rfl) (rK_ok fun k hp => next_dct hp) hA hn) (tblO_ok (Tseat_num_ok) _ _) (fun d st args => by simp [orO, dkO, tblO, orT, noT, one, Tseat_num])) [] 1000 105 [.cell 2 28] Tryz.func55 rfl Tryz.ntmps55 (by decide) (by rw [Tryz.results55]) (by simp) rfl (fun A n c hsm hs => ?_)
    have hk0 : k ≤ 1000 := by omega
    have hk1 : k + 1 ≤ 1000 := by omega
    have hk2 : k + 1 + 1 ≤ 1000 := by omega
    have hk3 : k + 1 + 1 + 1 ≤ 1000 := by omega
    have hk4 : k + 1 + 1 + 1 + 1 ≤ 1000 := by omega
    have hn : ∀ a : Int, 0 ≤ a → 0 ≤ a.tmod 64 := fun a h => Int.tmod_nonneg _ h
    have hq0 : 0 ≤ (((((dk xs k : Nat) : Int)).fdiv (2 ^ min 20 64)).tmod 64) := by rw [shr_nat _ 20 (by omega)]; exact Int.tmod_nonneg _ (Int.natCast_nonneg _)
    have hq1 : ¬ (((((dk xs k : Nat) : Int)).fdiv (2 ^ min 20 64)).tmod 64 < 0) := by omega
    simp (maxSteps := 10000000) only [go_sem, ↓reduceIte, Nat.reduceMul, Nat.reduceDiv, Nat.reduceAdd, Nat.reduceEqDiff, Nat.reduceLeDiff, Nat.reduceLT, reduceCtorEq, Int.reduceNeg, Tseat_num, Int.reduceLT, Int.reduceLE, Int.reduceAdd, Int.reduceToNat, Nat.reduceBEq, Int.reduceMul, Int.reduceSub, Nat.reduceSub, gC, gCC, asSc, SX.L, SX.eta, Int.reduceEq, ub, ↓bits_in, ↓wrap_in, dk0, inW, dk_in hs, hq1, if_false, h0, h1, h2, h3, h4, h5]
    repeat' first | (with_reducible apply And.intro) | (with_reducible apply condP <;> intro _)
    all_goals first | (show chk _ _ = true; kernel_rfl) | with_reducible assumption | omega | (simp only [go_sem, *] <;> rfl) | rfl | (exfalso; simp_all only [Bool.true_eq_false, Bool.false_eq_true, reduceCtorEq]; done)
  exact res_valid (nm_canon _ _ _)
theorem d_num6 (xs : List Nat) (k : Nat)  (hk : k ≤ 900) (h0 : ((((((dk xs k : Nat) : Int)).fdiv (2 ^ min 7 64)).tmod 8) == 0) = false) (h1 : ((((((dk xs k : Nat) : Int)).fdiv (2 ^ min 7 64)).tmod 8) == 1) = false) (h2 : ((((((dk xs k : Nat) : Int)).fdiv (2 ^ min 7 64)).tmod 8) == 2) = false) (h3 : ((((((dk xs k : Nat) : Int)).fdiv (2 ^ min 7 64)).tmod 8) == 3) = false) : ∃ (q : Q) (k' : Nat), Valid q ∧ k ≤ k' ∧ k' ≤ k + 4 ∧ DCt 55 xs [] k (nA q) k' := by
  apply Exists.intro
  refine ⟨k + 1 + 1, ?val, by omega, by omega, ?main⟩
  case main =>
    refine dct_of (O := fun A n c => orO (dkO 107 A n c (rK fun k => (k ≤ 1000, .s (.lit (.int .u64 (dk xs k : Int))), k + 1))) (tblO (Tseat_num))) (by kernel_rfl) tyT_ok (fun A n c F w hA hn => only_or dkO_only (dkO_ok (xs := xs) (ent Tryz.func107 (by kernel_rfl) rfl) (rK_ok fun k hp => next_dct hp) hA hn) (tblO_ok (Tseat_num_ok) _ _) (fun d st args => by simp [orO, dkO, tblO, orT, noT, one, Tseat_num])) [] 1000 105 [.cell 2 28] Tryz.func55 rfl Tryz.ntmps55 (by decide) (by rw [Tryz.results55]) (by simp) rfl (fun A n c hsm hs => ?_)
    have hk0 : k ≤ 1000 := by omega
    have hk1 : k + 1 ≤ 1000 := by omega
    have hk2 : k + 1 + 1 ≤ 1000 := by omega
    have hk3 : k + 1 + 1 + 1 ≤ 1000 := by omega
    have hk4 : k + 1 + 1 + 1 + 1 ≤ 1000 := by omega
    have hn : ∀ a : Int, 0 ≤ a → 0 ≤ a.tmod 64 := fun a h => Int.tmod_nonneg _ h
    have hq0 : 0 ≤ (((((dk xs k : Nat) : Int)).fdiv (2 ^ min 20 64)).tmod 64) := by rw [shr_nat _ 20 (by omega)]; exact Int.tmod_nonneg _ (Int.natCast_nonneg _)
    have hq1 : ¬ (((((dk xs k : Nat) : Int)).fdiv (2 ^ min 20 64)).tmod 64 < 0) := by omega
    simp (maxSteps := 10000000) only [go_sem, ↓reduceIte, Nat.reduceMul, Nat.reduceDiv, Nat.reduceAdd, Nat.reduceEqDiff, Nat.reduceLeDiff, Nat.reduceLT, reduceCtorEq, Int.reduceNeg, Tseat_num, Int.reduceLT, Int.reduceLE, Int.reduceAdd, Int.reduceToNat, Nat.reduceBEq, Int.reduceMul, Int.reduceSub, Nat.reduceSub, gC, gCC, asSc, SX.L, SX.eta, Int.reduceEq, ub, ↓bits_in, ↓wrap_in, dk0, inW, dk_in hs, hq1, if_false, h0, h1, h2, h3]
    repeat' first | (with_reducible apply And.intro) | (with_reducible apply condP <;> intro _)
    all_goals first | (show chk _ _ = true; kernel_rfl) | with_reducible assumption | omega | (simp only [go_sem, *] <;> rfl) | rfl | (exfalso; simp_all only [Bool.true_eq_false, Bool.false_eq_true, reduceCtorEq]; done)
  exact res_valid (nm_canon _ _ _)
end Go.Proofs.YthhaelnildaemaaGreatDoor
namespace Go.Proofs.YthhaelnildaemaaGreatDoor
open Go.RowKit Nx
set_option linter.unusedVariables false
set_option linter.unusedSimpArgs false
set_option maxRecDepth 100000
set_option maxHeartbeats 4000000
attribute [local go_sem] run init X.L J.L vL X.eta J.eta Q.eta List.cons_append List.nil_append brkK brkf_b brkf_t exef_some exif_some condf_b opf bodyE addR skipE stepOp stepLoad stepStore stepField stepCall stepBS stepBi stepCv stepIx lpf hdS pick forget inL mentA ment dom evs evl evp evd okeys look fillA capsOf wordsOf rowsOf lenOf convK binV shV intV unV boolT tyT tiB tiI tiW tiD tiF tiR tiU tiNum tiIv tiVal tiSc okLf okD keysOf tblO cvA cvL dnL olA olL noO noA cbL cbA orT noT one asNum asIv asVal postf_some resA tupA clA clL dropTo decide_true decide_false List.all_cons List.all_nil Bool.and_true Bool.and_self true_and and_true and_self List.length_cons List.length_nil List.drop_succ_cons List.drop_zero List.take_succ_cons List.take_zero List.getElem?_cons_zero List.getElem?_cons_succ List.map_cons List.map_nil false_implies true_implies Option.bind_some List.getElem?_toArray Bool.false_eq_true List.append_nil List.flatMap_cons List.flatMap_nil true_or or_true forall_const List.reverse_cons List.reverse_nil Option.isSome_some Option.any_some Nat.lt_irrefl not_true_eq_false Bool.not_true Bool.not_false imp_self implies_true Bool.not_eq_true' Bool.not_eq_false' Bool.true_eq_false memOf cntF nmL rnL nmA rnA isV contsOf ndB refO orO pin Int.toNat_zero decide_eq_true_eq wrap0 wrap1 ci1 ci2 BEq.rfl beq_self_eq_true Int.natCast_zero ge_iff_le gt_iff_lt Int.le_refl Nat.zero_mul Nat.one_mul Nat.zero_add Nat.zero_lt_succ Nat.lt_add_one Nat.le_refl List.append_eq gN gNN gNI gI gNNIB gNIB gV gVV gVIB gVVIB gWW gJ gJJ gJN gJJI gJI gJII gNNI gBWI gVVVV gVVVVI gVI gIJJI gJB stepB0 stepMk stepSl stepAp apY optI okO nilV slT resB outPs outLs outL dnT noE List.isEmpty_nil AV.s cond_true cond_false Bool.true_and Bool.and_false Bool.false_and Bool.or_true Bool.true_or Bool.or_false Bool.false_or
attribute [local go_sem ↓] cond_true cond_false not_cond
theorem num_ex {xs : List Nat} {k : Nat} (hk : k ≤ 900) : ∃ (q : Q) (k' : Nat), Valid q ∧ k ≤ k' ∧ k' ≤ k + 4 ∧ DCt 55 xs [] k (nA q) k' := by
  cases h0 : ((((((dk xs k : Nat) : Int)).fdiv (2 ^ min 7 64)).tmod 8) == 0)
  · cases h1 : ((((((dk xs k : Nat) : Int)).fdiv (2 ^ min 7 64)).tmod 8) == 1)
    · cases h2 : ((((((dk xs k : Nat) : Int)).fdiv (2 ^ min 7 64)).tmod 8) == 2)
      · cases h3 : ((((((dk xs k : Nat) : Int)).fdiv (2 ^ min 7 64)).tmod 8) == 3)
        · exact d_num6 xs k hk h0 h1 h2 h3
        · cases h4 : ((((((dk xs k : Nat) : Int)).fdiv (2 ^ min 11 64)).tmod 4) == 0)
          · cases h5 : ((((((dk xs k : Nat) : Int)).fdiv (2 ^ min 11 64)).tmod 4) == 1)
            · exact d_num5 xs k hk h0 h1 h2 h3 h4 h5
            · exact d_num4 xs k hk h0 h1 h2 h3 h4 h5
          · exact d_num3 xs k hk h0 h1 h2 h3 h4
      · exact d_num2 xs k hk h0 h1 h2
    · exact d_num1 xs k hk h0 h1
  · exact d_num0 xs k hk h0
open Classical in
noncomputable def numD (xs : List Nat) (k : Nat) : Q × Nat := if h : k ≤ 900 then ((num_ex (xs := xs) h).choose, (num_ex (xs := xs) h).choose_spec.choose) else (q0, k)
theorem numD_spec {xs : List Nat} {k : Nat} (h : k ≤ 900) : Valid (numD xs k).1 ∧ k ≤ (numD xs k).2 ∧ (numD xs k).2 ≤ k + 4 ∧ DCt 55 xs [] k (nA (numD xs k).1) (numD xs k).2 := by
  have := (num_ex (xs := xs) h).choose_spec.choose_spec
  unfold numD
  rw [dif_pos h]; exact this
def btwJ (x y : X) : J := bif decide (cmpx x y > 0) then ⟨y, x⟩ else ⟨x, y⟩
theorem s_between (x x1 : X) : Ct Tryz.prog 56 [.v true x.L, .v true x1.L] (· = jA (btwJ x x1)) := by
  refine ct_of (O := tblO (Tref_CmpNum)) (by kernel_rfl) tyT_ok (fun w => tblO_ok (Tref_CmpNum_ok) _ w) [] 2000 15 [.cell 4 40] Tryz.func56 rfl Tryz.ntmps56 (by rw [Tryz.results56]) (by simp) rfl (fun hsm => ?_)
  simp (maxSteps := 10000000) only [go_sem, ↓reduceIte, Nat.reduceMul, Nat.reduceDiv, Nat.reduceAdd, Nat.reduceEqDiff, Nat.reduceLeDiff, Nat.reduceLT, reduceCtorEq, Int.reduceNeg, Tref_CmpNum, Int.reduceLT, Int.reduceLE, Int.reduceAdd, Int.reduceToNat, Nat.reduceBEq, Int.reduceMul, Int.reduceSub, Nat.reduceSub, gC, gCC, asSc, SX.L, SX.eta]
  repeat' first | (with_reducible apply And.intro) | (with_reducible apply condP <;> intro _)
  all_goals first | (show chk _ _ = true; kernel_rfl) | assumption | (simp only [go_sem, *, btwJ] <;> rfl) | rfl | (exfalso; simp_all only [Bool.true_eq_false, Bool.false_eq_true, reduceCtorEq]; done)
noncomputable def Tseat_Between : Tbl := one 56 (gNN fun x x1 => (True, jA (btwJ x x1)))
theorem Tseat_Between_ok : TbOK Tryz.prog Tseat_Between := one_ok (ent Tryz.func56 (by kernel_rfl) rfl) fun args e h hp => by obtain ⟨x, x1, rfl, rfl⟩ := gNN_eq h; exact s_between x x1
def GX (x : X) : Prop := x.ok = true ∧ Small B64 x.xs
def Good (j : J) : Prop := okJ j = true ∧ GJ j
theorem gx_q {q : Q} (h : Valid q) : GX (qx q) := ⟨(qx_ok h).1, (qx_ok h).2.1⟩
theorem okJ_of {x y : X} (hx : x.ok = true) (hy : y.ok = true) (h : x.v ≤ y.v) : okJ ⟨x, y⟩ = true := by
  unfold okJ
  show (x.ok && y.ok && decide (cmpx x y ≤ 0)) = true
  rw [hx, hy, decide_eq_true ((cmpx_le hx hy).2 h)]; rfl
theorem btw_good {x y : X} (hx : GX x) (hy : GX y) : Good (btwJ x y) := by
  unfold btwJ
  by_cases hc : cmpx x y > 0
  · rw [decide_eq_true hc]
    exact ⟨okJ_of hy.1 hx.1 (Int.le_of_lt ((cmpx_gt hx.1 hy.1).1 hc)), hy.2, hx.2⟩
  · rw [decide_eq_false hc]
    have : ¬ _ := fun g => hc ((cmpx_gt hx.1 hy.1).2 g)
    exact ⟨okJ_of hx.1 hy.1 (by omega), hx.2, hy.2⟩
theorem pt_good {x : X} (hx : GX x) : Good ⟨x, x⟩ := ⟨okJ_of hx.1 hx.1 (Int.le_refl _), hx.2, hx.2⟩
theorem abs_gx {x : X} (h : GX x) : GX (qx (absx x)) ∧ 0 ≤ (qx (absx x)).v := by
  have hv := ok_arg h.1 h.2
  rw [absx_ok h.1 h.2]
  exact ⟨gx_q (abs_valid hv), by rw [abs_nat hv]; exact Int.natCast_nonneg _⟩
theorem neg_gx {x : X} (h : GX x) : GX (qx (negx x)) ∧ (qx (negx x)).v = -x.v := by
  have hv := ok_arg h.1 h.2
  have e : negx x = x.q.neg := by
    unfold negx anssign
    have h1 := h.1
    unfold X.ok at h1
    rw [if_pos h1]; rfl
  rw [e]
  exact ⟨gx_q (neg_valid hv), (nX_ok h.1 h.2).2.2⟩
theorem sym_good {x y : X} (hx : GX x) (hy : GX y) : Good ⟨qx (negx (qx (absx x))), qx (absx y)⟩ := by
  obtain ⟨a1, a2⟩ := abs_gx hx
  obtain ⟨b1, b2⟩ := abs_gx hy
  obtain ⟨c1, c2⟩ := neg_gx a1
  exact ⟨okJ_of c1.1 b1.1 (by rw [c2]; omega), c1.2, b1.2⟩
theorem d_iv0 (xs : List Nat) (k : Nat)  (hk : k ≤ 800) (h0 : (((dk xs k % 6 : Nat) : Int) == 0) = true) : DCt 18 xs [] k (jA ⟨qx (numD xs (k + 1)).1, qx (numD xs (k + 1)).1⟩) ((numD xs (k + 1)).2) := by
  refine dct_of (O := fun A n c => orO (dkO 49 A n c (rKI fun k z => (k ≤ 1000 ∧ 0 < z ∧ z ≤ 1000, iA ((dk xs k % z.toNat : Nat) : Int), k + 1))) (orO (dkO 55 A n c (rK fun k => (k ≤ 900, nA (numD xs k).1, (numD xs k).2))) (orO (dkO 57 A n c (rK fun k => (Small B64 xs ∧ k ≤ 900, nA (smallD xs k), k + 1))) (tblO (orT Tref_Point (orT Tseat_Between (orT Tref_Abs (Tref_Minus)))))))) (by kernel_rfl) tyT_ok (fun A n c F w hA hn => only_or dkO_only (dkO_ok (xs := xs) (ent Tryz.func49 (by kernel_rfl) rfl) (rKI_ok fun k z hp => dn_dct hp) hA hn) (only_or dkO_only (dkO_ok (xs := xs) (ent Tryz.func55 (by kernel_rfl) rfl) (rK_ok fun k hp => (numD_spec hp).2.2.2) hA hn) (only_or dkO_only (dkO_ok (xs := xs) (ent Tryz.func57 (by kernel_rfl) rfl) (rK_ok fun k hp => smallD_dct hp) hA hn) (tblO_ok (orT_ok Tref_Point_ok (orT_ok Tseat_Between_ok (orT_ok Tref_Abs_ok (Tref_Minus_ok)))) _ _) (fun d st args => by simp [orO, dkO, tblO, orT, noT, one, Tref_Point, Tseat_Between, Tref_Abs, Tref_Minus])) (fun d st args => by simp [orO, dkO, tblO, orT, noT, one, Tref_Point, Tseat_Between, Tref_Abs, Tref_Minus])) (fun d st args => by simp [orO, dkO, tblO, orT, noT, one, Tref_Point, Tseat_Between, Tref_Abs, Tref_Minus])) [] 1000 32 [.cell 2 40] Tryz.func18 rfl Tryz.ntmps18 (by decide) (by rw [Tryz.results18]) (by simp) rfl (fun A n c hsm hs => ?_)
  have s1 := numD_spec (xs := xs) (k := k + 1) (by omega)
  have s2 := numD_spec (xs := xs) (k := (numD xs (k + 1)).2) (by omega)
  have u1 := s1.2.1
  have u2 := s1.2.2.1
  have u3 := s2.2.1
  have u4 := s2.2.2.1
  simp (maxSteps := 10000000) only [go_sem, ↓reduceIte, Nat.reduceMul, Nat.reduceDiv, Nat.reduceAdd, Nat.reduceEqDiff, Nat.reduceLeDiff, Nat.reduceLT, reduceCtorEq, Int.reduceNeg, Tref_Point, Tseat_Between, Tref_Abs, Tref_Minus, Int.reduceLT, Int.reduceLE, Int.reduceAdd, Int.reduceToNat, Nat.reduceBEq, Int.reduceMul, Int.reduceSub, Nat.reduceSub, gC, gCC, asSc, SX.L, SX.eta, Int.reduceEq, ub, wrap2, bits_in, wrap_in, Bool.not_eq_true, dkO, dpf_some, rK, rKI, rKJ, Int.toNat_natCast, Int.natCast_nonneg, dk0, h0]
  repeat' first | (with_reducible apply And.intro) | (with_reducible apply condP <;> intro _)
  all_goals first | (show chk _ _ = true; kernel_rfl) | assumption | omega | (simp only [go_sem, *] <;> rfl) | rfl | (exfalso; simp_all only [Bool.true_eq_false, Bool.false_eq_true, reduceCtorEq]; done)
theorem d_iv1 (xs : List Nat) (k : Nat)  (hk : k ≤ 800) (h0 : (((dk xs k % 6 : Nat) : Int) == 0) = false) (h1 : (((dk xs k % 6 : Nat) : Int) == 1) = true) : DCt 18 xs [] k (jA (btwJ (qx (smallD xs (k + 1))) (qx (smallD xs (k + 1 + 1))))) (k + 1 + 1 + 1) := by
  refine dct_of (O := fun A n c => orO (dkO 49 A n c (rKI fun k z => (k ≤ 1000 ∧ 0 < z ∧ z ≤ 1000, iA ((dk xs k % z.toNat : Nat) : Int), k + 1))) (orO (dkO 55 A n c (rK fun k => (k ≤ 900, nA (numD xs k).1, (numD xs k).2))) (orO (dkO 57 A n c (rK fun k => (Small B64 xs ∧ k ≤ 900, nA (smallD xs k), k + 1))) (tblO (orT Tref_Point (orT Tseat_Between (orT Tref_Abs (Tref_Minus)))))))) (by kernel_rfl) tyT_ok (fun A n c F w hA hn => only_or dkO_only (dkO_ok (xs := xs) (ent Tryz.func49 (by kernel_rfl) rfl) (rKI_ok fun k z hp => dn_dct hp) hA hn) (only_or dkO_only (dkO_ok (xs := xs) (ent Tryz.func55 (by kernel_rfl) rfl) (rK_ok fun k hp => (numD_spec hp).2.2.2) hA hn) (only_or dkO_only (dkO_ok (xs := xs) (ent Tryz.func57 (by kernel_rfl) rfl) (rK_ok fun k hp => smallD_dct hp) hA hn) (tblO_ok (orT_ok Tref_Point_ok (orT_ok Tseat_Between_ok (orT_ok Tref_Abs_ok (Tref_Minus_ok)))) _ _) (fun d st args => by simp [orO, dkO, tblO, orT, noT, one, Tref_Point, Tseat_Between, Tref_Abs, Tref_Minus])) (fun d st args => by simp [orO, dkO, tblO, orT, noT, one, Tref_Point, Tseat_Between, Tref_Abs, Tref_Minus])) (fun d st args => by simp [orO, dkO, tblO, orT, noT, one, Tref_Point, Tseat_Between, Tref_Abs, Tref_Minus])) [] 1000 32 [.cell 2 40] Tryz.func18 rfl Tryz.ntmps18 (by decide) (by rw [Tryz.results18]) (by simp) rfl (fun A n c hsm hs => ?_)
  have s1 := numD_spec (xs := xs) (k := k + 1) (by omega)
  have s2 := numD_spec (xs := xs) (k := (numD xs (k + 1)).2) (by omega)
  have u1 := s1.2.1
  have u2 := s1.2.2.1
  have u3 := s2.2.1
  have u4 := s2.2.2.1
  simp (maxSteps := 10000000) only [go_sem, ↓reduceIte, Nat.reduceMul, Nat.reduceDiv, Nat.reduceAdd, Nat.reduceEqDiff, Nat.reduceLeDiff, Nat.reduceLT, reduceCtorEq, Int.reduceNeg, Tref_Point, Tseat_Between, Tref_Abs, Tref_Minus, Int.reduceLT, Int.reduceLE, Int.reduceAdd, Int.reduceToNat, Nat.reduceBEq, Int.reduceMul, Int.reduceSub, Nat.reduceSub, gC, gCC, asSc, SX.L, SX.eta, Int.reduceEq, ub, wrap2, bits_in, wrap_in, Bool.not_eq_true, dkO, dpf_some, rK, rKI, rKJ, Int.toNat_natCast, Int.natCast_nonneg, dk0, h0, h1]
  repeat' first | (with_reducible apply And.intro) | (with_reducible apply condP <;> intro _)
  all_goals first | (show chk _ _ = true; kernel_rfl) | assumption | omega | (simp only [go_sem, *] <;> rfl) | rfl | (exfalso; simp_all only [Bool.true_eq_false, Bool.false_eq_true, reduceCtorEq]; done)
theorem d_iv2 (xs : List Nat) (k : Nat)  (hk : k ≤ 800) (h0 : (((dk xs k % 6 : Nat) : Int) == 0) = false) (h1 : (((dk xs k % 6 : Nat) : Int) == 1) = false) (h2 : (((dk xs k % 6 : Nat) : Int) == 2) = true) : DCt 18 xs [] k (jA ⟨qx (negx (qx (absx (qx (numD xs (k + 1)).1)))), qx (absx (qx (numD xs (numD xs (k + 1)).2).1))⟩) ((numD xs (numD xs (k + 1)).2).2) := by
  refine dct_of (O := fun A n c => orO (dkO 49 A n c (rKI fun k z => (k ≤ 1000 ∧ 0 < z ∧ z ≤ 1000, iA ((dk xs k % z.toNat : Nat) : Int), k + 1))) (orO (dkO 55 A n c (rK fun k => (k ≤ 900, nA (numD xs k).1, (numD xs k).2))) (orO (dkO 57 A n c (rK fun k => (Small B64 xs ∧ k ≤ 900, nA (smallD xs k), k + 1))) (tblO (orT Tref_Point (orT Tseat_Between (orT Tref_Abs (Tref_Minus)))))))) (by kernel_rfl) tyT_ok (fun A n c F w hA hn => only_or dkO_only (dkO_ok (xs := xs) (ent Tryz.func49 (by kernel_rfl) rfl) (rKI_ok fun k z hp => dn_dct hp) hA hn) (only_or dkO_only (dkO_ok (xs := xs) (ent Tryz.func55 (by kernel_rfl) rfl) (rK_ok fun k hp => (numD_spec hp).2.2.2) hA hn) (only_or dkO_only (dkO_ok (xs := xs) (ent Tryz.func57 (by kernel_rfl) rfl) (rK_ok fun k hp => smallD_dct hp) hA hn) (tblO_ok (orT_ok Tref_Point_ok (orT_ok Tseat_Between_ok (orT_ok Tref_Abs_ok (Tref_Minus_ok)))) _ _) (fun d st args => by simp [orO, dkO, tblO, orT, noT, one, Tref_Point, Tseat_Between, Tref_Abs, Tref_Minus])) (fun d st args => by simp [orO, dkO, tblO, orT, noT, one, Tref_Point, Tseat_Between, Tref_Abs, Tref_Minus])) (fun d st args => by simp [orO, dkO, tblO, orT, noT, one, Tref_Point, Tseat_Between, Tref_Abs, Tref_Minus])) [] 1000 32 [.cell 2 40] Tryz.func18 rfl Tryz.ntmps18 (by decide) (by rw [Tryz.results18]) (by simp) rfl (fun A n c hsm hs => ?_)
  have s1 := numD_spec (xs := xs) (k := k + 1) (by omega)
  have s2 := numD_spec (xs := xs) (k := (numD xs (k + 1)).2) (by omega)
  have u1 := s1.2.1
  have u2 := s1.2.2.1
  have u3 := s2.2.1
  have u4 := s2.2.2.1
  simp (maxSteps := 10000000) only [go_sem, ↓reduceIte, Nat.reduceMul, Nat.reduceDiv, Nat.reduceAdd, Nat.reduceEqDiff, Nat.reduceLeDiff, Nat.reduceLT, reduceCtorEq, Int.reduceNeg, Tref_Point, Tseat_Between, Tref_Abs, Tref_Minus, Int.reduceLT, Int.reduceLE, Int.reduceAdd, Int.reduceToNat, Nat.reduceBEq, Int.reduceMul, Int.reduceSub, Nat.reduceSub, gC, gCC, asSc, SX.L, SX.eta, Int.reduceEq, ub, wrap2, bits_in, wrap_in, Bool.not_eq_true, dkO, dpf_some, rK, rKI, rKJ, Int.toNat_natCast, Int.natCast_nonneg, dk0, h0, h1, h2]
  repeat' first | (with_reducible apply And.intro) | (with_reducible apply condP <;> intro _)
  all_goals first | (show chk _ _ = true; kernel_rfl) | assumption | omega | (simp only [go_sem, *] <;> rfl) | rfl | (exfalso; simp_all only [Bool.true_eq_false, Bool.false_eq_true, reduceCtorEq]; done)
theorem d_iv3 (xs : List Nat) (k : Nat)  (hk : k ≤ 800) (h0 : (((dk xs k % 6 : Nat) : Int) == 0) = false) (h1 : (((dk xs k % 6 : Nat) : Int) == 1) = false) (h2 : (((dk xs k % 6 : Nat) : Int) == 2) = false) : DCt 18 xs [] k (jA (btwJ (qx (numD xs (k + 1)).1) (qx (numD xs (numD xs (k + 1)).2).1))) ((numD xs (numD xs (k + 1)).2).2) := by
  refine dct_of (O := fun A n c => orO (dkO 49 A n c (rKI fun k z => (k ≤ 1000 ∧ 0 < z ∧ z ≤ 1000, iA ((dk xs k % z.toNat : Nat) : Int), k + 1))) (orO (dkO 55 A n c (rK fun k => (k ≤ 900, nA (numD xs k).1, (numD xs k).2))) (orO (dkO 57 A n c (rK fun k => (Small B64 xs ∧ k ≤ 900, nA (smallD xs k), k + 1))) (tblO (orT Tref_Point (orT Tseat_Between (orT Tref_Abs (Tref_Minus)))))))) (by kernel_rfl) tyT_ok (fun A n c F w hA hn => only_or dkO_only (dkO_ok (xs := xs) (ent Tryz.func49 (by kernel_rfl) rfl) (rKI_ok fun k z hp => dn_dct hp) hA hn) (only_or dkO_only (dkO_ok (xs := xs) (ent Tryz.func55 (by kernel_rfl) rfl) (rK_ok fun k hp => (numD_spec hp).2.2.2) hA hn) (only_or dkO_only (dkO_ok (xs := xs) (ent Tryz.func57 (by kernel_rfl) rfl) (rK_ok fun k hp => smallD_dct hp) hA hn) (tblO_ok (orT_ok Tref_Point_ok (orT_ok Tseat_Between_ok (orT_ok Tref_Abs_ok (Tref_Minus_ok)))) _ _) (fun d st args => by simp [orO, dkO, tblO, orT, noT, one, Tref_Point, Tseat_Between, Tref_Abs, Tref_Minus])) (fun d st args => by simp [orO, dkO, tblO, orT, noT, one, Tref_Point, Tseat_Between, Tref_Abs, Tref_Minus])) (fun d st args => by simp [orO, dkO, tblO, orT, noT, one, Tref_Point, Tseat_Between, Tref_Abs, Tref_Minus])) [] 1000 32 [.cell 2 40] Tryz.func18 rfl Tryz.ntmps18 (by decide) (by rw [Tryz.results18]) (by simp) rfl (fun A n c hsm hs => ?_)
  have s1 := numD_spec (xs := xs) (k := k + 1) (by omega)
  have s2 := numD_spec (xs := xs) (k := (numD xs (k + 1)).2) (by omega)
  have u1 := s1.2.1
  have u2 := s1.2.2.1
  have u3 := s2.2.1
  have u4 := s2.2.2.1
  simp (maxSteps := 10000000) only [go_sem, ↓reduceIte, Nat.reduceMul, Nat.reduceDiv, Nat.reduceAdd, Nat.reduceEqDiff, Nat.reduceLeDiff, Nat.reduceLT, reduceCtorEq, Int.reduceNeg, Tref_Point, Tseat_Between, Tref_Abs, Tref_Minus, Int.reduceLT, Int.reduceLE, Int.reduceAdd, Int.reduceToNat, Nat.reduceBEq, Int.reduceMul, Int.reduceSub, Nat.reduceSub, gC, gCC, asSc, SX.L, SX.eta, Int.reduceEq, ub, wrap2, bits_in, wrap_in, Bool.not_eq_true, dkO, dpf_some, rK, rKI, rKJ, Int.toNat_natCast, Int.natCast_nonneg, dk0, h0, h1, h2]
  repeat' first | (with_reducible apply And.intro) | (with_reducible apply condP <;> intro _)
  all_goals first | (show chk _ _ = true; kernel_rfl) | assumption | omega | (simp only [go_sem, *] <;> rfl) | rfl | (exfalso; simp_all only [Bool.true_eq_false, Bool.false_eq_true, reduceCtorEq]; done)
theorem iv_ex {xs : List Nat} {k : Nat} (hk : k ≤ 800) : ∃ (j : J) (k' : Nat), Good j ∧ k ≤ k' ∧ k' ≤ k + 9 ∧ DCt 18 xs [] k (jA j) k' := by
  have s1 := numD_spec (xs := xs) (k := k + 1) (by omega)
  have s2 := numD_spec (xs := xs) (k := (numD xs (k + 1)).2) (by omega)
  have u1 := s1.2.1
  have u2 := s1.2.2.1
  have u3 := s2.2.1
  have u4 := s2.2.2.1
  have g1 := gx_q s1.1
  have g2 := gx_q s2.1
  have f := fun k => gx_q (smallD_few xs k).valid
  cases h0 : (((dk xs k % 6 : Nat) : Int) == 0)
  · cases h1 : (((dk xs k % 6 : Nat) : Int) == 1)
    · cases h2 : (((dk xs k % 6 : Nat) : Int) == 2)
      · exact ⟨_, _, btw_good g1 g2, by omega, by omega, d_iv3 xs k hk h0 h1 h2⟩
      · exact ⟨_, _, sym_good g1 g2, by omega, by omega, d_iv2 xs k hk h0 h1 h2⟩
    · exact ⟨_, _, btw_good (f _) (f _), by omega, by omega, d_iv1 xs k hk h0 h1⟩
  · exact ⟨_, _, pt_good g1, by omega, by omega, d_iv0 xs k hk h0⟩
open Classical in
noncomputable def ivD (xs : List Nat) (k : Nat) : J × Nat := if h : k ≤ 800 then ((iv_ex (xs := xs) h).choose, (iv_ex (xs := xs) h).choose_spec.choose) else (zJ, k)
theorem ivD_spec {xs : List Nat} {k : Nat} (h : k ≤ 800) : Good (ivD xs k).1 ∧ k ≤ (ivD xs k).2 ∧ (ivD xs k).2 ≤ k + 9 ∧ DCt 18 xs [] k (jA (ivD xs k).1) (ivD xs k).2 := by
  have := (iv_ex (xs := xs) h).choose_spec.choose_spec
  unfold ivD
  rw [dif_pos h]; exact this
end Go.Proofs.YthhaelnildaemaaGreatDoor
