/- BoxHolds. -/
import Derived.Test.YthhaelnildaemaaGreatDoorRAlV
import Derived.Test.YthhaelnildaemaaGreatDoorRAlR
import Derived.Test.YthhaelnildaemaaGreatDoorRAl8
import Derived.Test.YthhaelnildaemaaGreatDoorRAkQ
namespace Go.Proofs.YthhaelnildaemaaGreatDoor
open Go.RowKit Nx
set_option linter.unusedVariables false
set_option linter.unusedSimpArgs false
set_option maxRecDepth 100000
set_option maxHeartbeats 4000000
attribute [local go_sem] run init X.L J.L vL X.eta J.eta Q.eta List.cons_append List.nil_append brkK brkf_b brkf_t exef_some exif_some condf_b opf bodyE addR skipE stepOp stepLoad stepStore stepField stepCall stepBS stepBi stepCv stepIx lpf hdS pick forget inL mentA ment dom evs evl evp evd okeys look fillA capsOf wordsOf rowsOf lenOf convK binV shV intV unV boolT tyT tiB tiI tiW tiD tiF tiR tiU tiNum tiIv tiVal tiSc okLf okD keysOf tblO cvA cvL dnL olA olL noO noA cbL cbA orT noT one asNum asIv asVal postf_some resA tupA clA clL dropTo decide_true decide_false List.all_cons List.all_nil Bool.and_true Bool.and_self true_and and_true and_self List.length_cons List.length_nil List.drop_succ_cons List.drop_zero List.take_succ_cons List.take_zero List.getElem?_cons_zero List.getElem?_cons_succ List.map_cons List.map_nil false_implies true_implies Option.bind_some List.getElem?_toArray Bool.false_eq_true List.append_nil List.flatMap_cons List.flatMap_nil true_or or_true forall_const List.reverse_cons List.reverse_nil Option.isSome_some Option.any_some Nat.lt_irrefl not_true_eq_false Bool.not_true Bool.not_false imp_self implies_true Bool.not_eq_true' Bool.not_eq_false' Bool.true_eq_false memOf cntF nmL rnL nmA rnA isV contsOf ndB refO orO pin Int.toNat_zero decide_eq_true_eq wrap0 wrap1 ci1 ci2 BEq.rfl beq_self_eq_true Int.natCast_zero ge_iff_le gt_iff_lt Int.le_refl Nat.zero_mul Nat.one_mul Nat.zero_add Nat.zero_lt_succ Nat.lt_add_one Nat.le_refl List.append_eq dkO dpf_some rK rKI rKJ Int.toNat_natCast dk0 gN gNN gNI gI gNNIB gNIB gJ gJJ gJN gJJI gJI stepB0 stepMk stepSl stepAp apY optI okO nilV slT resB outPs outLs outL dnT noE boxL_nil boxL_cons ptsL_nil ptsL_cons bxe pxe bne_self_eq_false wr2 wr3 wr4 wr5 wr6 wr7 wr8 gB gP gBB gBP gBZ gBBZ asB asP nilB asJs asXs wsOf bC_nil bC_cons pC_nil pC_cons fvO Lc.up tyB tiS tiBB List.replicate_succ List.replicate_zero List.flatten_cons List.flatten_nil Int.ofNat_lt Int.cast_ofNat_Int Int.ofNat_eq_natCast List.isEmpty_nil List.isEmpty_cons and_false false_and List.cons_ne_nil Nat.add_zero ite_true ite_false if_true if_false Nat.le_zero_eq eq_self Bool.and_false Bool.false_and Bool.true_and AV.s cond_true cond_false Bool.or_true Bool.true_or Bool.or_false Bool.false_or
attribute [local go_sem ↓] cond_true cond_false not_cond outL_box outL_pts clL_box clL_pts okL_box okL_pts ment_box ment_pts olL_box olL_pts cvL_box cvL_pts noO_box noO_pts asB_box asP_pts len_box len_pts cb_box cb_pts
attribute [local irreducible] chk
theorem fewj8 {j : J} (h : FewJ j) : BdJ 132 j := ⟨(fewj_bd h).1.mono (by omega), (fewj_bd h).2.mono (by omega)⟩
theorem blow_has {j : J} {z : Int} (hg : Good j) (hf : FewJ j) (hz : prl z = true) : ∃ s, blowJ j z = (s, 0) ∧ inJ j s = true := by
  obtain ⟨b1, b2⟩ := fewj_bd hf
  obtain ⟨N, hN⟩ : ∃ N : Nat, N = 400 := ⟨_, rfl⟩
  obtain ⟨a1, a2, a3⟩ := okJ_parts hg.1
  have hle := (cmpx_le a1 a2).1 a3
  have hp : 1 ≤ z.toNat := by have := (prl_two hz).1; omega
  have hp2 : z.toNat ≤ 256 := (prl_two hz).2
  have hwv : Valid (rnd z.toNat true (minus j.hi.q j.lo.q)) := val_rnd hz (bd_minus b2 b1) (by omega)
  have hwb := bd_rnd (p := z.toNat) (up := true) (bd_minus b2 b1)
  have hw : (rwide j z) = (rnd z.toNat true (minus j.hi.q j.lo.q), 0) := by
    unfold rwide
    rw [hg.1, prl_prb, hz]
    simp only [Bool.not_true, Bool.or_self, cond_false]
    exact res_ok hwv.2
  obtain ⟨_, hw2⟩ := (wide_facts hg hz).2 (by rw [hw])
  rw [hw] at hw2
  have hw2 : j.hi.v - j.lo.v ≤ (rnd z.toNat true (minus j.hi.q j.lo.q)).at 65536 := hw2
  generalize rnd z.toNat true (minus j.hi.q j.lo.q) = W at hwv hwb hw hw2
  have hsb : Bd N (scale W (-2)) := by
    unfold scale
    split
    · exact ⟨Nat.two_pow_pos _, by show -((N : Nat) : Int) ≤ 0; omega, by show (0 : Int) ≤ ((N : Nat) : Int); omega⟩
    · exact ⟨Nat.lt_of_lt_of_le hwb.1 (Nat.pow_le_pow_right (by omega) (by omega)), by have := hwb.2.1; show -((N : Nat) : Int) ≤ W.e + -2; omega, by have := hwb.2.2; show W.e + -2 ≤ ((N : Nat) : Int); omega⟩
  have hsv : Valid (scale W (-2)) := ⟨scale_canon hwv.1 _, hsb.fits (by omega)⟩
  have hs0 : 0 ≤ (scale W (-2)).at 65536 := by
    have h3 := scale_at (E := 65536) W 2
    have h4 := at_more (F := 2) (show -((65536 : Nat) : Int) ≤ (scale W (-2)).e from hsv.2.2.1)
    have h3 : (scale W (-2)).at (65536 + 2) = W.at 65536 := h3
    rw [h4] at h3
    omega
  rw [blow_same hg z]
  obtain ⟨o1, o2, o3⟩ := qx_ok hwv
  unfold rblowJ
  rw [hw]
  simp only [scalex_ok o1 o2, o3, res_ok hsv.2, bne_self_eq_false, cond_false]
  generalize scale W (-2) = s at hsb hsv hs0
  obtain ⟨s1, s2, s3⟩ := qx_ok hsv
  rw [rtwo_ok a1 s1 hz, rtwo_ok a2 s1 hz, gk_0, gk_1, s3]
  unfold gadd gsub
  have c1 := b1.mono (show 8 ≤ N by omega)
  have c2 := b2.mono (show 8 ≤ N by omega)
  have v1 : Valid (rnd z.toNat false (minus j.lo.q s)) := val_rnd hz (bd_minus c1 hsb) (by omega)
  have v2 : Valid (rnd z.toNat true (plus j.hi.q s)) := val_rnd hz (bd_plus c2 hsb) (by omega)
  rw [res_ok v1.2, res_ok v2.2]
  simp only [bne_self_eq_false, cond_false]
  have e1 := ok_e a1
  have e2 := ok_e a2
  have es : -((65536 : Nat) : Int) ≤ s.e := hsv.2.2.1
  have l1 := low_minus (E := 65536) (a := j.lo.q) hsv.1 e1 es
  have l2 := low_plus (E := 65536) e2 es
  have t1 : (minus j.lo.q s).at 65536 ≤ j.lo.q.at 65536 := by rw [at_minus hsv.1 e1 es]; omega
  have t2 : j.hi.q.at 65536 ≤ (plus j.hi.q s).at 65536 := by rw [at_plus e2 es]; omega
  have k0 : cmpq j.lo.q j.hi.q ≤ 0 := (cmp_le (E := 65536) e1 e2).2 hle
  have k1 := out_has (p := z.toNat) l1 e1 t1
  have k2 := out_has' (p := z.toNat) l2 e2 t2
  have k3 := out_ok (p := z.toNat) hp l1 l2 (Int.le_trans t1 (Int.le_trans hle t2))
  refine ⟨_, rfl, ?_⟩
  have := ends_in v1 v2 (ok_arg a1 hg.2.lo) (ok_arg a2 hg.2.hi) k1 k2 k0 k3
  rw [qx_q a1 hg.2.lo, qx_q a2 hg.2.hi] at this
  exact this
theorem inJ_r {a b : J} (h : inJ a b = true) : okJ b = true := by
  unfold inJ at h
  simp only [Bool.and_eq_true] at h
  exact h.1.1.2
theorem bothB_go {φ : J → J → J × Int} {l m : List J} (h1 : rightB l = true) (h2 : rightB m = true) (h : l.length = m.length) : bothB φ l m = zipB φ l m := by
  unfold bothB
  rw [h1, h2, decide_eq_true h]; rfl
theorem v_bh0 (xs : List Nat) (A : Option Addr) (n c : Nat) (hd : ((dk xs 0 % 4 : Nat) : Int) = 0) : LC6 6 A n c xs [.s (.lit (.slice A n c))] := by
  refine lc6_of (O := orO ofO (orO (dkO 12 A n c (rK fun k => (k ≤ 900 ∧ ((dk xs k % 4 : Nat) : Int) = 0, iA 1, k + 1))) (orO (dkO 21 A n c (rKI fun k z => (k ≤ 700 ∧ 0 < z ∧ z ≤ 4, .s (boxL (sivsD xs z.toNat k).1), (sivsD xs z.toNat k).2))) (orO (dkO 22 A n c (rK fun k => (k ≤ 800, jA (sivD xs k).1, (sivD xs k).2))) (orO (dkO 19 A n c (rK fun k => (k ≤ 900, iA (precD xs k).1, (precD xs k).2))) (orO (dkO 14 A n c (rKB fun k l => (Goods l ∧ 1 ≤ l.length ∧ l.length ≤ 4 ∧ k ≤ 700, .s (ptsL (pD xs l k)), k + 1 * l.length))) (orO (dkO 27 A n c (rKJ fun k j => (Good j ∧ k ≤ 900, xA (inD xs j k), k + 1))) (tblO (orT Tlaw6_known (orT Tbox_Add (orT Tbox_Sub (orT Tbox_Times (orT Tbox_Blow (orT Tbox_In (orT Tnum_Add (orT Tnum_Sub (orT Tnum_Mul Tiv_Has))))))))))))))))) (by kernel_rfl) tyB_ok (fun w hA hn => only_or ofO_only (ofO_ok _ _) (only_or dkO_only (dkO_ok (xs := xs) (ent Tryz.func12 (by kernel_rfl) rfl) (rK_ok fun k hp => d_dim0 xs k hp.1 hp.2) hA hn) (only_or dkO_only (dkO_ok (xs := xs) (ent Tryz.func21 (by kernel_rfl) rfl) (rKI_ok fun k z hp => d_smallbox hp) hA hn) (only_or dkO_only (dkO_ok (xs := xs) (ent Tryz.func22 (by kernel_rfl) rfl) (rK_ok fun k hp => (sivD_spec hp).2.2.2) hA hn) (only_or dkO_only (dkO_ok (xs := xs) (ent Tryz.func19 (by kernel_rfl) rfl) (rK_ok fun k hp => (precD_spec hp).2.2.2) hA hn) (only_or dkO_only (dkO_ok (xs := xs) (ent Tryz.func14 (by kernel_rfl) rfl) (rKB_ok fun k l hp => d_inbox hp) hA hn) (only_or dkO_only (dkO_ok (xs := xs) (ent Tryz.func27 (by kernel_rfl) rfl) (rKJ_ok fun k j hp => (inD_spec hp.1 hp.2).2.1) hA hn) (tblO_ok (orT_ok Tlaw6_known_ok (orT_ok Tbox_Add_ok (orT_ok Tbox_Sub_ok (orT_ok Tbox_Times_ok (orT_ok Tbox_Blow_ok (orT_ok Tbox_In_ok (orT_ok Tnum_Add_ok (orT_ok Tnum_Sub_ok (orT_ok Tnum_Mul_ok Tiv_Has_ok))))))))) _ w) (fun d st args => by simp [orO, refO, dkO, ofO, tblO, orT, noT, one, Tlaw6_known, Tbox_Add, Tbox_Sub, Tbox_Times, Tbox_Blow, Tbox_In, Tnum_Add, Tnum_Sub, Tnum_Mul, Tiv_Has])) (fun d st args => by simp [orO, refO, dkO, ofO, tblO, orT, noT, one, Tlaw6_known, Tbox_Add, Tbox_Sub, Tbox_Times, Tbox_Blow, Tbox_In, Tnum_Add, Tnum_Sub, Tnum_Mul, Tiv_Has])) (fun d st args => by simp [orO, refO, dkO, ofO, tblO, orT, noT, one, Tlaw6_known, Tbox_Add, Tbox_Sub, Tbox_Times, Tbox_Blow, Tbox_In, Tnum_Add, Tnum_Sub, Tnum_Mul, Tiv_Has])) (fun d st args => by simp [orO, refO, dkO, ofO, tblO, orT, noT, one, Tlaw6_known, Tbox_Add, Tbox_Sub, Tbox_Times, Tbox_Blow, Tbox_In, Tnum_Add, Tnum_Sub, Tnum_Mul, Tiv_Has])) (fun d st args => by simp [orO, refO, dkO, ofO, tblO, orT, noT, one, Tlaw6_known, Tbox_Add, Tbox_Sub, Tbox_Times, Tbox_Blow, Tbox_In, Tnum_Add, Tnum_Sub, Tnum_Mul, Tiv_Has])) (fun d st args => by simp [orO, refO, dkO, ofO, tblO, orT, noT, one, Tlaw6_known, Tbox_Add, Tbox_Sub, Tbox_Times, Tbox_Blow, Tbox_In, Tnum_Add, Tnum_Sub, Tnum_Mul, Tiv_Has])) (fun d st args => by simp [orO, refO, dkO, ofO, tblO, orT, noT, one, Tlaw6_known, Tbox_Add, Tbox_Sub, Tbox_Times, Tbox_Blow, Tbox_In, Tnum_Add, Tnum_Sub, Tnum_Mul, Tiv_Has])) [42, 43, 46, 47, 50, 51] 4000 192 [.tmp 2] Tryz.func6 rfl Tryz.ntmps6 (by rw [Tryz.results6]) (by simp) rfl (fun hsm hs => ?_)
  obtain ⟨l1, g1, u1, w1⟩ := sivsD_spec (xs := xs) (n := 1) (k := 1) (by omega)
  generalize hp1 : sivsD xs 1 1 = p1 at l1 g1 u1 w1
  obtain ⟨q1, k1⟩ := p1
  have l1 : q1.length = 1 := l1
  have w1 : k1 ≤ 1 + 3 * 1 := w1
  replace g1 : ∀ j ∈ q1, Good j ∧ FewJ j := g1
  obtain ⟨aa, rfl⟩ := len1 l1
  obtain ⟨l2, g2, u2, w2⟩ := sivsD_spec (xs := xs) (n := 1) (k := k1) (by omega)
  generalize hp2 : sivsD xs 1 k1 = p2 at l2 g2 u2 w2
  obtain ⟨q2, k2⟩ := p2
  have l2 : q2.length = 1 := l2
  have w2 : k2 ≤ k1 + 3 * 1 := w2
  replace g2 : ∀ j ∈ q2, Good j ∧ FewJ j := g2
  obtain ⟨ba, rfl⟩ := len1 l2
  obtain ⟨⟨g3, f3⟩, u3, w3, _⟩ := sivD_spec (xs := xs) (k := k2) (by omega)
  generalize hp3 : sivD xs k2 = p3 at g3 f3 u3 w3
  obtain ⟨x, k3⟩ := p3
  have g3 : Good x := g3
  have f3 : FewJ x := f3
  have w3 : k3 ≤ k2 + 3 := w3
  obtain ⟨hz, u4, w4, _⟩ := precD_spec (xs := xs) (k := k3) (by omega)
  generalize hp4 : precD xs k3 = p4 at hz u4 w4
  obtain ⟨z, k4⟩ := p4
  have hz : prl z = true := hz
  have w4 : k4 ≤ k3 + 2 := w4
  obtain ⟨⟨gk, hk⟩, _, bk⟩ := inD_spec (xs := xs) (j := x) (k := k4 + 1 + 1) g3 (by omega)
  replace bk := bk f3
  generalize hvk : inD xs x (k4 + 1 + 1) = vk at gk hk bk
  obtain ⟨Gaa, Faa⟩ := g1 aa (by simp)
  obtain ⟨Gba, Fba⟩ := g2 ba (by simp)
  obtain ⟨⟨gva, hva⟩, _, bva⟩ := inD_spec (xs := xs) (j := aa) (k := k4) Gaa (by omega)
  replace bva := bva Faa
  generalize iva : inD xs aa (k4) = va at gva hva bva
  obtain ⟨⟨gwa, hwa⟩, _, bwa⟩ := inD_spec (xs := xs) (j := ba) (k := k4 + 1) Gba (by omega)
  replace bwa := bwa Fba
  generalize iwa : inD xs ba (k4 + 1) = wva at gwa hwa bwa
  obtain ⟨⟨sa, eaa, haa⟩, qaa⟩ := hold_add (k := 132) Gaa Gba hz (fewj8 Faa) (fewj8 Fba) (by omega) gva gwa hva hwa bva bwa
  obtain ⟨⟨ta, esa, hsa⟩, qsa⟩ := hold_sub (k := 132) Gaa Gba hz (fewj8 Faa) (fewj8 Fba) (by omega) gva gwa hva hwa bva bwa
  obtain ⟨⟨ma, ema, hma⟩, qma⟩ := hold_mul (k := 132) g3 Gaa hz (fewj8 f3) (fewj8 Faa) (by omega) gk gva hk hva bk bva
  obtain ⟨za, eza, hia⟩ := blow_has Gaa Faa hz
  have hra : rightB [aa] = true := rightB_good (fun j hj => (g1 j hj).1) (by simp) (by simp)
  have hrb : rightB [ba] = true := rightB_good (fun j hj => (g2 j hj).1) (by simp) (by simp)
  have hga : Goods [aa] := fun j hj => (g1 j hj).1
  have hgb : Goods [ba] := fun j hj => (g2 j hj).1
  have eA : bothB (fun a b => addJ a b z) [aa] [ba] = ([sa], 0) := by rw [bothB_go hra hrb rfl]; simp only [zipB, eaa, bne_self_eq_false, cond_false]
  have eS : bothB (fun a b => subJ a b z) [aa] [ba] = ([ta], 0) := by rw [bothB_go hra hrb rfl]; simp only [zipB, esa, bne_self_eq_false, cond_false]
  have eM : bothB (fun a _ => mulJ x a z) [aa] [aa] = ([ma], 0) := by rw [bothB_go hra hra rfl]; simp only [zipB, ema, bne_self_eq_false, cond_false]
  have eZ : bothB (fun a _ => blowJ a z) [aa] [aa] = ([za], 0) := by rw [bothB_go hra hra rfl]; simp only [zipB, eza, bne_self_eq_false, cond_false]
  have hI : inB [aa] [za] = true := by
    have hrz : rightB [za] = true := by
      simp only [rightB, List.all_cons, List.all_nil, List.length_cons, List.length_nil, inJ_r hia]; rfl
    unfold inB
    rw [hra, hrz]
    simp only [all2, hia, Bool.and_self]
  clear l1 l2 u1 u2 u3 u4 g1 g2 eaa esa ema eza hia gva gwa hva hwa bva bwa gk hk bk f3 Faa Fba Gaa Gba hra hrb
  simp (maxSteps := 10000000) only [go_sem, ↓reduceIte, Nat.reduceMul, Nat.reduceDiv, Nat.reduceAdd, Nat.reduceEqDiff, Nat.reduceLeDiff, Nat.reduceLT, reduceCtorEq, Int.reduceNeg, Int.reduceLT, Int.reduceLE, Int.reduceAdd, Int.reduceToNat, Nat.reduceBEq, Int.reduceMul, Int.reduceSub, Nat.reduceSub, Int.reduceBNe, Nat.reduceBNe, Tlaw6_known, Tbox_Add, Tbox_Sub, Tbox_Times, Tbox_Blow, Tbox_In, Tnum_Add, Tnum_Sub, Tnum_Mul, Tiv_Has, rKB, ofO, hp1, hp2, hp3, hp4, hvk, eA, eS, eM, eZ, hI, gJBI, pD, Int.toNat_one, iva, iwa, haa, hsa, hma, qaa, qsa, qma]
  repeat' first | (with_reducible apply And.intro) | (with_reducible apply condP <;> intro _)
  all_goals first | omega | (show chk _ _ = true; kernel_rfl) | with_reducible assumption | (simp only [go_sem, *, hd, List.length_cons, List.length_nil, Nat.reduceAdd, Nat.reduceLeDiff] <;> rfl) | rfl | (exfalso; simp_all only [Bool.true_eq_false, Bool.false_eq_true, reduceCtorEq]; done)
theorem v_bh1 (xs : List Nat) (A : Option Addr) (n c : Nat) (hd : ((dk xs 0 % 4 : Nat) : Int) = 1) : LC6 6 A n c xs [.s (.lit (.slice A n c))] := by
  refine lc6_of (O := orO ofO (orO (dkO 12 A n c (rK fun k => (k ≤ 900 ∧ ((dk xs k % 4 : Nat) : Int) = 1, iA 2, k + 1))) (orO (dkO 21 A n c (rKI fun k z => (k ≤ 700 ∧ 0 < z ∧ z ≤ 4, .s (boxL (sivsD xs z.toNat k).1), (sivsD xs z.toNat k).2))) (orO (dkO 22 A n c (rK fun k => (k ≤ 800, jA (sivD xs k).1, (sivD xs k).2))) (orO (dkO 19 A n c (rK fun k => (k ≤ 900, iA (precD xs k).1, (precD xs k).2))) (orO (dkO 14 A n c (rKB fun k l => (Goods l ∧ 1 ≤ l.length ∧ l.length ≤ 4 ∧ k ≤ 700, .s (ptsL (pD xs l k)), k + 1 * l.length))) (orO (dkO 27 A n c (rKJ fun k j => (Good j ∧ k ≤ 900, xA (inD xs j k), k + 1))) (tblO (orT Tlaw6_known (orT Tbox_Add (orT Tbox_Sub (orT Tbox_Times (orT Tbox_Blow (orT Tbox_In (orT Tnum_Add (orT Tnum_Sub (orT Tnum_Mul Tiv_Has))))))))))))))))) (by kernel_rfl) tyB_ok (fun w hA hn => only_or ofO_only (ofO_ok _ _) (only_or dkO_only (dkO_ok (xs := xs) (ent Tryz.func12 (by kernel_rfl) rfl) (rK_ok fun k hp => d_dim1 xs k hp.1 hp.2) hA hn) (only_or dkO_only (dkO_ok (xs := xs) (ent Tryz.func21 (by kernel_rfl) rfl) (rKI_ok fun k z hp => d_smallbox hp) hA hn) (only_or dkO_only (dkO_ok (xs := xs) (ent Tryz.func22 (by kernel_rfl) rfl) (rK_ok fun k hp => (sivD_spec hp).2.2.2) hA hn) (only_or dkO_only (dkO_ok (xs := xs) (ent Tryz.func19 (by kernel_rfl) rfl) (rK_ok fun k hp => (precD_spec hp).2.2.2) hA hn) (only_or dkO_only (dkO_ok (xs := xs) (ent Tryz.func14 (by kernel_rfl) rfl) (rKB_ok fun k l hp => d_inbox hp) hA hn) (only_or dkO_only (dkO_ok (xs := xs) (ent Tryz.func27 (by kernel_rfl) rfl) (rKJ_ok fun k j hp => (inD_spec hp.1 hp.2).2.1) hA hn) (tblO_ok (orT_ok Tlaw6_known_ok (orT_ok Tbox_Add_ok (orT_ok Tbox_Sub_ok (orT_ok Tbox_Times_ok (orT_ok Tbox_Blow_ok (orT_ok Tbox_In_ok (orT_ok Tnum_Add_ok (orT_ok Tnum_Sub_ok (orT_ok Tnum_Mul_ok Tiv_Has_ok))))))))) _ w) (fun d st args => by simp [orO, refO, dkO, ofO, tblO, orT, noT, one, Tlaw6_known, Tbox_Add, Tbox_Sub, Tbox_Times, Tbox_Blow, Tbox_In, Tnum_Add, Tnum_Sub, Tnum_Mul, Tiv_Has])) (fun d st args => by simp [orO, refO, dkO, ofO, tblO, orT, noT, one, Tlaw6_known, Tbox_Add, Tbox_Sub, Tbox_Times, Tbox_Blow, Tbox_In, Tnum_Add, Tnum_Sub, Tnum_Mul, Tiv_Has])) (fun d st args => by simp [orO, refO, dkO, ofO, tblO, orT, noT, one, Tlaw6_known, Tbox_Add, Tbox_Sub, Tbox_Times, Tbox_Blow, Tbox_In, Tnum_Add, Tnum_Sub, Tnum_Mul, Tiv_Has])) (fun d st args => by simp [orO, refO, dkO, ofO, tblO, orT, noT, one, Tlaw6_known, Tbox_Add, Tbox_Sub, Tbox_Times, Tbox_Blow, Tbox_In, Tnum_Add, Tnum_Sub, Tnum_Mul, Tiv_Has])) (fun d st args => by simp [orO, refO, dkO, ofO, tblO, orT, noT, one, Tlaw6_known, Tbox_Add, Tbox_Sub, Tbox_Times, Tbox_Blow, Tbox_In, Tnum_Add, Tnum_Sub, Tnum_Mul, Tiv_Has])) (fun d st args => by simp [orO, refO, dkO, ofO, tblO, orT, noT, one, Tlaw6_known, Tbox_Add, Tbox_Sub, Tbox_Times, Tbox_Blow, Tbox_In, Tnum_Add, Tnum_Sub, Tnum_Mul, Tiv_Has])) (fun d st args => by simp [orO, refO, dkO, ofO, tblO, orT, noT, one, Tlaw6_known, Tbox_Add, Tbox_Sub, Tbox_Times, Tbox_Blow, Tbox_In, Tnum_Add, Tnum_Sub, Tnum_Mul, Tiv_Has])) [42, 43, 46, 47, 50, 51] 4000 192 [.tmp 2] Tryz.func6 rfl Tryz.ntmps6 (by rw [Tryz.results6]) (by simp) rfl (fun hsm hs => ?_)
  obtain ⟨l1, g1, u1, w1⟩ := sivsD_spec (xs := xs) (n := 2) (k := 1) (by omega)
  generalize hp1 : sivsD xs 2 1 = p1 at l1 g1 u1 w1
  obtain ⟨q1, k1⟩ := p1
  have l1 : q1.length = 2 := l1
  have w1 : k1 ≤ 1 + 3 * 2 := w1
  replace g1 : ∀ j ∈ q1, Good j ∧ FewJ j := g1
  obtain ⟨aa, ab, rfl⟩ := len2 l1
  obtain ⟨l2, g2, u2, w2⟩ := sivsD_spec (xs := xs) (n := 2) (k := k1) (by omega)
  generalize hp2 : sivsD xs 2 k1 = p2 at l2 g2 u2 w2
  obtain ⟨q2, k2⟩ := p2
  have l2 : q2.length = 2 := l2
  have w2 : k2 ≤ k1 + 3 * 2 := w2
  replace g2 : ∀ j ∈ q2, Good j ∧ FewJ j := g2
  obtain ⟨ba, bb, rfl⟩ := len2 l2
  obtain ⟨⟨g3, f3⟩, u3, w3, _⟩ := sivD_spec (xs := xs) (k := k2) (by omega)
  generalize hp3 : sivD xs k2 = p3 at g3 f3 u3 w3
  obtain ⟨x, k3⟩ := p3
  have g3 : Good x := g3
  have f3 : FewJ x := f3
  have w3 : k3 ≤ k2 + 3 := w3
  obtain ⟨hz, u4, w4, _⟩ := precD_spec (xs := xs) (k := k3) (by omega)
  generalize hp4 : precD xs k3 = p4 at hz u4 w4
  obtain ⟨z, k4⟩ := p4
  have hz : prl z = true := hz
  have w4 : k4 ≤ k3 + 2 := w4
  obtain ⟨⟨gk, hk⟩, _, bk⟩ := inD_spec (xs := xs) (j := x) (k := k4 + 2 + 2) g3 (by omega)
  replace bk := bk f3
  generalize hvk : inD xs x (k4 + 2 + 2) = vk at gk hk bk
  obtain ⟨Gaa, Faa⟩ := g1 aa (by simp)
  obtain ⟨Gba, Fba⟩ := g2 ba (by simp)
  obtain ⟨⟨gva, hva⟩, _, bva⟩ := inD_spec (xs := xs) (j := aa) (k := k4) Gaa (by omega)
  replace bva := bva Faa
  generalize iva : inD xs aa (k4) = va at gva hva bva
  obtain ⟨⟨gwa, hwa⟩, _, bwa⟩ := inD_spec (xs := xs) (j := ba) (k := k4 + 2) Gba (by omega)
  replace bwa := bwa Fba
  generalize iwa : inD xs ba (k4 + 2) = wva at gwa hwa bwa
  obtain ⟨⟨sa, eaa, haa⟩, qaa⟩ := hold_add (k := 132) Gaa Gba hz (fewj8 Faa) (fewj8 Fba) (by omega) gva gwa hva hwa bva bwa
  obtain ⟨⟨ta, esa, hsa⟩, qsa⟩ := hold_sub (k := 132) Gaa Gba hz (fewj8 Faa) (fewj8 Fba) (by omega) gva gwa hva hwa bva bwa
  obtain ⟨⟨ma, ema, hma⟩, qma⟩ := hold_mul (k := 132) g3 Gaa hz (fewj8 f3) (fewj8 Faa) (by omega) gk gva hk hva bk bva
  obtain ⟨za, eza, hia⟩ := blow_has Gaa Faa hz
  obtain ⟨Gab, Fab⟩ := g1 ab (by simp)
  obtain ⟨Gbb, Fbb⟩ := g2 bb (by simp)
  obtain ⟨⟨gvb, hvb⟩, _, bvb⟩ := inD_spec (xs := xs) (j := ab) (k := k4 + 1) Gab (by omega)
  replace bvb := bvb Fab
  generalize ivb : inD xs ab (k4 + 1) = vb at gvb hvb bvb
  obtain ⟨⟨gwb, hwb⟩, _, bwb⟩ := inD_spec (xs := xs) (j := bb) (k := k4 + 2 + 1) Gbb (by omega)
  replace bwb := bwb Fbb
  generalize iwb : inD xs bb (k4 + 2 + 1) = wvb at gwb hwb bwb
  obtain ⟨⟨sb, eab, hab⟩, qab⟩ := hold_add (k := 132) Gab Gbb hz (fewj8 Fab) (fewj8 Fbb) (by omega) gvb gwb hvb hwb bvb bwb
  obtain ⟨⟨tb, esb, hsb⟩, qsb⟩ := hold_sub (k := 132) Gab Gbb hz (fewj8 Fab) (fewj8 Fbb) (by omega) gvb gwb hvb hwb bvb bwb
  obtain ⟨⟨mb, emb, hmb⟩, qmb⟩ := hold_mul (k := 132) g3 Gab hz (fewj8 f3) (fewj8 Fab) (by omega) gk gvb hk hvb bk bvb
  obtain ⟨zb, ezb, hib⟩ := blow_has Gab Fab hz
  have hra : rightB [aa, ab] = true := rightB_good (fun j hj => (g1 j hj).1) (by simp) (by simp)
  have hrb : rightB [ba, bb] = true := rightB_good (fun j hj => (g2 j hj).1) (by simp) (by simp)
  have hga : Goods [aa, ab] := fun j hj => (g1 j hj).1
  have hgb : Goods [ba, bb] := fun j hj => (g2 j hj).1
  have eA : bothB (fun a b => addJ a b z) [aa, ab] [ba, bb] = ([sa, sb], 0) := by rw [bothB_go hra hrb rfl]; simp only [zipB, eaa, eab, bne_self_eq_false, cond_false]
  have eS : bothB (fun a b => subJ a b z) [aa, ab] [ba, bb] = ([ta, tb], 0) := by rw [bothB_go hra hrb rfl]; simp only [zipB, esa, esb, bne_self_eq_false, cond_false]
  have eM : bothB (fun a _ => mulJ x a z) [aa, ab] [aa, ab] = ([ma, mb], 0) := by rw [bothB_go hra hra rfl]; simp only [zipB, ema, emb, bne_self_eq_false, cond_false]
  have eZ : bothB (fun a _ => blowJ a z) [aa, ab] [aa, ab] = ([za, zb], 0) := by rw [bothB_go hra hra rfl]; simp only [zipB, eza, ezb, bne_self_eq_false, cond_false]
  have hI : inB [aa, ab] [za, zb] = true := by
    have hrz : rightB [za, zb] = true := by
      simp only [rightB, List.all_cons, List.all_nil, List.length_cons, List.length_nil, inJ_r hia, inJ_r hib]; rfl
    unfold inB
    rw [hra, hrz]
    simp only [all2, hia, hib, Bool.and_self]
  clear l1 l2 u1 u2 u3 u4 g1 g2 eaa esa ema eza hia gva gwa hva hwa bva bwa eab esb emb ezb hib gvb gwb hvb hwb bvb bwb gk hk bk f3 Faa Fab Fba Fbb Gaa Gab Gba Gbb hra hrb
  simp (maxSteps := 10000000) only [go_sem, ↓reduceIte, Nat.reduceMul, Nat.reduceDiv, Nat.reduceAdd, Nat.reduceEqDiff, Nat.reduceLeDiff, Nat.reduceLT, reduceCtorEq, Int.reduceNeg, Int.reduceLT, Int.reduceLE, Int.reduceAdd, Int.reduceToNat, Nat.reduceBEq, Int.reduceMul, Int.reduceSub, Nat.reduceSub, Int.reduceBNe, Nat.reduceBNe, Tlaw6_known, Tbox_Add, Tbox_Sub, Tbox_Times, Tbox_Blow, Tbox_In, Tnum_Add, Tnum_Sub, Tnum_Mul, Tiv_Has, rKB, ofO, hp1, hp2, hp3, hp4, hvk, eA, eS, eM, eZ, hI, gJBI, pD, Int.toNat_one, iva, iwa, haa, hsa, hma, qaa, qsa, qma, ivb, iwb, hab, hsb, hmb, qab, qsb, qmb]
  repeat' first | (with_reducible apply And.intro) | (with_reducible apply condP <;> intro _)
  all_goals first | omega | (show chk _ _ = true; kernel_rfl) | with_reducible assumption | (simp only [go_sem, *, hd, List.length_cons, List.length_nil, Nat.reduceAdd, Nat.reduceLeDiff] <;> rfl) | rfl | (exfalso; simp_all only [Bool.true_eq_false, Bool.false_eq_true, reduceCtorEq]; done)
theorem v_bh2 (xs : List Nat) (A : Option Addr) (n c : Nat) (hd : ((dk xs 0 % 4 : Nat) : Int) = 2) : LC6 6 A n c xs [.s (.lit (.slice A n c))] := by
  refine lc6_of (O := orO ofO (orO (dkO 12 A n c (rK fun k => (k ≤ 900 ∧ ((dk xs k % 4 : Nat) : Int) = 2, iA 3, k + 1))) (orO (dkO 21 A n c (rKI fun k z => (k ≤ 700 ∧ 0 < z ∧ z ≤ 4, .s (boxL (sivsD xs z.toNat k).1), (sivsD xs z.toNat k).2))) (orO (dkO 22 A n c (rK fun k => (k ≤ 800, jA (sivD xs k).1, (sivD xs k).2))) (orO (dkO 19 A n c (rK fun k => (k ≤ 900, iA (precD xs k).1, (precD xs k).2))) (orO (dkO 14 A n c (rKB fun k l => (Goods l ∧ 1 ≤ l.length ∧ l.length ≤ 4 ∧ k ≤ 700, .s (ptsL (pD xs l k)), k + 1 * l.length))) (orO (dkO 27 A n c (rKJ fun k j => (Good j ∧ k ≤ 900, xA (inD xs j k), k + 1))) (tblO (orT Tlaw6_known (orT Tbox_Add (orT Tbox_Sub (orT Tbox_Times (orT Tbox_Blow (orT Tbox_In (orT Tnum_Add (orT Tnum_Sub (orT Tnum_Mul Tiv_Has))))))))))))))))) (by kernel_rfl) tyB_ok (fun w hA hn => only_or ofO_only (ofO_ok _ _) (only_or dkO_only (dkO_ok (xs := xs) (ent Tryz.func12 (by kernel_rfl) rfl) (rK_ok fun k hp => d_dim2 xs k hp.1 hp.2) hA hn) (only_or dkO_only (dkO_ok (xs := xs) (ent Tryz.func21 (by kernel_rfl) rfl) (rKI_ok fun k z hp => d_smallbox hp) hA hn) (only_or dkO_only (dkO_ok (xs := xs) (ent Tryz.func22 (by kernel_rfl) rfl) (rK_ok fun k hp => (sivD_spec hp).2.2.2) hA hn) (only_or dkO_only (dkO_ok (xs := xs) (ent Tryz.func19 (by kernel_rfl) rfl) (rK_ok fun k hp => (precD_spec hp).2.2.2) hA hn) (only_or dkO_only (dkO_ok (xs := xs) (ent Tryz.func14 (by kernel_rfl) rfl) (rKB_ok fun k l hp => d_inbox hp) hA hn) (only_or dkO_only (dkO_ok (xs := xs) (ent Tryz.func27 (by kernel_rfl) rfl) (rKJ_ok fun k j hp => (inD_spec hp.1 hp.2).2.1) hA hn) (tblO_ok (orT_ok Tlaw6_known_ok (orT_ok Tbox_Add_ok (orT_ok Tbox_Sub_ok (orT_ok Tbox_Times_ok (orT_ok Tbox_Blow_ok (orT_ok Tbox_In_ok (orT_ok Tnum_Add_ok (orT_ok Tnum_Sub_ok (orT_ok Tnum_Mul_ok Tiv_Has_ok))))))))) _ w) (fun d st args => by simp [orO, refO, dkO, ofO, tblO, orT, noT, one, Tlaw6_known, Tbox_Add, Tbox_Sub, Tbox_Times, Tbox_Blow, Tbox_In, Tnum_Add, Tnum_Sub, Tnum_Mul, Tiv_Has])) (fun d st args => by simp [orO, refO, dkO, ofO, tblO, orT, noT, one, Tlaw6_known, Tbox_Add, Tbox_Sub, Tbox_Times, Tbox_Blow, Tbox_In, Tnum_Add, Tnum_Sub, Tnum_Mul, Tiv_Has])) (fun d st args => by simp [orO, refO, dkO, ofO, tblO, orT, noT, one, Tlaw6_known, Tbox_Add, Tbox_Sub, Tbox_Times, Tbox_Blow, Tbox_In, Tnum_Add, Tnum_Sub, Tnum_Mul, Tiv_Has])) (fun d st args => by simp [orO, refO, dkO, ofO, tblO, orT, noT, one, Tlaw6_known, Tbox_Add, Tbox_Sub, Tbox_Times, Tbox_Blow, Tbox_In, Tnum_Add, Tnum_Sub, Tnum_Mul, Tiv_Has])) (fun d st args => by simp [orO, refO, dkO, ofO, tblO, orT, noT, one, Tlaw6_known, Tbox_Add, Tbox_Sub, Tbox_Times, Tbox_Blow, Tbox_In, Tnum_Add, Tnum_Sub, Tnum_Mul, Tiv_Has])) (fun d st args => by simp [orO, refO, dkO, ofO, tblO, orT, noT, one, Tlaw6_known, Tbox_Add, Tbox_Sub, Tbox_Times, Tbox_Blow, Tbox_In, Tnum_Add, Tnum_Sub, Tnum_Mul, Tiv_Has])) (fun d st args => by simp [orO, refO, dkO, ofO, tblO, orT, noT, one, Tlaw6_known, Tbox_Add, Tbox_Sub, Tbox_Times, Tbox_Blow, Tbox_In, Tnum_Add, Tnum_Sub, Tnum_Mul, Tiv_Has])) [42, 43, 46, 47, 50, 51] 4000 192 [.tmp 2] Tryz.func6 rfl Tryz.ntmps6 (by rw [Tryz.results6]) (by simp) rfl (fun hsm hs => ?_)
  obtain ⟨l1, g1, u1, w1⟩ := sivsD_spec (xs := xs) (n := 3) (k := 1) (by omega)
  generalize hp1 : sivsD xs 3 1 = p1 at l1 g1 u1 w1
  obtain ⟨q1, k1⟩ := p1
  have l1 : q1.length = 3 := l1
  have w1 : k1 ≤ 1 + 3 * 3 := w1
  replace g1 : ∀ j ∈ q1, Good j ∧ FewJ j := g1
  obtain ⟨aa, ab, ac, rfl⟩ := len3 l1
  obtain ⟨l2, g2, u2, w2⟩ := sivsD_spec (xs := xs) (n := 3) (k := k1) (by omega)
  generalize hp2 : sivsD xs 3 k1 = p2 at l2 g2 u2 w2
  obtain ⟨q2, k2⟩ := p2
  have l2 : q2.length = 3 := l2
  have w2 : k2 ≤ k1 + 3 * 3 := w2
  replace g2 : ∀ j ∈ q2, Good j ∧ FewJ j := g2
  obtain ⟨ba, bb, bc, rfl⟩ := len3 l2
  obtain ⟨⟨g3, f3⟩, u3, w3, _⟩ := sivD_spec (xs := xs) (k := k2) (by omega)
  generalize hp3 : sivD xs k2 = p3 at g3 f3 u3 w3
  obtain ⟨x, k3⟩ := p3
  have g3 : Good x := g3
  have f3 : FewJ x := f3
  have w3 : k3 ≤ k2 + 3 := w3
  obtain ⟨hz, u4, w4, _⟩ := precD_spec (xs := xs) (k := k3) (by omega)
  generalize hp4 : precD xs k3 = p4 at hz u4 w4
  obtain ⟨z, k4⟩ := p4
  have hz : prl z = true := hz
  have w4 : k4 ≤ k3 + 2 := w4
  obtain ⟨⟨gk, hk⟩, _, bk⟩ := inD_spec (xs := xs) (j := x) (k := k4 + 3 + 3) g3 (by omega)
  replace bk := bk f3
  generalize hvk : inD xs x (k4 + 3 + 3) = vk at gk hk bk
  obtain ⟨Gaa, Faa⟩ := g1 aa (by simp)
  obtain ⟨Gba, Fba⟩ := g2 ba (by simp)
  obtain ⟨⟨gva, hva⟩, _, bva⟩ := inD_spec (xs := xs) (j := aa) (k := k4) Gaa (by omega)
  replace bva := bva Faa
  generalize iva : inD xs aa (k4) = va at gva hva bva
  obtain ⟨⟨gwa, hwa⟩, _, bwa⟩ := inD_spec (xs := xs) (j := ba) (k := k4 + 3) Gba (by omega)
  replace bwa := bwa Fba
  generalize iwa : inD xs ba (k4 + 3) = wva at gwa hwa bwa
  obtain ⟨⟨sa, eaa, haa⟩, qaa⟩ := hold_add (k := 132) Gaa Gba hz (fewj8 Faa) (fewj8 Fba) (by omega) gva gwa hva hwa bva bwa
  obtain ⟨⟨ta, esa, hsa⟩, qsa⟩ := hold_sub (k := 132) Gaa Gba hz (fewj8 Faa) (fewj8 Fba) (by omega) gva gwa hva hwa bva bwa
  obtain ⟨⟨ma, ema, hma⟩, qma⟩ := hold_mul (k := 132) g3 Gaa hz (fewj8 f3) (fewj8 Faa) (by omega) gk gva hk hva bk bva
  obtain ⟨za, eza, hia⟩ := blow_has Gaa Faa hz
  obtain ⟨Gab, Fab⟩ := g1 ab (by simp)
  obtain ⟨Gbb, Fbb⟩ := g2 bb (by simp)
  obtain ⟨⟨gvb, hvb⟩, _, bvb⟩ := inD_spec (xs := xs) (j := ab) (k := k4 + 1) Gab (by omega)
  replace bvb := bvb Fab
  generalize ivb : inD xs ab (k4 + 1) = vb at gvb hvb bvb
  obtain ⟨⟨gwb, hwb⟩, _, bwb⟩ := inD_spec (xs := xs) (j := bb) (k := k4 + 3 + 1) Gbb (by omega)
  replace bwb := bwb Fbb
  generalize iwb : inD xs bb (k4 + 3 + 1) = wvb at gwb hwb bwb
  obtain ⟨⟨sb, eab, hab⟩, qab⟩ := hold_add (k := 132) Gab Gbb hz (fewj8 Fab) (fewj8 Fbb) (by omega) gvb gwb hvb hwb bvb bwb
  obtain ⟨⟨tb, esb, hsb⟩, qsb⟩ := hold_sub (k := 132) Gab Gbb hz (fewj8 Fab) (fewj8 Fbb) (by omega) gvb gwb hvb hwb bvb bwb
  obtain ⟨⟨mb, emb, hmb⟩, qmb⟩ := hold_mul (k := 132) g3 Gab hz (fewj8 f3) (fewj8 Fab) (by omega) gk gvb hk hvb bk bvb
  obtain ⟨zb, ezb, hib⟩ := blow_has Gab Fab hz
  obtain ⟨Gac, Fac⟩ := g1 ac (by simp)
  obtain ⟨Gbc, Fbc⟩ := g2 bc (by simp)
  obtain ⟨⟨gvc, hvc⟩, _, bvc⟩ := inD_spec (xs := xs) (j := ac) (k := k4 + 1 + 1) Gac (by omega)
  replace bvc := bvc Fac
  generalize ivc : inD xs ac (k4 + 1 + 1) = vc at gvc hvc bvc
  obtain ⟨⟨gwc, hwc⟩, _, bwc⟩ := inD_spec (xs := xs) (j := bc) (k := k4 + 3 + 1 + 1) Gbc (by omega)
  replace bwc := bwc Fbc
  generalize iwc : inD xs bc (k4 + 3 + 1 + 1) = wvc at gwc hwc bwc
  obtain ⟨⟨sc, eac, hac⟩, qac⟩ := hold_add (k := 132) Gac Gbc hz (fewj8 Fac) (fewj8 Fbc) (by omega) gvc gwc hvc hwc bvc bwc
  obtain ⟨⟨tc, esc, hsc⟩, qsc⟩ := hold_sub (k := 132) Gac Gbc hz (fewj8 Fac) (fewj8 Fbc) (by omega) gvc gwc hvc hwc bvc bwc
  obtain ⟨⟨mc, emc, hmc⟩, qmc⟩ := hold_mul (k := 132) g3 Gac hz (fewj8 f3) (fewj8 Fac) (by omega) gk gvc hk hvc bk bvc
  obtain ⟨zc, ezc, hic⟩ := blow_has Gac Fac hz
  have hra : rightB [aa, ab, ac] = true := rightB_good (fun j hj => (g1 j hj).1) (by simp) (by simp)
  have hrb : rightB [ba, bb, bc] = true := rightB_good (fun j hj => (g2 j hj).1) (by simp) (by simp)
  have hga : Goods [aa, ab, ac] := fun j hj => (g1 j hj).1
  have hgb : Goods [ba, bb, bc] := fun j hj => (g2 j hj).1
  have eA : bothB (fun a b => addJ a b z) [aa, ab, ac] [ba, bb, bc] = ([sa, sb, sc], 0) := by rw [bothB_go hra hrb rfl]; simp only [zipB, eaa, eab, eac, bne_self_eq_false, cond_false]
  have eS : bothB (fun a b => subJ a b z) [aa, ab, ac] [ba, bb, bc] = ([ta, tb, tc], 0) := by rw [bothB_go hra hrb rfl]; simp only [zipB, esa, esb, esc, bne_self_eq_false, cond_false]
  have eM : bothB (fun a _ => mulJ x a z) [aa, ab, ac] [aa, ab, ac] = ([ma, mb, mc], 0) := by rw [bothB_go hra hra rfl]; simp only [zipB, ema, emb, emc, bne_self_eq_false, cond_false]
  have eZ : bothB (fun a _ => blowJ a z) [aa, ab, ac] [aa, ab, ac] = ([za, zb, zc], 0) := by rw [bothB_go hra hra rfl]; simp only [zipB, eza, ezb, ezc, bne_self_eq_false, cond_false]
  have hI : inB [aa, ab, ac] [za, zb, zc] = true := by
    have hrz : rightB [za, zb, zc] = true := by
      simp only [rightB, List.all_cons, List.all_nil, List.length_cons, List.length_nil, inJ_r hia, inJ_r hib, inJ_r hic]; rfl
    unfold inB
    rw [hra, hrz]
    simp only [all2, hia, hib, hic, Bool.and_self]
  clear l1 l2 u1 u2 u3 u4 g1 g2 eaa esa ema eza hia gva gwa hva hwa bva bwa eab esb emb ezb hib gvb gwb hvb hwb bvb bwb eac esc emc ezc hic gvc gwc hvc hwc bvc bwc gk hk bk f3 Faa Fab Fac Fba Fbb Fbc Gaa Gab Gac Gba Gbb Gbc hra hrb
  simp (maxSteps := 10000000) only [go_sem, ↓reduceIte, Nat.reduceMul, Nat.reduceDiv, Nat.reduceAdd, Nat.reduceEqDiff, Nat.reduceLeDiff, Nat.reduceLT, reduceCtorEq, Int.reduceNeg, Int.reduceLT, Int.reduceLE, Int.reduceAdd, Int.reduceToNat, Nat.reduceBEq, Int.reduceMul, Int.reduceSub, Nat.reduceSub, Int.reduceBNe, Nat.reduceBNe, Tlaw6_known, Tbox_Add, Tbox_Sub, Tbox_Times, Tbox_Blow, Tbox_In, Tnum_Add, Tnum_Sub, Tnum_Mul, Tiv_Has, rKB, ofO, hp1, hp2, hp3, hp4, hvk, eA, eS, eM, eZ, hI, gJBI, pD, Int.toNat_one, iva, iwa, haa, hsa, hma, qaa, qsa, qma, ivb, iwb, hab, hsb, hmb, qab, qsb, qmb, ivc, iwc, hac, hsc, hmc, qac, qsc, qmc]
  repeat' first | (with_reducible apply And.intro) | (with_reducible apply condP <;> intro _)
  all_goals first | omega | (show chk _ _ = true; kernel_rfl) | with_reducible assumption | (simp only [go_sem, *, hd, List.length_cons, List.length_nil, Nat.reduceAdd, Nat.reduceLeDiff] <;> rfl) | rfl | (exfalso; simp_all only [Bool.true_eq_false, Bool.false_eq_true, reduceCtorEq]; done)
theorem v_bh3 (xs : List Nat) (A : Option Addr) (n c : Nat) (hd : ((dk xs 0 % 4 : Nat) : Int) = 3) : LC6 6 A n c xs [.s (.lit (.slice A n c))] := by
  refine lc6_of (O := orO ofO (orO (dkO 12 A n c (rK fun k => (k ≤ 900 ∧ ((dk xs k % 4 : Nat) : Int) = 3, iA 4, k + 1))) (orO (dkO 21 A n c (rKI fun k z => (k ≤ 700 ∧ 0 < z ∧ z ≤ 4, .s (boxL (sivsD xs z.toNat k).1), (sivsD xs z.toNat k).2))) (orO (dkO 22 A n c (rK fun k => (k ≤ 800, jA (sivD xs k).1, (sivD xs k).2))) (orO (dkO 19 A n c (rK fun k => (k ≤ 900, iA (precD xs k).1, (precD xs k).2))) (orO (dkO 14 A n c (rKB fun k l => (Goods l ∧ 1 ≤ l.length ∧ l.length ≤ 4 ∧ k ≤ 700, .s (ptsL (pD xs l k)), k + 1 * l.length))) (orO (dkO 27 A n c (rKJ fun k j => (Good j ∧ k ≤ 900, xA (inD xs j k), k + 1))) (tblO (orT Tlaw6_known (orT Tbox_Add (orT Tbox_Sub (orT Tbox_Times (orT Tbox_Blow (orT Tbox_In (orT Tnum_Add (orT Tnum_Sub (orT Tnum_Mul Tiv_Has))))))))))))))))) (by kernel_rfl) tyB_ok (fun w hA hn => only_or ofO_only (ofO_ok _ _) (only_or dkO_only (dkO_ok (xs := xs) (ent Tryz.func12 (by kernel_rfl) rfl) (rK_ok fun k hp => d_dim3 xs k hp.1 hp.2) hA hn) (only_or dkO_only (dkO_ok (xs := xs) (ent Tryz.func21 (by kernel_rfl) rfl) (rKI_ok fun k z hp => d_smallbox hp) hA hn) (only_or dkO_only (dkO_ok (xs := xs) (ent Tryz.func22 (by kernel_rfl) rfl) (rK_ok fun k hp => (sivD_spec hp).2.2.2) hA hn) (only_or dkO_only (dkO_ok (xs := xs) (ent Tryz.func19 (by kernel_rfl) rfl) (rK_ok fun k hp => (precD_spec hp).2.2.2) hA hn) (only_or dkO_only (dkO_ok (xs := xs) (ent Tryz.func14 (by kernel_rfl) rfl) (rKB_ok fun k l hp => d_inbox hp) hA hn) (only_or dkO_only (dkO_ok (xs := xs) (ent Tryz.func27 (by kernel_rfl) rfl) (rKJ_ok fun k j hp => (inD_spec hp.1 hp.2).2.1) hA hn) (tblO_ok (orT_ok Tlaw6_known_ok (orT_ok Tbox_Add_ok (orT_ok Tbox_Sub_ok (orT_ok Tbox_Times_ok (orT_ok Tbox_Blow_ok (orT_ok Tbox_In_ok (orT_ok Tnum_Add_ok (orT_ok Tnum_Sub_ok (orT_ok Tnum_Mul_ok Tiv_Has_ok))))))))) _ w) (fun d st args => by simp [orO, refO, dkO, ofO, tblO, orT, noT, one, Tlaw6_known, Tbox_Add, Tbox_Sub, Tbox_Times, Tbox_Blow, Tbox_In, Tnum_Add, Tnum_Sub, Tnum_Mul, Tiv_Has])) (fun d st args => by simp [orO, refO, dkO, ofO, tblO, orT, noT, one, Tlaw6_known, Tbox_Add, Tbox_Sub, Tbox_Times, Tbox_Blow, Tbox_In, Tnum_Add, Tnum_Sub, Tnum_Mul, Tiv_Has])) (fun d st args => by simp [orO, refO, dkO, ofO, tblO, orT, noT, one, Tlaw6_known, Tbox_Add, Tbox_Sub, Tbox_Times, Tbox_Blow, Tbox_In, Tnum_Add, Tnum_Sub, Tnum_Mul, Tiv_Has])) (fun d st args => by simp [orO, refO, dkO, ofO, tblO, orT, noT, one, Tlaw6_known, Tbox_Add, Tbox_Sub, Tbox_Times, Tbox_Blow, Tbox_In, Tnum_Add, Tnum_Sub, Tnum_Mul, Tiv_Has])) (fun d st args => by simp [orO, refO, dkO, ofO, tblO, orT, noT, one, Tlaw6_known, Tbox_Add, Tbox_Sub, Tbox_Times, Tbox_Blow, Tbox_In, Tnum_Add, Tnum_Sub, Tnum_Mul, Tiv_Has])) (fun d st args => by simp [orO, refO, dkO, ofO, tblO, orT, noT, one, Tlaw6_known, Tbox_Add, Tbox_Sub, Tbox_Times, Tbox_Blow, Tbox_In, Tnum_Add, Tnum_Sub, Tnum_Mul, Tiv_Has])) (fun d st args => by simp [orO, refO, dkO, ofO, tblO, orT, noT, one, Tlaw6_known, Tbox_Add, Tbox_Sub, Tbox_Times, Tbox_Blow, Tbox_In, Tnum_Add, Tnum_Sub, Tnum_Mul, Tiv_Has])) [42, 43, 46, 47, 50, 51] 4000 192 [.tmp 2] Tryz.func6 rfl Tryz.ntmps6 (by rw [Tryz.results6]) (by simp) rfl (fun hsm hs => ?_)
  obtain ⟨l1, g1, u1, w1⟩ := sivsD_spec (xs := xs) (n := 4) (k := 1) (by omega)
  generalize hp1 : sivsD xs 4 1 = p1 at l1 g1 u1 w1
  obtain ⟨q1, k1⟩ := p1
  have l1 : q1.length = 4 := l1
  have w1 : k1 ≤ 1 + 3 * 4 := w1
  replace g1 : ∀ j ∈ q1, Good j ∧ FewJ j := g1
  obtain ⟨aa, ab, ac, ad, rfl⟩ := len4 l1
  obtain ⟨l2, g2, u2, w2⟩ := sivsD_spec (xs := xs) (n := 4) (k := k1) (by omega)
  generalize hp2 : sivsD xs 4 k1 = p2 at l2 g2 u2 w2
  obtain ⟨q2, k2⟩ := p2
  have l2 : q2.length = 4 := l2
  have w2 : k2 ≤ k1 + 3 * 4 := w2
  replace g2 : ∀ j ∈ q2, Good j ∧ FewJ j := g2
  obtain ⟨ba, bb, bc, bd, rfl⟩ := len4 l2
  obtain ⟨⟨g3, f3⟩, u3, w3, _⟩ := sivD_spec (xs := xs) (k := k2) (by omega)
  generalize hp3 : sivD xs k2 = p3 at g3 f3 u3 w3
  obtain ⟨x, k3⟩ := p3
  have g3 : Good x := g3
  have f3 : FewJ x := f3
  have w3 : k3 ≤ k2 + 3 := w3
  obtain ⟨hz, u4, w4, _⟩ := precD_spec (xs := xs) (k := k3) (by omega)
  generalize hp4 : precD xs k3 = p4 at hz u4 w4
  obtain ⟨z, k4⟩ := p4
  have hz : prl z = true := hz
  have w4 : k4 ≤ k3 + 2 := w4
  obtain ⟨⟨gk, hk⟩, _, bk⟩ := inD_spec (xs := xs) (j := x) (k := k4 + 4 + 4) g3 (by omega)
  replace bk := bk f3
  generalize hvk : inD xs x (k4 + 4 + 4) = vk at gk hk bk
  obtain ⟨Gaa, Faa⟩ := g1 aa (by simp)
  obtain ⟨Gba, Fba⟩ := g2 ba (by simp)
  obtain ⟨⟨gva, hva⟩, _, bva⟩ := inD_spec (xs := xs) (j := aa) (k := k4) Gaa (by omega)
  replace bva := bva Faa
  generalize iva : inD xs aa (k4) = va at gva hva bva
  obtain ⟨⟨gwa, hwa⟩, _, bwa⟩ := inD_spec (xs := xs) (j := ba) (k := k4 + 4) Gba (by omega)
  replace bwa := bwa Fba
  generalize iwa : inD xs ba (k4 + 4) = wva at gwa hwa bwa
  obtain ⟨⟨sa, eaa, haa⟩, qaa⟩ := hold_add (k := 132) Gaa Gba hz (fewj8 Faa) (fewj8 Fba) (by omega) gva gwa hva hwa bva bwa
  obtain ⟨⟨ta, esa, hsa⟩, qsa⟩ := hold_sub (k := 132) Gaa Gba hz (fewj8 Faa) (fewj8 Fba) (by omega) gva gwa hva hwa bva bwa
  obtain ⟨⟨ma, ema, hma⟩, qma⟩ := hold_mul (k := 132) g3 Gaa hz (fewj8 f3) (fewj8 Faa) (by omega) gk gva hk hva bk bva
  obtain ⟨za, eza, hia⟩ := blow_has Gaa Faa hz
  obtain ⟨Gab, Fab⟩ := g1 ab (by simp)
  obtain ⟨Gbb, Fbb⟩ := g2 bb (by simp)
  obtain ⟨⟨gvb, hvb⟩, _, bvb⟩ := inD_spec (xs := xs) (j := ab) (k := k4 + 1) Gab (by omega)
  replace bvb := bvb Fab
  generalize ivb : inD xs ab (k4 + 1) = vb at gvb hvb bvb
  obtain ⟨⟨gwb, hwb⟩, _, bwb⟩ := inD_spec (xs := xs) (j := bb) (k := k4 + 4 + 1) Gbb (by omega)
  replace bwb := bwb Fbb
  generalize iwb : inD xs bb (k4 + 4 + 1) = wvb at gwb hwb bwb
  obtain ⟨⟨sb, eab, hab⟩, qab⟩ := hold_add (k := 132) Gab Gbb hz (fewj8 Fab) (fewj8 Fbb) (by omega) gvb gwb hvb hwb bvb bwb
  obtain ⟨⟨tb, esb, hsb⟩, qsb⟩ := hold_sub (k := 132) Gab Gbb hz (fewj8 Fab) (fewj8 Fbb) (by omega) gvb gwb hvb hwb bvb bwb
  obtain ⟨⟨mb, emb, hmb⟩, qmb⟩ := hold_mul (k := 132) g3 Gab hz (fewj8 f3) (fewj8 Fab) (by omega) gk gvb hk hvb bk bvb
  obtain ⟨zb, ezb, hib⟩ := blow_has Gab Fab hz
  obtain ⟨Gac, Fac⟩ := g1 ac (by simp)
  obtain ⟨Gbc, Fbc⟩ := g2 bc (by simp)
  obtain ⟨⟨gvc, hvc⟩, _, bvc⟩ := inD_spec (xs := xs) (j := ac) (k := k4 + 1 + 1) Gac (by omega)
  replace bvc := bvc Fac
  generalize ivc : inD xs ac (k4 + 1 + 1) = vc at gvc hvc bvc
  obtain ⟨⟨gwc, hwc⟩, _, bwc⟩ := inD_spec (xs := xs) (j := bc) (k := k4 + 4 + 1 + 1) Gbc (by omega)
  replace bwc := bwc Fbc
  generalize iwc : inD xs bc (k4 + 4 + 1 + 1) = wvc at gwc hwc bwc
  obtain ⟨⟨sc, eac, hac⟩, qac⟩ := hold_add (k := 132) Gac Gbc hz (fewj8 Fac) (fewj8 Fbc) (by omega) gvc gwc hvc hwc bvc bwc
  obtain ⟨⟨tc, esc, hsc⟩, qsc⟩ := hold_sub (k := 132) Gac Gbc hz (fewj8 Fac) (fewj8 Fbc) (by omega) gvc gwc hvc hwc bvc bwc
  obtain ⟨⟨mc, emc, hmc⟩, qmc⟩ := hold_mul (k := 132) g3 Gac hz (fewj8 f3) (fewj8 Fac) (by omega) gk gvc hk hvc bk bvc
  obtain ⟨zc, ezc, hic⟩ := blow_has Gac Fac hz
  obtain ⟨Gad, Fad⟩ := g1 ad (by simp)
  obtain ⟨Gbd, Fbd⟩ := g2 bd (by simp)
  obtain ⟨⟨gvd, hvd⟩, _, bvd⟩ := inD_spec (xs := xs) (j := ad) (k := k4 + 1 + 1 + 1) Gad (by omega)
  replace bvd := bvd Fad
  generalize ivd : inD xs ad (k4 + 1 + 1 + 1) = vd at gvd hvd bvd
  obtain ⟨⟨gwd, hwd⟩, _, bwd⟩ := inD_spec (xs := xs) (j := bd) (k := k4 + 4 + 1 + 1 + 1) Gbd (by omega)
  replace bwd := bwd Fbd
  generalize iwd : inD xs bd (k4 + 4 + 1 + 1 + 1) = wvd at gwd hwd bwd
  obtain ⟨⟨sd, ead, had⟩, qad⟩ := hold_add (k := 132) Gad Gbd hz (fewj8 Fad) (fewj8 Fbd) (by omega) gvd gwd hvd hwd bvd bwd
  obtain ⟨⟨td, esd, hsd⟩, qsd⟩ := hold_sub (k := 132) Gad Gbd hz (fewj8 Fad) (fewj8 Fbd) (by omega) gvd gwd hvd hwd bvd bwd
  obtain ⟨⟨md, emd, hmd⟩, qmd⟩ := hold_mul (k := 132) g3 Gad hz (fewj8 f3) (fewj8 Fad) (by omega) gk gvd hk hvd bk bvd
  obtain ⟨zd, ezd, hid⟩ := blow_has Gad Fad hz
  have hra : rightB [aa, ab, ac, ad] = true := rightB_good (fun j hj => (g1 j hj).1) (by simp) (by simp)
  have hrb : rightB [ba, bb, bc, bd] = true := rightB_good (fun j hj => (g2 j hj).1) (by simp) (by simp)
  have hga : Goods [aa, ab, ac, ad] := fun j hj => (g1 j hj).1
  have hgb : Goods [ba, bb, bc, bd] := fun j hj => (g2 j hj).1
  have eA : bothB (fun a b => addJ a b z) [aa, ab, ac, ad] [ba, bb, bc, bd] = ([sa, sb, sc, sd], 0) := by rw [bothB_go hra hrb rfl]; simp only [zipB, eaa, eab, eac, ead, bne_self_eq_false, cond_false]
  have eS : bothB (fun a b => subJ a b z) [aa, ab, ac, ad] [ba, bb, bc, bd] = ([ta, tb, tc, td], 0) := by rw [bothB_go hra hrb rfl]; simp only [zipB, esa, esb, esc, esd, bne_self_eq_false, cond_false]
  have eM : bothB (fun a _ => mulJ x a z) [aa, ab, ac, ad] [aa, ab, ac, ad] = ([ma, mb, mc, md], 0) := by rw [bothB_go hra hra rfl]; simp only [zipB, ema, emb, emc, emd, bne_self_eq_false, cond_false]
  have eZ : bothB (fun a _ => blowJ a z) [aa, ab, ac, ad] [aa, ab, ac, ad] = ([za, zb, zc, zd], 0) := by rw [bothB_go hra hra rfl]; simp only [zipB, eza, ezb, ezc, ezd, bne_self_eq_false, cond_false]
  have hI : inB [aa, ab, ac, ad] [za, zb, zc, zd] = true := by
    have hrz : rightB [za, zb, zc, zd] = true := by
      simp only [rightB, List.all_cons, List.all_nil, List.length_cons, List.length_nil, inJ_r hia, inJ_r hib, inJ_r hic, inJ_r hid]; rfl
    unfold inB
    rw [hra, hrz]
    simp only [all2, hia, hib, hic, hid, Bool.and_self]
  clear l1 l2 u1 u2 u3 u4 g1 g2 eaa esa ema eza hia gva gwa hva hwa bva bwa eab esb emb ezb hib gvb gwb hvb hwb bvb bwb eac esc emc ezc hic gvc gwc hvc hwc bvc bwc ead esd emd ezd hid gvd gwd hvd hwd bvd bwd gk hk bk f3 Faa Fab Fac Fad Fba Fbb Fbc Fbd Gaa Gab Gac Gad Gba Gbb Gbc Gbd hra hrb
  simp (maxSteps := 10000000) only [go_sem, ↓reduceIte, Nat.reduceMul, Nat.reduceDiv, Nat.reduceAdd, Nat.reduceEqDiff, Nat.reduceLeDiff, Nat.reduceLT, reduceCtorEq, Int.reduceNeg, Int.reduceLT, Int.reduceLE, Int.reduceAdd, Int.reduceToNat, Nat.reduceBEq, Int.reduceMul, Int.reduceSub, Nat.reduceSub, Int.reduceBNe, Nat.reduceBNe, Tlaw6_known, Tbox_Add, Tbox_Sub, Tbox_Times, Tbox_Blow, Tbox_In, Tnum_Add, Tnum_Sub, Tnum_Mul, Tiv_Has, rKB, ofO, hp1, hp2, hp3, hp4, hvk, eA, eS, eM, eZ, hI, gJBI, pD, Int.toNat_one, iva, iwa, haa, hsa, hma, qaa, qsa, qma, ivb, iwb, hab, hsb, hmb, qab, qsb, qmb, ivc, iwc, hac, hsc, hmc, qac, qsc, qmc, ivd, iwd, had, hsd, hmd, qad, qsd, qmd]
  repeat' first | (with_reducible apply And.intro) | (with_reducible apply condP <;> intro _)
  all_goals first | omega | (show chk _ _ = true; kernel_rfl) | with_reducible assumption | (simp only [go_sem, *, hd, List.length_cons, List.length_nil, Nat.reduceAdd, Nat.reduceLeDiff] <;> rfl) | rfl | (exfalso; simp_all only [Bool.true_eq_false, Bool.false_eq_true, reduceCtorEq]; done)
theorem boxholds_walk (W : World) (a : Option Addr) (l c : Nat) (xs : List Nat) (hx : Arg W a l c xs) (ht : Tab W) : Calls Tryz.prog 6 #[.slice a l c] W fun e w' => e = .returned (.bool true) ∧ Below W.heap.size W w' := by
  have hA : RA envA (fun _ => false) W [.s (.lit (.slice a l c))] [.slice a l c] := ⟨_, _, rfl, RL.one.2 rfl, rfl⟩
  have h4 : dk xs 0 % 4 = 0 ∨ dk xs 0 % 4 = 1 ∨ dk xs 0 % 4 = 2 ∨ dk xs 0 % 4 = 3 := by omega
  rcases h4 with h | h | h | h
  · exact v_bh0 xs a l c (by rw [h]; rfl) W _ ht hx hA
  · exact v_bh1 xs a l c (by rw [h]; rfl) W _ ht hx hA
  · exact v_bh2 xs a l c (by rw [h]; rfl) W _ ht hx hA
  · exact v_bh3 xs a l c (by rw [h]; rfl) W _ ht hx hA
end Go.Proofs.YthhaelnildaemaaGreatDoor
