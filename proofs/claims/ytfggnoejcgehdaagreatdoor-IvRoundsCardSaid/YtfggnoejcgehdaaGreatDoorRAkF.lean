/- Powers: package iv's and the document's. -/
import Derived.Test.YtfggnoejcgehdaaGreatDoorRAk1
namespace Go.Proofs.YtfggnoejcgehdaaGreatDoor
open Go.RowKit Nx
set_option linter.unusedVariables false
set_option linter.unusedSimpArgs false
attribute [local go_sem] run init X.L J.L vL X.eta J.eta Q.eta List.cons_append List.nil_append brkK brkf_b brkf_t exef_some exif_some condf_b opf bodyE addR skipE stepOp stepLoad stepStore stepField stepCall stepBS stepBi stepCv stepIx lpf forget inL mentA ment dom evs evl evp evd okeys look fillA capsOf wordsOf rowsOf lenOf convK binV shV intV unV boolT tyT tiB tiI tiW tiD tiF tiR tiU tiNum tiIv tiVal tiSc okLf okD keysOf tblO orT noT one asNum asIv asVal postf_some resA tupA clA clL dropTo decide_true decide_false List.all_cons List.all_nil Bool.and_true Bool.and_self true_and and_true and_self List.length_cons List.length_nil List.drop_succ_cons List.drop_zero List.take_succ_cons List.take_zero List.getElem?_cons_zero List.getElem?_cons_succ List.map_cons List.map_nil false_implies true_implies Option.bind_some List.getElem?_toArray Bool.false_eq_true List.append_nil List.flatMap_cons List.flatMap_nil true_or or_true forall_const List.reverse_cons List.reverse_nil Option.isSome_some Option.any_some Nat.lt_irrefl not_true_eq_false Bool.not_true Bool.not_false imp_self implies_true Bool.not_eq_true' Bool.not_eq_false' Bool.true_eq_false memOf cntF nmL rnL nmA rnA isV contsOf ndB refO orO pin Int.toNat_zero decide_eq_true_eq wrap0 wrap1 ci1 ci2 BEq.rfl beq_self_eq_true Int.natCast_zero ge_iff_le gt_iff_lt Int.le_refl Nat.zero_mul Nat.one_mul Nat.zero_add Nat.zero_lt_succ Nat.lt_add_one Nat.le_refl List.append_eq gN gNN gNI gI gNNIB gNIB gV gVV gVIB gVVIB gWW gJ gJJ gJN gJJI gJI gJII gNNI gBWI gVVVV gVVVVI gVI gIJJI gJB AV.s cond_true cond_false Bool.true_and Bool.and_false Bool.false_and Bool.or_true Bool.true_or Bool.or_false Bool.false_or
def gNIIB (k : X → Int → Int → Bool → Prop × AV) : List AV → Option (Prop × AV)
  | [.v true mx, .v false [.lit (.int .i64 z)], .v false [.lit (.int .i64 z1)], .v false [.lit (.bool b)]] => (match asNum mx with
    | some x => some (k x z z1 b)
    | _ => none)
  | _ => none
theorem gNIIB_eq {k : X → Int → Int → Bool → Prop × AV} {args : List AV} {e : Prop × AV} (h : gNIIB k args = some e) : ∃ x z z1 b, args = [.v true x.L, iA z, iA z1, bA b] ∧ e = k x z z1 b := by
  unfold gNIIB at h
  split at h
  · split at h
    · rename_i x hx
      injection h with h; subst h
      exact ⟨x, _, _, _, by rw [asNum_eq hx], rfl⟩
    · cases h
  · cases h
theorem ctNIIB {P : Program} {f : FuncId} {x : X} {z : Int} {z1 : Int} {b : Bool} {r : AV} (hr : clA r = true) (h : ∀ (w : World) (Ax : Option Addr) (cx : Nat), Tab w → Arg w Ax x.xs.length cx x.xs → x.xs.length ≤ 100000 →
    Calls P f #[.agg #[.bool x.s, .int .i64 x.e, .slice Ax x.xs.length cx], .int .i64 z, .int .i64 z1, .bool b] w fun e w' => ∃ u, e = .returned u ∧ (∀ ρ D, r.R ρ D w' u) ∧ Below w.heap.size w w') : Ct P f [.v true x.L, iA z, iA z1, bA b] (· = r) := by
  rintro ρ D w us ht ⟨ux, _, rfl, hx, ⟨uz, _, rfl, hz, ⟨uz1, _, rfl, hz1, ⟨ub, _, rfl, hb, rfl⟩⟩⟩⟩
  obtain ⟨Ax, cx, rfl, hax, hlx⟩ := num_arg hx
  have hz : uz = .int .i64 z := RL.one.1 hz
  subst hz
  have hz1 : uz1 = .int .i64 z1 := RL.one.1 hz1
  subst hz1
  have hb : ub = .bool b := RL.one.1 hb
  subst hb
  refine (h w Ax cx ht hax hlx).mono ?_
  rintro e w' ⟨u, he, hR, hb⟩
  exact ⟨u, r, he, rfl, hr, hR ρ D, hb⟩
noncomputable def Tiv_power : Tbl := one 80 (gNIIB fun x z z1 b => (x.ok = true ∧ 0 ≤ z ∧ z ≤ 8 ∧ prl z1 = true, neA (res (rnd z1.toNat b (pw x.q z.toNat)))))
theorem Tiv_power_ok : TbOK Tryz.prog Tiv_power := one_ok (ent Tryz.func80 (by kernel_rfl) rfl) fun args e h hp => by
  obtain ⟨x, z, z1, b, rfl, rfl⟩ := gNIIB_eq h
  obtain ⟨h1, h0, h8, hz⟩ := hp
  obtain ⟨k, rfl⟩ := Int.eq_ofNat_of_zero_le h0
  exact ctNIIB rfl (fun w Ax cx ht hx hl => by
    have := power_any w x.s b x.e z1 k Ax _ cx x.xs hx h1 (by omega) hz ht
    rw [Int.toNat_natCast]
    exact this.mono fun _ _ h => post_ne (res_fits _) h)
set_option maxRecDepth 100000 in
set_option maxHeartbeats 4000000 in
theorem i_pow1 (j : J) (k z : Int) (b : Bool) (hj : ∀ b, (sdX j b).ok = true) (h0 : 0 ≤ k) (h8 : k ≤ 8) (hz : prl z = true) : RCt Tryz.prog 79 [bA b, .s (.own 1000 0), .s (.own 1001 0), .s (.own 1002 0)] [j.L, [.lit (.int .i64 k)], [.lit (.int .i64 z)]] (neA (res (rnd z.toNat b (pw (sdX j b).q k.toNat)))) := by
  refine rct_of (O := tblO (orT Tiv_side (Tiv_power))) (by kernel_rfl) tyT_ok (fun w => tblO_ok (orT_ok Tiv_side_ok (Tiv_power_ok)) _ w) [] 2000 16 [.cell 5 24, .tmp 6] Tryz.func79 rfl Tryz.ntmps79 (by rw [Tryz.results79]) (by simp) (fun hsm hsb => ?_)
  have hx := hj b
  simp (maxSteps := 10000000) only [go_sem, ↓cond_true, ↓cond_false, ↓not_cond, ↓reduceIte, Nat.reduceMul, Nat.reduceAdd, Nat.reduceEqDiff, Nat.reduceLeDiff, Nat.reduceLT, reduceCtorEq, Int.reduceNeg, Tiv_side, Tiv_power, Int.reduceLT, Int.reduceLE, Int.reduceAdd, Int.reduceToNat, Nat.reduceBEq, Int.reduceMul, Int.reduceSub, Nat.reduceSub, gC, gCC, asSc, SX.L, SX.eta, gNIIB]
  repeat' first | (with_reducible apply And.intro) | (with_reducible apply condP <;> intro _)
  all_goals first | (show chk _ _ = true; kernel_rfl) | assumption | (simp only [go_sem, *]; done) | rfl | (simp only [go_sem, *]; rfl) | (exfalso; simp_all only [Bool.true_eq_false, Bool.false_eq_true, reduceCtorEq]; done)
set_option maxRecDepth 100000 in
set_option maxHeartbeats 4000000 in
theorem i_pow_even (j : J) (k z : Int) (h : okJ j = true) (h0 : 0 ≤ k) (h8 : k ≤ 8) (hz : prl z = true) (he : (k.tmod 2 == 0) = true) (hj : ∀ b, (sdX (sizJ j) b).ok = true) : Ct Tryz.prog 22 [.v true j.L, iA k, iA z] (· = jeA (outJ (fun b => prX (res (rnd z.toNat b (pw (sdX (sizJ j) b).q k.toNat)))))) := by
  refine ct_of (O := orO (refO 76 (pin [iA z, .s (.osl 1000 1)] [j.L] (bA (okJ j && prl z)))) (orO (refO 78 (pin [.s (.clo 79 [1000, 1001, 1002])] [(sizJ j).L, [.lit (.int .i64 k)], [.lit (.int .i64 z)]] (jeA (outJ (fun b => prX (res (rnd z.toNat b (pw (sdX (sizJ j) b).q k.toNat)))))))) (tblO (Tiv_sizes)))) (by kernel_rfl) tyT_ok (fun w => refO_or (refO_ok (ent Tryz.func76 (by kernel_rfl) rfl) (pin_ok (i_right1 j z)) _ _) (refO_or (refO_ok (ent Tryz.func78 (by kernel_rfl) rfl) (pin_ok (i_outward (c := fun b => prX (res (rnd z.toNat b (pw (sdX (sizJ j) b).q k.toNat)))) (ent Tryz.func79 (by kernel_rfl) rfl) (fun b => i_pow1 (sizJ j) k z b hj h0 h8 hz) rfl rfl rfl)) _ _) (tblO_ok (Tiv_sizes_ok) _ w) (fun d st args => by simp [orO, refO, tblO, orT, noT, one, Tiv_sizes])) (fun d st args => by simp [orO, refO, tblO, orT, noT, one, Tiv_sizes])) [] 2000 31 [.cell 6 26, .tmp 7] Tryz.func22 rfl Tryz.ntmps22 (by rw [Tryz.results22]) (by simp) rfl (fun hsm => ?_)
  have hk0 : decide (k < 0) = false := decide_eq_false (by omega)
  have hk8 : decide (8 < k) = false := decide_eq_false (by omega)
  simp (maxSteps := 10000000) only [go_sem, ↓cond_true, ↓cond_false, ↓not_cond, ↓reduceIte, Nat.reduceMul, Nat.reduceAdd, Nat.reduceEqDiff, Nat.reduceLeDiff, Nat.reduceLT, reduceCtorEq, Int.reduceNeg, Tiv_sizes, Int.reduceLT, Int.reduceLE, Int.reduceAdd, Int.reduceToNat, Nat.reduceBEq, Int.reduceMul, Int.reduceSub, Nat.reduceSub, gC, gCC, asSc, SX.L, SX.eta, gNIIB, Int.reduceEq, h, hz, he, hk0, hk8, Bool.or_false, Bool.false_or]
  repeat' first | (with_reducible apply And.intro) | (with_reducible apply condP <;> intro _)
  all_goals first | (show chk _ _ = true; kernel_rfl) | assumption | (simp only [go_sem, *]; done) | rfl | (simp only [go_sem, *]; rfl) | (exfalso; simp_all only [Bool.true_eq_false, Bool.false_eq_true, reduceCtorEq]; done)
set_option maxRecDepth 100000 in
set_option maxHeartbeats 4000000 in
theorem i_pow_odd (j : J) (k z : Int) (h : okJ j = true) (h0 : 0 ≤ k) (h8 : k ≤ 8) (hz : prl z = true) (he : (k.tmod 2 == 0) = false) (hj : ∀ b, (sdX (j) b).ok = true) : Ct Tryz.prog 22 [.v true j.L, iA k, iA z] (· = jeA (outJ (fun b => prX (res (rnd z.toNat b (pw (sdX (j) b).q k.toNat)))))) := by
  refine ct_of (O := orO (refO 76 (pin [iA z, .s (.osl 1000 1)] [j.L] (bA (okJ j && prl z)))) (orO (refO 78 (pin [.s (.clo 79 [1000, 1001, 1002])] [(j).L, [.lit (.int .i64 k)], [.lit (.int .i64 z)]] (jeA (outJ (fun b => prX (res (rnd z.toNat b (pw (sdX (j) b).q k.toNat)))))))) (tblO (Tiv_sizes)))) (by kernel_rfl) tyT_ok (fun w => refO_or (refO_ok (ent Tryz.func76 (by kernel_rfl) rfl) (pin_ok (i_right1 j z)) _ _) (refO_or (refO_ok (ent Tryz.func78 (by kernel_rfl) rfl) (pin_ok (i_outward (c := fun b => prX (res (rnd z.toNat b (pw (sdX (j) b).q k.toNat)))) (ent Tryz.func79 (by kernel_rfl) rfl) (fun b => i_pow1 (j) k z b hj h0 h8 hz) rfl rfl rfl)) _ _) (tblO_ok (Tiv_sizes_ok) _ w) (fun d st args => by simp [orO, refO, tblO, orT, noT, one, Tiv_sizes])) (fun d st args => by simp [orO, refO, tblO, orT, noT, one, Tiv_sizes])) [] 2000 31 [.cell 6 26, .tmp 7] Tryz.func22 rfl Tryz.ntmps22 (by rw [Tryz.results22]) (by simp) rfl (fun hsm => ?_)
  have hk0 : decide (k < 0) = false := decide_eq_false (by omega)
  have hk8 : decide (8 < k) = false := decide_eq_false (by omega)
  simp (maxSteps := 10000000) only [go_sem, ↓cond_true, ↓cond_false, ↓not_cond, ↓reduceIte, Nat.reduceMul, Nat.reduceAdd, Nat.reduceEqDiff, Nat.reduceLeDiff, Nat.reduceLT, reduceCtorEq, Int.reduceNeg, Tiv_sizes, Int.reduceLT, Int.reduceLE, Int.reduceAdd, Int.reduceToNat, Nat.reduceBEq, Int.reduceMul, Int.reduceSub, Nat.reduceSub, gC, gCC, asSc, SX.L, SX.eta, gNIIB, Int.reduceEq, h, hz, he, hk0, hk8, Bool.or_false, Bool.false_or]
  repeat' first | (with_reducible apply And.intro) | (with_reducible apply condP <;> intro _)
  all_goals first | (show chk _ _ = true; kernel_rfl) | assumption | (simp only [go_sem, *]; done) | rfl | (simp only [go_sem, *]; rfl) | (exfalso; simp_all only [Bool.true_eq_false, Bool.false_eq_true, reduceCtorEq]; done)
set_option maxRecDepth 100000 in
set_option maxHeartbeats 4000000 in
theorem i_pow_bad1 (j : J) (k z : Int) (h : (okJ j && prl z) = false) : Ct Tryz.prog 22 [.v true j.L, iA k, iA z] (· = jeA (zJ, 1)) := by
  refine ct_of (O := orO (refO 76 (pin [iA z, .s (.osl 1000 1)] [j.L] (bA (okJ j && prl z)))) (tblO noT)) (by kernel_rfl) tyT_ok (fun w => refO_or (refO_ok (ent Tryz.func76 (by kernel_rfl) rfl) (pin_ok (i_right1 j z)) _ _) (tblO_ok noT_ok _ w) (fun d st args => by simp [orO, refO, tblO, orT, noT, one])) [] 2000 31 [.cell 6 26, .tmp 7] Tryz.func22 rfl Tryz.ntmps22 (by rw [Tryz.results22]) (by simp) rfl (fun hsm => ?_)
  simp (maxSteps := 10000000) only [go_sem, ↓cond_true, ↓cond_false, ↓not_cond, ↓reduceIte, Nat.reduceMul, Nat.reduceAdd, Nat.reduceEqDiff, Nat.reduceLeDiff, Nat.reduceLT, reduceCtorEq, Int.reduceNeg, Int.reduceLT, Int.reduceLE, Int.reduceAdd, Int.reduceToNat, Nat.reduceBEq, Int.reduceMul, Int.reduceSub, Nat.reduceSub, gC, gCC, asSc, SX.L, SX.eta, gNIIB, h, zJ, zX, Bool.or_false, Bool.false_or, Bool.or_true, Bool.true_or]
  repeat' first | (with_reducible apply And.intro) | (with_reducible apply condP <;> intro _)
  all_goals first | (show chk _ _ = true; kernel_rfl) | assumption | (simp only [go_sem, *]; done) | rfl | (simp only [go_sem, *]; rfl) | (exfalso; simp_all only [Bool.true_eq_false, Bool.false_eq_true, reduceCtorEq]; done)
set_option maxRecDepth 100000 in
set_option maxHeartbeats 4000000 in
theorem i_pow_bad2 (j : J) (k z : Int) (h : (okJ j && prl z) = true) (hk : k < 0) : Ct Tryz.prog 22 [.v true j.L, iA k, iA z] (· = jeA (zJ, 1)) := by
  refine ct_of (O := orO (refO 76 (pin [iA z, .s (.osl 1000 1)] [j.L] (bA (okJ j && prl z)))) (tblO noT)) (by kernel_rfl) tyT_ok (fun w => refO_or (refO_ok (ent Tryz.func76 (by kernel_rfl) rfl) (pin_ok (i_right1 j z)) _ _) (tblO_ok noT_ok _ w) (fun d st args => by simp [orO, refO, tblO, orT, noT, one])) [] 2000 31 [.cell 6 26, .tmp 7] Tryz.func22 rfl Tryz.ntmps22 (by rw [Tryz.results22]) (by simp) rfl (fun hsm => ?_)
  have hk0 : decide (k < 0) = true := decide_eq_true hk
  simp (maxSteps := 10000000) only [go_sem, ↓cond_true, ↓cond_false, ↓not_cond, ↓reduceIte, Nat.reduceMul, Nat.reduceAdd, Nat.reduceEqDiff, Nat.reduceLeDiff, Nat.reduceLT, reduceCtorEq, Int.reduceNeg, Int.reduceLT, Int.reduceLE, Int.reduceAdd, Int.reduceToNat, Nat.reduceBEq, Int.reduceMul, Int.reduceSub, Nat.reduceSub, gC, gCC, asSc, SX.L, SX.eta, gNIIB, h, hk0, zJ, zX, Bool.or_false, Bool.false_or, Bool.or_true, Bool.true_or]
  repeat' first | (with_reducible apply And.intro) | (with_reducible apply condP <;> intro _)
  all_goals first | (show chk _ _ = true; kernel_rfl) | assumption | (simp only [go_sem, *]; done) | rfl | (simp only [go_sem, *]; rfl) | (exfalso; simp_all only [Bool.true_eq_false, Bool.false_eq_true, reduceCtorEq]; done)
set_option maxRecDepth 100000 in
set_option maxHeartbeats 4000000 in
theorem i_pow_bad3 (j : J) (k z : Int) (h : (okJ j && prl z) = true) (hk : ¬ k < 0) (hk2 : 8 < k) : Ct Tryz.prog 22 [.v true j.L, iA k, iA z] (· = jeA (zJ, 1)) := by
  refine ct_of (O := orO (refO 76 (pin [iA z, .s (.osl 1000 1)] [j.L] (bA (okJ j && prl z)))) (tblO noT)) (by kernel_rfl) tyT_ok (fun w => refO_or (refO_ok (ent Tryz.func76 (by kernel_rfl) rfl) (pin_ok (i_right1 j z)) _ _) (tblO_ok noT_ok _ w) (fun d st args => by simp [orO, refO, tblO, orT, noT, one])) [] 2000 31 [.cell 6 26, .tmp 7] Tryz.func22 rfl Tryz.ntmps22 (by rw [Tryz.results22]) (by simp) rfl (fun hsm => ?_)
  have hk0 : decide (k < 0) = false := decide_eq_false hk
  have hk8 : decide (8 < k) = true := decide_eq_true hk2
  simp (maxSteps := 10000000) only [go_sem, ↓cond_true, ↓cond_false, ↓not_cond, ↓reduceIte, Nat.reduceMul, Nat.reduceAdd, Nat.reduceEqDiff, Nat.reduceLeDiff, Nat.reduceLT, reduceCtorEq, Int.reduceNeg, Int.reduceLT, Int.reduceLE, Int.reduceAdd, Int.reduceToNat, Nat.reduceBEq, Int.reduceMul, Int.reduceSub, Nat.reduceSub, gC, gCC, asSc, SX.L, SX.eta, gNIIB, h, hk0, hk8, zJ, zX, Bool.or_false, Bool.false_or, Bool.or_true, Bool.true_or]
  repeat' first | (with_reducible apply And.intro) | (with_reducible apply condP <;> intro _)
  all_goals first | (show chk _ _ = true; kernel_rfl) | assumption | (simp only [go_sem, *]; done) | rfl | (simp only [go_sem, *]; rfl) | (exfalso; simp_all only [Bool.true_eq_false, Bool.false_eq_true, reduceCtorEq]; done)
noncomputable def powJ (j : J) (k z : Int) : J × Int := bif okJ j && prl z && decide (0 ≤ k) && decide (k ≤ 8) then outJ (fun b => prX (res (rnd z.toNat b (pw (sdX (bif (k.tmod 2 == 0) then sizJ j else j) b).q k.toNat)))) else (zJ, 1)
theorem sd_siz {j : J} (hg : GJ j) (h : okJ j = true) (b : Bool) : (sdX (sizJ j) b).ok = true := by
  have o1 := (qx_ok (absx_valid (okJ_parts h).1 hg.lo)).1
  have o2 := (qx_ok (absx_valid (okJ_parts h).2.1 hg.hi)).1
  unfold sizJ sdX
  cases b
  · show (bif strJ j then zX else lessX (qx (absx j.lo)) (qx (absx j.hi))).ok = true
    cases strJ j
    · show (lessX _ _).ok = true
      rw [less_low o1 o2]; exact low_ok o1 o2
    · exact zX_ok
  · show (magJ j).ok = true
    unfold magJ
    rw [h]
    show (moreX _ _).ok = true
    rw [more_upp o1 o2]; exact upp_ok o1 o2
theorem i_pow (j : J) (k z : Int) (hg : GJ j) : Ct Tryz.prog 22 [.v true j.L, iA k, iA z] (· = jeA (powJ j k z)) := by
  by_cases h : (okJ j && prl z) = true
  · by_cases hk0 : k < 0
    · have e : powJ j k z = (zJ, 1) := by unfold powJ; rw [h, decide_eq_false (show ¬ 0 ≤ k by omega)]; rfl
      rw [e]; exact i_pow_bad2 j k z h hk0
    · by_cases hk8 : 8 < k
      · have e : powJ j k z = (zJ, 1) := by unfold powJ; rw [h, decide_eq_true (show 0 ≤ k by omega), decide_eq_false (show ¬ k ≤ 8 by omega)]; rfl
        rw [e]; exact i_pow_bad3 j k z h hk0 hk8
      · have h' := h
        rw [Bool.and_eq_true] at h'
        have hu : powJ j k z = outJ (fun b => prX (res (rnd z.toNat b (pw (sdX (bif (k.tmod 2 == 0) then sizJ j else j) b).q k.toNat)))) := by unfold powJ; rw [h, decide_eq_true (show 0 ≤ k by omega), decide_eq_true (show k ≤ 8 by omega)]; rfl
        cases he : (k.tmod 2 == 0)
        · rw [hu, he]; exact i_pow_odd j k z h'.1 (by omega) (by omega) h'.2 he (fun b => sd_ok h'.1 b)
        · rw [hu, he]; exact i_pow_even j k z h'.1 (by omega) (by omega) h'.2 he (fun b => sd_siz hg h'.1 b)
  · have h : (okJ j && prl z) = false := by simpa using h
    have e : powJ j k z = (zJ, 1) := by unfold powJ; rw [h]; rfl
    rw [e]; exact i_pow_bad1 j k z h
noncomputable def Tiv_Pow : Tbl := one 22 (gJII fun j k z => (GJ j, jeA (powJ j k z)))
theorem Tiv_Pow_ok : TbOK Tryz.prog Tiv_Pow := one_ok (ent Tryz.func22 (by kernel_rfl) rfl) fun args e h hp => by obtain ⟨j, k, z, rfl, rfl⟩ := gJII_eq h; exact i_pow j k z hp
end Go.Proofs.YtfggnoejcgehdaaGreatDoor
