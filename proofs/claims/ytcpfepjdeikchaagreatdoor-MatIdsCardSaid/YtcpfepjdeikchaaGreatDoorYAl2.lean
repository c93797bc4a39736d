/- Package box: equal, pairs, each, for any function handed over. -/
import Derived.Test.YtcpfepjdeikchaaGreatDoorYAl1
namespace Go.Proofs.YtcpfepjdeikchaaGreatDoor
set_option linter.unusedSimpArgs false
set_option linter.unusedVariables false
set_option maxHeartbeats 4000000
set_option maxRecDepth 100000
open Go.RowKit Nx
attribute [local irreducible] chk
section
theorem tbl0 {g : FuncId} {d : Nat} {st : St} {args : List AV} : tblO noT g d st args = none := rfl
end
section
attribute [local go_sem] X.eta J.eta Q.eta brkf_b brkf_t exef_some exif_some condf_b lpf hdS hd1 pick forget postf_some memOf cntF nmL rnL nmA rnA isV contsOf ndB refO orO pin Int.toNat_zero decide_eq_true_eq wrap0 wrap1 ci1 ci2 BEq.rfl beq_self_eq_true Int.natCast_zero ge_iff_le gt_iff_lt Int.le_refl Nat.zero_mul Nat.one_mul Nat.zero_add Nat.zero_lt_succ Nat.lt_add_one Nat.le_refl Int.toNat_natCast noE boxL_nil boxL_cons ptsL_nil ptsL_cons bxe pxe bne_self_eq_false wr2 wr3 wr4 wr5 wr6 wr7 wr8 gB gP gBB gBP gBZ gBBZ asB asP nilB asJs asXs wsOf bC_nil bC_cons pC_nil pC_cons fvO Lc.up tyB tiS tiBB List.replicate_succ List.replicate_zero List.flatten_cons List.flatten_nil Int.ofNat_lt Int.cast_ofNat_Int Int.ofNat_eq_natCast List.isEmpty_nil List.isEmpty_cons and_false false_and List.cons_ne_nil Nat.add_zero ite_true ite_false if_true if_false Nat.le_zero_eq eq_self
attribute [local go_sem ↓] not_cond outL_box outL_pts clL_box clL_pts okL_box okL_pts ment_box ment_pts olL_box olL_pts cvL_box cvL_pts noO_box noO_pts asB_box asP_pts len_box len_pts
theorem rightB_len {l : List J} (h : rightB l = true) : 1 ≤ l.length ∧ l.length ≤ 4 := by
 unfold rightB at h
 simp only [Bool.and_eq_true, decide_eq_true_eq] at h
 exact h.1
def hpin (L : List (List Lf)) (c0 : FuncId) (A : List AV) (r : AV) : HK := fun ls c xs => some (ls = L ∧ c = c0 ∧ xs = A, r)
theorem echJ1 {w : World} {S : Nat → Prop} {gs : List Nat} {f : FuncId} {caps : List Value} {φ : J → J × Int} (hL : Lent S w gs [[.lit (.func (.func f) #[] caps.toArray)]]) (hf : Fv Tryz.prog w f caps (gJ fun j => (True, jeA (φ j)))) : Fv Tryz.prog w 194 (ptrs gs) (gJJ fun a _ => (True, jeA (φ a))) := by
 refine fv_run hL (ent Tryz.func194 (by kernel_rfl) rfl) (fun args e h => by obtain ⟨j, j1, rfl, rfl⟩ := gJJ_eq h; rfl) (fun args e h hp w' us hb ht' hL' hA => ?_)
 obtain ⟨j, j1, rfl, rfl⟩ := gJJ_eq h
 refine (lent_of (args := [jA j, jA j1, .s (.own 1000 0)]) (O := orO (fvO 1 f caps (gJ fun j => (True, jeA (φ j)))) (tblO noT)) (Pst := (· = jeA (φ j))) (by kernel_rfl) tyB_ok (fvO_or (fvO_ok (hf.mono hb)) (tblO_ok noT_ok _ w') (fun g d st args h => tbl0)) [] 300 12 [.cell 5 39, .tmp 6] Tryz.func194 rfl Tryz.ntmps194 (by rw [Tryz.results194]) (by simp) ht' hL' hA ?_).mono ?_
 case refine_2 => rintro e w'' ⟨u, r, he, rfl, _, hR, hb2⟩; exact ⟨u, he, hR, hb2⟩
 simp (maxSteps := 10000000) only [go_sem, seval, reduceCtorEq]
 repeat' with_reducible first | apply And.intro | apply condP <;> intro _
 all_goals first | (show chk _ _ = true; kernel_rfl) | assumption | (simp only [go_sem, *] <;> rfl) | rfl | (exfalso; simp_all only [Bool.true_eq_false, Bool.false_eq_true, reduceCtorEq]; done)
theorem echX1 {w : World} {S : Nat → Prop} {gs : List Nat} {f : FuncId} {caps : List Value} {φ : J → X × Int} (hL : Lent S w gs [[.lit (.func (.func f) #[] caps.toArray)]]) (hf : Fv Tryz.prog w f caps (gJ fun j => (True, xeA (φ j)))) : Fv Tryz.prog w 196 (ptrs gs) (gJJ fun a _ => (True, xeA (φ a))) := by
 refine fv_run hL (ent Tryz.func196 (by kernel_rfl) rfl) (fun args e h => by obtain ⟨j, j1, rfl, rfl⟩ := gJJ_eq h; rfl) (fun args e h hp w' us hb ht' hL' hA => ?_)
 obtain ⟨j, j1, rfl, rfl⟩ := gJJ_eq h
 refine (lent_of (args := [jA j, jA j1, .s (.own 1000 0)]) (O := orO (fvO 1 f caps (gJ fun j => (True, xeA (φ j)))) (tblO noT)) (Pst := (· = xeA (φ j))) (by kernel_rfl) tyB_ok (fvO_or (fvO_ok (hf.mono hb)) (tblO_ok noT_ok _ w') (fun g d st args h => tbl0)) [] 300 12 [.cell 5 37, .tmp 6] Tryz.func196 rfl Tryz.ntmps196 (by rw [Tryz.results196]) (by simp) ht' hL' hA ?_).mono ?_
 case refine_2 => rintro e w'' ⟨u, r, he, rfl, _, hR, hb2⟩; exact ⟨u, he, hR, hb2⟩
 simp (maxSteps := 10000000) only [go_sem, seval, reduceCtorEq]
 repeat' with_reducible first | apply And.intro | apply condP <;> intro _
 all_goals first | (show chk _ _ = true; kernel_rfl) | assumption | (simp only [go_sem, *] <;> rfl) | rfl | (exfalso; simp_all only [Bool.true_eq_false, Bool.false_eq_true, reduceCtorEq]; done)
end
section
attribute [local go_sem] X.eta J.eta Q.eta brkf_b brkf_t exef_some exif_some condf_b lpf hdS hd1 pick forget postf_some memOf cntF nmL rnL nmA rnA isV contsOf ndB refO orO pin Int.toNat_zero decide_eq_true_eq wrap0 wrap1 ci1 ci2 BEq.rfl beq_self_eq_true Int.natCast_zero ge_iff_le gt_iff_lt Int.le_refl Nat.zero_mul Nat.one_mul Nat.zero_add Nat.zero_lt_succ Nat.lt_add_one Nat.le_refl Int.toNat_natCast noE boxL_nil boxL_cons ptsL_nil ptsL_cons bxe pxe bne_self_eq_false wr2 wr3 wr4 wr5 wr6 wr7 wr8 gB gP gBB gBP gBZ gBBZ asB asP nilB asJs asXs wsOf bC_nil bC_cons pC_nil pC_cons fvO Lc.up tyB tiS tiBB List.replicate_succ List.replicate_zero List.flatten_cons List.flatten_nil Int.ofNat_lt Int.cast_ofNat_Int Int.ofNat_eq_natCast List.isEmpty_nil List.isEmpty_cons and_false false_and List.cons_ne_nil Nat.add_zero ite_true ite_false if_true if_false Nat.le_zero_eq eq_self
attribute [local go_sem ↓] not_cond outL_box outL_pts clL_box clL_pts okL_box okL_pts ment_box ment_pts olL_box olL_pts cvL_box cvL_pts noO_box noO_pts asB_box asP_pts len_box len_pts
theorem tblO_none {T : Tbl} {g : FuncId} {d : Nat} {st : St} {args : List AV} (h : ∀ args, T g args = none) : tblO T g d st args = none := by unfold tblO; rw [h]
theorem one_none {f g : FuncId} {k : List AV → Option (Prop × AV)} {args : List AV} (h : f ≠ g) : one g k f args = none := if_neg h
theorem fvT {f : FuncId} {k : List AV → Option (Prop × AV)} (h : TbOK Tryz.prog (one f k)) (he : ∀ (vs : Array Value) (w : World), (callFunc f vs).run Tryz.prog w = .ok (.enter f vs) w) {w : World} : Fv Tryz.prog w f [] k :=
 fv_of he fun args e h1 h2 => h.2 f args e ((if_pos rfl).trans h1) h2
theorem c_add {w : World} {S : Nat → Prop} {gs : List Nat} {z : Int} (hL : Lent S w gs [[.lit (.int .i64 z)]]) : Fv Tryz.prog w 150 (ptrs gs) (gJJ fun a b => (True, jeA (addJ a b z))) := by
 refine fv_run hL (ent Tryz.func150 (by kernel_rfl) rfl) (fun args e h => by obtain ⟨j, j1, rfl, rfl⟩ := gJJ_eq h; rfl) (fun args e h hp w' us hb ht' hL' hA => ?_)
 obtain ⟨j, j1, rfl, rfl⟩ := gJJ_eq h
 refine (lent_of (args := [jA j, jA j1, .s (.own 1000 0)]) (O := tblO Tiv_Add) (Pst := (· = jeA (addJ j j1 z))) (by kernel_rfl) tyB_ok (tblO_ok Tiv_Add_ok _ w') [] 300 13 [.cell 5 39, .tmp 6] Tryz.func150 rfl Tryz.ntmps150 (by rw [Tryz.results150]) (by simp) ht' hL' hA ?_).mono ?_
 case refine_2 => rintro e w'' ⟨u, r, he, rfl, _, hR, hb2⟩; exact ⟨u, he, hR, hb2⟩
 simp (maxSteps := 10000000) only [go_sem, seval, reduceCtorEq, Tiv_Add]
 repeat' with_reducible first | apply And.intro | apply condP <;> intro _
 all_goals first | (show chk _ _ = true; kernel_rfl) | assumption | (simp only [go_sem, *] <;> rfl) | rfl | (exfalso; simp_all only [Bool.true_eq_false, Bool.false_eq_true, reduceCtorEq]; done)
theorem c_sub {w : World} {S : Nat → Prop} {gs : List Nat} {z : Int} (hL : Lent S w gs [[.lit (.int .i64 z)]]) : Fv Tryz.prog w 151 (ptrs gs) (gJJ fun a b => (True, jeA (subJ a b z))) := by
 refine fv_run hL (ent Tryz.func151 (by kernel_rfl) rfl) (fun args e h => by obtain ⟨j, j1, rfl, rfl⟩ := gJJ_eq h; rfl) (fun args e h hp w' us hb ht' hL' hA => ?_)
 obtain ⟨j, j1, rfl, rfl⟩ := gJJ_eq h
 refine (lent_of (args := [jA j, jA j1, .s (.own 1000 0)]) (O := tblO Tiv_Sub) (Pst := (· = jeA (subJ j j1 z))) (by kernel_rfl) tyB_ok (tblO_ok Tiv_Sub_ok _ w') [] 300 13 [.cell 5 39, .tmp 6] Tryz.func151 rfl Tryz.ntmps151 (by rw [Tryz.results151]) (by simp) ht' hL' hA ?_).mono ?_
 case refine_2 => rintro e w'' ⟨u, r, he, rfl, _, hR, hb2⟩; exact ⟨u, he, hR, hb2⟩
 simp (maxSteps := 10000000) only [go_sem, seval, reduceCtorEq, Tiv_Sub]
 repeat' with_reducible first | apply And.intro | apply condP <;> intro _
 all_goals first | (show chk _ _ = true; kernel_rfl) | assumption | (simp only [go_sem, *] <;> rfl) | rfl | (exfalso; simp_all only [Bool.true_eq_false, Bool.false_eq_true, reduceCtorEq]; done)
theorem c_times {w : World} {S : Nat → Prop} {gs : List Nat} {x : J} {z : Int} (hL : Lent S w gs [x.L, [.lit (.int .i64 z)]]) : Fv Tryz.prog w 154 (ptrs gs) (gJ fun a => (True, jeA (mulJ x a z))) := by
 refine fv_run hL (ent Tryz.func154 (by kernel_rfl) rfl) (fun args e h => by obtain ⟨j, rfl, rfl⟩ := gJ_eq h; rfl) (fun args e h hp w' us hb ht' hL' hA => ?_)
 obtain ⟨j, rfl, rfl⟩ := gJ_eq h
 refine (lent_of (args := [jA j, .s (.own 1000 0), .s (.own 1001 0)]) (O := tblO Tiv_Mul) (Pst := (· = jeA (mulJ x j z))) (by kernel_rfl) tyB_ok (tblO_ok Tiv_Mul_ok _ w') [] 300 12 [.cell 4 39, .tmp 5] Tryz.func154 rfl Tryz.ntmps154 (by rw [Tryz.results154]) (by simp) ht' hL' hA ?_).mono ?_
 case refine_2 => rintro e w'' ⟨u, r, he, rfl, _, hR, hb2⟩; exact ⟨u, he, hR, hb2⟩
 simp (maxSteps := 10000000) only [go_sem, seval, reduceCtorEq, Tiv_Mul]
 repeat' with_reducible first | apply And.intro | apply condP <;> intro _
 all_goals first | (show chk _ _ = true; kernel_rfl) | assumption | (simp only [go_sem, *] <;> rfl) | rfl | (exfalso; simp_all only [Bool.true_eq_false, Bool.false_eq_true, reduceCtorEq]; done)
theorem c_mid {w : World} {S : Nat → Prop} {gs : List Nat} {z : Int} (hL : Lent S w gs [[.lit (.int .i64 z)]]) : Fv Tryz.prog w 156 (ptrs gs) (gJ fun a => (True, xeA (midX a z))) := by
 refine fv_run hL (ent Tryz.func156 (by kernel_rfl) rfl) (fun args e h => by obtain ⟨j, rfl, rfl⟩ := gJ_eq h; rfl) (fun args e h hp w' us hb ht' hL' hA => ?_)
 obtain ⟨j, rfl, rfl⟩ := gJ_eq h
 refine (lent_of (args := [jA j, .s (.own 1000 0)]) (O := tblO Tiv_Mid) (Pst := (· = xeA (midX j z))) (by kernel_rfl) tyB_ok (tblO_ok Tiv_Mid_ok _ w') [] 300 10 [.cell 3 37, .tmp 4] Tryz.func156 rfl Tryz.ntmps156 (by rw [Tryz.results156]) (by simp) ht' hL' hA ?_).mono ?_
 case refine_2 => rintro e w'' ⟨u, r, he, rfl, _, hR, hb2⟩; exact ⟨u, he, hR, hb2⟩
 simp (maxSteps := 10000000) only [go_sem, seval, reduceCtorEq, Tiv_Mid]
 repeat' with_reducible first | apply And.intro | apply condP <;> intro _
 all_goals first | (show chk _ _ = true; kernel_rfl) | assumption | (simp only [go_sem, *] <;> rfl) | rfl | (exfalso; simp_all only [Bool.true_eq_false, Bool.false_eq_true, reduceCtorEq]; done)
end
end Go.Proofs.YtcpfepjdeikchaaGreatDoor
