/- Package iv: what has the precision, the selections, the ends outward. -/
import Derived.Test.YtobcbhppmgnioaaGreatDoorSAi3
namespace Go.Proofs.YtobcbhppmgnioaaGreatDoor
set_option maxHeartbeats 4000000
open Go.RowKit Nx
set_option linter.unusedVariables false
set_option linter.unusedSimpArgs false
set_option maxRecDepth 100000
attribute [local go_sem] X.eta J.eta Q.eta brkf_b brkf_t exef_some exif_some condf_b lpf hdS hd1 pick forget postf_some memOf cntF nmL rnL nmA rnA isV contsOf ndB refO orO pin Int.toNat_zero decide_eq_true_eq BEq.rfl beq_self_eq_true Int.natCast_zero ge_iff_le gt_iff_lt Int.le_refl Nat.zero_mul Nat.one_mul Nat.zero_add Nat.zero_lt_succ Nat.lt_add_one Nat.le_refl gV gVV gVIB gVVIB gWW gJII gNNI gBWI gVVVV gVVVVI gVI noE
attribute [local go_sem ↓] not_cond
theorem ci1 : ((1 : Nat) : Int) = 1 := rfl
theorem ci2 : ((2 : Nat) : Int) = 2 := rfl
theorem wrap1 : IntKind.i64.wrap 1 = 1 := by kernel_rfl
theorem wrap0 : IntKind.i64.wrap 0 = 0 := by kernel_rfl
theorem wrap2 : IntKind.i64.wrap 2 = 2 := by kernel_rfl
def prl (z : Int) : Bool := decide (8 ≤ z) && decide (z ≤ 256)
theorem i_right2 (j j1 : J) (z : Int) : RCt Tryz.prog 84 [iA z, .s (.osl 1000 2)] [j.L ++ j1.L] (bA (okJ j && okJ j1 && prl z)) := by
 refine rct_of (O := tblO (Tiv_Right)) (by kernel_rfl) tyT_ok (fun w => tblO_ok (Tiv_Right_ok) _ w) [12, 13] 300 23 [.tmp 4] Tryz.func84 rfl Tryz.ntmps84 (by rw [Tryz.results84]) (by simp) (fun hsm hsb => ?_)
 simp (maxSteps := 10000000) only [go_sem, seval, reduceCtorEq, Tiv_Right, wrap0, wrap1, ci1, ci2, wrap2]
 repeat' with_reducible first | apply And.intro | apply condP <;> intro _
 all_goals first | (show chk _ _ = true; kernel_rfl) | assumption | (simp only [go_sem, *, prl] <;> rfl) | rfl | (exfalso; simp_all only [Bool.true_eq_false, Bool.false_eq_true, reduceCtorEq]; done)
structure SX where
 x : X
 e : Int
def SX.L (c : SX) : List Lf := [.lit (.bool c.x.s), .lit (.int .i64 c.x.e), .ws c.x.xs, .lit (.int .i64 c.e)]
theorem SX.eta (c : SX) : SX.mk c.x c.e = c := rfl
def asSc : List Lf → Option SX
 | [.lit (.bool s), .lit (.int .i64 e), .ws xs, .lit (.int .i64 z)] => some ⟨⟨s, e, xs⟩, z⟩
 | _ => none
theorem asSc_eq {ls : List Lf} {x : SX} (h : asSc ls = some x) : ls = x.L := by
 unfold asSc at h
 split at h
 ·injection h with h; subst h; rfl
 ·cases h
def sdX (j : J) (b : Bool) : X := bif b then j.hi else j.lo
def X.e0 (x : X) : X := ⟨x.s, 0, x.xs⟩
noncomputable def mulS (x y : X) (z : Int) (b : Bool) : SX := ⟨qx (rtwo (gmul z b) z x.e0 y.e0).1, IntKind.i64.wrap (x.e + y.e)⟩
noncomputable def lrgS (c d : SX) : SX := bif decide (cmpx (qx (absx (qx (scalex c.x (min (max (IntKind.i64.wrap (c.e - d.e)) (-32768)) 32768)).1))) (qx (absx d.x)) < 0) then d else c
def gJB (k : J → Bool → Prop × AV) : List AV → Option (Prop × AV)
 | [.v true mj, .v false [.lit (.bool b)]] => (match asIv mj with
  | some j => some (k j b)
  | _ => none)
 | _ => none
theorem gJB_eq {k : J → Bool → Prop × AV} {args : List AV} {e : Prop × AV} (h : gJB k args = some e) : ∃ j b, args = [.v true j.L, bA b] ∧ e = k j b := by
 unfold gJB at h
 split at h
 ·split at h
  ·rename_i j hj
   injection h with h; subst h
   exact ⟨j, _, by rw [asIv_eq hj], rfl⟩
  ·cases h
 ·cases h
def gC (k : SX → Prop × AV) : List AV → Option (Prop × AV)
 | [.v true mc] => (match asSc mc with
  | some c => some (k c)
  | _ => none)
 | _ => none
theorem gC_eq {k : SX → Prop × AV} {args : List AV} {e : Prop × AV} (h : gC k args = some e) : ∃ c, args = [.v true c.L] ∧ e = k c := by
 unfold gC at h
 split at h
 ·split at h
  ·rename_i c hc
   injection h with h; subst h
   exact ⟨c, by rw [asSc_eq hc], rfl⟩
  ·cases h
 ·cases h
def gCC (k : SX → SX → Prop × AV) : List AV → Option (Prop × AV)
 | [.v true mc, .v true mc1] => (match asSc mc, asSc mc1 with
  | some c, some c1 => some (k c c1)
  | _, _ => none)
 | _ => none
theorem gCC_eq {k : SX → SX → Prop × AV} {args : List AV} {e : Prop × AV} (h : gCC k args = some e) : ∃ c c1, args = [.v true c.L, .v true c1.L] ∧ e = k c c1 := by
 unfold gCC at h
 split at h
 ·split at h
  ·rename_i c c1 hc hc1
   injection h with h; subst h
   exact ⟨c, c1, by rw [asSc_eq hc, asSc_eq hc1], rfl⟩
  ·cases h
 ·cases h
theorem i_side (j : J) (b : Bool) : Ct Tryz.prog 95 [.v true j.L, bA b] (· = xA (sdX j b)) := by
 refine ct_of (O := tblO noT) (by kernel_rfl) tyT_ok (fun w => tblO_ok noT_ok _ w) [] 300 10 [.cell 4 26] Tryz.func95 rfl Tryz.ntmps95 (by rw [Tryz.results95]) (by simp) rfl (fun hsm => ?_)
 simp (maxSteps := 10000000) only [go_sem, seval, reduceCtorEq, wrap0, wrap1, ci1, ci2, gJB, gC, gCC, asSc, SX.L, SX.eta]
 repeat' with_reducible first | apply And.intro | apply condP <;> intro _
 all_goals first | (show chk _ _ = true; kernel_rfl) | assumption | (simp only [go_sem, *, sdX] <;> rfl) | rfl | (exfalso; simp_all only [Bool.true_eq_false, Bool.false_eq_true, reduceCtorEq]; done)
noncomputable def Tiv_side : Tbl := one 95 (gJB fun j b => (True, xA (sdX j b)))
theorem Tiv_side_ok : TbOK Tryz.prog Tiv_side := one_ok (ent Tryz.func95 (by kernel_rfl) rfl) fun args e h hp => by obtain ⟨j, b, rfl, rfl⟩ := gJB_eq h; exact i_side j b
theorem i_number (c : SX) : Ct Tryz.prog 92 [.v true c.L] (· = neA (scalex c.x c.e)) := by
 refine ct_of (O := tblO (Tnum_Scale)) (by kernel_rfl) tyT_ok (fun w => tblO_ok (Tnum_Scale_ok) _ w) [] 300 11 [.cell 2 26, .tmp 3] Tryz.func92 rfl Tryz.ntmps92 (by rw [Tryz.results92]) (by simp) rfl (fun hsm => ?_)
 simp (maxSteps := 10000000) only [go_sem, seval, reduceCtorEq, Tnum_Scale, wrap0, wrap1, ci1, ci2, gJB, gC, gCC, asSc, SX.L, SX.eta]
 repeat' with_reducible first | apply And.intro | apply condP <;> intro _
 all_goals first | (show chk _ _ = true; kernel_rfl) | assumption | (simp only [go_sem, *] <;> rfl) | rfl | (exfalso; simp_all only [Bool.true_eq_false, Bool.false_eq_true, reduceCtorEq]; done)
noncomputable def Tiv_scaled_number : Tbl := one 92 (gC fun c => (True, neA (scalex c.x c.e)))
theorem Tiv_scaled_number_ok : TbOK Tryz.prog Tiv_scaled_number := one_ok (ent Tryz.func92 (by kernel_rfl) rfl) fun args e h hp => by obtain ⟨c, rfl, rfl⟩ := gC_eq h; exact i_number c
theorem i_multiply (x : X) (x1 : X) (z : Int) (b : Bool) : Ct Tryz.prog 90 [.v true x.L, .v true x1.L, iA z, bA b] (· = .v true (mulS x x1 z b).L) := by
 refine ct_of (O := tblO (Tround_Mul)) (by kernel_rfl) tyT_ok (fun w => tblO_ok (Tround_Mul_ok) _ w) [] 300 30 [.cell 8 115] Tryz.func90 rfl Tryz.ntmps90 (by rw [Tryz.results90]) (by simp) rfl (fun hsm => ?_)
 simp (maxSteps := 10000000) only [go_sem, seval, reduceCtorEq, Tround_Mul, wrap0, wrap1, ci1, ci2, gJB, gC, gCC, asSc, SX.L, SX.eta]
 repeat' with_reducible first | apply And.intro | apply condP <;> intro _
 all_goals first | (show chk _ _ = true; kernel_rfl) | assumption | (simp only [go_sem, *, mulS, X.e0, SX.L] <;> rfl) | rfl | (exfalso; simp_all only [Bool.true_eq_false, Bool.false_eq_true, reduceCtorEq]; done)
noncomputable def Tiv_multiply : Tbl := one 90 (gNNIB fun x x1 z b => (True, .v true (mulS x x1 z b).L))
theorem Tiv_multiply_ok : TbOK Tryz.prog Tiv_multiply := one_ok (ent Tryz.func90 (by kernel_rfl) rfl) fun args e h hp => by obtain ⟨x, x1, z, b, rfl, rfl⟩ := gNNIB_eq h; exact i_multiply x x1 z b
theorem i_larger (c : SX) (c1 : SX) : Ct Tryz.prog 91 [.v true c.L, .v true c1.L] (· = .v true (lrgS c c1).L) := by
 refine ct_of (O := tblO (orT Tnum_Scale (orT Tnum_Abs (Tnum_Cmp)))) (by kernel_rfl) tyT_ok (fun w => tblO_ok (orT_ok Tnum_Scale_ok (orT_ok Tnum_Abs_ok (Tnum_Cmp_ok))) _ w) [] 300 31 [.cell 4 115] Tryz.func91 rfl Tryz.ntmps91 (by rw [Tryz.results91]) (by simp) rfl (fun hsm => ?_)
 simp (maxSteps := 10000000) only [go_sem, seval, reduceCtorEq, Tnum_Scale, Tnum_Abs, Tnum_Cmp, wrap0, wrap1, ci1, ci2, gJB, gC, gCC, asSc, SX.L, SX.eta]
 repeat' with_reducible first | apply And.intro | apply condP <;> intro _
 all_goals first | (show chk _ _ = true; kernel_rfl) | assumption | (simp only [go_sem, *, lrgS, SX.L] <;> rfl) | rfl | (exfalso; simp_all only [Bool.true_eq_false, Bool.false_eq_true, reduceCtorEq]; done)
noncomputable def Tiv_larger : Tbl := one 91 (gCC fun c c1 => (True, .v true (lrgS c c1).L))
theorem Tiv_larger_ok : TbOK Tryz.prog Tiv_larger := one_ok (ent Tryz.func91 (by kernel_rfl) rfl) fun args e h hp => by obtain ⟨c, c1, rfl, rfl⟩ := gCC_eq h; exact i_larger c c1
end Go.Proofs.YtobcbhppmgnioaaGreatDoor
