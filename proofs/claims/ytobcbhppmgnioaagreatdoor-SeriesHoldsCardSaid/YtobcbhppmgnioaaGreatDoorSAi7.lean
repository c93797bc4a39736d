/- Package iv: the selections as closures, the ends outward. -/
import Derived.Test.YtobcbhppmgnioaaGreatDoorSAiQ
namespace Go.Proofs.YtobcbhppmgnioaaGreatDoor
set_option linter.unusedSimpArgs false
set_option linter.unusedVariables false
set_option maxHeartbeats 4000000
set_option maxRecDepth 100000
open Go.RowKit Nx
section
attribute [local go_sem] X.eta J.eta Q.eta brkf_b brkf_t exef_some exif_some condf_b lpf hdS hd1 pick forget postf_some memOf cntF nmL rnL nmA rnA isV contsOf ndB refO orO pin Int.toNat_zero decide_eq_true_eq wrap0 wrap1 ci1 ci2 BEq.rfl beq_self_eq_true Int.natCast_zero ge_iff_le gt_iff_lt Int.le_refl Nat.zero_mul Nat.one_mul Nat.zero_add Nat.zero_lt_succ Nat.lt_add_one Nat.le_refl gV gVV gVIB gVVIB gWW gJII gNNI gBWI gVVVV gVVVVI gVI gJB noE
attribute [local go_sem ↓] not_cond
theorem i_add1 (j j1 : J) (z : Int) (b : Bool) : RCt Tryz.prog 93 [bA b, .s (.own 1000 0), .s (.own 1001 0), .s (.own 1002 0)] [j.L, j1.L, [.lit (.int .i64 z)]] (neA (rtwo (gadd z b) z (sdX j b) (sdX j1 b))) := by
 refine rct_of (O := tblO (orT Tiv_side (Tround_Add))) (by kernel_rfl) tyT_ok (fun w => tblO_ok (orT_ok Tiv_side_ok (Tround_Add_ok)) _ w) [] 300 18 [.cell 5 26, .tmp 6] Tryz.func93 rfl Tryz.ntmps93 (by rw [Tryz.results93]) (by simp) (fun hsm hsb => ?_)
 simp (maxSteps := 10000000) only [go_sem, seval, reduceCtorEq, Tiv_side, Tround_Add, gC, gCC, asSc, SX.L, SX.eta]
 repeat' with_reducible first | apply And.intro | apply condP <;> intro _
 all_goals first | (show chk _ _ = true; kernel_rfl) | assumption | (simp only [go_sem, *] <;> rfl) | rfl | (exfalso; simp_all only [Bool.true_eq_false, Bool.false_eq_true, reduceCtorEq]; done)
def endX (j : J) (x : X) (b : Bool) : X := sdX j (!(b == decide (signx x < 0)))
theorem i_toward1 (j : J) (x : X) (b : Bool) : RCt Tryz.prog 119 [.v true j.L, .v true x.L, .s (.own 1000 0)] [[.lit (.bool b)]] (xA (endX j x b)) := by
 refine rct_of (O := tblO (orT Tnum_Sign (Tiv_side))) (by kernel_rfl) tyT_ok (fun w => tblO_ok (orT_ok Tnum_Sign_ok (Tiv_side_ok)) _ w) [] 300 13 [.cell 5 26] Tryz.func119 rfl Tryz.ntmps119 (by rw [Tryz.results119]) (by simp) (fun hsm hsb => ?_)
 simp (maxSteps := 10000000) only [go_sem, seval, reduceCtorEq, Tnum_Sign, Tiv_side, gC, gCC, asSc, SX.L, SX.eta]
 repeat' with_reducible first | apply And.intro | apply condP <;> intro _
 all_goals first | (show chk _ _ = true; kernel_rfl) | assumption | (simp only [go_sem, *, endX] <;> rfl) | rfl | (exfalso; simp_all only [Bool.true_eq_false, Bool.false_eq_true, reduceCtorEq]; done)
def outJ (c : Bool → X × Int) : J × Int := bif ((c false).2 != 0) then (zJ, (c false).2) else bif ((c true).2 != 0) then (zJ, (c true).2) else (⟨(c false).1, (c true).1⟩, 0)
def kOut (l1 l2 l3 : List Lf) (c : Bool → X × Int) : KT := fun args ls => match args with
 | .v false [.lit (.bool b)] :: r => some (r = [.s (.own 1000 0), .s (.own 1001 0), .s (.own 1002 0)] ∧ ls = [l1, l2, l3], xeA (c b))
 | _ => none
theorem kOut_ok {f : FuncId} {l1 l2 l3 : List Lf} {c : Bool → X × Int} (h : ∀ b, RCt Tryz.prog f [bA b, .s (.own 1000 0), .s (.own 1001 0), .s (.own 1002 0)] [l1, l2, l3] (xeA (c b))) : ∀ args ls e, kOut l1 l2 l3 c args ls = some e → e.1 → RCt Tryz.prog f args ls e.2 := by
 intro args ls e he hp
 unfold kOut at he
 split at he
 ·injection he with he; subst he
  obtain ⟨rfl, rfl⟩ := hp
  exact h _
 ·cases he
theorem i_outward {f : FuncId} {l1 l2 l3 : List Lf} {c : Bool → X × Int} (hen : ∀ (vs : Array Value) (w : World), (callFunc f vs).run Tryz.prog w = .ok (.enter f vs) w) (h : ∀ b, RCt Tryz.prog f [bA b, .s (.own 1000 0), .s (.own 1001 0), .s (.own 1002 0)] [l1, l2, l3] (xeA (c b)))
  (h1 : l1.all cbL = true) (h2 : l2.all cbL = true) (h3 : l3.all cbL = true) : RCt Tryz.prog 85 [.s (.clo f [1000, 1001, 1002])] [l1, l2, l3] (jeA (outJ c)) := by
 refine rct_of (O := refO f (kOut l1 l2 l3 c)) (by kernel_rfl) tyT_ok (fun w => refO_ok hen (kOut_ok h) _ _) [] 300 28 [.cell 2 28, .tmp 3] Tryz.func85 rfl Tryz.ntmps85 (by rw [Tryz.results85]) (by simp) (fun hsm hsb => ?_)
 simp (maxSteps := 10000000) only [go_sem, seval, reduceCtorEq, gC, gCC, asSc, SX.L, SX.eta, kOut, h1, h2, h3]
 repeat' with_reducible first | apply And.intro | apply condP <;> intro _
 all_goals first | (show chk _ _ = true; kernel_rfl) | assumption | (simp only [go_sem, *, outJ, zJ, zX] <;> rfl) | rfl | (exfalso; simp_all only [Bool.true_eq_false, Bool.false_eq_true, reduceCtorEq]; done)
end
section
attribute [local go_sem] X.eta J.eta Q.eta brkf_b brkf_t exef_some exif_some condf_b lpf hdS hd1 pick forget postf_some memOf cntF nmL rnL nmA rnA isV contsOf ndB refO orO pin Int.toNat_zero decide_eq_true_eq wrap0 wrap1 ci1 ci2 BEq.rfl beq_self_eq_true Int.natCast_zero ge_iff_le gt_iff_lt Int.le_refl Nat.zero_mul Nat.one_mul Nat.zero_add Nat.zero_lt_succ Nat.lt_add_one Nat.le_refl gV gVV gVIB gVVIB gWW gJII gNNI gBWI gVVVV gVVVVI gVI gJB noE
attribute [local go_sem ↓] not_cond
theorem toward_any (w : World) (up : Bool) : Calls Tryz.prog 87 #[.bool up] w fun e w' => e = .returned (.func (.func 119) #[] #[.pointer (some ⟨w.heap.size, 0, none⟩)]) ∧ w' = w.alloc (.cells #[.bool up] 4) := by
 have hmf : ∀ (fn : Fn) (first cap : Array Value) (w : World), (Instr.makeFunc fn first cap).run Tryz.prog w = .ok (.func fn first cap) w := fun _ _ _ _ => rfl
 go_enter Tryz.func87, Tryz.ntmps87
 go_wp2
 go_ret
 exact ⟨rfl, rfl⟩
def towO : Orac := fun f d st args => if f = 87 then (match args with
 | [.v false [.lit (.bool b)]] => (match look st (2 * d + 1) with
  | none => some (True, [2 * d + 1], [(2 * d, .s (.clo 119 [d])), (2 * d + 1, .v true [.lit (.bool b)])])
  | some _ => none)
 | _ => none) else none
theorem towO_ok (F : Fx) (w0 : World) : OrOK Tryz.prog towO F w0 := by
 refine ⟨fun f d st args e he => ?_, fun f d st args e he hp N ρ a w us hz hd hA => ?_, fun f d st st' args e he hk => ?_⟩
 ·unfold towO at he
  split at he
  ·rename_i hf; subst hf; exact ent Tryz.func87 (by kernel_rfl) rfl
  ·cases he
 ·unfold towO at he
  split at he
  ·rename_i hf
   subst hf
   split at he
   ·rename_i b
    split at he
    ·rename_i hn
     injection he with he; subst he
     obtain ⟨u, r, rfl, h1, h2⟩ := hA
     rw [show r = [] from h2]
     have h1 : u = .bool b := RL.one.1 h1
     subst h1
     refine (toward_any w b).mono ?_
     rintro en w' ⟨rfl, rfl⟩
     refine ⟨_, { ρ with r := fun b => if b = d then w.heap.size else ρ b }, rfl, ?_⟩
     exact Cz.new (cs := [.bool b]) (l := .clo 119 [d]) (fun ρ' D' w' h1 h2 => ⟨fun x hx => by rw [List.mem_singleton.1 hx]; exact h1, by simp [h2]⟩) hz hd hn ⟨_, _, rfl, rfl, rfl⟩ rfl
    ·cases he
   ·cases he
  ·cases he
 ·have h0 := he
  unfold towO at he
  split at he
  ·rename_i hf
   split at he
   ·split at he
    ·rename_i hn
     injection he with he; subst he
     rw [← h0]
     unfold towO
     rw [hk (2 * d + 1) (by simp)]
    ·cases he
   ·cases he
  ·cases he
theorem towO_only : Only towO 87 := fun f d st args h => by unfold towO; rw [if_neg h]
theorem only_or {P : Program} {A B : Orac} {g : FuncId} {F : Fx} {w0 : World} (ho : Only A g) (hA : OrOK P A F w0) (hB : OrOK P B F w0) (hn : ∀ d st args, B g d st args = none) : OrOK P (orO A B) F w0 :=
 orO_ok hA hB fun f d st args e he st' => by
  by_cases hf : f = g
  ·subst hf; rw [hn] at he; cases he
  ·exact ho f d st' args hf
def kTow : KT := fun args ls => match args, ls with
 | [.v true mj, .v true mx, r], [[.lit (.bool b)]] => (match asIv mj, asNum mx with
  | some j, some x => some (r = .s (.own 1000 0), xA (endX j x b))
  | _, _ => none)
 | _, _ => none
theorem kTow_ok : ∀ args ls e, kTow args ls = some e → e.1 → RCt Tryz.prog 119 args ls e.2 := by
 intro args ls e he hp
 unfold kTow at he
 split at he
 ·split at he
  ·rename_i j x h1 h2
   injection he with he; subst he
   have hp := hp
   rw [asIv_eq h1, asNum_eq h2]
   dsimp only at hp
   rw [hp]
   exact i_toward1 j x _
  ·cases he
 ·cases he
noncomputable def mulE (j j1 : J) (z : Int) (b : Bool) : Q × Int := bif !(strJ j) then rtwo (gmul z b) z (endX j (endX j1 j.lo b) b) (endX j1 j.lo b) else bif !(strJ j1) then rtwo (gmul z b) z (endX j j1.lo b) (endX j1 (endX j j1.lo b) b) else
 scalex (lrgS (mulS j.lo (endX j1 j.lo b) z b) (mulS j.hi (endX j1 j.hi b) z b)).x (lrgS (mulS j.lo (endX j1 j.lo b) z b) (mulS j.hi (endX j1 j.hi b) z b)).e
theorem i_mul1 (j j1 : J) (z : Int) (b : Bool) : RCt Tryz.prog 86 [bA b, .s (.own 1000 0), .s (.own 1001 0), .s (.own 1002 0)] [j.L, j1.L, [.lit (.int .i64 z)]] (neA (mulE j j1 z b)) := by
 refine rct_of (O := orO towO (orO (refO 119 kTow) (tblO (orT Tiv_straddles (orT Tround_Mul (orT Tiv_multiply (orT Tiv_larger (Tiv_scaled_number)))))))) (by kernel_rfl) tyT_ok (fun w => only_or towO_only (towO_ok _ _) (refO_or (refO_ok (ent Tryz.func119 (by kernel_rfl) rfl) kTow_ok _ _) (tblO_ok (orT_ok Tiv_straddles_ok (orT_ok Tround_Mul_ok (orT_ok Tiv_multiply_ok (orT_ok Tiv_larger_ok (Tiv_scaled_number_ok))))) _ w) (fun d st args => by simp [orO, refO, tblO, orT, noT, one, Tiv_straddles, Tround_Mul, Tiv_multiply, Tiv_larger, Tiv_scaled_number])) (fun d st args => by simp [orO, refO, tblO, orT, noT, one, Tiv_straddles, Tround_Mul, Tiv_multiply, Tiv_larger, Tiv_scaled_number])) [] 300 78 [.cell 5 26, .tmp 6] Tryz.func86 rfl Tryz.ntmps86 (by rw [Tryz.results86]) (by simp) (fun hsm hsb => ?_)
 simp (maxSteps := 10000000) only [go_sem, seval, reduceCtorEq, Tiv_straddles, Tround_Mul, Tiv_multiply, Tiv_larger, Tiv_scaled_number, gC, gCC, asSc, SX.L, SX.eta, kTow, towO]
 repeat' with_reducible first | apply And.intro | apply condP <;> intro _
 all_goals first | (show chk _ _ = true; kernel_rfl) | assumption | (simp only [go_sem, *, mulE] <;> rfl) | rfl | (exfalso; simp_all only [Bool.true_eq_false, Bool.false_eq_true, reduceCtorEq]; done)
noncomputable def prX (r : Q × Int) : X × Int := (qx r.1, r.2)
noncomputable def addJ (j j1 : J) (z : Int) : J × Int := bif okJ j && okJ j1 && prl z then outJ (fun b => prX (rtwo (gadd z b) z (sdX j b) (sdX j1 b))) else (zJ, 1)
noncomputable def mulJ (j j1 : J) (z : Int) : J × Int := bif okJ j && okJ j1 && prl z then outJ (fun b => prX (mulE j j1 z b)) else (zJ, 1)
theorem i_add (j : J) (j1 : J) (z : Int) : Ct Tryz.prog 53 [.v true j.L, .v true j1.L, iA z] (· = jeA (addJ j j1 z)) := by
 refine ct_of (O := orO (refO 84 (pin [iA z, .s (.osl 1000 2)] [j.L ++ j1.L] (bA (okJ j && okJ j1 && prl z)))) (orO (refO 85 (pin [.s (.clo 93 [1000, 1001, 1002])] [j.L, j1.L, [.lit (.int .i64 z)]] (jeA (outJ (fun b => prX (rtwo (gadd z b) z (sdX j b) (sdX j1 b))))))) (tblO noT))) (by kernel_rfl) tyT_ok (fun w => refO_or (refO_ok (ent Tryz.func84 (by kernel_rfl) rfl) (pin_ok (i_right2 j j1 z)) _ _) (refO_or (refO_ok (ent Tryz.func85 (by kernel_rfl) rfl) (pin_ok (i_outward (c := fun b => prX (rtwo (gadd z b) z (sdX j b) (sdX j1 b))) (ent Tryz.func93 (by kernel_rfl) rfl) (fun b => i_add1 j j1 z b) rfl rfl rfl)) _ _) (tblO_ok noT_ok _ w) (fun d st args => by simp [orO, refO, tblO, orT, noT, one])) (fun d st args => by simp [orO, refO, tblO, orT, noT, one])) [] 300 19 [.cell 6 28, .tmp 7] Tryz.func53 rfl Tryz.ntmps53 (by rw [Tryz.results53]) (by simp) rfl (fun hsm => ?_)
 simp (maxSteps := 10000000) only [go_sem, seval, reduceCtorEq, gC, gCC, asSc, SX.L, SX.eta]
 repeat' with_reducible first | apply And.intro | apply condP <;> intro _
 all_goals first | (show chk _ _ = true; kernel_rfl) | assumption | (simp only [go_sem, *, addJ, zJ, zX] <;> rfl) | rfl | (exfalso; simp_all only [Bool.true_eq_false, Bool.false_eq_true, reduceCtorEq]; done)
noncomputable def Tiv_Add : Tbl := one 53 (gJJI fun j j1 z => (True, jeA (addJ j j1 z)))
theorem Tiv_Add_ok : TbOK Tryz.prog Tiv_Add := one_ok (ent Tryz.func53 (by kernel_rfl) rfl) fun args e h hp => by obtain ⟨j, j1, z, rfl, rfl⟩ := gJJI_eq h; exact i_add j j1 z
theorem i_mul (j : J) (j1 : J) (z : Int) : Ct Tryz.prog 52 [.v true j.L, .v true j1.L, iA z] (· = jeA (mulJ j j1 z)) := by
 refine ct_of (O := orO (refO 84 (pin [iA z, .s (.osl 1000 2)] [j.L ++ j1.L] (bA (okJ j && okJ j1 && prl z)))) (orO (refO 85 (pin [.s (.clo 86 [1000, 1001, 1002])] [j.L, j1.L, [.lit (.int .i64 z)]] (jeA (outJ (fun b => prX (mulE j j1 z b)))))) (tblO noT))) (by kernel_rfl) tyT_ok (fun w => refO_or (refO_ok (ent Tryz.func84 (by kernel_rfl) rfl) (pin_ok (i_right2 j j1 z)) _ _) (refO_or (refO_ok (ent Tryz.func85 (by kernel_rfl) rfl) (pin_ok (i_outward (c := fun b => prX (mulE j j1 z b)) (ent Tryz.func86 (by kernel_rfl) rfl) (fun b => i_mul1 j j1 z b) rfl rfl rfl)) _ _) (tblO_ok noT_ok _ w) (fun d st args => by simp [orO, refO, tblO, orT, noT, one])) (fun d st args => by simp [orO, refO, tblO, orT, noT, one])) [] 300 19 [.cell 6 28, .tmp 7] Tryz.func52 rfl Tryz.ntmps52 (by rw [Tryz.results52]) (by simp) rfl (fun hsm => ?_)
 simp (maxSteps := 10000000) only [go_sem, seval, reduceCtorEq, gC, gCC, asSc, SX.L, SX.eta]
 repeat' with_reducible first | apply And.intro | apply condP <;> intro _
 all_goals first | (show chk _ _ = true; kernel_rfl) | assumption | (simp only [go_sem, *, mulJ, zJ, zX] <;> rfl) | rfl | (exfalso; simp_all only [Bool.true_eq_false, Bool.false_eq_true, reduceCtorEq]; done)
noncomputable def Tiv_Mul : Tbl := one 52 (gJJI fun j j1 z => (True, jeA (mulJ j j1 z)))
theorem Tiv_Mul_ok : TbOK Tryz.prog Tiv_Mul := one_ok (ent Tryz.func52 (by kernel_rfl) rfl) fun args e h hp => by obtain ⟨j, j1, z, rfl, rfl⟩ := gJJI_eq h; exact i_mul j j1 z
end
end Go.Proofs.YtobcbhppmgnioaaGreatDoor
