/- Package iv: what needs no rounding. -/
import Derived.Test.YthhaelnildaemaaGreatDoorTAi6
namespace Go.Proofs.YthhaelnildaemaaGreatDoor
open Go.RowKit Nx
set_option linter.unusedVariables false
set_option linter.unusedSimpArgs false
set_option maxRecDepth 100000
set_option maxHeartbeats 4000000
attribute [local go_sem] run init X.L J.L vL List.cons_append List.nil_append brkK opf bodyE addR skipE stepOp stepLoad stepStore stepField stepCall stepBS stepBi stepCv stepIx lpf hdS pick forget inL mentA ment dom evs evl evp evd okeys look fillA capsOf wordsOf rowsOf lenOf convK binV shV intV unV boolT tyT tiB tiI tiW tiD tiF tiR tiU tiNum tiIv tiVal tiSc okLf okD keysOf tblO cvA cvL dnL olA olL noO noA cbL cbA orT noT one asNum asIv asVal resA tupA clA clL dropTo decide_true decide_false List.all_cons List.all_nil Bool.and_true Bool.and_self true_and and_true and_self List.length_cons List.length_nil List.drop_succ_cons List.drop_zero List.take_succ_cons List.take_zero List.getElem?_cons_zero List.getElem?_cons_succ List.map_cons List.map_nil false_implies true_implies Option.bind_some List.getElem?_toArray Bool.false_eq_true List.append_nil List.flatMap_cons List.flatMap_nil true_or or_true forall_const List.reverse_cons List.reverse_nil Option.isSome_some Option.any_some Nat.lt_irrefl not_true_eq_false Bool.not_true Bool.not_false imp_self implies_true Bool.not_eq_true' Bool.not_eq_false' Bool.true_eq_false gN gNN gNI gI gNNIB gNIB gV gVV gVIB gVVIB gWW gJ gJJ gJN gJJI gJI gJII gNNI gBWI gVVVV gVVVVI gVI stepB0 stepMk stepSl stepAp apY optI okO nilV slT resB outPs outLs outL dnT AV.s cond_true cond_false Bool.true_and Bool.and_false Bool.false_and Bool.or_true Bool.true_or Bool.or_false Bool.false_or
attribute [local go_sem ↓] cond_true cond_false
section
variable {R : List It → St → Prop} {N : Nat} {k : List It} {st : St}
theorem exef_some {p : Prop} {r : List Nat} {u : St} {ops : Array Oper} {o : Oper} {l : List Oper} {rs : List (List Nat × List Nat)} {d : Bool} : exef R N (some (p, r, u)) ops o l rs d k st = (okD N o = true ∧ p ∧ R (.ops ops l ((r, u.map (·.1)) :: rs) d :: k) (u ++ st)) := rfl
theorem exif_some {k' : List It} : exif R (some k') st = R k' st := rfl
theorem condf_b {b : Bool} {x y : Code} : condf R (some (.v false [.lit (.bool b)])) x y k st = (bif b then R (.code x :: k) st else R (.code y :: k) st) := rfl
theorem brkf_b {b : Bool} {g : Nat} : brkf R (some (.v false [.lit (.bool b)])) g k st = (bif b then R k ((g, .s (.lit (.bool true))) :: st) else R k ((g, .s (.lit (.bool false))) :: st)) := rfl
theorem brkf_t {g : Nat} {vs : Array Value} : brkf R (some (.v false [.lit (.tuple vs)])) g k st = R k st := rfl
theorem postf_some {Pst : AV → Prop} {ps : List (Bool × List Lf)} : postf Pst (some ps) = (clA (tupA ps) = true ∧ Pst (tupA ps)) := rfl
theorem condP {b : Bool} {A B : Prop} (h1 : b = true → A) (h2 : b = false → B) : bif b then A else B := by
  cases b
  · exact h2 rfl
  · exact h1 rfl
theorem not_cond {b : Bool} {A B : Prop} : (bif !b then A else B) = (bif b then B else A) := by cases b <;> rfl
theorem X.eta (x : X) : X.mk x.s x.e x.xs = x := rfl
theorem J.eta (x : J) : J.mk x.lo x.hi = x := rfl
theorem Q.eta (x : Q) : Q.mk x.s x.m x.e = x := rfl
end
def zX : X := ⟨false, 0, []⟩
def zJ : J := ⟨zX, zX⟩
def okJ (j : J) : Bool := j.lo.ok && j.hi.ok && decide (cmpx j.lo j.hi ≤ 0)
def hasJ (j : J) (x : X) : Bool := okJ j && x.ok && decide (cmpx j.lo x ≤ 0) && decide (cmpx x j.hi ≤ 0)
def inJ (a b : J) : Bool := okJ a && okJ b && decide (cmpx b.lo a.lo ≤ 0) && decide (cmpx a.hi b.hi ≤ 0)
def sameJ (a b : J) : Bool := samex a.lo b.lo && samex a.hi b.hi
def lessX (x y : X) : X := bif decide (cmpx x y > 0) then y else x
def moreX (x y : X) : X := bif decide (cmpx x y < 0) then y else x
def makeJ (x y : X) : J × Int := bif okJ ⟨x, y⟩ then (⟨x, y⟩, 0) else (zJ, 1)
def hullJ (a b : J) : J × Int := bif okJ a && okJ b then makeJ (lessX a.lo b.lo) (moreX a.hi b.hi) else (zJ, 1)
def magJ (a : J) : X := bif okJ a then moreX (qx (absx a.lo)) (qx (absx a.hi)) else zX
def strJ (a : J) : Bool := decide (signx a.lo < 0) && decide (signx a.hi > 0)
abbrev jA (j : J) : AV := .v true j.L
abbrev xA (x : X) : AV := .v true x.L
abbrev jeA (r : J × Int) : AV := .tup [(true, r.1.L), (false, [.lit (.int .i64 r.2)])]
set_option maxHeartbeats 2000000 in
theorem i_right (j : J) : Ct Tryz.prog 89 [.v true j.L] (· = bA (okJ j)) := by
  refine ct_of (O := tblO (orT Tnum_Right (Tnum_Cmp))) (by kernel_rfl) tyT_ok (fun w => tblO_ok (orT_ok Tnum_Right_ok (Tnum_Cmp_ok)) _ w) [] 300 19 [.tmp 2] Tryz.func89 rfl Tryz.ntmps89 (by rw [Tryz.results89]) (by simp) rfl (fun hsm => ?_)
  simp (maxSteps := 10000000) only [go_sem, X.eta, J.eta, Q.eta, brkf_b, brkf_t, exef_some, exif_some, condf_b, ↓not_cond, postf_some, ↓reduceIte, Nat.reduceMul, Nat.reduceDiv, Nat.reduceAdd, Nat.reduceEqDiff, Nat.reduceLeDiff, Nat.reduceLT, reduceCtorEq, Int.reduceNeg, Tnum_Right, Tnum_Cmp]
  repeat' first | (with_reducible apply And.intro) | (with_reducible apply condP <;> intro _)
  all_goals first | (show chk _ _ = true; kernel_rfl) | (simp only [AV.s, cond_true, cond_false, Bool.and_true, Bool.true_and, Bool.and_false, Bool.false_and, Bool.and_self, Bool.not_true, Bool.not_false, *, okJ] <;> rfl) | rfl | (exfalso; simp_all only [Bool.true_eq_false, Bool.false_eq_true, reduceCtorEq]; done)
set_option maxHeartbeats 2000000 in
theorem i_clone (x : X) : Ct Tryz.prog 155 [.v true x.L] (· = xA x) := by
  refine ct_of (O := tblO noT) (by kernel_rfl) tyT_ok (fun w => tblO_ok noT_ok _ w) [] 300 8 [.cell 2 28] Tryz.func155 rfl Tryz.ntmps155 (by rw [Tryz.results155]) (by simp) rfl (fun hsm => ?_)
  simp (maxSteps := 10000000) only [go_sem, X.eta, J.eta, Q.eta, brkf_b, brkf_t, exef_some, exif_some, condf_b, ↓not_cond, postf_some, ↓reduceIte, Nat.reduceMul, Nat.reduceDiv, Nat.reduceAdd, Nat.reduceEqDiff, Nat.reduceLeDiff, Nat.reduceLT, reduceCtorEq, Int.reduceNeg]
  repeat' first | (with_reducible apply And.intro) | (with_reducible apply condP <;> intro _)
  all_goals first | (show chk _ _ = true; kernel_rfl) | (simp only [AV.s, cond_true, cond_false, Bool.and_true, Bool.true_and, Bool.and_false, Bool.false_and, Bool.and_self, Bool.not_true, Bool.not_false, *, X.L] <;> rfl) | rfl | (exfalso; simp_all only [Bool.true_eq_false, Bool.false_eq_true, reduceCtorEq]; done)
set_option maxHeartbeats 2000000 in
theorem i_less (x : X) (x1 : X) : Ct Tryz.prog 162 [.v true x.L, .v true x1.L] (· = xA (lessX x x1)) := by
  refine ct_of (O := tblO (Tnum_Cmp)) (by kernel_rfl) tyT_ok (fun w => tblO_ok (Tnum_Cmp_ok) _ w) [] 300 11 [.cell 4 28] Tryz.func162 rfl Tryz.ntmps162 (by rw [Tryz.results162]) (by simp) rfl (fun hsm => ?_)
  simp (maxSteps := 10000000) only [go_sem, X.eta, J.eta, Q.eta, brkf_b, brkf_t, exef_some, exif_some, condf_b, ↓not_cond, postf_some, ↓reduceIte, Nat.reduceMul, Nat.reduceDiv, Nat.reduceAdd, Nat.reduceEqDiff, Nat.reduceLeDiff, Nat.reduceLT, reduceCtorEq, Int.reduceNeg, Tnum_Cmp]
  repeat' first | (with_reducible apply And.intro) | (with_reducible apply condP <;> intro _)
  all_goals first | (show chk _ _ = true; kernel_rfl) | (simp only [AV.s, cond_true, cond_false, Bool.and_true, Bool.true_and, Bool.and_false, Bool.false_and, Bool.and_self, Bool.not_true, Bool.not_false, *, lessX, X.L] <;> rfl) | rfl | (exfalso; simp_all only [Bool.true_eq_false, Bool.false_eq_true, reduceCtorEq]; done)
set_option maxHeartbeats 2000000 in
theorem i_more (x : X) (x1 : X) : Ct Tryz.prog 163 [.v true x.L, .v true x1.L] (· = xA (moreX x x1)) := by
  refine ct_of (O := tblO (Tnum_Cmp)) (by kernel_rfl) tyT_ok (fun w => tblO_ok (Tnum_Cmp_ok) _ w) [] 300 11 [.cell 4 28] Tryz.func163 rfl Tryz.ntmps163 (by rw [Tryz.results163]) (by simp) rfl (fun hsm => ?_)
  simp (maxSteps := 10000000) only [go_sem, X.eta, J.eta, Q.eta, brkf_b, brkf_t, exef_some, exif_some, condf_b, ↓not_cond, postf_some, ↓reduceIte, Nat.reduceMul, Nat.reduceDiv, Nat.reduceAdd, Nat.reduceEqDiff, Nat.reduceLeDiff, Nat.reduceLT, reduceCtorEq, Int.reduceNeg, Tnum_Cmp]
  repeat' first | (with_reducible apply And.intro) | (with_reducible apply condP <;> intro _)
  all_goals first | (show chk _ _ = true; kernel_rfl) | (simp only [AV.s, cond_true, cond_false, Bool.and_true, Bool.true_and, Bool.and_false, Bool.false_and, Bool.and_self, Bool.not_true, Bool.not_false, *, moreX, X.L] <;> rfl) | rfl | (exfalso; simp_all only [Bool.true_eq_false, Bool.false_eq_true, reduceCtorEq]; done)
set_option maxHeartbeats 2000000 in
theorem i_same (j : J) (j1 : J) : Ct Tryz.prog 98 [.v true j.L, .v true j1.L] (· = bA (sameJ j j1)) := by
  refine ct_of (O := tblO (Tnum_Same)) (by kernel_rfl) tyT_ok (fun w => tblO_ok (Tnum_Same_ok) _ w) [] 300 17 [.tmp 4] Tryz.func98 rfl Tryz.ntmps98 (by rw [Tryz.results98]) (by simp) rfl (fun hsm => ?_)
  simp (maxSteps := 10000000) only [go_sem, X.eta, J.eta, Q.eta, brkf_b, brkf_t, exef_some, exif_some, condf_b, ↓not_cond, postf_some, ↓reduceIte, Nat.reduceMul, Nat.reduceDiv, Nat.reduceAdd, Nat.reduceEqDiff, Nat.reduceLeDiff, Nat.reduceLT, reduceCtorEq, Int.reduceNeg, Tnum_Same]
  repeat' first | (with_reducible apply And.intro) | (with_reducible apply condP <;> intro _)
  all_goals first | (show chk _ _ = true; kernel_rfl) | (simp only [AV.s, cond_true, cond_false, Bool.and_true, Bool.true_and, Bool.and_false, Bool.false_and, Bool.and_self, Bool.not_true, Bool.not_false, *, sameJ] <;> rfl) | rfl | (exfalso; simp_all only [Bool.true_eq_false, Bool.false_eq_true, reduceCtorEq]; done)
set_option maxHeartbeats 2000000 in
theorem i_str (j : J) : Ct Tryz.prog 126 [.v true j.L] (· = bA (strJ j)) := by
  refine ct_of (O := tblO (Tnum_Sign)) (by kernel_rfl) tyT_ok (fun w => tblO_ok (Tnum_Sign_ok) _ w) [] 300 13 [.tmp 2] Tryz.func126 rfl Tryz.ntmps126 (by rw [Tryz.results126]) (by simp) rfl (fun hsm => ?_)
  simp (maxSteps := 10000000) only [go_sem, X.eta, J.eta, Q.eta, brkf_b, brkf_t, exef_some, exif_some, condf_b, ↓not_cond, postf_some, ↓reduceIte, Nat.reduceMul, Nat.reduceDiv, Nat.reduceAdd, Nat.reduceEqDiff, Nat.reduceLeDiff, Nat.reduceLT, reduceCtorEq, Int.reduceNeg, Tnum_Sign]
  repeat' first | (with_reducible apply And.intro) | (with_reducible apply condP <;> intro _)
  all_goals first | (show chk _ _ = true; kernel_rfl) | (simp only [AV.s, cond_true, cond_false, Bool.and_true, Bool.true_and, Bool.and_false, Bool.false_and, Bool.and_self, Bool.not_true, Bool.not_false, *, strJ] <;> rfl) | rfl | (exfalso; simp_all only [Bool.true_eq_false, Bool.false_eq_true, reduceCtorEq]; done)
noncomputable def Tiv_Right : Tbl := one 89 (gJ fun j => (True, bA (okJ j)))
theorem Tiv_Right_ok : TbOK Tryz.prog Tiv_Right := one_ok (ent Tryz.func89 (by kernel_rfl) rfl) fun args e h hp => by obtain ⟨j, rfl, rfl⟩ := gJ_eq h; exact i_right j
noncomputable def Tiv_clone : Tbl := one 155 (gN fun x => (True, xA x))
theorem Tiv_clone_ok : TbOK Tryz.prog Tiv_clone := one_ok (ent Tryz.func155 (by kernel_rfl) rfl) fun args e h hp => by obtain ⟨x, rfl, rfl⟩ := gN_eq h; exact i_clone x
noncomputable def Tiv_lesser : Tbl := one 162 (gNN fun x x1 => (True, xA (lessX x x1)))
theorem Tiv_lesser_ok : TbOK Tryz.prog Tiv_lesser := one_ok (ent Tryz.func162 (by kernel_rfl) rfl) fun args e h hp => by obtain ⟨x, x1, rfl, rfl⟩ := gNN_eq h; exact i_less x x1
noncomputable def Tiv_greater : Tbl := one 163 (gNN fun x x1 => (True, xA (moreX x x1)))
theorem Tiv_greater_ok : TbOK Tryz.prog Tiv_greater := one_ok (ent Tryz.func163 (by kernel_rfl) rfl) fun args e h hp => by obtain ⟨x, x1, rfl, rfl⟩ := gNN_eq h; exact i_more x x1
noncomputable def Tiv_Same : Tbl := one 98 (gJJ fun j j1 => (True, bA (sameJ j j1)))
theorem Tiv_Same_ok : TbOK Tryz.prog Tiv_Same := one_ok (ent Tryz.func98 (by kernel_rfl) rfl) fun args e h hp => by obtain ⟨j, j1, rfl, rfl⟩ := gJJ_eq h; exact i_same j j1
noncomputable def Tiv_straddles : Tbl := one 126 (gJ fun j => (True, bA (strJ j)))
theorem Tiv_straddles_ok : TbOK Tryz.prog Tiv_straddles := one_ok (ent Tryz.func126 (by kernel_rfl) rfl) fun args e h hp => by obtain ⟨j, rfl, rfl⟩ := gJ_eq h; exact i_str j
set_option maxHeartbeats 2000000 in
theorem i_has (j : J) (x : X) : Ct Tryz.prog 31 [.v true j.L, .v true x.L] (· = bA (hasJ j x)) := by
  refine ct_of (O := tblO (orT Tiv_Right (orT Tnum_Right (Tnum_Cmp)))) (by kernel_rfl) tyT_ok (fun w => tblO_ok (orT_ok Tiv_Right_ok (orT_ok Tnum_Right_ok (Tnum_Cmp_ok))) _ w) [] 300 25 [.tmp 4] Tryz.func31 rfl Tryz.ntmps31 (by rw [Tryz.results31]) (by simp) rfl (fun hsm => ?_)
  simp (maxSteps := 10000000) only [go_sem, X.eta, J.eta, Q.eta, brkf_b, brkf_t, exef_some, exif_some, condf_b, ↓not_cond, postf_some, ↓reduceIte, Nat.reduceMul, Nat.reduceDiv, Nat.reduceAdd, Nat.reduceEqDiff, Nat.reduceLeDiff, Nat.reduceLT, reduceCtorEq, Int.reduceNeg, Tiv_Right, Tnum_Right, Tnum_Cmp]
  repeat' first | (with_reducible apply And.intro) | (with_reducible apply condP <;> intro _)
  all_goals first | (show chk _ _ = true; kernel_rfl) | (simp only [AV.s, cond_true, cond_false, Bool.and_true, Bool.true_and, Bool.and_false, Bool.false_and, Bool.and_self, Bool.not_true, Bool.not_false, *, hasJ] <;> rfl) | rfl | (exfalso; simp_all only [Bool.true_eq_false, Bool.false_eq_true, reduceCtorEq]; done)
set_option maxHeartbeats 2000000 in
theorem i_in (j : J) (j1 : J) : Ct Tryz.prog 53 [.v true j.L, .v true j1.L] (· = bA (inJ j j1)) := by
  refine ct_of (O := tblO (orT Tiv_Right (Tnum_Cmp))) (by kernel_rfl) tyT_ok (fun w => tblO_ok (orT_ok Tiv_Right_ok (Tnum_Cmp_ok)) _ w) [] 300 27 [.tmp 4] Tryz.func53 rfl Tryz.ntmps53 (by rw [Tryz.results53]) (by simp) rfl (fun hsm => ?_)
  simp (maxSteps := 10000000) only [go_sem, X.eta, J.eta, Q.eta, brkf_b, brkf_t, exef_some, exif_some, condf_b, ↓not_cond, postf_some, ↓reduceIte, Nat.reduceMul, Nat.reduceDiv, Nat.reduceAdd, Nat.reduceEqDiff, Nat.reduceLeDiff, Nat.reduceLT, reduceCtorEq, Int.reduceNeg, Tiv_Right, Tnum_Cmp]
  repeat' first | (with_reducible apply And.intro) | (with_reducible apply condP <;> intro _)
  all_goals first | (show chk _ _ = true; kernel_rfl) | (simp only [AV.s, cond_true, cond_false, Bool.and_true, Bool.true_and, Bool.and_false, Bool.false_and, Bool.and_self, Bool.not_true, Bool.not_false, *, inJ] <;> rfl) | rfl | (exfalso; simp_all only [Bool.true_eq_false, Bool.false_eq_true, reduceCtorEq]; done)
set_option maxHeartbeats 2000000 in
theorem i_of (x : X) : Ct Tryz.prog 101 [.v true x.L] (· = jA ⟨x, x⟩) := by
  refine ct_of (O := tblO (Tiv_clone)) (by kernel_rfl) tyT_ok (fun w => tblO_ok (Tiv_clone_ok) _ w) [] 300 8 [.cell 2 40] Tryz.func101 rfl Tryz.ntmps101 (by rw [Tryz.results101]) (by simp) rfl (fun hsm => ?_)
  simp (maxSteps := 10000000) only [go_sem, X.eta, J.eta, Q.eta, brkf_b, brkf_t, exef_some, exif_some, condf_b, ↓not_cond, postf_some, ↓reduceIte, Nat.reduceMul, Nat.reduceDiv, Nat.reduceAdd, Nat.reduceEqDiff, Nat.reduceLeDiff, Nat.reduceLT, reduceCtorEq, Int.reduceNeg, Tiv_clone]
  repeat' first | (with_reducible apply And.intro) | (with_reducible apply condP <;> intro _)
  all_goals first | (show chk _ _ = true; kernel_rfl) | (simp only [AV.s, cond_true, cond_false, Bool.and_true, Bool.true_and, Bool.and_false, Bool.false_and, Bool.and_self, Bool.not_true, Bool.not_false, *, J.L] <;> rfl) | rfl | (exfalso; simp_all only [Bool.true_eq_false, Bool.false_eq_true, reduceCtorEq]; done)
set_option maxHeartbeats 2000000 in
theorem i_make (x : X) (x1 : X) : Ct Tryz.prog 158 [.v true x.L, .v true x1.L] (· = jeA (makeJ x x1)) := by
  refine ct_of (O := tblO (orT Tiv_Right (Tiv_clone))) (by kernel_rfl) tyT_ok (fun w => tblO_ok (orT_ok Tiv_Right_ok (Tiv_clone_ok)) _ w) [] 300 17 [.cell 4 40, .tmp 5] Tryz.func158 rfl Tryz.ntmps158 (by rw [Tryz.results158]) (by simp) rfl (fun hsm => ?_)
  simp (maxSteps := 10000000) only [go_sem, X.eta, J.eta, Q.eta, brkf_b, brkf_t, exef_some, exif_some, condf_b, ↓not_cond, postf_some, ↓reduceIte, Nat.reduceMul, Nat.reduceDiv, Nat.reduceAdd, Nat.reduceEqDiff, Nat.reduceLeDiff, Nat.reduceLT, reduceCtorEq, Int.reduceNeg, Tiv_Right, Tiv_clone]
  repeat' first | (with_reducible apply And.intro) | (with_reducible apply condP <;> intro _)
  all_goals first | (show chk _ _ = true; kernel_rfl) | (simp only [AV.s, cond_true, cond_false, Bool.and_true, Bool.true_and, Bool.and_false, Bool.false_and, Bool.and_self, Bool.not_true, Bool.not_false, *, makeJ, zJ, zX, J.L, X.L] <;> rfl) | rfl | (exfalso; simp_all only [Bool.true_eq_false, Bool.false_eq_true, reduceCtorEq]; done)
set_option maxHeartbeats 2000000 in
theorem i_mag (j : J) : Ct Tryz.prog 201 [.v true j.L] (· = xA (magJ j)) := by
  refine ct_of (O := tblO (orT Tiv_Right (orT Tnum_Abs (Tiv_greater)))) (by kernel_rfl) tyT_ok (fun w => tblO_ok (orT_ok Tiv_Right_ok (orT_ok Tnum_Abs_ok (Tiv_greater_ok))) _ w) [] 300 14 [.cell 2 28] Tryz.func201 rfl Tryz.ntmps201 (by rw [Tryz.results201]) (by simp) rfl (fun hsm => ?_)
  simp (maxSteps := 10000000) only [go_sem, X.eta, J.eta, Q.eta, brkf_b, brkf_t, exef_some, exif_some, condf_b, ↓not_cond, postf_some, ↓reduceIte, Nat.reduceMul, Nat.reduceDiv, Nat.reduceAdd, Nat.reduceEqDiff, Nat.reduceLeDiff, Nat.reduceLT, reduceCtorEq, Int.reduceNeg, Tiv_Right, Tnum_Abs, Tiv_greater]
  repeat' first | (with_reducible apply And.intro) | (with_reducible apply condP <;> intro _)
  all_goals first | (show chk _ _ = true; kernel_rfl) | (simp only [AV.s, cond_true, cond_false, Bool.and_true, Bool.true_and, Bool.and_false, Bool.false_and, Bool.and_self, Bool.not_true, Bool.not_false, *, magJ, zX, X.L] <;> rfl) | rfl | (exfalso; simp_all only [Bool.true_eq_false, Bool.false_eq_true, reduceCtorEq]; done)
noncomputable def Tiv_Has : Tbl := one 31 (gJN fun j x => (True, bA (hasJ j x)))
theorem Tiv_Has_ok : TbOK Tryz.prog Tiv_Has := one_ok (ent Tryz.func31 (by kernel_rfl) rfl) fun args e h hp => by obtain ⟨j, x, rfl, rfl⟩ := gJN_eq h; exact i_has j x
noncomputable def Tiv_In : Tbl := one 53 (gJJ fun j j1 => (True, bA (inJ j j1)))
theorem Tiv_In_ok : TbOK Tryz.prog Tiv_In := one_ok (ent Tryz.func53 (by kernel_rfl) rfl) fun args e h hp => by obtain ⟨j, j1, rfl, rfl⟩ := gJJ_eq h; exact i_in j j1
noncomputable def Tiv_Of : Tbl := one 101 (gN fun x => (True, jA ⟨x, x⟩))
theorem Tiv_Of_ok : TbOK Tryz.prog Tiv_Of := one_ok (ent Tryz.func101 (by kernel_rfl) rfl) fun args e h hp => by obtain ⟨x, rfl, rfl⟩ := gN_eq h; exact i_of x
noncomputable def Tiv_Make : Tbl := one 158 (gNN fun x x1 => (True, jeA (makeJ x x1)))
theorem Tiv_Make_ok : TbOK Tryz.prog Tiv_Make := one_ok (ent Tryz.func158 (by kernel_rfl) rfl) fun args e h hp => by obtain ⟨x, x1, rfl, rfl⟩ := gNN_eq h; exact i_make x x1
noncomputable def Tiv_Mag : Tbl := one 201 (gJ fun j => (True, xA (magJ j)))
theorem Tiv_Mag_ok : TbOK Tryz.prog Tiv_Mag := one_ok (ent Tryz.func201 (by kernel_rfl) rfl) fun args e h hp => by obtain ⟨j, rfl, rfl⟩ := gJ_eq h; exact i_mag j
set_option maxHeartbeats 2000000 in
theorem i_hull (j : J) (j1 : J) : Ct Tryz.prog 97 [.v true j.L, .v true j1.L] (· = jeA (hullJ j j1)) := by
  refine ct_of (O := tblO (orT Tiv_Right (orT Tiv_lesser (orT Tiv_greater (Tiv_Make))))) (by kernel_rfl) tyT_ok (fun w => tblO_ok (orT_ok Tiv_Right_ok (orT_ok Tiv_lesser_ok (orT_ok Tiv_greater_ok (Tiv_Make_ok)))) _ w) [] 300 28 [.cell 4 40, .tmp 5] Tryz.func97 rfl Tryz.ntmps97 (by rw [Tryz.results97]) (by simp) rfl (fun hsm => ?_)
  simp (maxSteps := 10000000) only [go_sem, X.eta, J.eta, Q.eta, brkf_b, brkf_t, exef_some, exif_some, condf_b, ↓not_cond, postf_some, ↓reduceIte, Nat.reduceMul, Nat.reduceDiv, Nat.reduceAdd, Nat.reduceEqDiff, Nat.reduceLeDiff, Nat.reduceLT, reduceCtorEq, Int.reduceNeg, Tiv_Right, Tiv_lesser, Tiv_greater, Tiv_Make]
  repeat' first | (with_reducible apply And.intro) | (with_reducible apply condP <;> intro _)
  all_goals first | (show chk _ _ = true; kernel_rfl) | (simp only [AV.s, cond_true, cond_false, Bool.and_true, Bool.true_and, Bool.and_false, Bool.false_and, Bool.and_self, Bool.not_true, Bool.not_false, *, hullJ, zJ, zX, J.L, X.L] <;> rfl) | rfl | (exfalso; simp_all only [Bool.true_eq_false, Bool.false_eq_true, reduceCtorEq]; done)
noncomputable def Tiv_Hull : Tbl := one 97 (gJJ fun j j1 => (True, jeA (hullJ j j1)))
theorem Tiv_Hull_ok : TbOK Tryz.prog Tiv_Hull := one_ok (ent Tryz.func97 (by kernel_rfl) rfl) fun args e h hp => by obtain ⟨j, j1, rfl, rfl⟩ := gJJ_eq h; exact i_hull j j1
end Go.Proofs.YthhaelnildaemaaGreatDoor
