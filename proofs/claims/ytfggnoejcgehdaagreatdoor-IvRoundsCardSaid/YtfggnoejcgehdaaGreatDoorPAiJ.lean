/- Package iv: what needs no rounding. -/
import Derived.Test.YtfggnoejcgehdaaGreatDoorPAi6
namespace Go.Proofs.YtfggnoejcgehdaaGreatDoor
open Go.RowKit Nx
set_option linter.unusedVariables false
set_option linter.unusedSimpArgs false
attribute [local go_sem] run init X.L J.L vL List.cons_append List.nil_append brkK opf bodyE addR skipE stepOp stepLoad stepStore stepField stepCall stepBS stepBi stepCv stepIx lpf forget inL mentA ment dom evs evl evp evd okeys look fillA capsOf wordsOf rowsOf lenOf convK binV shV intV unV boolT tyT tiB tiI tiW tiD tiF tiR tiU tiNum tiIv tiVal tiSc okLf okD keysOf tblO orT noT one asNum asIv asVal resA tupA clA clL dropTo decide_true decide_false List.all_cons List.all_nil Bool.and_true Bool.and_self true_and and_true and_self List.length_cons List.length_nil List.drop_succ_cons List.drop_zero List.take_succ_cons List.take_zero List.getElem?_cons_zero List.getElem?_cons_succ List.map_cons List.map_nil false_implies true_implies Option.bind_some List.getElem?_toArray Bool.false_eq_true List.append_nil List.flatMap_cons List.flatMap_nil true_or or_true forall_const List.reverse_cons List.reverse_nil Option.isSome_some Option.any_some Nat.lt_irrefl not_true_eq_false Bool.not_true Bool.not_false imp_self implies_true Bool.not_eq_true' Bool.not_eq_false' Bool.true_eq_false gN gNN gNI gI gNNIB gNIB gV gVV gVIB gVVIB gWW gJ gJJ gJN gJJI gJI gJII gNNI gBWI gVVVV gVVVVI gVI AV.s cond_true cond_false Bool.true_and Bool.and_false Bool.false_and Bool.or_true Bool.true_or Bool.or_false Bool.false_or
section
variable {R : List It → St → Prop} {N : Nat} {k : List It} {st : St}
theorem exef_some {p : Prop} {r : List Nat} {u : St} {ops : Array Oper} {o : Oper} {l : List Oper} {rs : List (List Nat × List Nat)} {d : Bool} : exef R N (some (p, r, u)) ops o l rs d k st = (okD N o = true ∧ p ∧ R (.ops ops l ((r, u.map (·.1)) :: rs) d :: k) (u ++ st)) := rfl
theorem exif_some {k' : List It} : exif R (some k') st = R k' st := rfl
theorem condf_b {b : Bool} {x y : Code} : condf R (some (.v false [.lit (.bool b)])) x y k st = (bif b then R (.code x :: k) st else R (.code y :: k) st) := rfl
theorem brkf_b {b : Bool} {g : Nat} : brkf R (some (.v false [.lit (.bool b)])) g k st = (bif b then R k ((g, .s (.lit (.bool true))) :: st) else R k ((g, .s (.lit (.bool false))) :: st)) := rfl
theorem brkf_t {g : Nat} {vs : Array Value} : brkf R (some (.v false [.lit (.tuple vs)])) g k st = R k st := rfl
theorem postf_some {Pst : AV → Prop} {ps : List (Bool × List Lf)} : postf Pst (some ps) = (clA (tupA ps) = true ∧ Pst (tupA ps)) := rfl
theorem condP {b : Bool} {A B : Prop} (h1 : b = true → A) (h2 : b = false → B) : bif b then A else B := by
  cases b
  · exact h2 rfl
  · exact h1 rfl
theorem not_cond {b : Bool} {A B : Prop} : (bif !b then A else B) = (bif b then B else A) := by cases b <;> rfl
theorem X.eta (x : X) : X.mk x.s x.e x.xs = x := rfl
theorem J.eta (x : J) : J.mk x.lo x.hi = x := rfl
theorem Q.eta (x : Q) : Q.mk x.s x.m x.e = x := rfl
end
def zX : X := ⟨false, 0, []⟩
def zJ : J := ⟨zX, zX⟩
def okJ (j : J) : Bool := j.lo.ok && j.hi.ok && decide (cmpx j.lo j.hi ≤ 0)
def hasJ (j : J) (x : X) : Bool := okJ j && x.ok && decide (cmpx j.lo x ≤ 0) && decide (cmpx x j.hi ≤ 0)
def inJ (a b : J) : Bool := okJ a && okJ b && decide (cmpx b.lo a.lo ≤ 0) && decide (cmpx a.hi b.hi ≤ 0)
def insJ (a b : J) : Bool := okJ a && okJ b && decide (cmpx b.lo a.lo < 0) && decide (cmpx a.hi b.hi < 0)
def sameJ (a b : J) : Bool := samex a.lo b.lo && samex a.hi b.hi
def lessX (x y : X) : X := bif decide (cmpx x y > 0) then y else x
def moreX (x y : X) : X := bif decide (cmpx x y < 0) then y else x
def makeJ (x y : X) : J × Int := bif okJ ⟨x, y⟩ then (⟨x, y⟩, 0) else (zJ, 1)
def hullJ (a b : J) : J × Int := bif okJ a && okJ b then makeJ (lessX a.lo b.lo) (moreX a.hi b.hi) else (zJ, 1)
def meetJ (a b : J) : J × Int := bif okJ a && okJ b then (bif decide (cmpx (moreX a.lo b.lo) (lessX a.hi b.hi) > 0) then (zJ, 4) else makeJ (moreX a.lo b.lo) (lessX a.hi b.hi)) else (zJ, 1)
def negJ (a : J) : J := bif okJ a then ⟨qx (negx a.hi), qx (negx a.lo)⟩ else zJ
def magJ (a : J) : X := bif okJ a then moreX (qx (absx a.lo)) (qx (absx a.hi)) else zX
def strJ (a : J) : Bool := decide (signx a.lo < 0) && decide (signx a.hi > 0)
def sizJ (a : J) : J := ⟨bif strJ a then zX else lessX (qx (absx a.lo)) (qx (absx a.hi)), magJ a⟩
abbrev jA (j : J) : AV := .v true j.L
abbrev xA (x : X) : AV := .v true x.L
abbrev jeA (r : J × Int) : AV := .tup [(true, r.1.L), (false, [.lit (.int .i64 r.2)])]
set_option maxRecDepth 100000 in
set_option maxHeartbeats 2000000 in
theorem i_right (j : J) : Ct Tryz.prog 48 [.v true j.L] (· = bA (okJ j)) := by
  refine ct_of (O := tblO (orT Tnum_Right (Tnum_Cmp))) (by kernel_rfl) tyT_ok (fun w => tblO_ok (orT_ok Tnum_Right_ok (Tnum_Cmp_ok)) _ w) [] 300 19 [.tmp 2] Tryz.func48 rfl Tryz.ntmps48 (by rw [Tryz.results48]) (by simp) rfl (fun hsm => ?_)
  simp (maxSteps := 10000000) only [go_sem, X.eta, J.eta, Q.eta, brkf_b, brkf_t, exef_some, exif_some, condf_b, ↓cond_true, ↓cond_false, ↓not_cond, postf_some, ↓reduceIte, Nat.reduceMul, Nat.reduceAdd, Nat.reduceEqDiff, Nat.reduceLeDiff, Nat.reduceLT, reduceCtorEq, Int.reduceNeg, Tnum_Right, Tnum_Cmp]
  repeat' first | (with_reducible apply And.intro) | (with_reducible apply condP <;> intro _)
  all_goals first | (show chk _ _ = true; kernel_rfl) | (simp only [AV.s, cond_true, cond_false, Bool.and_true, Bool.true_and, Bool.and_false, Bool.false_and, Bool.and_self, Bool.not_true, Bool.not_false, *, okJ]; done) | rfl | (simp only [AV.s, cond_true, cond_false, Bool.and_true, Bool.true_and, Bool.and_false, Bool.false_and, Bool.and_self, Bool.not_true, Bool.not_false, *, okJ]; rfl) | (exfalso; simp_all only [Bool.true_eq_false, Bool.false_eq_true, reduceCtorEq]; done)
set_option maxRecDepth 100000 in
set_option maxHeartbeats 2000000 in
theorem i_clone (x : X) : Ct Tryz.prog 104 [.v true x.L] (· = xA x) := by
  refine ct_of (O := tblO noT) (by kernel_rfl) tyT_ok (fun w => tblO_ok noT_ok _ w) [] 300 8 [.cell 2 24] Tryz.func104 rfl Tryz.ntmps104 (by rw [Tryz.results104]) (by simp) rfl (fun hsm => ?_)
  simp (maxSteps := 10000000) only [go_sem, X.eta, J.eta, Q.eta, brkf_b, brkf_t, exef_some, exif_some, condf_b, ↓cond_true, ↓cond_false, ↓not_cond, postf_some, ↓reduceIte, Nat.reduceMul, Nat.reduceAdd, Nat.reduceEqDiff, Nat.reduceLeDiff, Nat.reduceLT, reduceCtorEq, Int.reduceNeg]
  repeat' first | (with_reducible apply And.intro) | (with_reducible apply condP <;> intro _)
  all_goals first | (show chk _ _ = true; kernel_rfl) | (simp only [AV.s, cond_true, cond_false, Bool.and_true, Bool.true_and, Bool.and_false, Bool.false_and, Bool.and_self, Bool.not_true, Bool.not_false, *, X.L]; done) | rfl | (simp only [AV.s, cond_true, cond_false, Bool.and_true, Bool.true_and, Bool.and_false, Bool.false_and, Bool.and_self, Bool.not_true, Bool.not_false, *, X.L]; rfl) | (exfalso; simp_all only [Bool.true_eq_false, Bool.false_eq_true, reduceCtorEq]; done)
set_option maxRecDepth 100000 in
set_option maxHeartbeats 2000000 in
theorem i_less (x : X) (x1 : X) : Ct Tryz.prog 117 [.v true x.L, .v true x1.L] (· = xA (lessX x x1)) := by
  refine ct_of (O := tblO (Tnum_Cmp)) (by kernel_rfl) tyT_ok (fun w => tblO_ok (Tnum_Cmp_ok) _ w) [] 300 11 [.cell 4 24] Tryz.func117 rfl Tryz.ntmps117 (by rw [Tryz.results117]) (by simp) rfl (fun hsm => ?_)
  simp (maxSteps := 10000000) only [go_sem, X.eta, J.eta, Q.eta, brkf_b, brkf_t, exef_some, exif_some, condf_b, ↓cond_true, ↓cond_false, ↓not_cond, postf_some, ↓reduceIte, Nat.reduceMul, Nat.reduceAdd, Nat.reduceEqDiff, Nat.reduceLeDiff, Nat.reduceLT, reduceCtorEq, Int.reduceNeg, Tnum_Cmp]
  repeat' first | (with_reducible apply And.intro) | (with_reducible apply condP <;> intro _)
  all_goals first | (show chk _ _ = true; kernel_rfl) | (simp only [AV.s, cond_true, cond_false, Bool.and_true, Bool.true_and, Bool.and_false, Bool.false_and, Bool.and_self, Bool.not_true, Bool.not_false, *, lessX, X.L]; done) | rfl | (simp only [AV.s, cond_true, cond_false, Bool.and_true, Bool.true_and, Bool.and_false, Bool.false_and, Bool.and_self, Bool.not_true, Bool.not_false, *, lessX, X.L]; rfl) | (exfalso; simp_all only [Bool.true_eq_false, Bool.false_eq_true, reduceCtorEq]; done)
set_option maxRecDepth 100000 in
set_option maxHeartbeats 2000000 in
theorem i_more (x : X) (x1 : X) : Ct Tryz.prog 109 [.v true x.L, .v true x1.L] (· = xA (moreX x x1)) := by
  refine ct_of (O := tblO (Tnum_Cmp)) (by kernel_rfl) tyT_ok (fun w => tblO_ok (Tnum_Cmp_ok) _ w) [] 300 11 [.cell 4 24] Tryz.func109 rfl Tryz.ntmps109 (by rw [Tryz.results109]) (by simp) rfl (fun hsm => ?_)
  simp (maxSteps := 10000000) only [go_sem, X.eta, J.eta, Q.eta, brkf_b, brkf_t, exef_some, exif_some, condf_b, ↓cond_true, ↓cond_false, ↓not_cond, postf_some, ↓reduceIte, Nat.reduceMul, Nat.reduceAdd, Nat.reduceEqDiff, Nat.reduceLeDiff, Nat.reduceLT, reduceCtorEq, Int.reduceNeg, Tnum_Cmp]
  repeat' first | (with_reducible apply And.intro) | (with_reducible apply condP <;> intro _)
  all_goals first | (show chk _ _ = true; kernel_rfl) | (simp only [AV.s, cond_true, cond_false, Bool.and_true, Bool.true_and, Bool.and_false, Bool.false_and, Bool.and_self, Bool.not_true, Bool.not_false, *, moreX, X.L]; done) | rfl | (simp only [AV.s, cond_true, cond_false, Bool.and_true, Bool.true_and, Bool.and_false, Bool.false_and, Bool.and_self, Bool.not_true, Bool.not_false, *, moreX, X.L]; rfl) | (exfalso; simp_all only [Bool.true_eq_false, Bool.false_eq_true, reduceCtorEq]; done)
set_option maxRecDepth 100000 in
set_option maxHeartbeats 2000000 in
theorem i_same (j : J) (j1 : J) : Ct Tryz.prog 50 [.v true j.L, .v true j1.L] (· = bA (sameJ j j1)) := by
  refine ct_of (O := tblO (Tnum_Same)) (by kernel_rfl) tyT_ok (fun w => tblO_ok (Tnum_Same_ok) _ w) [] 300 17 [.tmp 4] Tryz.func50 rfl Tryz.ntmps50 (by rw [Tryz.results50]) (by simp) rfl (fun hsm => ?_)
  simp (maxSteps := 10000000) only [go_sem, X.eta, J.eta, Q.eta, brkf_b, brkf_t, exef_some, exif_some, condf_b, ↓cond_true, ↓cond_false, ↓not_cond, postf_some, ↓reduceIte, Nat.reduceMul, Nat.reduceAdd, Nat.reduceEqDiff, Nat.reduceLeDiff, Nat.reduceLT, reduceCtorEq, Int.reduceNeg, Tnum_Same]
  repeat' first | (with_reducible apply And.intro) | (with_reducible apply condP <;> intro _)
  all_goals first | (show chk _ _ = true; kernel_rfl) | (simp only [AV.s, cond_true, cond_false, Bool.and_true, Bool.true_and, Bool.and_false, Bool.false_and, Bool.and_self, Bool.not_true, Bool.not_false, *, sameJ]; done) | rfl | (simp only [AV.s, cond_true, cond_false, Bool.and_true, Bool.true_and, Bool.and_false, Bool.false_and, Bool.and_self, Bool.not_true, Bool.not_false, *, sameJ]; rfl) | (exfalso; simp_all only [Bool.true_eq_false, Bool.false_eq_true, reduceCtorEq]; done)
set_option maxRecDepth 100000 in
set_option maxHeartbeats 2000000 in
theorem i_str (j : J) : Ct Tryz.prog 94 [.v true j.L] (· = bA (strJ j)) := by
  refine ct_of (O := tblO (Tnum_Sign)) (by kernel_rfl) tyT_ok (fun w => tblO_ok (Tnum_Sign_ok) _ w) [] 300 13 [.tmp 2] Tryz.func94 rfl Tryz.ntmps94 (by rw [Tryz.results94]) (by simp) rfl (fun hsm => ?_)
  simp (maxSteps := 10000000) only [go_sem, X.eta, J.eta, Q.eta, brkf_b, brkf_t, exef_some, exif_some, condf_b, ↓cond_true, ↓cond_false, ↓not_cond, postf_some, ↓reduceIte, Nat.reduceMul, Nat.reduceAdd, Nat.reduceEqDiff, Nat.reduceLeDiff, Nat.reduceLT, reduceCtorEq, Int.reduceNeg, Tnum_Sign]
  repeat' first | (with_reducible apply And.intro) | (with_reducible apply condP <;> intro _)
  all_goals first | (show chk _ _ = true; kernel_rfl) | (simp only [AV.s, cond_true, cond_false, Bool.and_true, Bool.true_and, Bool.and_false, Bool.false_and, Bool.and_self, Bool.not_true, Bool.not_false, *, strJ]; done) | rfl | (simp only [AV.s, cond_true, cond_false, Bool.and_true, Bool.true_and, Bool.and_false, Bool.false_and, Bool.and_self, Bool.not_true, Bool.not_false, *, strJ]; rfl) | (exfalso; simp_all only [Bool.true_eq_false, Bool.false_eq_true, reduceCtorEq]; done)
noncomputable def Tiv_Right : Tbl := one 48 (gJ fun j => (True, bA (okJ j)))
theorem Tiv_Right_ok : TbOK Tryz.prog Tiv_Right := one_ok (ent Tryz.func48 (by kernel_rfl) rfl) fun args e h hp => by obtain ⟨j, rfl, rfl⟩ := gJ_eq h; exact i_right j
noncomputable def Tiv_clone : Tbl := one 104 (gN fun x => (True, xA x))
theorem Tiv_clone_ok : TbOK Tryz.prog Tiv_clone := one_ok (ent Tryz.func104 (by kernel_rfl) rfl) fun args e h hp => by obtain ⟨x, rfl, rfl⟩ := gN_eq h; exact i_clone x
noncomputable def Tiv_lesser : Tbl := one 117 (gNN fun x x1 => (True, xA (lessX x x1)))
theorem Tiv_lesser_ok : TbOK Tryz.prog Tiv_lesser := one_ok (ent Tryz.func117 (by kernel_rfl) rfl) fun args e h hp => by obtain ⟨x, x1, rfl, rfl⟩ := gNN_eq h; exact i_less x x1
noncomputable def Tiv_greater : Tbl := one 109 (gNN fun x x1 => (True, xA (moreX x x1)))
theorem Tiv_greater_ok : TbOK Tryz.prog Tiv_greater := one_ok (ent Tryz.func109 (by kernel_rfl) rfl) fun args e h hp => by obtain ⟨x, x1, rfl, rfl⟩ := gNN_eq h; exact i_more x x1
noncomputable def Tiv_Same : Tbl := one 50 (gJJ fun j j1 => (True, bA (sameJ j j1)))
theorem Tiv_Same_ok : TbOK Tryz.prog Tiv_Same := one_ok (ent Tryz.func50 (by kernel_rfl) rfl) fun args e h hp => by obtain ⟨j, j1, rfl, rfl⟩ := gJJ_eq h; exact i_same j j1
noncomputable def Tiv_straddles : Tbl := one 94 (gJ fun j => (True, bA (strJ j)))
theorem Tiv_straddles_ok : TbOK Tryz.prog Tiv_straddles := one_ok (ent Tryz.func94 (by kernel_rfl) rfl) fun args e h hp => by obtain ⟨j, rfl, rfl⟩ := gJ_eq h; exact i_str j
set_option maxRecDepth 100000 in
set_option maxHeartbeats 2000000 in
theorem i_has (j : J) (x : X) : Ct Tryz.prog 19 [.v true j.L, .v true x.L] (· = bA (hasJ j x)) := by
  refine ct_of (O := tblO (orT Tiv_Right (orT Tnum_Right (Tnum_Cmp)))) (by kernel_rfl) tyT_ok (fun w => tblO_ok (orT_ok Tiv_Right_ok (orT_ok Tnum_Right_ok (Tnum_Cmp_ok))) _ w) [] 300 25 [.tmp 4] Tryz.func19 rfl Tryz.ntmps19 (by rw [Tryz.results19]) (by simp) rfl (fun hsm => ?_)
  simp (maxSteps := 10000000) only [go_sem, X.eta, J.eta, Q.eta, brkf_b, brkf_t, exef_some, exif_some, condf_b, ↓cond_true, ↓cond_false, ↓not_cond, postf_some, ↓reduceIte, Nat.reduceMul, Nat.reduceAdd, Nat.reduceEqDiff, Nat.reduceLeDiff, Nat.reduceLT, reduceCtorEq, Int.reduceNeg, Tiv_Right, Tnum_Right, Tnum_Cmp]
  repeat' first | (with_reducible apply And.intro) | (with_reducible apply condP <;> intro _)
  all_goals first | (show chk _ _ = true; kernel_rfl) | (simp only [AV.s, cond_true, cond_false, Bool.and_true, Bool.true_and, Bool.and_false, Bool.false_and, Bool.and_self, Bool.not_true, Bool.not_false, *, hasJ]; done) | rfl | (simp only [AV.s, cond_true, cond_false, Bool.and_true, Bool.true_and, Bool.and_false, Bool.false_and, Bool.and_self, Bool.not_true, Bool.not_false, *, hasJ]; rfl) | (exfalso; simp_all only [Bool.true_eq_false, Bool.false_eq_true, reduceCtorEq]; done)
set_option maxRecDepth 100000 in
set_option maxHeartbeats 2000000 in
theorem i_in (j : J) (j1 : J) : Ct Tryz.prog 34 [.v true j.L, .v true j1.L] (· = bA (inJ j j1)) := by
  refine ct_of (O := tblO (orT Tiv_Right (Tnum_Cmp))) (by kernel_rfl) tyT_ok (fun w => tblO_ok (orT_ok Tiv_Right_ok (Tnum_Cmp_ok)) _ w) [] 300 27 [.tmp 4] Tryz.func34 rfl Tryz.ntmps34 (by rw [Tryz.results34]) (by simp) rfl (fun hsm => ?_)
  simp (maxSteps := 10000000) only [go_sem, X.eta, J.eta, Q.eta, brkf_b, brkf_t, exef_some, exif_some, condf_b, ↓cond_true, ↓cond_false, ↓not_cond, postf_some, ↓reduceIte, Nat.reduceMul, Nat.reduceAdd, Nat.reduceEqDiff, Nat.reduceLeDiff, Nat.reduceLT, reduceCtorEq, Int.reduceNeg, Tiv_Right, Tnum_Cmp]
  repeat' first | (with_reducible apply And.intro) | (with_reducible apply condP <;> intro _)
  all_goals first | (show chk _ _ = true; kernel_rfl) | (simp only [AV.s, cond_true, cond_false, Bool.and_true, Bool.true_and, Bool.and_false, Bool.false_and, Bool.and_self, Bool.not_true, Bool.not_false, *, inJ]; done) | rfl | (simp only [AV.s, cond_true, cond_false, Bool.and_true, Bool.true_and, Bool.and_false, Bool.false_and, Bool.and_self, Bool.not_true, Bool.not_false, *, inJ]; rfl) | (exfalso; simp_all only [Bool.true_eq_false, Bool.false_eq_true, reduceCtorEq]; done)
set_option maxRecDepth 100000 in
set_option maxHeartbeats 2000000 in
theorem i_ins (j : J) (j1 : J) : Ct Tryz.prog 47 [.v true j.L, .v true j1.L] (· = bA (insJ j j1)) := by
  refine ct_of (O := tblO (orT Tiv_Right (Tnum_Cmp))) (by kernel_rfl) tyT_ok (fun w => tblO_ok (orT_ok Tiv_Right_ok (Tnum_Cmp_ok)) _ w) [] 300 27 [.tmp 4] Tryz.func47 rfl Tryz.ntmps47 (by rw [Tryz.results47]) (by simp) rfl (fun hsm => ?_)
  simp (maxSteps := 10000000) only [go_sem, X.eta, J.eta, Q.eta, brkf_b, brkf_t, exef_some, exif_some, condf_b, ↓cond_true, ↓cond_false, ↓not_cond, postf_some, ↓reduceIte, Nat.reduceMul, Nat.reduceAdd, Nat.reduceEqDiff, Nat.reduceLeDiff, Nat.reduceLT, reduceCtorEq, Int.reduceNeg, Tiv_Right, Tnum_Cmp]
  repeat' first | (with_reducible apply And.intro) | (with_reducible apply condP <;> intro _)
  all_goals first | (show chk _ _ = true; kernel_rfl) | (simp only [AV.s, cond_true, cond_false, Bool.and_true, Bool.true_and, Bool.and_false, Bool.false_and, Bool.and_self, Bool.not_true, Bool.not_false, *, insJ]; done) | rfl | (simp only [AV.s, cond_true, cond_false, Bool.and_true, Bool.true_and, Bool.and_false, Bool.false_and, Bool.and_self, Bool.not_true, Bool.not_false, *, insJ]; rfl) | (exfalso; simp_all only [Bool.true_eq_false, Bool.false_eq_true, reduceCtorEq]; done)
set_option maxRecDepth 100000 in
set_option maxHeartbeats 2000000 in
theorem i_of (x : X) : Ct Tryz.prog 33 [.v true x.L] (· = jA ⟨x, x⟩) := by
  refine ct_of (O := tblO (Tiv_clone)) (by kernel_rfl) tyT_ok (fun w => tblO_ok (Tiv_clone_ok) _ w) [] 300 8 [.cell 2 26] Tryz.func33 rfl Tryz.ntmps33 (by rw [Tryz.results33]) (by simp) rfl (fun hsm => ?_)
  simp (maxSteps := 10000000) only [go_sem, X.eta, J.eta, Q.eta, brkf_b, brkf_t, exef_some, exif_some, condf_b, ↓cond_true, ↓cond_false, ↓not_cond, postf_some, ↓reduceIte, Nat.reduceMul, Nat.reduceAdd, Nat.reduceEqDiff, Nat.reduceLeDiff, Nat.reduceLT, reduceCtorEq, Int.reduceNeg, Tiv_clone]
  repeat' first | (with_reducible apply And.intro) | (with_reducible apply condP <;> intro _)
  all_goals first | (show chk _ _ = true; kernel_rfl) | (simp only [AV.s, cond_true, cond_false, Bool.and_true, Bool.true_and, Bool.and_false, Bool.false_and, Bool.and_self, Bool.not_true, Bool.not_false, *, J.L]; done) | rfl | (simp only [AV.s, cond_true, cond_false, Bool.and_true, Bool.true_and, Bool.and_false, Bool.false_and, Bool.and_self, Bool.not_true, Bool.not_false, *, J.L]; rfl) | (exfalso; simp_all only [Bool.true_eq_false, Bool.false_eq_true, reduceCtorEq]; done)
set_option maxRecDepth 100000 in
set_option maxHeartbeats 2000000 in
theorem i_make (x : X) (x1 : X) : Ct Tryz.prog 45 [.v true x.L, .v true x1.L] (· = jeA (makeJ x x1)) := by
  refine ct_of (O := tblO (orT Tiv_Right (Tiv_clone))) (by kernel_rfl) tyT_ok (fun w => tblO_ok (orT_ok Tiv_Right_ok (Tiv_clone_ok)) _ w) [] 300 17 [.cell 4 26, .tmp 5] Tryz.func45 rfl Tryz.ntmps45 (by rw [Tryz.results45]) (by simp) rfl (fun hsm => ?_)
  simp (maxSteps := 10000000) only [go_sem, X.eta, J.eta, Q.eta, brkf_b, brkf_t, exef_some, exif_some, condf_b, ↓cond_true, ↓cond_false, ↓not_cond, postf_some, ↓reduceIte, Nat.reduceMul, Nat.reduceAdd, Nat.reduceEqDiff, Nat.reduceLeDiff, Nat.reduceLT, reduceCtorEq, Int.reduceNeg, Tiv_Right, Tiv_clone]
  repeat' first | (with_reducible apply And.intro) | (with_reducible apply condP <;> intro _)
  all_goals first | (show chk _ _ = true; kernel_rfl) | (simp only [AV.s, cond_true, cond_false, Bool.and_true, Bool.true_and, Bool.and_false, Bool.false_and, Bool.and_self, Bool.not_true, Bool.not_false, *, makeJ, zJ, zX, J.L, X.L]; done) | rfl | (simp only [AV.s, cond_true, cond_false, Bool.and_true, Bool.true_and, Bool.and_false, Bool.false_and, Bool.and_self, Bool.not_true, Bool.not_false, *, makeJ, zJ, zX, J.L, X.L]; rfl) | (exfalso; simp_all only [Bool.true_eq_false, Bool.false_eq_true, reduceCtorEq]; done)
set_option maxRecDepth 100000 in
set_option maxHeartbeats 2000000 in
theorem i_neg (j : J) : Ct Tryz.prog 51 [.v true j.L] (· = jA (negJ j)) := by
  refine ct_of (O := tblO (orT Tiv_Right (Tnum_Neg))) (by kernel_rfl) tyT_ok (fun w => tblO_ok (orT_ok Tiv_Right_ok (Tnum_Neg_ok)) _ w) [] 300 14 [.cell 2 26] Tryz.func51 rfl Tryz.ntmps51 (by rw [Tryz.results51]) (by simp) rfl (fun hsm => ?_)
  simp (maxSteps := 10000000) only [go_sem, X.eta, J.eta, Q.eta, brkf_b, brkf_t, exef_some, exif_some, condf_b, ↓cond_true, ↓cond_false, ↓not_cond, postf_some, ↓reduceIte, Nat.reduceMul, Nat.reduceAdd, Nat.reduceEqDiff, Nat.reduceLeDiff, Nat.reduceLT, reduceCtorEq, Int.reduceNeg, Tiv_Right, Tnum_Neg]
  repeat' first | (with_reducible apply And.intro) | (with_reducible apply condP <;> intro _)
  all_goals first | (show chk _ _ = true; kernel_rfl) | (simp only [AV.s, cond_true, cond_false, Bool.and_true, Bool.true_and, Bool.and_false, Bool.false_and, Bool.and_self, Bool.not_true, Bool.not_false, *, negJ, zJ, zX, J.L, X.L]; done) | rfl | (simp only [AV.s, cond_true, cond_false, Bool.and_true, Bool.true_and, Bool.and_false, Bool.false_and, Bool.and_self, Bool.not_true, Bool.not_false, *, negJ, zJ, zX, J.L, X.L]; rfl) | (exfalso; simp_all only [Bool.true_eq_false, Bool.false_eq_true, reduceCtorEq]; done)
set_option maxRecDepth 100000 in
set_option maxHeartbeats 2000000 in
theorem i_mag (j : J) : Ct Tryz.prog 42 [.v true j.L] (· = xA (magJ j)) := by
  refine ct_of (O := tblO (orT Tiv_Right (orT Tnum_Abs (Tiv_greater)))) (by kernel_rfl) tyT_ok (fun w => tblO_ok (orT_ok Tiv_Right_ok (orT_ok Tnum_Abs_ok (Tiv_greater_ok))) _ w) [] 300 14 [.cell 2 24] Tryz.func42 rfl Tryz.ntmps42 (by rw [Tryz.results42]) (by simp) rfl (fun hsm => ?_)
  simp (maxSteps := 10000000) only [go_sem, X.eta, J.eta, Q.eta, brkf_b, brkf_t, exef_some, exif_some, condf_b, ↓cond_true, ↓cond_false, ↓not_cond, postf_some, ↓reduceIte, Nat.reduceMul, Nat.reduceAdd, Nat.reduceEqDiff, Nat.reduceLeDiff, Nat.reduceLT, reduceCtorEq, Int.reduceNeg, Tiv_Right, Tnum_Abs, Tiv_greater]
  repeat' first | (with_reducible apply And.intro) | (with_reducible apply condP <;> intro _)
  all_goals first | (show chk _ _ = true; kernel_rfl) | (simp only [AV.s, cond_true, cond_false, Bool.and_true, Bool.true_and, Bool.and_false, Bool.false_and, Bool.and_self, Bool.not_true, Bool.not_false, *, magJ, zX, X.L]; done) | rfl | (simp only [AV.s, cond_true, cond_false, Bool.and_true, Bool.true_and, Bool.and_false, Bool.false_and, Bool.and_self, Bool.not_true, Bool.not_false, *, magJ, zX, X.L]; rfl) | (exfalso; simp_all only [Bool.true_eq_false, Bool.false_eq_true, reduceCtorEq]; done)
noncomputable def Tiv_Has : Tbl := one 19 (gJN fun j x => (True, bA (hasJ j x)))
theorem Tiv_Has_ok : TbOK Tryz.prog Tiv_Has := one_ok (ent Tryz.func19 (by kernel_rfl) rfl) fun args e h hp => by obtain ⟨j, x, rfl, rfl⟩ := gJN_eq h; exact i_has j x
noncomputable def Tiv_In : Tbl := one 34 (gJJ fun j j1 => (True, bA (inJ j j1)))
theorem Tiv_In_ok : TbOK Tryz.prog Tiv_In := one_ok (ent Tryz.func34 (by kernel_rfl) rfl) fun args e h hp => by obtain ⟨j, j1, rfl, rfl⟩ := gJJ_eq h; exact i_in j j1
noncomputable def Tiv_Inside : Tbl := one 47 (gJJ fun j j1 => (True, bA (insJ j j1)))
theorem Tiv_Inside_ok : TbOK Tryz.prog Tiv_Inside := one_ok (ent Tryz.func47 (by kernel_rfl) rfl) fun args e h hp => by obtain ⟨j, j1, rfl, rfl⟩ := gJJ_eq h; exact i_ins j j1
noncomputable def Tiv_Of : Tbl := one 33 (gN fun x => (True, jA ⟨x, x⟩))
theorem Tiv_Of_ok : TbOK Tryz.prog Tiv_Of := one_ok (ent Tryz.func33 (by kernel_rfl) rfl) fun args e h hp => by obtain ⟨x, rfl, rfl⟩ := gN_eq h; exact i_of x
noncomputable def Tiv_Make : Tbl := one 45 (gNN fun x x1 => (True, jeA (makeJ x x1)))
theorem Tiv_Make_ok : TbOK Tryz.prog Tiv_Make := one_ok (ent Tryz.func45 (by kernel_rfl) rfl) fun args e h hp => by obtain ⟨x, x1, rfl, rfl⟩ := gNN_eq h; exact i_make x x1
noncomputable def Tiv_Neg : Tbl := one 51 (gJ fun j => (True, jA (negJ j)))
theorem Tiv_Neg_ok : TbOK Tryz.prog Tiv_Neg := one_ok (ent Tryz.func51 (by kernel_rfl) rfl) fun args e h hp => by obtain ⟨j, rfl, rfl⟩ := gJ_eq h; exact i_neg j
noncomputable def Tiv_Mag : Tbl := one 42 (gJ fun j => (True, xA (magJ j)))
theorem Tiv_Mag_ok : TbOK Tryz.prog Tiv_Mag := one_ok (ent Tryz.func42 (by kernel_rfl) rfl) fun args e h hp => by obtain ⟨j, rfl, rfl⟩ := gJ_eq h; exact i_mag j
set_option maxRecDepth 100000 in
set_option maxHeartbeats 2000000 in
theorem i_hull (j : J) (j1 : J) : Ct Tryz.prog 52 [.v true j.L, .v true j1.L] (· = jeA (hullJ j j1)) := by
  refine ct_of (O := tblO (orT Tiv_Right (orT Tiv_lesser (orT Tiv_greater (Tiv_Make))))) (by kernel_rfl) tyT_ok (fun w => tblO_ok (orT_ok Tiv_Right_ok (orT_ok Tiv_lesser_ok (orT_ok Tiv_greater_ok (Tiv_Make_ok)))) _ w) [] 300 28 [.cell 4 26, .tmp 5] Tryz.func52 rfl Tryz.ntmps52 (by rw [Tryz.results52]) (by simp) rfl (fun hsm => ?_)
  simp (maxSteps := 10000000) only [go_sem, X.eta, J.eta, Q.eta, brkf_b, brkf_t, exef_some, exif_some, condf_b, ↓cond_true, ↓cond_false, ↓not_cond, postf_some, ↓reduceIte, Nat.reduceMul, Nat.reduceAdd, Nat.reduceEqDiff, Nat.reduceLeDiff, Nat.reduceLT, reduceCtorEq, Int.reduceNeg, Tiv_Right, Tiv_lesser, Tiv_greater, Tiv_Make]
  repeat' first | (with_reducible apply And.intro) | (with_reducible apply condP <;> intro _)
  all_goals first | (show chk _ _ = true; kernel_rfl) | (simp only [AV.s, cond_true, cond_false, Bool.and_true, Bool.true_and, Bool.and_false, Bool.false_and, Bool.and_self, Bool.not_true, Bool.not_false, *, hullJ, zJ, zX, J.L, X.L]; done) | rfl | (simp only [AV.s, cond_true, cond_false, Bool.and_true, Bool.true_and, Bool.and_false, Bool.false_and, Bool.and_self, Bool.not_true, Bool.not_false, *, hullJ, zJ, zX, J.L, X.L]; rfl) | (exfalso; simp_all only [Bool.true_eq_false, Bool.false_eq_true, reduceCtorEq]; done)
set_option maxRecDepth 100000 in
set_option maxHeartbeats 2000000 in
theorem i_meet (j : J) (j1 : J) : Ct Tryz.prog 53 [.v true j.L, .v true j1.L] (· = jeA (meetJ j j1)) := by
  refine ct_of (O := tblO (orT Tiv_Right (orT Tiv_greater (orT Tiv_lesser (orT Tnum_Cmp (Tiv_Make)))))) (by kernel_rfl) tyT_ok (fun w => tblO_ok (orT_ok Tiv_Right_ok (orT_ok Tiv_greater_ok (orT_ok Tiv_lesser_ok (orT_ok Tnum_Cmp_ok (Tiv_Make_ok))))) _ w) [] 300 37 [.cell 4 26, .tmp 5] Tryz.func53 rfl Tryz.ntmps53 (by rw [Tryz.results53]) (by simp) rfl (fun hsm => ?_)
  simp (maxSteps := 10000000) only [go_sem, X.eta, J.eta, Q.eta, brkf_b, brkf_t, exef_some, exif_some, condf_b, ↓cond_true, ↓cond_false, ↓not_cond, postf_some, ↓reduceIte, Nat.reduceMul, Nat.reduceAdd, Nat.reduceEqDiff, Nat.reduceLeDiff, Nat.reduceLT, reduceCtorEq, Int.reduceNeg, Tiv_Right, Tiv_greater, Tiv_lesser, Tnum_Cmp, Tiv_Make]
  repeat' first | (with_reducible apply And.intro) | (with_reducible apply condP <;> intro _)
  all_goals first | (show chk _ _ = true; kernel_rfl) | (simp only [AV.s, cond_true, cond_false, Bool.and_true, Bool.true_and, Bool.and_false, Bool.false_and, Bool.and_self, Bool.not_true, Bool.not_false, *, meetJ, zJ, zX, J.L, X.L]; done) | rfl | (simp only [AV.s, cond_true, cond_false, Bool.and_true, Bool.true_and, Bool.and_false, Bool.false_and, Bool.and_self, Bool.not_true, Bool.not_false, *, meetJ, zJ, zX, J.L, X.L]; rfl) | (exfalso; simp_all only [Bool.true_eq_false, Bool.false_eq_true, reduceCtorEq]; done)
set_option maxRecDepth 100000 in
set_option maxHeartbeats 2000000 in
theorem i_siz (j : J) : Ct Tryz.prog 77 [.v true j.L] (· = jA (sizJ j)) := by
  refine ct_of (O := tblO (orT Tnum_Abs (orT Tiv_lesser (orT Tiv_straddles (Tiv_Mag))))) (by kernel_rfl) tyT_ok (fun w => tblO_ok (orT_ok Tnum_Abs_ok (orT_ok Tiv_lesser_ok (orT_ok Tiv_straddles_ok (Tiv_Mag_ok)))) _ w) [] 300 18 [.cell 2 26] Tryz.func77 rfl Tryz.ntmps77 (by rw [Tryz.results77]) (by simp) rfl (fun hsm => ?_)
  simp (maxSteps := 10000000) only [go_sem, X.eta, J.eta, Q.eta, brkf_b, brkf_t, exef_some, exif_some, condf_b, ↓cond_true, ↓cond_false, ↓not_cond, postf_some, ↓reduceIte, Nat.reduceMul, Nat.reduceAdd, Nat.reduceEqDiff, Nat.reduceLeDiff, Nat.reduceLT, reduceCtorEq, Int.reduceNeg, Tnum_Abs, Tiv_lesser, Tiv_straddles, Tiv_Mag]
  repeat' first | (with_reducible apply And.intro) | (with_reducible apply condP <;> intro _)
  all_goals first | (show chk _ _ = true; kernel_rfl) | (simp only [AV.s, cond_true, cond_false, Bool.and_true, Bool.true_and, Bool.and_false, Bool.false_and, Bool.and_self, Bool.not_true, Bool.not_false, *, sizJ, zX, J.L, X.L]; done) | rfl | (simp only [AV.s, cond_true, cond_false, Bool.and_true, Bool.true_and, Bool.and_false, Bool.false_and, Bool.and_self, Bool.not_true, Bool.not_false, *, sizJ, zX, J.L, X.L]; rfl) | (exfalso; simp_all only [Bool.true_eq_false, Bool.false_eq_true, reduceCtorEq]; done)
noncomputable def Tiv_Hull : Tbl := one 52 (gJJ fun j j1 => (True, jeA (hullJ j j1)))
theorem Tiv_Hull_ok : TbOK Tryz.prog Tiv_Hull := one_ok (ent Tryz.func52 (by kernel_rfl) rfl) fun args e h hp => by obtain ⟨j, j1, rfl, rfl⟩ := gJJ_eq h; exact i_hull j j1
noncomputable def Tiv_Meet : Tbl := one 53 (gJJ fun j j1 => (True, jeA (meetJ j j1)))
theorem Tiv_Meet_ok : TbOK Tryz.prog Tiv_Meet := one_ok (ent Tryz.func53 (by kernel_rfl) rfl) fun args e h hp => by obtain ⟨j, j1, rfl, rfl⟩ := gJJ_eq h; exact i_meet j j1
noncomputable def Tiv_sizes : Tbl := one 77 (gJ fun j => (True, jA (sizJ j)))
theorem Tiv_sizes_ok : TbOK Tryz.prog Tiv_sizes := one_ok (ent Tryz.func77 (by kernel_rfl) rfl) fun args e h hp => by obtain ⟨j, rfl, rfl⟩ := gJ_eq h; exact i_siz j
end Go.Proofs.YtfggnoejcgehdaaGreatDoor
