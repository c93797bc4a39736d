/- Package iv: what needs no rounding. -/
import Derived.Test.YtobcbhppmgnioaaGreatDoorSAi6
namespace Go.Proofs.YtobcbhppmgnioaaGreatDoor
set_option maxHeartbeats 4000000
open Go.RowKit Nx
set_option linter.unusedVariables false
set_option linter.unusedSimpArgs false
set_option maxRecDepth 100000
attribute [go_sem] run init X.L J.L vL List.cons_append List.nil_append brkK opf bodyE addR skipE stepOp stepLoad stepStore stepField stepCall stepBS stepBi stepCv stepIx inL mentA ment dom evs evl evp evd okeys look fillA capsOf wordsOf rowsOf lenOf convK binV shV intV unV boolT tyT tiB tiI tiW tiD tiF tiR tiU tiNum tiIv tiVal tiSc okLf okD keysOf tblO cvA cvL dnL olA olL noO noA cbL cbA orT noT one asNum asIv asVal resA tupA clA clL dropTo decide_true decide_false List.all_cons List.all_nil Bool.and_true Bool.and_self true_and and_true and_self List.length_cons List.length_nil List.drop_succ_cons List.drop_zero List.take_succ_cons List.take_zero List.getElem?_cons_zero List.getElem?_cons_succ List.map_cons List.map_nil false_implies true_implies Option.bind_some List.getElem?_toArray Bool.false_eq_true List.append_nil List.flatMap_cons List.flatMap_nil true_or or_true forall_const List.reverse_cons List.reverse_nil Option.isSome_some Option.any_some Nat.lt_irrefl not_true_eq_false Bool.not_true Bool.not_false imp_self implies_true Bool.not_eq_true' Bool.not_eq_false' Bool.true_eq_false gN gNN gNI gI gNNIB gNIB gJ gJJ gJN gJJI gJI stepB0 stepMk stepSl stepAp apY optI okO nilV slT resB outPs outLs outL dnT AV.s cond_true cond_false Bool.true_and Bool.and_false Bool.false_and Bool.or_true Bool.true_or Bool.or_false Bool.false_or
attribute [go_sem ↓] cond_true cond_false
attribute [local go_sem] lpf hdS hd1 pick forget gV gVV gVIB gVVIB gWW gJII gNNI gBWI gVVVV gVVVVI gVI
section
variable {R : List It → St → Prop} {N : Nat} {k : List It} {st : St}
theorem exef_some {p : Prop} {r : List Nat} {u : St} {ops : Array Oper} {o : Oper} {l : List Oper} {rs : List (List Nat × List Nat)} {d : Bool} : exef R N (some (p, r, u)) ops o l rs d k st = (okD N o = true ∧ p ∧ R (.ops ops l ((r, u.map (·.1)) :: rs) d :: k) (u ++ st)) := rfl
theorem exif_some {k' : List It} : exif R (some k') st = R k' st := rfl
theorem condf_b {b : Bool} {x y : Code} : condf R (some (.v false [.lit (.bool b)])) x y k st = (bif b then R (.code x :: k) st else R (.code y :: k) st) := rfl
theorem brkf_b {b : Bool} {g : Nat} : brkf R (some (.v false [.lit (.bool b)])) g k st = (bif b then R k ((g, .s (.lit (.bool true))) :: st) else R k ((g, .s (.lit (.bool false))) :: st)) := rfl
theorem brkf_t {g : Nat} {vs : Array Value} : brkf R (some (.v false [.lit (.tuple vs)])) g k st = R k st := rfl
theorem postf_some {Pst : AV → Prop} {ps : List (Bool × List Lf)} : postf Pst (some ps) = (clA (tupA ps) = true ∧ Pst (tupA ps)) := rfl
theorem condP {b : Bool} {A B : Prop} (h1 : b = true → A) (h2 : b = false → B) : bif b then A else B := by
 cases b
 ·exact h2 rfl
 ·exact h1 rfl
theorem not_cond {b : Bool} {A B : Prop} : (bif !b then A else B) = (bif b then B else A) := by cases b <;> rfl
theorem X.eta (x : X) : X.mk x.s x.e x.xs = x := rfl
theorem J.eta (x : J) : J.mk x.lo x.hi = x := rfl
theorem Q.eta (x : Q) : Q.mk x.s x.m x.e = x := rfl
end
def zX : X := ⟨false, 0, []⟩
def zJ : J := ⟨zX, zX⟩
def okJ (j : J) : Bool := j.lo.ok && j.hi.ok && decide (cmpx j.lo j.hi ≤ 0)
def hasJ (j : J) (x : X) : Bool := okJ j && x.ok && decide (cmpx j.lo x ≤ 0) && decide (cmpx x j.hi ≤ 0)
def inJ (a b : J) : Bool := okJ a && okJ b && decide (cmpx b.lo a.lo ≤ 0) && decide (cmpx a.hi b.hi ≤ 0)
def makeJ (x y : X) : J × Int := bif okJ ⟨x, y⟩ then (⟨x, y⟩, 0) else (zJ, 1)
def strJ (a : J) : Bool := decide (signx a.lo < 0) && decide (signx a.hi > 0)
abbrev jA (j : J) : AV := .v true j.L
abbrev xA (x : X) : AV := .v true x.L
abbrev jeA (r : J × Int) : AV := .tup [(true, r.1.L), (false, [.lit (.int .i64 r.2)])]
theorem i_right (j : J) : Ct Tryz.prog 22 [.v true j.L] (· = bA (okJ j)) := by
 refine ct_of (O := tblO (orT Tnum_Right (Tnum_Cmp))) (by kernel_rfl) tyT_ok (fun w => tblO_ok (orT_ok Tnum_Right_ok (Tnum_Cmp_ok)) _ w) [] 300 19 [.tmp 2] Tryz.func22 rfl Tryz.ntmps22 (by rw [Tryz.results22]) (by simp) rfl (fun hsm => ?_)
 simp (maxSteps := 10000000) only [go_sem, seval, X.eta, J.eta, Q.eta, brkf_b, brkf_t, exef_some, exif_some, condf_b, ↓not_cond, postf_some, reduceCtorEq, Tnum_Right, Tnum_Cmp]
 repeat' with_reducible first | apply And.intro | apply condP <;> intro _
 all_goals first | (show chk _ _ = true; kernel_rfl) | (simp only [go_sem, *, okJ] <;> rfl) | rfl | (exfalso; simp_all only [Bool.true_eq_false, Bool.false_eq_true, reduceCtorEq]; done)
theorem i_clone (x : X) : Ct Tryz.prog 68 [.v true x.L] (· = xA x) := by
 refine ct_of (O := tblO noT) (by kernel_rfl) tyT_ok (fun w => tblO_ok noT_ok _ w) [] 300 8 [.cell 2 26] Tryz.func68 rfl Tryz.ntmps68 (by rw [Tryz.results68]) (by simp) rfl (fun hsm => ?_)
 simp (maxSteps := 10000000) only [go_sem, seval, X.eta, J.eta, Q.eta, brkf_b, brkf_t, exef_some, exif_some, condf_b, ↓not_cond, postf_some, reduceCtorEq]
 repeat' with_reducible first | apply And.intro | apply condP <;> intro _
 all_goals first | (show chk _ _ = true; kernel_rfl) | (simp only [go_sem, *, X.L] <;> rfl) | rfl | (exfalso; simp_all only [Bool.true_eq_false, Bool.false_eq_true, reduceCtorEq]; done)
theorem i_str (j : J) : Ct Tryz.prog 88 [.v true j.L] (· = bA (strJ j)) := by
 refine ct_of (O := tblO (Tnum_Sign)) (by kernel_rfl) tyT_ok (fun w => tblO_ok (Tnum_Sign_ok) _ w) [] 300 13 [.tmp 2] Tryz.func88 rfl Tryz.ntmps88 (by rw [Tryz.results88]) (by simp) rfl (fun hsm => ?_)
 simp (maxSteps := 10000000) only [go_sem, seval, X.eta, J.eta, Q.eta, brkf_b, brkf_t, exef_some, exif_some, condf_b, ↓not_cond, postf_some, reduceCtorEq, Tnum_Sign]
 repeat' with_reducible first | apply And.intro | apply condP <;> intro _
 all_goals first | (show chk _ _ = true; kernel_rfl) | (simp only [go_sem, *, strJ] <;> rfl) | rfl | (exfalso; simp_all only [Bool.true_eq_false, Bool.false_eq_true, reduceCtorEq]; done)
noncomputable def Tiv_Right : Tbl := one 22 (gJ fun j => (True, bA (okJ j)))
theorem Tiv_Right_ok : TbOK Tryz.prog Tiv_Right := one_ok (ent Tryz.func22 (by kernel_rfl) rfl) fun args e h hp => by obtain ⟨j, rfl, rfl⟩ := gJ_eq h; exact i_right j
noncomputable def Tiv_clone : Tbl := one 68 (gN fun x => (True, xA x))
theorem Tiv_clone_ok : TbOK Tryz.prog Tiv_clone := one_ok (ent Tryz.func68 (by kernel_rfl) rfl) fun args e h hp => by obtain ⟨x, rfl, rfl⟩ := gN_eq h; exact i_clone x
noncomputable def Tiv_straddles : Tbl := one 88 (gJ fun j => (True, bA (strJ j)))
theorem Tiv_straddles_ok : TbOK Tryz.prog Tiv_straddles := one_ok (ent Tryz.func88 (by kernel_rfl) rfl) fun args e h hp => by obtain ⟨j, rfl, rfl⟩ := gJ_eq h; exact i_str j
theorem i_of (x : X) : Ct Tryz.prog 32 [.v true x.L] (· = jA ⟨x, x⟩) := by
 refine ct_of (O := tblO (Tiv_clone)) (by kernel_rfl) tyT_ok (fun w => tblO_ok (Tiv_clone_ok) _ w) [] 300 8 [.cell 2 28] Tryz.func32 rfl Tryz.ntmps32 (by rw [Tryz.results32]) (by simp) rfl (fun hsm => ?_)
 simp (maxSteps := 10000000) only [go_sem, seval, X.eta, J.eta, Q.eta, brkf_b, brkf_t, exef_some, exif_some, condf_b, ↓not_cond, postf_some, reduceCtorEq, Tiv_clone]
 repeat' with_reducible first | apply And.intro | apply condP <;> intro _
 all_goals first | (show chk _ _ = true; kernel_rfl) | (simp only [go_sem, *, J.L] <;> rfl) | rfl | (exfalso; simp_all only [Bool.true_eq_false, Bool.false_eq_true, reduceCtorEq]; done)
theorem i_make (x : X) (x1 : X) : Ct Tryz.prog 54 [.v true x.L, .v true x1.L] (· = jeA (makeJ x x1)) := by
 refine ct_of (O := tblO (orT Tiv_Right (Tiv_clone))) (by kernel_rfl) tyT_ok (fun w => tblO_ok (orT_ok Tiv_Right_ok (Tiv_clone_ok)) _ w) [] 300 17 [.cell 4 28, .tmp 5] Tryz.func54 rfl Tryz.ntmps54 (by rw [Tryz.results54]) (by simp) rfl (fun hsm => ?_)
 simp (maxSteps := 10000000) only [go_sem, seval, X.eta, J.eta, Q.eta, brkf_b, brkf_t, exef_some, exif_some, condf_b, ↓not_cond, postf_some, reduceCtorEq, Tiv_Right, Tiv_clone]
 repeat' with_reducible first | apply And.intro | apply condP <;> intro _
 all_goals first | (show chk _ _ = true; kernel_rfl) | (simp only [go_sem, *, makeJ, zJ, zX, J.L, X.L] <;> rfl) | rfl | (exfalso; simp_all only [Bool.true_eq_false, Bool.false_eq_true, reduceCtorEq]; done)
noncomputable def Tiv_Of : Tbl := one 32 (gN fun x => (True, jA ⟨x, x⟩))
theorem Tiv_Of_ok : TbOK Tryz.prog Tiv_Of := one_ok (ent Tryz.func32 (by kernel_rfl) rfl) fun args e h hp => by obtain ⟨x, rfl, rfl⟩ := gN_eq h; exact i_of x
noncomputable def Tiv_Make : Tbl := one 54 (gNN fun x x1 => (True, jeA (makeJ x x1)))
theorem Tiv_Make_ok : TbOK Tryz.prog Tiv_Make := one_ok (ent Tryz.func54 (by kernel_rfl) rfl) fun args e h hp => by obtain ⟨x, x1, rfl, rfl⟩ := gNN_eq h; exact i_make x x1
end Go.Proofs.YtobcbhppmgnioaaGreatDoor
