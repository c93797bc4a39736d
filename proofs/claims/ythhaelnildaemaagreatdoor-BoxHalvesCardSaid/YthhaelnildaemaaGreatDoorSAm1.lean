/- Halves of boxes. -/
import Derived.Test.YthhaelnildaemaaGreatDoorSAlY
import Derived.Test.YthhaelnildaemaaGreatDoorSAl7
namespace Go.Proofs.YthhaelnildaemaaGreatDoor
open Go.RowKit Nx
set_option linter.unusedVariables false
set_option linter.unusedSimpArgs false
section
variable {u v : J} {m : X}
theorem x_eq {x y : X} (hx : GX x) (hy : GX y) (h : x.v = y.v) : x = y := by
  have v1 := ok_arg hx.1 hx.2
  have v2 := ok_arg hy.1 hy.2
  have h : x.q.at 65536 = y.q.at 65536 := h
  have e := of_at v1.1 (ok_e hx.1)
  rw [h, of_at v2.1 (ok_e hy.1)] at e
  rw [← qx_q hx.1 hx.2, ← qx_q hy.1 hy.2, e]
theorem hull_self {j : J} (h : okJ j = true) : hullJ j j = (j, 0) := by
  unfold hullJ lessX moreX
  rw [h, cmpx_self, cmpx_self]
  show makeJ j.lo j.hi = _
  unfold makeJ
  rw [show okJ ⟨j.lo, j.hi⟩ = true from h]; rfl
theorem hull_mid {j : J} (hg : Good j) (hm : GX m) (hh : hasJ j m = true) : hullJ ⟨j.lo, m⟩ ⟨m, j.hi⟩ = (j, 0) ∧ okJ ⟨j.lo, m⟩ = true ∧ okJ ⟨m, j.hi⟩ = true := by
  obtain ⟨a1, a2, a3⟩ := okJ_parts hg.1
  obtain ⟨_, m1, h1, h2⟩ := has_v hh
  have k1 : okJ ⟨j.lo, m⟩ = true := okJ_of a1 m1 h1
  have k2 : okJ ⟨m, j.hi⟩ = true := okJ_of m1 a2 h2
  refine ⟨?_, k1, k2⟩
  unfold hullJ
  rw [k1, k2]
  have e1 : lessX j.lo m = j.lo := by
    unfold lessX
    rw [decide_eq_false (show ¬ cmpx j.lo m > 0 from fun hc => by have := (cmpx_gt a1 m1).1 hc; omega)]; rfl
  have e2 : moreX m j.hi = j.hi := by
    unfold moreX
    by_cases hc : cmpx m j.hi < 0
    · rw [decide_eq_true hc]; rfl
    · rw [decide_eq_false hc]
      show m = j.hi
      exact x_eq hm ⟨a2, hg.2.hi⟩ (by have : ¬ m.v < j.hi.v := fun h => hc ((cmpx_lt m1 a2).2 h); omega)
  show makeJ (lessX j.lo m) (moreX m j.hi) = _
  rw [e1, e2]
  unfold makeJ
  rw [show okJ ⟨j.lo, j.hi⟩ = true from hg.1]; rfl
theorem in_self {j : J} (h : okJ j = true) : inJ j j = true := by
  unfold inJ
  rw [h, cmpx_self, cmpx_self]; rfl
theorem in_parts {j : J} (hg : Good j) (hm : GX m) (hh : hasJ j m = true) : inJ ⟨j.lo, m⟩ j = true ∧ inJ ⟨m, j.hi⟩ j = true := by
  obtain ⟨a1, a2, a3⟩ := okJ_parts hg.1
  obtain ⟨_, m1, h1, h2⟩ := has_v hh
  obtain ⟨_, k1, k2⟩ := hull_mid hg hm hh
  exact ⟨inJ_v ⟨k1, hg.2.lo, hm.2⟩ hg (Int.le_refl _) h2, inJ_v ⟨k2, hm.2, hg.2.hi⟩ hg h1 (Int.le_refl _)⟩
theorem has_parts {j : J} {x : X} (hg : Good j) (hm : GX m) (hh : hasJ j m = true) (hx : hasJ j x = true) : hasJ ⟨j.lo, m⟩ x = true ∨ hasJ ⟨m, j.hi⟩ x = true := by
  obtain ⟨_, m1, _, _⟩ := has_v hh
  obtain ⟨_, x1, h1, h2⟩ := has_v hx
  obtain ⟨_, k1, k2⟩ := hull_mid hg hm hh
  rcases Int.le_total x.v m.v with h | h
  · exact .inl (has_of k1 x1 h1 h)
  · exact .inr (has_of k2 x1 h h2)
end
section
variable {φ : J → J → J × Int}
theorem zip_set : ∀ {l : List J} {i : Nat} {u v : J}, i < l.length → φ u v = (l.getD i zJ, 0) → (∀ j ∈ l, φ j j = (j, 0)) → zipB φ (l.set i u) (l.set i v) = (l, 0) := by
  intro l
  induction l with
  | nil => intro i u v h _ _; exact absurd h (by simp)
  | cons a l ih =>
    intro i u v h h1 h2
    have hself : zipB φ l l = (l, 0) := by
      clear ih h h1
      induction l with
      | nil => rfl
      | cons b l ih2 =>
        unfold zipB
        rw [h2 b (by simp), ih2 fun j hj => h2 j (by rcases List.mem_cons.1 hj with rfl | hj <;> simp [*])]; rfl
    cases i with
    | zero =>
      have h1 : φ u v = (a, 0) := h1
      show zipB φ (u :: l) (v :: l) = _
      unfold zipB
      rw [h1, hself]; rfl
    | succ i =>
      show zipB φ (a :: l.set i u) (a :: l.set i v) = _
      unfold zipB
      rw [h2 a (List.mem_cons_self ..), ih (by simpa using h) h1 fun j hj => h2 j (List.mem_cons_of_mem _ hj)]; rfl
theorem zip_self {l : List J} (h2 : ∀ j ∈ l, φ j j = (j, 0)) : zipB φ l l = (l, 0) := by
  induction l with
  | nil => rfl
  | cons b l ih2 =>
    unfold zipB
    rw [h2 b (List.mem_cons_self ..), ih2 fun j hj => h2 j (List.mem_cons_of_mem _ hj)]; rfl
theorem set_mem {l : List J} {i : Nat} {u : J} {P : J → Prop} (h : ∀ j ∈ l, P j) (hu : P u) : ∀ j ∈ l.set i u, P j := fun j hj => by
  rcases List.mem_or_eq_of_mem_set hj with h1 | rfl
  · exact h j h1
  · exact hu
theorem all_set : ∀ {l : List J} {i : Nat} {u : J}, i < l.length → inJ u (l.getD i zJ) = true → (∀ j ∈ l, inJ j j = true) → all2 inJ (l.set i u) l = true := by
  intro l
  induction l with
  | nil => intro i u h _ _; exact absurd h (by simp)
  | cons a l ih =>
    intro i u h h1 h2
    have hself : all2 inJ l l = true := by
      clear ih h h1
      induction l with
      | nil => rfl
      | cons b l ih2 =>
        unfold all2
        rw [h2 b (by simp), ih2 fun j hj => h2 j (by rcases List.mem_cons.1 hj with rfl | hj <;> simp [*])]; rfl
    cases i with
    | zero =>
      have h1 : inJ u a = true := h1
      show all2 inJ (u :: l) (a :: l) = true
      unfold all2
      rw [h1, hself]; rfl
    | succ i =>
      show all2 inJ (a :: l.set i u) (a :: l) = true
      unfold all2
      rw [h2 a (List.mem_cons_self ..), ih (by simpa using h) h1 fun j hj => h2 j (List.mem_cons_of_mem _ hj)]; rfl
theorem has_set : ∀ {l : List J} {p : List X} {i : Nat} {u v : J}, i < l.length → all2 hasJ l p = true → (∀ x, hasJ (l.getD i zJ) x = true → hasJ u x = true ∨ hasJ v x = true) → all2 hasJ (l.set i u) p = true ∨ all2 hasJ (l.set i v) p = true := by
  intro l
  induction l with
  | nil => intro p i u v h _ _; exact absurd h (by simp)
  | cons a l ih =>
    intro p i u v h h1 h2
    cases p with
    | nil => cases h1
    | cons x p =>
      unfold all2 at h1
      rw [Bool.and_eq_true] at h1
      cases i with
      | zero =>
        show all2 hasJ (u :: l) (x :: p) = true ∨ all2 hasJ (v :: l) (x :: p) = true
        unfold all2
        rcases h2 x h1.1 with h3 | h3
        · rw [h3, h1.2]; exact .inl rfl
        · rw [h3, h1.2]; exact .inr rfl
      | succ i =>
        show all2 hasJ (a :: l.set i u) (x :: p) = true ∨ all2 hasJ (a :: l.set i v) (x :: p) = true
        unfold all2
        rw [h1.1]
        exact ih (by simpa using h) h1.2 h2
end
theorem right_set {l : List J} {i : Nat} {u : J} (h : rightB l = true) (hu : okJ u = true) : rightB (l.set i u) = true := by
  have h4 := rightB_len h
  unfold rightB
  rw [List.length_set, decide_eq_true h4.1, decide_eq_true h4.2]
  exact List.all_eq_true.2 (set_mem (right_ok h) hu)
theorem mkB_set {l : List J} {i : Nat} {u : J} (h : rightB l = true) (hu : okJ u = true) : mkB (l.set i u) = (l.set i u, 0) := by
  have hr := right_set (i := i) h hu
  unfold mkB
  rw [bothB_go hr hr rfl]
  exact zip_self fun j hj => by
    have := right_ok hr j hj
    show makeJ j.lo j.hi = (j, 0)
    unfold makeJ
    rw [show okJ ⟨j.lo, j.hi⟩ = true from this]; rfl
theorem getD_mem {l : List J} {i : Nat} (h : i < l.length) : l.getD i zJ ∈ l := by
  rw [List.getD_eq_getElem?_getD, List.getElem?_eq_getElem h]
  exact List.getElem_mem h
theorem half_same {l : List J} (hs : Sm l) (z : Int) : halfB l z = rhalfB l z := by
  unfold halfB rhalfB
  rw [wide_same hs z]
  cases he : (rwidS l z).2 != 0 with
  | true => rfl
  | false =>
    rw [cond_false, cond_false]
    have he : (rwidS l z).2 = 0 := by simpa using he
    obtain ⟨h1, h2, h3⟩ := rwidS_lt he
    have hz : prl z = true := by
      cases hp : prl z with
      | true => rfl
      | false =>
        exfalso
        rw [← prl_prb] at hp
        have : rwids l z = ([], 1) := bothP_1 fun a _ => prX_1 hp a
        unfold rwidS at he
        rw [this] at he; cases he
    have hi : (rwidS l z).1.1.toNat < l.length := by omega
    have hm := getD_mem hi
    have hg : Good (l.getD (rwidS l z).1.1.toNat zJ) := right_good hs h1 _ hm
    rw [mid_eq hg.2]
    cases hc : (rmid (l.getD (rwidS l z).1.1.toNat zJ) z).2 != 0 with
    | true => rfl
    | false =>
      rw [cond_false, cond_false]
      obtain ⟨g1, g2⟩ := (mid_facts hg hz).2 (by simpa using hc)
      obtain ⟨_, k1, k2⟩ := hull_mid hg g1 g2
      unfold rplB
      rw [mkB_set h1 k1, mkB_set h1 k2]
theorem rhalf_len (l : List J) (z : Int) : (rhalfB l z).1.1.length ≤ 6 ∧ (rhalfB l z).1.2.length ≤ 6 := by
  unfold rhalfB
  cases he : (rwidS l z).2 != 0 with
  | true => exact ⟨Nat.zero_le _, Nat.zero_le _⟩
  | false =>
    have he : (rwidS l z).2 = 0 := by simpa using he
    have h4 := rightB_len (rwidS_lt he).1
    rw [cond_false]
    cases (rmid (l.getD (rwidS l z).1.1.toNat zJ) z).2 != 0 with
    | true => exact ⟨Nat.zero_le _, Nat.zero_le _⟩
    | false =>
      rw [cond_false]
      refine ⟨?_, ?_⟩
      · show (l.set _ _).length ≤ 6
        rw [List.length_set]; omega
      · show (l.set _ _).length ≤ 6
        rw [List.length_set]; omega
theorem wide_ok {j : J} {z : Int} (hg : Good j) (hf : FewJ j) (hz : prl z = true) : (rwide j z).2 = 0 := by
  obtain ⟨b1, b2⟩ := fewj_bd hf
  have hwv : Valid (rnd z.toNat true (minus j.hi.q j.lo.q)) := val_rnd hz (bd_minus b2 b1) (by omega)
  unfold rwide
  rw [hg.1, prl_prb, hz]
  simp only [Bool.not_true, Bool.or_self, cond_false]
  rw [res_ok hwv.2]
theorem mid_ok {j : J} {z : Int} (hg : Good j) (hf : FewJ j) (hz : prl z = true) : (rmid j z).2 = 0 := by
  obtain ⟨b1, b2⟩ := fewj_bd hf
  have hb : Bd 34 (hlf (plus j.lo.q j.hi.q)) := by
    have hp := bd_plus b1 b2
    rw [hlf_eq (vm_plus (jlo hg.2 hg.1) (jhi hg.2 hg.1)), half_scale (show Canon (plus j.lo.q j.hi.q) from ofz_canon _ _)]
    unfold scale
    split
    · exact ⟨Nat.two_pow_pos _, by show -((34 : Nat) : Int) ≤ 0; omega, by show (0 : Int) ≤ ((34 : Nat) : Int); omega⟩
    · exact ⟨Nat.lt_of_lt_of_le hp.1 (Nat.pow_le_pow_right (by omega) (by omega)), by have := hp.2.1; show -((34 : Nat) : Int) ≤ (plus j.lo.q j.hi.q).e + -1; omega, by have := hp.2.2; show (plus j.lo.q j.hi.q).e + -1 ≤ ((34 : Nat) : Int); omega⟩
  have hv : Valid (rnd z.toNat false (hlf (plus j.lo.q j.hi.q))) := val_rnd hz hb (by omega)
  unfold rmid
  rw [hg.1, prl_prb, hz]
  simp only [Bool.not_true, Bool.or_self, cond_false]
  cases decide (cmpq (rnd z.toNat false (hlf (plus j.lo.q j.hi.q))) j.lo.q < 0)
  · rw [cond_false, res_ok hv.2]
  · rfl
theorem zipP_ok {φ : J → J → X × Int} : ∀ {l : List J}, (∀ j ∈ l, (φ j j).2 = 0) → (zipP φ l l).2 = 0 := by
  intro l
  induction l with
  | nil => intro _; rfl
  | cons a l ih =>
    intro h
    have h1 := h a (List.mem_cons_self ..)
    have h2 := ih fun j hj => h j (List.mem_cons_of_mem _ hj)
    unfold zipP
    rw [h1, h2]; rfl
theorem halve_small {b : List J} {z : Int} (hg : ∀ j ∈ b, Good j ∧ FewJ j) (h1 : 1 ≤ b.length) (h4 : b.length ≤ 4) (hz : prl z = true) :
    ∃ x y, halfB b z = ((x, y), 0) ∧ rhalfB b z = ((x, y), 0) ∧ bothB hullJ x y = (b, 0) ∧ inB x b = true ∧ inB y b = true ∧ (x.length ≤ 6 ∧ y.length ≤ 6) ∧ ∀ p, hasB b p = true → hasB x p = true ∨ hasB y p = true := by
  have hr : rightB b = true := rightB_good (fun j hj => (hg j hj).1) h1 h4
  have hs : Sm b := fun j hj => (hg j hj).1.2
  have he : (rwidS b z).2 = 0 := by
    have hw : (rwids b z).2 = 0 := by
      unfold rwids bothP
      rw [hr, decide_eq_true rfl]
      exact zipP_ok fun j hj => wide_ok (hg j hj).1 (hg j hj).2 hz
    unfold rwidS rwidR
    rw [hw]; rfl
  obtain ⟨_, i1, i2⟩ := rwidS_lt he
  have hi : (rwidS b z).1.1.toNat < b.length := by omega
  have hm := getD_mem hi
  obtain ⟨G, F⟩ := hg _ hm
  have hmo := mid_ok G F hz
  obtain ⟨g1, g2⟩ := (mid_facts G hz).2 hmo
  obtain ⟨k0, k1, k2⟩ := hull_mid G g1 g2
  obtain ⟨n1, n2⟩ := in_parts G g1 g2
  have e2 : rhalfB b z = ((b.set (rwidS b z).1.1.toNat ⟨(b.getD (rwidS b z).1.1.toNat zJ).lo, (rmid (b.getD (rwidS b z).1.1.toNat zJ) z).1⟩, b.set (rwidS b z).1.1.toNat ⟨(rmid (b.getD (rwidS b z).1.1.toNat zJ) z).1, (b.getD (rwidS b z).1.1.toNat zJ).hi⟩), 0) := by
    unfold rhalfB
    rw [he, hmo]; rfl
  refine ⟨_, _, (half_same hs z).trans e2, e2, ?_, ?_, ?_, ⟨by rw [List.length_set]; omega, by rw [List.length_set]; omega⟩, fun p hp => ?_⟩
  · rw [bothB_go (right_set hr k1) (right_set hr k2) (by rw [List.length_set, List.length_set])]
    exact zip_set hi k0 fun j hj => hull_self (right_ok hr j hj)
  · unfold inB
    rw [right_set hr k1, hr, all_set hi n1 fun j hj => in_self (right_ok hr j hj)]; rfl
  · unfold inB
    rw [right_set hr k2, hr, all_set hi n2 fun j hj => in_self (right_ok hr j hj)]; rfl
  · unfold hasB at hp ⊢
    rw [Bool.and_eq_true] at hp
    rw [right_set hr k1, right_set hr k2]
    exact has_set hi hp.2 fun x hx => has_parts G g1 g2 hx
end Go.Proofs.YthhaelnildaemaaGreatDoor
namespace Go.Proofs.YthhaelnildaemaaGreatDoor
open Go.RowKit Nx
set_option linter.unusedVariables false
set_option linter.unusedSimpArgs false
set_option maxRecDepth 100000
set_option maxHeartbeats 4000000
attribute [local go_sem] run init X.L J.L vL X.eta J.eta Q.eta List.cons_append List.nil_append brkK brkf_b brkf_t exef_some exif_some condf_b opf bodyE addR skipE stepOp stepLoad stepStore stepField stepCall stepBS stepBi stepCv stepIx lpf hdS pick forget inL mentA ment dom evs evl evp evd okeys look fillA capsOf wordsOf rowsOf lenOf convK binV shV intV unV boolT tyT tiB tiI tiW tiD tiF tiR tiU tiNum tiIv tiVal tiSc okLf okD keysOf tblO cvA cvL dnL olA olL noO noA cbL cbA orT noT one asNum asIv asVal postf_some resA tupA clA clL dropTo decide_true decide_false List.all_cons List.all_nil Bool.and_true Bool.and_self true_and and_true and_self List.length_cons List.length_nil List.drop_succ_cons List.drop_zero List.take_succ_cons List.take_zero List.getElem?_cons_zero List.getElem?_cons_succ List.map_cons List.map_nil false_implies true_implies Option.bind_some List.getElem?_toArray Bool.false_eq_true List.append_nil List.flatMap_cons List.flatMap_nil true_or or_true forall_const List.reverse_cons List.reverse_nil Option.isSome_some Option.any_some Nat.lt_irrefl not_true_eq_false Bool.not_true Bool.not_false imp_self implies_true Bool.not_eq_true' Bool.not_eq_false' Bool.true_eq_false memOf cntF nmL rnL nmA rnA isV contsOf ndB refO orO pin Int.toNat_zero decide_eq_true_eq wrap0 wrap1 ci1 ci2 BEq.rfl beq_self_eq_true Int.natCast_zero ge_iff_le gt_iff_lt Int.le_refl Nat.zero_mul Nat.one_mul Nat.zero_add Nat.zero_lt_succ Nat.lt_add_one Nat.le_refl List.append_eq Int.toNat_natCast gN gNN gNI gI gNNIB gNIB gJ gJJ gJN gJJI gJI stepB0 stepMk stepSl stepAp apY optI okO nilV slT resB outPs outLs outL dnT noE boxL_nil boxL_cons ptsL_nil ptsL_cons bxe pxe bne_self_eq_false wr2 wr3 wr4 wr5 wr6 wr7 wr8 gB gP gBB gBP gBZ gBBZ bC_nil bC_cons pC_nil pC_cons fvO Lc.up tyB tiS tiBB List.replicate_succ List.replicate_zero List.flatten_cons List.flatten_nil Int.ofNat_lt Int.cast_ofNat_Int Int.ofNat_eq_natCast List.isEmpty_nil List.isEmpty_cons and_false false_and List.cons_ne_nil Nat.add_zero ite_true ite_false if_true if_false Nat.le_zero_eq eq_self Bool.and_false Bool.false_and Bool.true_and AV.s cond_true cond_false Bool.or_true Bool.true_or Bool.or_false Bool.false_or
attribute [local go_sem ↓] cond_true cond_false not_cond outL_box outL_pts clL_box clL_pts okL_box okL_pts ment_box ment_pts olL_box olL_pts cvL_box cvL_pts noO_box noO_pts asB_box asP_pts len_box len_pts
attribute [local irreducible] chk
def gL1 : List AV → Option (Prop × AV)
  | [.v false [.sl false sz k [.sl s1 _ ls]]] => (match asKs ls with
    | some a => some (sz = 1 ∧ k = 1 ∧ s1 = 6, bA (lightK a))
    | none => none)
  | _ => none
noncomputable def Tlaw6_light1 : Tbl := one 9 gL1
theorem Tlaw6_light1_ok : TbOK Tryz.prog Tlaw6_light1 := one_ok (ent Tryz.func9 (by kernel_rfl) rfl) fun args e he hp => by
  unfold gL1 at he
  split at he
  · split at he
    · rename_i h1
      injection he with he; subst he
      obtain ⟨rfl, rfl, rfl⟩ := hp
      exact l6_1r h1
    · cases he
  · cases he
theorem v_hv_h (a : List K) (l : Value) (z : Int) (h : lightK (a.map K.p) = false) : Ct Tryz.prog 7 [kA_ a, .s (.lit l), iA z] (· = bA true) := by
  refine ct_of (O := tblO (orT Tlaw6_known Tlaw6_light1)) (by kernel_rfl) tyB_ok (fun w => tblO_ok (orT_ok Tlaw6_known_ok Tlaw6_light1_ok) _ w) [] 800 130 [.tmp 6] Tryz.func7 rfl Tryz.ntmps7 (by rw [Tryz.results7]) (by simp) rfl (fun hsm => ?_)
  simp (maxSteps := 10000000) only [go_sem, ↓reduceIte, Nat.reduceMul, Nat.reduceDiv, Nat.reduceAdd, Nat.reduceEqDiff, Nat.reduceLeDiff, Nat.reduceLT, reduceCtorEq, Int.reduceNeg, Int.reduceLT, Int.reduceLE, Int.reduceAdd, Int.reduceToNat, Nat.reduceBEq, Int.reduceMul, Int.reduceSub, Nat.reduceSub, Int.reduceBNe, Nat.reduceBNe, asP, nilB, asXs, wsOf, Tlaw6_known, Tlaw6_light1, gL1, ↓asKs_k, h]
  repeat' first | (with_reducible apply And.intro) | (with_reducible apply condP <;> intro _)
  all_goals first | (show chk _ _ = true; kernel_rfl) | assumption | (simp only [go_sem, *] <;> rfl) | rfl | (exfalso; simp_all only [Bool.true_eq_false, Bool.false_eq_true, reduceCtorEq]; done)
theorem v_hv0 (a : List J) (p : Int) (xs : List Nat) (A : Option Addr) (n c : Nat) (hd : ((dk xs 0 % 4 : Nat) : Int) = 0) (la : lightK (a.map J.p) = true) : LC6 7 A n c xs [bA_ a, .s (.lit (.slice A n c)), iA p] := by
  refine lc6_of (O := orO ofO (orO (dkO 12 A n c (rK fun k => (k ≤ 900 ∧ ((dk xs k % 4 : Nat) : Int) = 0, iA 1, k + 1))) (orO (dkO 21 A n c (rKI fun k z => (k ≤ 700 ∧ 0 < z ∧ z ≤ 4, .s (boxL (sivsD xs z.toNat k).1), (sivsD xs z.toNat k).2))) (orO (dkO 19 A n c (rK fun k => (k ≤ 900, iA (precD xs k).1, (precD xs k).2))) (orO (dkO 14 A n c (rKB fun k l => (Goods l ∧ 1 ≤ l.length ∧ l.length ≤ 4 ∧ k ≤ 700, .s (ptsL (pD xs l k)), k + 1 * l.length))) (tblO (orT Tlaw6_known (orT Tlaw6_light1 (orT Tbox_Halve (orT T6_Halve (orT T6_Same (orT Tbox_Hull (orT Tbox_Same (orT Tbox_Has Tbox_In)))))))))))))) (by kernel_rfl) tyB_ok (fun w hA hn => only_or ofO_only (ofO_ok _ _) (only_or dkO_only (dkO_ok (xs := xs) (ent Tryz.func12 (by kernel_rfl) rfl) (rK_ok fun k hp => d_dim0 xs k hp.1 hp.2) hA hn) (only_or dkO_only (dkO_ok (xs := xs) (ent Tryz.func21 (by kernel_rfl) rfl) (rKI_ok fun k z hp => d_smallbox hp) hA hn) (only_or dkO_only (dkO_ok (xs := xs) (ent Tryz.func19 (by kernel_rfl) rfl) (rK_ok fun k hp => (precD_spec hp).2.2.2) hA hn) (only_or dkO_only (dkO_ok (xs := xs) (ent Tryz.func14 (by kernel_rfl) rfl) (rKB_ok fun k l hp => d_inbox hp) hA hn) (tblO_ok (orT_ok Tlaw6_known_ok (orT_ok Tlaw6_light1_ok (orT_ok Tbox_Halve_ok (orT_ok T6_Halve_ok (orT_ok T6_Same_ok (orT_ok Tbox_Hull_ok (orT_ok Tbox_Same_ok (orT_ok Tbox_Has_ok Tbox_In_ok)))))))) _ w) (fun d st args => by simp [orO, refO, dkO, ofO, tblO, orT, noT, one, Tlaw6_known, Tlaw6_light1, Tbox_Halve, T6_Halve, T6_Same, Tbox_Hull, Tbox_Same, Tbox_Has, Tbox_In])) (fun d st args => by simp [orO, refO, dkO, ofO, tblO, orT, noT, one, Tlaw6_known, Tlaw6_light1, Tbox_Halve, T6_Halve, T6_Same, Tbox_Hull, Tbox_Same, Tbox_Has, Tbox_In])) (fun d st args => by simp [orO, refO, dkO, ofO, tblO, orT, noT, one, Tlaw6_known, Tlaw6_light1, Tbox_Halve, T6_Halve, T6_Same, Tbox_Hull, Tbox_Same, Tbox_Has, Tbox_In])) (fun d st args => by simp [orO, refO, dkO, ofO, tblO, orT, noT, one, Tlaw6_known, Tlaw6_light1, Tbox_Halve, T6_Halve, T6_Same, Tbox_Hull, Tbox_Same, Tbox_Has, Tbox_In])) (fun d st args => by simp [orO, refO, dkO, ofO, tblO, orT, noT, one, Tlaw6_known, Tlaw6_light1, Tbox_Halve, T6_Halve, T6_Same, Tbox_Hull, Tbox_Same, Tbox_Has, Tbox_In])) [] 2000 130 [.tmp 6] Tryz.func7 rfl Tryz.ntmps7 (by rw [Tryz.results7]) (by simp) rfl (fun hsm hs => ?_)
  have hs0 : Sm a := sm_of hsm.1.1
  have eH : halfB a p = rhalfB a p := half_same hs0 p
  have eL := rhalf_len a p
  obtain ⟨l1, g1, u1, w1⟩ := sivsD_spec (xs := xs) (n := 1) (k := 1) (by omega)
  generalize hp1 : sivsD xs 1 1 = p1 at l1 g1 u1 w1
  obtain ⟨b, k1⟩ := p1
  have l1 : b.length = 1 := l1
  have w1 : k1 ≤ 1 + 3 * 1 := w1
  replace g1 : ∀ j ∈ b, Good j ∧ FewJ j := g1
  have hgb : Goods b := fun j hj => (g1 j hj).1
  obtain ⟨hz, u4, w4, _⟩ := precD_spec (xs := xs) (k := k1 + 1) (by omega)
  generalize hp4 : precD xs (k1 + 1) = p4 at hz u4 w4
  obtain ⟨z, k4⟩ := p4
  have hz : prl z = true := hz
  obtain ⟨x, y, e1, e2, e3, e4, e5, ⟨e6, e7⟩, e8⟩ := halve_small g1 (by omega) (by omega) hz
  have hO := e8 _ (hasB_of (xs := xs) (k := k1) hgb (by omega) (by omega) (by omega))
  have hY : hasB x (pD xs b k1) = false → hasB y (pD xs b k1) = true := fun h => hO.resolve_left (by rw [h]; exact Bool.false_ne_true)
  clear u1 u4 e8 g1 hO
  cases hX : hasB x (pD xs b k1) with
  | true =>
    simp (maxSteps := 10000000) (implicitDefEqProofs := false) only [go_sem, hX, ↓reduceIte, Nat.reduceMul, Nat.reduceDiv, Nat.reduceAdd, Nat.reduceEqDiff, Nat.reduceLeDiff, Nat.reduceLT, reduceCtorEq, Int.reduceNeg, Int.reduceLT, Int.reduceLE, Int.reduceAdd, Int.reduceToNat, Nat.reduceBEq, Int.reduceMul, Int.reduceSub, Nat.reduceSub, Int.reduceBNe, Nat.reduceBNe, Tlaw6_known, Tlaw6_light1, Tbox_Halve, T6_Halve, T6_Same, Tbox_Hull, Tbox_Same, Tbox_Has, Tbox_In, dkO, rK, rKI, rKJ, rKB, dpf_some, dk0, ↓cb_box, ↓cb_pts, ofO, eH, e1, e2, e3, e4, e5, l1, hp1, hp4, sameB_refl, gL1, ↓asKs_b, la, bbe, asB_b, asP_b, Int.toNat_one]
    repeat' first | (with_reducible apply And.intro) | (with_reducible apply condP <;> intro _)
    all_goals try first | exact eL.1 | exact eL.2 | exact e6 | exact e7 | exact hgb
    all_goals first | omega | (show chk _ _ = true; kernel_rfl) | with_reducible assumption | (simp only [go_sem, *, hd, l1] <;> rfl) | rfl | (exfalso; simp_all only [Bool.true_eq_false, Bool.false_eq_true, reduceCtorEq]; done)
  | false =>
    replace hY := hY hX
    simp (maxSteps := 10000000) (implicitDefEqProofs := false) only [go_sem, hX, hY, ↓reduceIte, Nat.reduceMul, Nat.reduceDiv, Nat.reduceAdd, Nat.reduceEqDiff, Nat.reduceLeDiff, Nat.reduceLT, reduceCtorEq, Int.reduceNeg, Int.reduceLT, Int.reduceLE, Int.reduceAdd, Int.reduceToNat, Nat.reduceBEq, Int.reduceMul, Int.reduceSub, Nat.reduceSub, Int.reduceBNe, Nat.reduceBNe, Tlaw6_known, Tlaw6_light1, Tbox_Halve, T6_Halve, T6_Same, Tbox_Hull, Tbox_Same, Tbox_Has, Tbox_In, dkO, rK, rKI, rKJ, rKB, dpf_some, dk0, ↓cb_box, ↓cb_pts, ofO, eH, e1, e2, e3, e4, e5, l1, hp1, hp4, sameB_refl, gL1, ↓asKs_b, la, bbe, asB_b, asP_b, Int.toNat_one]
    repeat' first | (with_reducible apply And.intro) | (with_reducible apply condP <;> intro _)
    all_goals try first | exact eL.1 | exact eL.2 | exact e6 | exact e7 | exact hgb
    all_goals first | omega | (show chk _ _ = true; kernel_rfl) | with_reducible assumption | (simp only [go_sem, *, hd, l1] <;> rfl) | rfl | (exfalso; simp_all only [Bool.true_eq_false, Bool.false_eq_true, reduceCtorEq]; done)
theorem v_hv1 (a : List J) (p : Int) (xs : List Nat) (A : Option Addr) (n c : Nat) (hd : ((dk xs 0 % 4 : Nat) : Int) = 1) (la : lightK (a.map J.p) = true) : LC6 7 A n c xs [bA_ a, .s (.lit (.slice A n c)), iA p] := by
  refine lc6_of (O := orO ofO (orO (dkO 12 A n c (rK fun k => (k ≤ 900 ∧ ((dk xs k % 4 : Nat) : Int) = 1, iA 2, k + 1))) (orO (dkO 21 A n c (rKI fun k z => (k ≤ 700 ∧ 0 < z ∧ z ≤ 4, .s (boxL (sivsD xs z.toNat k).1), (sivsD xs z.toNat k).2))) (orO (dkO 19 A n c (rK fun k => (k ≤ 900, iA (precD xs k).1, (precD xs k).2))) (orO (dkO 14 A n c (rKB fun k l => (Goods l ∧ 1 ≤ l.length ∧ l.length ≤ 4 ∧ k ≤ 700, .s (ptsL (pD xs l k)), k + 1 * l.length))) (tblO (orT Tlaw6_known (orT Tlaw6_light1 (orT Tbox_Halve (orT T6_Halve (orT T6_Same (orT Tbox_Hull (orT Tbox_Same (orT Tbox_Has Tbox_In)))))))))))))) (by kernel_rfl) tyB_ok (fun w hA hn => only_or ofO_only (ofO_ok _ _) (only_or dkO_only (dkO_ok (xs := xs) (ent Tryz.func12 (by kernel_rfl) rfl) (rK_ok fun k hp => d_dim1 xs k hp.1 hp.2) hA hn) (only_or dkO_only (dkO_ok (xs := xs) (ent Tryz.func21 (by kernel_rfl) rfl) (rKI_ok fun k z hp => d_smallbox hp) hA hn) (only_or dkO_only (dkO_ok (xs := xs) (ent Tryz.func19 (by kernel_rfl) rfl) (rK_ok fun k hp => (precD_spec hp).2.2.2) hA hn) (only_or dkO_only (dkO_ok (xs := xs) (ent Tryz.func14 (by kernel_rfl) rfl) (rKB_ok fun k l hp => d_inbox hp) hA hn) (tblO_ok (orT_ok Tlaw6_known_ok (orT_ok Tlaw6_light1_ok (orT_ok Tbox_Halve_ok (orT_ok T6_Halve_ok (orT_ok T6_Same_ok (orT_ok Tbox_Hull_ok (orT_ok Tbox_Same_ok (orT_ok Tbox_Has_ok Tbox_In_ok)))))))) _ w) (fun d st args => by simp [orO, refO, dkO, ofO, tblO, orT, noT, one, Tlaw6_known, Tlaw6_light1, Tbox_Halve, T6_Halve, T6_Same, Tbox_Hull, Tbox_Same, Tbox_Has, Tbox_In])) (fun d st args => by simp [orO, refO, dkO, ofO, tblO, orT, noT, one, Tlaw6_known, Tlaw6_light1, Tbox_Halve, T6_Halve, T6_Same, Tbox_Hull, Tbox_Same, Tbox_Has, Tbox_In])) (fun d st args => by simp [orO, refO, dkO, ofO, tblO, orT, noT, one, Tlaw6_known, Tlaw6_light1, Tbox_Halve, T6_Halve, T6_Same, Tbox_Hull, Tbox_Same, Tbox_Has, Tbox_In])) (fun d st args => by simp [orO, refO, dkO, ofO, tblO, orT, noT, one, Tlaw6_known, Tlaw6_light1, Tbox_Halve, T6_Halve, T6_Same, Tbox_Hull, Tbox_Same, Tbox_Has, Tbox_In])) (fun d st args => by simp [orO, refO, dkO, ofO, tblO, orT, noT, one, Tlaw6_known, Tlaw6_light1, Tbox_Halve, T6_Halve, T6_Same, Tbox_Hull, Tbox_Same, Tbox_Has, Tbox_In])) [] 2000 130 [.tmp 6] Tryz.func7 rfl Tryz.ntmps7 (by rw [Tryz.results7]) (by simp) rfl (fun hsm hs => ?_)
  have hs0 : Sm a := sm_of hsm.1.1
  have eH : halfB a p = rhalfB a p := half_same hs0 p
  have eL := rhalf_len a p
  obtain ⟨l1, g1, u1, w1⟩ := sivsD_spec (xs := xs) (n := 2) (k := 1) (by omega)
  generalize hp1 : sivsD xs 2 1 = p1 at l1 g1 u1 w1
  obtain ⟨b, k1⟩ := p1
  have l1 : b.length = 2 := l1
  have w1 : k1 ≤ 1 + 3 * 2 := w1
  replace g1 : ∀ j ∈ b, Good j ∧ FewJ j := g1
  have hgb : Goods b := fun j hj => (g1 j hj).1
  obtain ⟨hz, u4, w4, _⟩ := precD_spec (xs := xs) (k := k1 + 2) (by omega)
  generalize hp4 : precD xs (k1 + 2) = p4 at hz u4 w4
  obtain ⟨z, k4⟩ := p4
  have hz : prl z = true := hz
  obtain ⟨x, y, e1, e2, e3, e4, e5, ⟨e6, e7⟩, e8⟩ := halve_small g1 (by omega) (by omega) hz
  have hO := e8 _ (hasB_of (xs := xs) (k := k1) hgb (by omega) (by omega) (by omega))
  have hY : hasB x (pD xs b k1) = false → hasB y (pD xs b k1) = true := fun h => hO.resolve_left (by rw [h]; exact Bool.false_ne_true)
  clear u1 u4 e8 g1 hO
  cases hX : hasB x (pD xs b k1) with
  | true =>
    simp (maxSteps := 10000000) (implicitDefEqProofs := false) only [go_sem, hX, ↓reduceIte, Nat.reduceMul, Nat.reduceDiv, Nat.reduceAdd, Nat.reduceEqDiff, Nat.reduceLeDiff, Nat.reduceLT, reduceCtorEq, Int.reduceNeg, Int.reduceLT, Int.reduceLE, Int.reduceAdd, Int.reduceToNat, Nat.reduceBEq, Int.reduceMul, Int.reduceSub, Nat.reduceSub, Int.reduceBNe, Nat.reduceBNe, Tlaw6_known, Tlaw6_light1, Tbox_Halve, T6_Halve, T6_Same, Tbox_Hull, Tbox_Same, Tbox_Has, Tbox_In, dkO, rK, rKI, rKJ, rKB, dpf_some, dk0, ↓cb_box, ↓cb_pts, ofO, eH, e1, e2, e3, e4, e5, l1, hp1, hp4, sameB_refl, gL1, ↓asKs_b, la, bbe, asB_b, asP_b, Int.toNat_one]
    repeat' first | (with_reducible apply And.intro) | (with_reducible apply condP <;> intro _)
    all_goals try first | exact eL.1 | exact eL.2 | exact e6 | exact e7 | exact hgb
    all_goals first | omega | (show chk _ _ = true; kernel_rfl) | with_reducible assumption | (simp only [go_sem, *, hd, l1] <;> rfl) | rfl | (exfalso; simp_all only [Bool.true_eq_false, Bool.false_eq_true, reduceCtorEq]; done)
  | false =>
    replace hY := hY hX
    simp (maxSteps := 10000000) (implicitDefEqProofs := false) only [go_sem, hX, hY, ↓reduceIte, Nat.reduceMul, Nat.reduceDiv, Nat.reduceAdd, Nat.reduceEqDiff, Nat.reduceLeDiff, Nat.reduceLT, reduceCtorEq, Int.reduceNeg, Int.reduceLT, Int.reduceLE, Int.reduceAdd, Int.reduceToNat, Nat.reduceBEq, Int.reduceMul, Int.reduceSub, Nat.reduceSub, Int.reduceBNe, Nat.reduceBNe, Tlaw6_known, Tlaw6_light1, Tbox_Halve, T6_Halve, T6_Same, Tbox_Hull, Tbox_Same, Tbox_Has, Tbox_In, dkO, rK, rKI, rKJ, rKB, dpf_some, dk0, ↓cb_box, ↓cb_pts, ofO, eH, e1, e2, e3, e4, e5, l1, hp1, hp4, sameB_refl, gL1, ↓asKs_b, la, bbe, asB_b, asP_b, Int.toNat_one]
    repeat' first | (with_reducible apply And.intro) | (with_reducible apply condP <;> intro _)
    all_goals try first | exact eL.1 | exact eL.2 | exact e6 | exact e7 | exact hgb
    all_goals first | omega | (show chk _ _ = true; kernel_rfl) | with_reducible assumption | (simp only [go_sem, *, hd, l1] <;> rfl) | rfl | (exfalso; simp_all only [Bool.true_eq_false, Bool.false_eq_true, reduceCtorEq]; done)
theorem v_hv2 (a : List J) (p : Int) (xs : List Nat) (A : Option Addr) (n c : Nat) (hd : ((dk xs 0 % 4 : Nat) : Int) = 2) (la : lightK (a.map J.p) = true) : LC6 7 A n c xs [bA_ a, .s (.lit (.slice A n c)), iA p] := by
  refine lc6_of (O := orO ofO (orO (dkO 12 A n c (rK fun k => (k ≤ 900 ∧ ((dk xs k % 4 : Nat) : Int) = 2, iA 3, k + 1))) (orO (dkO 21 A n c (rKI fun k z => (k ≤ 700 ∧ 0 < z ∧ z ≤ 4, .s (boxL (sivsD xs z.toNat k).1), (sivsD xs z.toNat k).2))) (orO (dkO 19 A n c (rK fun k => (k ≤ 900, iA (precD xs k).1, (precD xs k).2))) (orO (dkO 14 A n c (rKB fun k l => (Goods l ∧ 1 ≤ l.length ∧ l.length ≤ 4 ∧ k ≤ 700, .s (ptsL (pD xs l k)), k + 1 * l.length))) (tblO (orT Tlaw6_known (orT Tlaw6_light1 (orT Tbox_Halve (orT T6_Halve (orT T6_Same (orT Tbox_Hull (orT Tbox_Same (orT Tbox_Has Tbox_In)))))))))))))) (by kernel_rfl) tyB_ok (fun w hA hn => only_or ofO_only (ofO_ok _ _) (only_or dkO_only (dkO_ok (xs := xs) (ent Tryz.func12 (by kernel_rfl) rfl) (rK_ok fun k hp => d_dim2 xs k hp.1 hp.2) hA hn) (only_or dkO_only (dkO_ok (xs := xs) (ent Tryz.func21 (by kernel_rfl) rfl) (rKI_ok fun k z hp => d_smallbox hp) hA hn) (only_or dkO_only (dkO_ok (xs := xs) (ent Tryz.func19 (by kernel_rfl) rfl) (rK_ok fun k hp => (precD_spec hp).2.2.2) hA hn) (only_or dkO_only (dkO_ok (xs := xs) (ent Tryz.func14 (by kernel_rfl) rfl) (rKB_ok fun k l hp => d_inbox hp) hA hn) (tblO_ok (orT_ok Tlaw6_known_ok (orT_ok Tlaw6_light1_ok (orT_ok Tbox_Halve_ok (orT_ok T6_Halve_ok (orT_ok T6_Same_ok (orT_ok Tbox_Hull_ok (orT_ok Tbox_Same_ok (orT_ok Tbox_Has_ok Tbox_In_ok)))))))) _ w) (fun d st args => by simp [orO, refO, dkO, ofO, tblO, orT, noT, one, Tlaw6_known, Tlaw6_light1, Tbox_Halve, T6_Halve, T6_Same, Tbox_Hull, Tbox_Same, Tbox_Has, Tbox_In])) (fun d st args => by simp [orO, refO, dkO, ofO, tblO, orT, noT, one, Tlaw6_known, Tlaw6_light1, Tbox_Halve, T6_Halve, T6_Same, Tbox_Hull, Tbox_Same, Tbox_Has, Tbox_In])) (fun d st args => by simp [orO, refO, dkO, ofO, tblO, orT, noT, one, Tlaw6_known, Tlaw6_light1, Tbox_Halve, T6_Halve, T6_Same, Tbox_Hull, Tbox_Same, Tbox_Has, Tbox_In])) (fun d st args => by simp [orO, refO, dkO, ofO, tblO, orT, noT, one, Tlaw6_known, Tlaw6_light1, Tbox_Halve, T6_Halve, T6_Same, Tbox_Hull, Tbox_Same, Tbox_Has, Tbox_In])) (fun d st args => by simp [orO, refO, dkO, ofO, tblO, orT, noT, one, Tlaw6_known, Tlaw6_light1, Tbox_Halve, T6_Halve, T6_Same, Tbox_Hull, Tbox_Same, Tbox_Has, Tbox_In])) [] 2000 130 [.tmp 6] Tryz.func7 rfl Tryz.ntmps7 (by rw [Tryz.results7]) (by simp) rfl (fun hsm hs => ?_)
  have hs0 : Sm a := sm_of hsm.1.1
  have eH : halfB a p = rhalfB a p := half_same hs0 p
  have eL := rhalf_len a p
  obtain ⟨l1, g1, u1, w1⟩ := sivsD_spec (xs := xs) (n := 3) (k := 1) (by omega)
  generalize hp1 : sivsD xs 3 1 = p1 at l1 g1 u1 w1
  obtain ⟨b, k1⟩ := p1
  have l1 : b.length = 3 := l1
  have w1 : k1 ≤ 1 + 3 * 3 := w1
  replace g1 : ∀ j ∈ b, Good j ∧ FewJ j := g1
  have hgb : Goods b := fun j hj => (g1 j hj).1
  obtain ⟨hz, u4, w4, _⟩ := precD_spec (xs := xs) (k := k1 + 3) (by omega)
  generalize hp4 : precD xs (k1 + 3) = p4 at hz u4 w4
  obtain ⟨z, k4⟩ := p4
  have hz : prl z = true := hz
  obtain ⟨x, y, e1, e2, e3, e4, e5, ⟨e6, e7⟩, e8⟩ := halve_small g1 (by omega) (by omega) hz
  have hO := e8 _ (hasB_of (xs := xs) (k := k1) hgb (by omega) (by omega) (by omega))
  have hY : hasB x (pD xs b k1) = false → hasB y (pD xs b k1) = true := fun h => hO.resolve_left (by rw [h]; exact Bool.false_ne_true)
  clear u1 u4 e8 g1 hO
  cases hX : hasB x (pD xs b k1) with
  | true =>
    simp (maxSteps := 10000000) (implicitDefEqProofs := false) only [go_sem, hX, ↓reduceIte, Nat.reduceMul, Nat.reduceDiv, Nat.reduceAdd, Nat.reduceEqDiff, Nat.reduceLeDiff, Nat.reduceLT, reduceCtorEq, Int.reduceNeg, Int.reduceLT, Int.reduceLE, Int.reduceAdd, Int.reduceToNat, Nat.reduceBEq, Int.reduceMul, Int.reduceSub, Nat.reduceSub, Int.reduceBNe, Nat.reduceBNe, Tlaw6_known, Tlaw6_light1, Tbox_Halve, T6_Halve, T6_Same, Tbox_Hull, Tbox_Same, Tbox_Has, Tbox_In, dkO, rK, rKI, rKJ, rKB, dpf_some, dk0, ↓cb_box, ↓cb_pts, ofO, eH, e1, e2, e3, e4, e5, l1, hp1, hp4, sameB_refl, gL1, ↓asKs_b, la, bbe, asB_b, asP_b, Int.toNat_one]
    repeat' first | (with_reducible apply And.intro) | (with_reducible apply condP <;> intro _)
    all_goals try first | exact eL.1 | exact eL.2 | exact e6 | exact e7 | exact hgb
    all_goals first | omega | (show chk _ _ = true; kernel_rfl) | with_reducible assumption | (simp only [go_sem, *, hd, l1] <;> rfl) | rfl | (exfalso; simp_all only [Bool.true_eq_false, Bool.false_eq_true, reduceCtorEq]; done)
  | false =>
    replace hY := hY hX
    simp (maxSteps := 10000000) (implicitDefEqProofs := false) only [go_sem, hX, hY, ↓reduceIte, Nat.reduceMul, Nat.reduceDiv, Nat.reduceAdd, Nat.reduceEqDiff, Nat.reduceLeDiff, Nat.reduceLT, reduceCtorEq, Int.reduceNeg, Int.reduceLT, Int.reduceLE, Int.reduceAdd, Int.reduceToNat, Nat.reduceBEq, Int.reduceMul, Int.reduceSub, Nat.reduceSub, Int.reduceBNe, Nat.reduceBNe, Tlaw6_known, Tlaw6_light1, Tbox_Halve, T6_Halve, T6_Same, Tbox_Hull, Tbox_Same, Tbox_Has, Tbox_In, dkO, rK, rKI, rKJ, rKB, dpf_some, dk0, ↓cb_box, ↓cb_pts, ofO, eH, e1, e2, e3, e4, e5, l1, hp1, hp4, sameB_refl, gL1, ↓asKs_b, la, bbe, asB_b, asP_b, Int.toNat_one]
    repeat' first | (with_reducible apply And.intro) | (with_reducible apply condP <;> intro _)
    all_goals try first | exact eL.1 | exact eL.2 | exact e6 | exact e7 | exact hgb
    all_goals first | omega | (show chk _ _ = true; kernel_rfl) | with_reducible assumption | (simp only [go_sem, *, hd, l1] <;> rfl) | rfl | (exfalso; simp_all only [Bool.true_eq_false, Bool.false_eq_true, reduceCtorEq]; done)
theorem v_hv3 (a : List J) (p : Int) (xs : List Nat) (A : Option Addr) (n c : Nat) (hd : ((dk xs 0 % 4 : Nat) : Int) = 3) (la : lightK (a.map J.p) = true) : LC6 7 A n c xs [bA_ a, .s (.lit (.slice A n c)), iA p] := by
  refine lc6_of (O := orO ofO (orO (dkO 12 A n c (rK fun k => (k ≤ 900 ∧ ((dk xs k % 4 : Nat) : Int) = 3, iA 4, k + 1))) (orO (dkO 21 A n c (rKI fun k z => (k ≤ 700 ∧ 0 < z ∧ z ≤ 4, .s (boxL (sivsD xs z.toNat k).1), (sivsD xs z.toNat k).2))) (orO (dkO 19 A n c (rK fun k => (k ≤ 900, iA (precD xs k).1, (precD xs k).2))) (orO (dkO 14 A n c (rKB fun k l => (Goods l ∧ 1 ≤ l.length ∧ l.length ≤ 4 ∧ k ≤ 700, .s (ptsL (pD xs l k)), k + 1 * l.length))) (tblO (orT Tlaw6_known (orT Tlaw6_light1 (orT Tbox_Halve (orT T6_Halve (orT T6_Same (orT Tbox_Hull (orT Tbox_Same (orT Tbox_Has Tbox_In)))))))))))))) (by kernel_rfl) tyB_ok (fun w hA hn => only_or ofO_only (ofO_ok _ _) (only_or dkO_only (dkO_ok (xs := xs) (ent Tryz.func12 (by kernel_rfl) rfl) (rK_ok fun k hp => d_dim3 xs k hp.1 hp.2) hA hn) (only_or dkO_only (dkO_ok (xs := xs) (ent Tryz.func21 (by kernel_rfl) rfl) (rKI_ok fun k z hp => d_smallbox hp) hA hn) (only_or dkO_only (dkO_ok (xs := xs) (ent Tryz.func19 (by kernel_rfl) rfl) (rK_ok fun k hp => (precD_spec hp).2.2.2) hA hn) (only_or dkO_only (dkO_ok (xs := xs) (ent Tryz.func14 (by kernel_rfl) rfl) (rKB_ok fun k l hp => d_inbox hp) hA hn) (tblO_ok (orT_ok Tlaw6_known_ok (orT_ok Tlaw6_light1_ok (orT_ok Tbox_Halve_ok (orT_ok T6_Halve_ok (orT_ok T6_Same_ok (orT_ok Tbox_Hull_ok (orT_ok Tbox_Same_ok (orT_ok Tbox_Has_ok Tbox_In_ok)))))))) _ w) (fun d st args => by simp [orO, refO, dkO, ofO, tblO, orT, noT, one, Tlaw6_known, Tlaw6_light1, Tbox_Halve, T6_Halve, T6_Same, Tbox_Hull, Tbox_Same, Tbox_Has, Tbox_In])) (fun d st args => by simp [orO, refO, dkO, ofO, tblO, orT, noT, one, Tlaw6_known, Tlaw6_light1, Tbox_Halve, T6_Halve, T6_Same, Tbox_Hull, Tbox_Same, Tbox_Has, Tbox_In])) (fun d st args => by simp [orO, refO, dkO, ofO, tblO, orT, noT, one, Tlaw6_known, Tlaw6_light1, Tbox_Halve, T6_Halve, T6_Same, Tbox_Hull, Tbox_Same, Tbox_Has, Tbox_In])) (fun d st args => by simp [orO, refO, dkO, ofO, tblO, orT, noT, one, Tlaw6_known, Tlaw6_light1, Tbox_Halve, T6_Halve, T6_Same, Tbox_Hull, Tbox_Same, Tbox_Has, Tbox_In])) (fun d st args => by simp [orO, refO, dkO, ofO, tblO, orT, noT, one, Tlaw6_known, Tlaw6_light1, Tbox_Halve, T6_Halve, T6_Same, Tbox_Hull, Tbox_Same, Tbox_Has, Tbox_In])) [] 2000 130 [.tmp 6] Tryz.func7 rfl Tryz.ntmps7 (by rw [Tryz.results7]) (by simp) rfl (fun hsm hs => ?_)
  have hs0 : Sm a := sm_of hsm.1.1
  have eH : halfB a p = rhalfB a p := half_same hs0 p
  have eL := rhalf_len a p
  obtain ⟨l1, g1, u1, w1⟩ := sivsD_spec (xs := xs) (n := 4) (k := 1) (by omega)
  generalize hp1 : sivsD xs 4 1 = p1 at l1 g1 u1 w1
  obtain ⟨b, k1⟩ := p1
  have l1 : b.length = 4 := l1
  have w1 : k1 ≤ 1 + 3 * 4 := w1
  replace g1 : ∀ j ∈ b, Good j ∧ FewJ j := g1
  have hgb : Goods b := fun j hj => (g1 j hj).1
  obtain ⟨hz, u4, w4, _⟩ := precD_spec (xs := xs) (k := k1 + 4) (by omega)
  generalize hp4 : precD xs (k1 + 4) = p4 at hz u4 w4
  obtain ⟨z, k4⟩ := p4
  have hz : prl z = true := hz
  obtain ⟨x, y, e1, e2, e3, e4, e5, ⟨e6, e7⟩, e8⟩ := halve_small g1 (by omega) (by omega) hz
  have hO := e8 _ (hasB_of (xs := xs) (k := k1) hgb (by omega) (by omega) (by omega))
  have hY : hasB x (pD xs b k1) = false → hasB y (pD xs b k1) = true := fun h => hO.resolve_left (by rw [h]; exact Bool.false_ne_true)
  clear u1 u4 e8 g1 hO
  cases hX : hasB x (pD xs b k1) with
  | true =>
    simp (maxSteps := 10000000) (implicitDefEqProofs := false) only [go_sem, hX, ↓reduceIte, Nat.reduceMul, Nat.reduceDiv, Nat.reduceAdd, Nat.reduceEqDiff, Nat.reduceLeDiff, Nat.reduceLT, reduceCtorEq, Int.reduceNeg, Int.reduceLT, Int.reduceLE, Int.reduceAdd, Int.reduceToNat, Nat.reduceBEq, Int.reduceMul, Int.reduceSub, Nat.reduceSub, Int.reduceBNe, Nat.reduceBNe, Tlaw6_known, Tlaw6_light1, Tbox_Halve, T6_Halve, T6_Same, Tbox_Hull, Tbox_Same, Tbox_Has, Tbox_In, dkO, rK, rKI, rKJ, rKB, dpf_some, dk0, ↓cb_box, ↓cb_pts, ofO, eH, e1, e2, e3, e4, e5, l1, hp1, hp4, sameB_refl, gL1, ↓asKs_b, la, bbe, asB_b, asP_b, Int.toNat_one]
    repeat' first | (with_reducible apply And.intro) | (with_reducible apply condP <;> intro _)
    all_goals try first | exact eL.1 | exact eL.2 | exact e6 | exact e7 | exact hgb
    all_goals first | omega | (show chk _ _ = true; kernel_rfl) | with_reducible assumption | (simp only [go_sem, *, hd, l1] <;> rfl) | rfl | (exfalso; simp_all only [Bool.true_eq_false, Bool.false_eq_true, reduceCtorEq]; done)
  | false =>
    replace hY := hY hX
    simp (maxSteps := 10000000) (implicitDefEqProofs := false) only [go_sem, hX, hY, ↓reduceIte, Nat.reduceMul, Nat.reduceDiv, Nat.reduceAdd, Nat.reduceEqDiff, Nat.reduceLeDiff, Nat.reduceLT, reduceCtorEq, Int.reduceNeg, Int.reduceLT, Int.reduceLE, Int.reduceAdd, Int.reduceToNat, Nat.reduceBEq, Int.reduceMul, Int.reduceSub, Nat.reduceSub, Int.reduceBNe, Nat.reduceBNe, Tlaw6_known, Tlaw6_light1, Tbox_Halve, T6_Halve, T6_Same, Tbox_Hull, Tbox_Same, Tbox_Has, Tbox_In, dkO, rK, rKI, rKJ, rKB, dpf_some, dk0, ↓cb_box, ↓cb_pts, ofO, eH, e1, e2, e3, e4, e5, l1, hp1, hp4, sameB_refl, gL1, ↓asKs_b, la, bbe, asB_b, asP_b, Int.toNat_one]
    repeat' first | (with_reducible apply And.intro) | (with_reducible apply condP <;> intro _)
    all_goals try first | exact eL.1 | exact eL.2 | exact e6 | exact e7 | exact hgb
    all_goals first | omega | (show chk _ _ = true; kernel_rfl) | with_reducible assumption | (simp only [go_sem, *, hd, l1] <;> rfl) | rfl | (exfalso; simp_all only [Bool.true_eq_false, Bool.false_eq_true, reduceCtorEq]; done)
theorem boxhalves_walk (W : World) (v0 : Value) (A : Option Addr) (l c : Nat) (t : Int) {a : List J} {xs : List Nat} (ha : BoxV W v0 a) (hx : Arg W A l c xs) (ht : Tab W) : Calls Tryz.prog 7 #[v0, .slice A l c, .int .i64 t] W fun e w' => e = .returned (.bool true) ∧ Below W.heap.size W w' := by
  cases hl : lightK (a.map J.p) with
  | false =>
    obtain ⟨ka, h1, e1⟩ := ha.raw
    exact bool_of (v_hv_h ka (.slice A l c) t (by rw [e1]; exact hl)) ht ⟨_, _, rfl, h1, _, _, rfl, RL.one.2 rfl, _, _, rfl, RL.one.2 rfl, rfl⟩
  | true =>
    obtain ⟨_, l2⟩ := lightK_true hl
    have r1 := ha.ws fun j hj => by have := l2 j hj; omega
    have hA : RA envA (fun _ => false) W [bA_ a, .s (.lit (.slice A l c)), iA t] [v0, .slice A l c, .int .i64 t] := ⟨_, _, rfl, r1, _, _, rfl, RL.one.2 rfl, _, _, rfl, RL.one.2 rfl, rfl⟩
    have h4 : dk xs 0 % 4 = 0 ∨ dk xs 0 % 4 = 1 ∨ dk xs 0 % 4 = 2 ∨ dk xs 0 % 4 = 3 := by omega
    rcases h4 with h | h | h | h
    · exact v_hv0 a t xs A l c (by rw [h]; rfl) hl W _ ht hx hA
    · exact v_hv1 a t xs A l c (by rw [h]; rfl) hl W _ ht hx hA
    · exact v_hv2 a t xs A l c (by rw [h]; rfl) hl W _ ht hx hA
    · exact v_hv3 a t xs A l c (by rw [h]; rfl) hl W _ ht hx hA
end Go.Proofs.YthhaelnildaemaaGreatDoor
