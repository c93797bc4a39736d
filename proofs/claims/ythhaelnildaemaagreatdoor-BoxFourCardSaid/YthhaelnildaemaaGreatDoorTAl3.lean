/- Calls that answer a list that grows: it is the caller's own. -/
import Derived.Test.YthhaelnildaemaaGreatDoorTAl2
namespace Go.Proofs.YthhaelnildaemaaGreatDoor
open Go.RowKit Nx
set_option linter.unusedVariables false
set_option linter.unusedSimpArgs false
set_option maxRecDepth 100000
set_option maxHeartbeats 4000000
attribute [local go_sem] run init X.L J.L vL X.eta J.eta Q.eta List.cons_append List.nil_append brkK brkf_b brkf_t exef_some exif_some condf_b opf bodyE addR skipE stepOp stepLoad stepStore stepField stepCall stepBS stepBi stepCv stepIx lpf hdS pick forget inL mentA ment dom evs evl evp evd okeys look fillA capsOf wordsOf rowsOf lenOf convK binV shV intV unV boolT tyT tiB tiI tiW tiD tiF tiR tiU tiNum tiIv tiVal tiSc okLf okD keysOf tblO cvA cvL dnL olA olL noO noA cbL cbA orT noT one asNum asIv asVal postf_some resA tupA clA clL dropTo decide_true decide_false List.all_cons List.all_nil Bool.and_true Bool.and_self true_and and_true and_self List.length_cons List.length_nil List.drop_succ_cons List.drop_zero List.take_succ_cons List.take_zero List.getElem?_cons_zero List.getElem?_cons_succ List.map_cons List.map_nil false_implies true_implies Option.bind_some List.getElem?_toArray Bool.false_eq_true List.append_nil List.flatMap_cons List.flatMap_nil true_or or_true forall_const List.reverse_cons List.reverse_nil Option.isSome_some Option.any_some Nat.lt_irrefl not_true_eq_false Bool.not_true Bool.not_false imp_self implies_true Bool.not_eq_true' Bool.not_eq_false' Bool.true_eq_false memOf cntF nmL rnL nmA rnA isV contsOf ndB refO orO pin Int.toNat_zero decide_eq_true_eq wrap0 wrap1 ci1 ci2 BEq.rfl beq_self_eq_true Int.natCast_zero ge_iff_le gt_iff_lt Int.le_refl Nat.zero_mul Nat.one_mul Nat.zero_add Nat.zero_lt_succ Nat.lt_add_one Nat.le_refl Int.toNat_natCast gN gNN gNI gI gNNIB gNIB gJ gJJ gJN gJJI gJI stepB0 stepMk stepSl stepAp apY optI okO nilV slT resB outPs outLs outL dnT noE boxL_nil boxL_cons ptsL_nil ptsL_cons bxe pxe bne_self_eq_false wr2 wr3 wr4 wr5 wr6 wr7 wr8 gB gP gBB gBP gBZ gBBZ asB asP nilB asJs asXs wsOf bC_nil bC_cons pC_nil pC_cons fvO Lc.up tyB tiS tiBB List.replicate_succ List.replicate_zero List.flatten_cons List.flatten_nil Int.ofNat_lt Int.cast_ofNat_Int Int.ofNat_eq_natCast List.isEmpty_nil List.isEmpty_cons and_false false_and List.cons_ne_nil Nat.add_zero ite_true ite_false if_true if_false Nat.le_zero_eq eq_self Bool.and_false Bool.false_and Bool.true_and AV.s cond_true cond_false Bool.or_true Bool.true_or Bool.or_false Bool.false_or
attribute [local go_sem ↓] cond_true cond_false not_cond outL_box outL_pts clL_box clL_pts okL_box okL_pts ment_box ment_pts olL_box olL_pts cvL_box cvL_pts noO_box noO_pts asB_box asP_pts len_box len_pts
attribute [local irreducible] chk
def grf (n : Nat) (e : TypeId) (sz : Nat) (ls : List Lf) (st : St) (r : Option (List (Bool × List Lf))) : Prop := match r with
  | some [(false, [.ol b k])] => (match look st (2 * b + 1) with
    | some (.pre e1 s1 l1) => k = n ∧ e1 = e ∧ s1 = sz ∧ l1 = ls ∧ ls.all plL = true ∧ ls.length = n * sz
    | _ => False)
  | _ => False
theorem grf_inv {n : Nat} {e : TypeId} {sz : Nat} {ls : List Lf} {st : St} {r : Option (List (Bool × List Lf))} (h : grf n e sz ls st r) : ∃ b, r = some [(false, [.ol b n])] ∧ look st (2 * b + 1) = some (.pre e sz ls) ∧ ls.all plL = true ∧ ls.length = n * sz := by
  unfold grf at h
  split at h
  · split at h
    · rename_i b k _ e1 s1 l1 hl
      obtain ⟨rfl, rfl, rfl, rfl, h1, h2⟩ := h
      exact ⟨b, rfl, hl, h1, h2⟩
    · exact h.elim
  · exact h.elim
def Gc (P : Program) (f : FuncId) (args : List AV) (n : Nat) (e : TypeId) (sz : Nat) (ls : List Lf) : Prop := ∀ ρ D w us, Tab w → RA ρ D w args us →
  Calls P f us.toArray w fun en w' => ∃ u vs, en = .returned u ∧ (0 < n ∧ 0 < sz ∧ ls.all okLf = true) ∧ Gr w' w.heap.size e sz u n vs ∧ (∀ ρ' D', RL ρ' D' w' ls vs) ∧ Below w.heap.size w w'
theorem gc_of {P : Program} {ty : TypeId → Option TI} {O : Orac} (hm : P.follows .mixedOrders = true) (hty : ∀ t i, ty t = some i → TiOK P t i) (hO : ∀ w, OrOK P O (fun _ => False) w) {f : FuncId} {fn : Func} {c : Code} {args : List AV} (fg : List Nat) {n : Nat} {e : TypeId} {sz : Nat} {ls : List Lf}
    (fuel N : Nat) (rs : List ResultVar) (hf : P.funcs[f]? = some fn) (hb : fn.body = some c) (hN : fn.ntmps = N) (hr : fn.results.toList = rs) (hl : args.length ≤ N) (hc : args.all cbA = true)
    (h : smAs args → run ty O N (fun st => grf n e sz ls st (resB ty st rs)) fg fuel [.code c] (init 0 args)) : Gc P f args n e sz ls := by
  intro ρ D w us ht hA
  replace h := h hA.sm
  refine call_raw (mem := []) (ρ := ⟨fun n => n, w.heap.size, fun _ => undef, fun _ => 0, fun _ => false⟩) hm hty (hO w) fg fuel N hf hb hN hl ht (fun k v h => by cases h) (fun b v h => by cases h) (fun b b' h => by cases h) (hA.closed hc fun g h => ⟨fun b hb => (by cases hb), fun b hb => (by cases hb)⟩) rfl rfl (fun ρ' st a w' hp hz => ?_) (by rw [List.append_nil]; exact h)
  obtain ⟨b, hq, hl1, hpl, hlen⟩ := grf_inv hp
  rw [← hr] at hq
  obtain ⟨us, hu, hR⟩ := res_list hty hz _ _ hq
  obtain ⟨u, r, rfl, h1, h2⟩ := hR
  have h2 : r = [] := h2
  subst h2
  obtain ⟨hal, hgv, hn, hsz, _⟩ := hz.cur hl1 hlen
  obtain ⟨_, _, _, hok, vs, hG, hRL⟩ := hz.gc b _ _ _ hl1
  have h1 : (Lf.ol b n).R ρ' (dom st) w' u := RL.one.1 h1
  have hu' : u = ρ'.gh b := h1.2.2.1 hgv.symm
  have hrun : (results fn a.tmps).run P w' = .ok u w' := by
    show Sem.run P (do let vs ← fn.results.mapM (resOne a.tmps); pure (if h : vs.size = 1 then vs[0] else .tuple vs)) w' = _
    rw [Sem.run_bind, Array.mapM_eq_mapM_toList]
    simp [hu]
  refine bodyPost_ret hrun hz.df ⟨u, vs, rfl, ⟨hn, hsz, hok⟩, ?_, fun ρ2 D2 => RL.plain hpl hRL, hz.bel.to⟩
  rw [hu']; rw [hgv] at hG; exact hG
def grO (g : FuncId) (k : List AV → Option (Prop × Nat × TypeId × Nat × List Lf)) : Orac := fun f d st args => if f = g then (match k (args.map (cvA st)) with
  | some (p, n, e, sz, ls) => if (args.map (cvA st)).all noA = true then (match look st (2 * d + 1) with
    | none => some (p, args.flatMap olA ++ [2 * d + 1], [(2 * d, .s (.ol d n)), (2 * d + 1, .pre e sz ls)])
    | some _ => none) else none
  | none => none) else none
theorem grO_ok {P : Program} {g : FuncId} {k : List AV → Option (Prop × Nat × TypeId × Nat × List Lf)} {w0 : World} (hen : ∀ (vs : Array Value) (w : World), (callFunc g vs).run P w = .ok (.enter g vs) w)
    (hk : ∀ args p n e sz ls, k args = some (p, n, e, sz, ls) → p → Gc P g args n e sz ls) : OrOK P (grO g k) (fun _ => False) w0 := by
  have inv : ∀ f d st args q, grO g k f d st args = some q → f = g ∧ ∃ p n e sz ls, k (args.map (cvA st)) = some (p, n, e, sz, ls) ∧ (args.map (cvA st)).all noA = true ∧ look st (2 * d + 1) = none ∧ q = (p, args.flatMap olA ++ [2 * d + 1], [(2 * d, .s (.ol d n)), (2 * d + 1, .pre e sz ls)]) := by
    intro f d st args q he
    unfold grO at he
    split at he
    case isFalse => cases he
    rename_i hf
    split at he
    case h_2 => cases he
    rename_i p n e sz ls hq
    split at he
    case isFalse => cases he
    rename_i hn
    split at he
    case h_2 => cases he
    rename_i hlk
    injection he with he
    exact ⟨hf, p, n, e, sz, ls, hq, hn, hlk, he.symm⟩
  refine ⟨fun f d st args e he => ?_, fun f d st args q he hp N ρ a w us hz hd hA => ?_, fun f d st st' args q he hkk => ?_⟩
  · obtain ⟨rfl, _⟩ := inv _ _ _ _ _ he; exact hen
  · obtain ⟨rfl, p, n, e, sz, ls, hq, hn, hlk, rfl⟩ := inv _ _ _ _ _ he
    refine (hk _ _ _ _ _ _ hq hp ρ.no (fun _ => false) w us (hz.tb.tab hz.bel) (cv_RA hz hA hn)).mono ?_
    rintro en w' ⟨u, vs, rfl, ⟨h1, h2, h3⟩, hG, hR, hb⟩
    refine ⟨u, ρ.up d u n, rfl, hz.apG hd (by unfold dom; rw [hlk]) h2 h1 (fun hal => ?_) (grown_below hb) (fun g hg => by cases hg) (Keeps.below hb) (fun g hg => .inr (hG.lt g hg).1) h3 ?_ fun _ => hR _ _⟩
    · obtain ⟨e', s', l', hl⟩ := hz.gm d hal
      rw [hlk] at hl; cases hl
    · obtain ⟨g, cap, cur, e1, hbg, h4⟩ := hG
      exact ⟨g, cap, cur, e1, Nat.le_trans hz.bel.size hbg, h4⟩
  · obtain ⟨rfl, p, n, e, sz, ls, hq, hn, hlk, rfl⟩ := inv _ _ _ _ _ he
    have hm : args.map (cvA st') = args.map (cvA st) := List.map_congr_left fun x hx => cvA_congr fun k hk' => hkk k (List.mem_append.2 (.inl (List.mem_flatMap.2 ⟨x, hx, hk'⟩)))
    have hl2 : look st' (2 * d + 1) = none := by rw [hkk _ (List.mem_append.2 (.inr (List.mem_singleton.2 rfl)))]; exact hlk
    unfold grO
    rw [if_pos rfl, hm, hq]
    simp only [hn, if_true, hl2]
theorem grO_or {P : Program} {g : FuncId} {k : List AV → Option (Prop × Nat × TypeId × Nat × List Lf)} {B : Orac} {w0 : World} (hA : OrOK P (grO g k) (fun _ => False) w0) (hB : OrOK P B (fun _ => False) w0) (hn : ∀ d st args, B g d st args = none) : OrOK P (orO (grO g k) B) (fun _ => False) w0 :=
  orO_ok hA hB fun f d st args e he st' => by
    unfold grO
    split
    · rename_i h; subst h; rw [hn] at he; cases he
    · rfl
theorem orO_none {A B : Orac} {f : FuncId} {d : Nat} {st : St} {args : List AV} (h1 : A f d st args = none) (h2 : B f d st args = none) : orO A B f d st args = none := by unfold orO; rw [h1]; exact h2
def bL (l : List J) : List Lf := l.flatMap J.L
theorem bL_nil : bL [] = [] := rfl
theorem bL_cons {j : J} {l : List J} : bL (j :: l) = .lit (.bool j.lo.s) :: .lit (.int .i64 j.lo.e) :: .ws j.lo.xs :: .lit (.bool j.hi.s) :: .lit (.int .i64 j.hi.e) :: .ws j.hi.xs :: bL l := rfl
def gcB (k : List J → Prop × Nat × TypeId × Nat × List Lf) : List AV → Option (Prop × Nat × TypeId × Nat × List Lf)
  | [x] => (match asB x with
    | some l => some (k l)
    | none => none)
  | _ => none
theorem gcB_ct {P : Program} {f : FuncId} {k : List J → Prop × Nat × TypeId × Nat × List Lf} (h : ∀ l p n e sz ls, k l = (p, n, e, sz, ls) → p → Gc P f [bA_ l] n e sz ls) {args : List AV} {p : Prop} {n : Nat} {e : TypeId} {sz : Nat} {ls : List Lf} (he : gcB k args = some (p, n, e, sz, ls)) (hp : p) : Gc P f args n e sz ls := by
  unfold gcB at he
  split at he
  · split at he
    · rename_i l hl
      injection he with he
      exact fun ρ D w us ht hA => h l _ _ _ _ _ he hp ρ D w us ht (RA.c (fun u => asB_R hl) (fun us h => h) us hA)
    · cases he
  · cases he
theorem s_clone1 (a : J) : Gc Tryz.prog 156 [bA_ [a]] 1 40 6 (bL [a]) := by
  refine gc_of (O := tblO noT) (by kernel_rfl) tyB_ok (fun w => tblO_ok noT_ok _ w) [] 300 8 [.tmp 2] Tryz.func156 rfl Tryz.ntmps156 (by rw [Tryz.results156]) (by simp) rfl (fun hsm => ?_)
  simp (maxSteps := 10000000) only [go_sem, ↓reduceIte, Nat.reduceMul, Nat.reduceDiv, Nat.reduceAdd, Nat.reduceEqDiff, Nat.reduceLeDiff, Nat.reduceLT, reduceCtorEq, Int.reduceNeg, Int.reduceLT, Int.reduceLE, Int.reduceAdd, Int.reduceToNat, Nat.reduceBEq, Int.reduceMul, Int.reduceSub, Nat.reduceSub, Int.reduceBNe, Nat.reduceBNe, grf, bL_cons, bL_nil]
  repeat' first | (with_reducible apply And.intro) | (with_reducible apply condP <;> intro _)
  all_goals first | (show chk _ _ = true; kernel_rfl) | assumption | (simp only [go_sem, *, plL] <;> rfl) | rfl | (exfalso; simp_all only [Bool.true_eq_false, Bool.false_eq_true, reduceCtorEq]; done)
theorem s_clone2 (a b : J) : Gc Tryz.prog 156 [bA_ [a, b]] 2 40 6 (bL [a, b]) := by
  refine gc_of (O := tblO noT) (by kernel_rfl) tyB_ok (fun w => tblO_ok noT_ok _ w) [] 300 8 [.tmp 2] Tryz.func156 rfl Tryz.ntmps156 (by rw [Tryz.results156]) (by simp) rfl (fun hsm => ?_)
  simp (maxSteps := 10000000) only [go_sem, ↓reduceIte, Nat.reduceMul, Nat.reduceDiv, Nat.reduceAdd, Nat.reduceEqDiff, Nat.reduceLeDiff, Nat.reduceLT, reduceCtorEq, Int.reduceNeg, Int.reduceLT, Int.reduceLE, Int.reduceAdd, Int.reduceToNat, Nat.reduceBEq, Int.reduceMul, Int.reduceSub, Nat.reduceSub, Int.reduceBNe, Nat.reduceBNe, grf, bL_cons, bL_nil]
  repeat' first | (with_reducible apply And.intro) | (with_reducible apply condP <;> intro _)
  all_goals first | (show chk _ _ = true; kernel_rfl) | assumption | (simp only [go_sem, *, plL] <;> rfl) | rfl | (exfalso; simp_all only [Bool.true_eq_false, Bool.false_eq_true, reduceCtorEq]; done)
theorem s_clone3 (a b c : J) : Gc Tryz.prog 156 [bA_ [a, b, c]] 3 40 6 (bL [a, b, c]) := by
  refine gc_of (O := tblO noT) (by kernel_rfl) tyB_ok (fun w => tblO_ok noT_ok _ w) [] 300 8 [.tmp 2] Tryz.func156 rfl Tryz.ntmps156 (by rw [Tryz.results156]) (by simp) rfl (fun hsm => ?_)
  simp (maxSteps := 10000000) only [go_sem, ↓reduceIte, Nat.reduceMul, Nat.reduceDiv, Nat.reduceAdd, Nat.reduceEqDiff, Nat.reduceLeDiff, Nat.reduceLT, reduceCtorEq, Int.reduceNeg, Int.reduceLT, Int.reduceLE, Int.reduceAdd, Int.reduceToNat, Nat.reduceBEq, Int.reduceMul, Int.reduceSub, Nat.reduceSub, Int.reduceBNe, Nat.reduceBNe, grf, bL_cons, bL_nil]
  repeat' first | (with_reducible apply And.intro) | (with_reducible apply condP <;> intro _)
  all_goals first | (show chk _ _ = true; kernel_rfl) | assumption | (simp only [go_sem, *, plL] <;> rfl) | rfl | (exfalso; simp_all only [Bool.true_eq_false, Bool.false_eq_true, reduceCtorEq]; done)
theorem s_clone4 (a b c d : J) : Gc Tryz.prog 156 [bA_ [a, b, c, d]] 4 40 6 (bL [a, b, c, d]) := by
  refine gc_of (O := tblO noT) (by kernel_rfl) tyB_ok (fun w => tblO_ok noT_ok _ w) [] 300 8 [.tmp 2] Tryz.func156 rfl Tryz.ntmps156 (by rw [Tryz.results156]) (by simp) rfl (fun hsm => ?_)
  simp (maxSteps := 10000000) only [go_sem, ↓reduceIte, Nat.reduceMul, Nat.reduceDiv, Nat.reduceAdd, Nat.reduceEqDiff, Nat.reduceLeDiff, Nat.reduceLT, reduceCtorEq, Int.reduceNeg, Int.reduceLT, Int.reduceLE, Int.reduceAdd, Int.reduceToNat, Nat.reduceBEq, Int.reduceMul, Int.reduceSub, Nat.reduceSub, Int.reduceBNe, Nat.reduceBNe, grf, bL_cons, bL_nil]
  repeat' first | (with_reducible apply And.intro) | (with_reducible apply condP <;> intro _)
  all_goals first | (show chk _ _ = true; kernel_rfl) | assumption | (simp only [go_sem, *, plL] <;> rfl) | rfl | (exfalso; simp_all only [Bool.true_eq_false, Bool.false_eq_true, reduceCtorEq]; done)
def kClone : List AV → Option (Prop × Nat × TypeId × Nat × List Lf) := gcB fun l => (1 ≤ l.length ∧ l.length ≤ 4, l.length, 40, 6, bL l)
theorem s_clone (l : List J) (h : 1 ≤ l.length ∧ l.length ≤ 4) : Gc Tryz.prog 156 [bA_ l] l.length 40 6 (bL l) := match l, h with
  | [], h => absurd h.1 (by simp)
  | [a], _ => s_clone1 a
  | [a, b], _ => s_clone2 a b
  | [a, b, c], _ => s_clone3 a b c
  | [a, b, c, d], _ => s_clone4 a b c d
  | _ :: _ :: _ :: _ :: _ :: _, h => absurd h.2 (by simp)
theorem clone_ok (w : World) : OrOK Tryz.prog (grO 156 kClone) (fun _ => False) w := grO_ok (ent Tryz.func156 (by kernel_rfl) rfl) fun args p n e sz ls he hp => gcB_ct (fun l p n e sz ls he hp => by
  injection he with h1 he; injection he with h2 he; injection he with h3 he; injection he with h4 h5
  subst h1; subst h2; subst h3; subst h4; subst h5
  exact s_clone l hp) he hp
end Go.Proofs.YthhaelnildaemaaGreatDoor
namespace Go.Proofs.YthhaelnildaemaaGreatDoor
open Go.RowKit Nx
set_option linter.unusedVariables false
set_option linter.unusedSimpArgs false
set_option maxRecDepth 100000
set_option maxHeartbeats 4000000
attribute [local go_sem] run init X.L J.L vL X.eta J.eta Q.eta List.cons_append List.nil_append brkK brkf_b brkf_t exef_some exif_some condf_b opf bodyE addR skipE stepOp stepLoad stepStore stepField stepCall stepBS stepBi stepCv stepIx lpf hdS pick forget inL mentA ment dom evs evl evp evd okeys look fillA capsOf wordsOf rowsOf lenOf convK binV shV intV unV boolT tyT tiB tiI tiW tiD tiF tiR tiU tiNum tiIv tiVal tiSc okLf okD keysOf tblO cvA cvL dnL olA olL noO noA cbL cbA orT noT one asNum asIv asVal postf_some resA tupA clA clL dropTo decide_true decide_false List.all_cons List.all_nil Bool.and_true Bool.and_self true_and and_true and_self List.length_cons List.length_nil List.drop_succ_cons List.drop_zero List.take_succ_cons List.take_zero List.getElem?_cons_zero List.getElem?_cons_succ List.map_cons List.map_nil false_implies true_implies Option.bind_some List.getElem?_toArray Bool.false_eq_true List.append_nil List.flatMap_cons List.flatMap_nil true_or or_true forall_const List.reverse_cons List.reverse_nil Option.isSome_some Option.any_some Nat.lt_irrefl not_true_eq_false Bool.not_true Bool.not_false imp_self implies_true Bool.not_eq_true' Bool.not_eq_false' Bool.true_eq_false memOf cntF nmL rnL nmA rnA isV contsOf ndB refO orO pin Int.toNat_zero decide_eq_true_eq wrap0 wrap1 ci1 ci2 BEq.rfl beq_self_eq_true Int.natCast_zero ge_iff_le gt_iff_lt Int.le_refl Nat.zero_mul Nat.one_mul Nat.zero_add Nat.zero_lt_succ Nat.lt_add_one Nat.le_refl Int.toNat_natCast gN gNN gNI gI gNNIB gNIB gJ gJJ gJN gJJI gJI stepB0 stepMk stepSl stepAp apY optI okO nilV slT resB outPs outLs outL dnT noE boxL_nil boxL_cons ptsL_nil ptsL_cons bxe pxe bne_self_eq_false wr2 wr3 wr4 wr5 wr6 wr7 wr8 gB gP gBB gBP gBZ gBBZ bC_nil bC_cons pC_nil pC_cons fvO Lc.up tyB tiS tiBB List.replicate_succ List.replicate_zero List.flatten_cons List.flatten_nil Int.ofNat_lt Int.cast_ofNat_Int Int.ofNat_eq_natCast List.isEmpty_nil List.isEmpty_cons and_false false_and List.cons_ne_nil Nat.add_zero ite_true ite_false if_true if_false Nat.le_zero_eq eq_self Bool.and_false Bool.false_and Bool.true_and AV.s cond_true cond_false Bool.or_true Bool.true_or Bool.or_false Bool.false_or
attribute [local go_sem ↓] cond_true cond_false not_cond outL_box outL_pts clL_box clL_pts okL_box okL_pts ment_box ment_pts olL_box olL_pts cvL_box cvL_pts noO_box noO_pts asB_box asP_pts len_box len_pts
attribute [local irreducible] chk
theorem cmpx_self (x : X) : cmpx x x = 0 := by
  unfold cmpx anscmp
  split
  · rw [cmpq_at (E := x.e.natAbs) (show -((x.e.natAbs : Nat) : Int) ≤ x.e by omega) (show -((x.e.natAbs : Nat) : Int) ≤ x.e by omega)]; simp
  · rfl
def wgo : List X → Int → Int → X → Int × X
  | [], _, b, m => (b, m)
  | w :: t, i, b, m => bif decide (0 < cmpx w m) then wgo t (i + 1) i w else wgo t (i + 1) b m
noncomputable def wids (l : List J) (z : Int) : List X × Int := bothP (fun a _ => wideX a z) l l
def widR (r : List X × Int) : (Int × X) × Int := bif r.2 != 0 then ((0, zX), r.2) else (match r.1 with
  | [] => ((0, zX), 0)
  | a :: t => (wgo t 1 0 a, 0))
noncomputable def widS (l : List J) (z : Int) : (Int × X) × Int := widR (wids l z)
def widA (r : (Int × X) × Int) : AV := .tup [(false, [.lit (.int .i64 r.1.1)]), (true, r.1.2.L), (false, [.lit (.int .i64 r.2)])]
theorem c_widest {w : World} {S : Nat → Prop} {gs : List Nat} {z : Int} (hL : Lent S w gs [[.lit (.int .i64 z)]]) : Fv Tryz.prog w 152 (ptrs gs) (gJ fun a => (True, xeA (wideX a z))) := by
  refine fv_run hL (ent Tryz.func152 (by kernel_rfl) rfl) (fun args e h => by obtain ⟨j, rfl, rfl⟩ := gJ_eq h; rfl) (fun args e h hp w' us hb ht' hL' hA => ?_)
  obtain ⟨j, rfl, rfl⟩ := gJ_eq h
  refine (lent_of (args := [jA j, .s (.own 1000 0)]) (O := tblO Tiv_Wide) (Pst := (· = xeA (wideX j z))) (by kernel_rfl) tyB_ok (tblO_ok Tiv_Wide_ok _ w') [] 300 10 [.cell 3 28, .tmp 4] Tryz.func152 rfl Tryz.ntmps152 (by rw [Tryz.results152]) (by simp) ht' hL' hA ?_).mono ?_
  case refine_2 => rintro e w'' ⟨u, r, he, rfl, _, hR, hb2⟩; exact ⟨u, he, hR, hb2⟩
  simp (maxSteps := 10000000) only [go_sem, ↓reduceIte, Nat.reduceMul, Nat.reduceDiv, Nat.reduceAdd, Nat.reduceEqDiff, Nat.reduceLeDiff, Nat.reduceLT, reduceCtorEq, Int.reduceNeg, Int.reduceLT, Int.reduceLE, Int.reduceAdd, Int.reduceToNat, Nat.reduceBEq, Int.reduceMul, Int.reduceSub, Nat.reduceSub, Int.reduceBNe, Nat.reduceBNe, asB, asP, nilB, asJs, asXs, wsOf, Tiv_Wide]
  repeat' first | (with_reducible apply And.intro) | (with_reducible apply condP <;> intro _)
  all_goals first | (show chk _ _ = true; kernel_rfl) | assumption | (simp only [go_sem, *] <;> rfl) | rfl | (exfalso; simp_all only [Bool.true_eq_false, Bool.false_eq_true, reduceCtorEq]; done)
theorem b_wid_e (l : List J) (z : Int) (r : List X × Int) (hr : wids l z = r) (he : (r.2 != 0) = true) : Ct Tryz.prog 91 [bA_ l, iA z] (· = widA (widR r)) := by
  refine ct_of (O := orO (hoO 99 1 (hpin [[.lit (.int .i64 z)]] 152 [bA_ l] (pxe (wids l z)))) (tblO Tnum_Cmp)) (by kernel_rfl) tyB_ok (fun w => hoO_or (hoO_ok (ent Tryz.func99 (by kernel_rfl) rfl) (fun ls c xs e he hp S w' gs hb ht' hL => by
    injection he with he; subst he
    obtain ⟨rfl, rfl, rfl⟩ := hp
    exact echX ht' (c_widest hL) l)) (tblO_ok Tnum_Cmp_ok _ w) (fun _ _ _ => tblO_none fun _ => one_none (by decide))) [24] 600 43 [.tmp 4, .cell 5 28, .tmp 6] Tryz.func91 rfl Tryz.ntmps91 (by rw [Tryz.results91]) (by simp) rfl (fun hsm => ?_)
  simp (maxSteps := 10000000) only [go_sem, ↓reduceIte, Nat.reduceMul, Nat.reduceDiv, Nat.reduceAdd, Nat.reduceEqDiff, Nat.reduceLeDiff, Nat.reduceLT, reduceCtorEq, Int.reduceNeg, Int.reduceLT, Int.reduceLE, Int.reduceAdd, Int.reduceToNat, Nat.reduceBEq, Int.reduceMul, Int.reduceSub, Nat.reduceSub, Int.reduceBNe, Nat.reduceBNe, Tnum_Cmp, hoO, hoK, hpin, asB_b, asP_b, hr, he, zX]
  repeat' first | (with_reducible apply And.intro) | (with_reducible apply condP <;> intro _)
  all_goals first | (show chk _ _ = true; kernel_rfl) | assumption | (simp only [go_sem, *, hoO, hoK, hpin, hr, he, widA, widR, wgo, cmpx_self, Int.reduceAdd, Int.reduceGT, zX] <;> rfl) | rfl | (exfalso; simp_all only [Bool.true_eq_false, Bool.false_eq_true, reduceCtorEq]; done)
theorem b_wid1 (l : List J) (z : Int) (a : X) (hr : wids l z = ([a], 0)) : Ct Tryz.prog 91 [bA_ l, iA z] (· = widA (widR ([a], 0))) := by
  refine ct_of (O := orO (hoO 99 1 (hpin [[.lit (.int .i64 z)]] 152 [bA_ l] (pxe (wids l z)))) (tblO Tnum_Cmp)) (by kernel_rfl) tyB_ok (fun w => hoO_or (hoO_ok (ent Tryz.func99 (by kernel_rfl) rfl) (fun ls c xs e he hp S w' gs hb ht' hL => by
    injection he with he; subst he
    obtain ⟨rfl, rfl, rfl⟩ := hp
    exact echX ht' (c_widest hL) l)) (tblO_ok Tnum_Cmp_ok _ w) (fun _ _ _ => tblO_none fun _ => one_none (by decide))) [20, 21, 22, 23] 1500 43 [.tmp 4, .cell 5 28, .tmp 6] Tryz.func91 rfl Tryz.ntmps91 (by rw [Tryz.results91]) (by simp) rfl (fun hsm => ?_)
  simp (maxSteps := 10000000) only [go_sem, ↓reduceIte, Nat.reduceMul, Nat.reduceDiv, Nat.reduceAdd, Nat.reduceEqDiff, Nat.reduceLeDiff, Nat.reduceLT, reduceCtorEq, Int.reduceNeg, Int.reduceLT, Int.reduceLE, Int.reduceAdd, Int.reduceToNat, Nat.reduceBEq, Int.reduceMul, Int.reduceSub, Nat.reduceSub, Int.reduceBNe, Nat.reduceBNe, Tnum_Cmp, hoO, hoK, hpin, asB_b, asP_b, hr, cmpx_self, Int.reduceGT, zX]
  repeat' first | (with_reducible apply And.intro) | (with_reducible apply condP <;> intro _)
  all_goals first | (show chk _ _ = true; kernel_rfl) | assumption | (simp only [go_sem, *, hoO, hoK, hpin, hr, widA, widR, wgo, cmpx_self, Int.reduceAdd, Int.reduceGT, zX] <;> rfl) | rfl | (exfalso; simp_all only [Bool.true_eq_false, Bool.false_eq_true, reduceCtorEq]; done)
theorem b_wid2 (l : List J) (z : Int) (a b : X) (hr : wids l z = ([a, b], 0)) : Ct Tryz.prog 91 [bA_ l, iA z] (· = widA (widR ([a, b], 0))) := by
  refine ct_of (O := orO (hoO 99 1 (hpin [[.lit (.int .i64 z)]] 152 [bA_ l] (pxe (wids l z)))) (tblO Tnum_Cmp)) (by kernel_rfl) tyB_ok (fun w => hoO_or (hoO_ok (ent Tryz.func99 (by kernel_rfl) rfl) (fun ls c xs e he hp S w' gs hb ht' hL => by
    injection he with he; subst he
    obtain ⟨rfl, rfl, rfl⟩ := hp
    exact echX ht' (c_widest hL) l)) (tblO_ok Tnum_Cmp_ok _ w) (fun _ _ _ => tblO_none fun _ => one_none (by decide))) [20, 21, 22, 23] 1500 43 [.tmp 4, .cell 5 28, .tmp 6] Tryz.func91 rfl Tryz.ntmps91 (by rw [Tryz.results91]) (by simp) rfl (fun hsm => ?_)
  simp (maxSteps := 10000000) only [go_sem, ↓reduceIte, Nat.reduceMul, Nat.reduceDiv, Nat.reduceAdd, Nat.reduceEqDiff, Nat.reduceLeDiff, Nat.reduceLT, reduceCtorEq, Int.reduceNeg, Int.reduceLT, Int.reduceLE, Int.reduceAdd, Int.reduceToNat, Nat.reduceBEq, Int.reduceMul, Int.reduceSub, Nat.reduceSub, Int.reduceBNe, Nat.reduceBNe, Tnum_Cmp, hoO, hoK, hpin, asB_b, asP_b, hr, cmpx_self, Int.reduceGT, zX]
  repeat' first | (with_reducible apply And.intro) | (with_reducible apply condP <;> intro _)
  all_goals first | (show chk _ _ = true; kernel_rfl) | assumption | (simp only [go_sem, *, hoO, hoK, hpin, hr, widA, widR, wgo, cmpx_self, Int.reduceAdd, Int.reduceGT, zX] <;> rfl) | rfl | (exfalso; simp_all only [Bool.true_eq_false, Bool.false_eq_true, reduceCtorEq]; done)
theorem b_wid3 (l : List J) (z : Int) (a b c : X) (hr : wids l z = ([a, b, c], 0)) : Ct Tryz.prog 91 [bA_ l, iA z] (· = widA (widR ([a, b, c], 0))) := by
  refine ct_of (O := orO (hoO 99 1 (hpin [[.lit (.int .i64 z)]] 152 [bA_ l] (pxe (wids l z)))) (tblO Tnum_Cmp)) (by kernel_rfl) tyB_ok (fun w => hoO_or (hoO_ok (ent Tryz.func99 (by kernel_rfl) rfl) (fun ls c xs e he hp S w' gs hb ht' hL => by
    injection he with he; subst he
    obtain ⟨rfl, rfl, rfl⟩ := hp
    exact echX ht' (c_widest hL) l)) (tblO_ok Tnum_Cmp_ok _ w) (fun _ _ _ => tblO_none fun _ => one_none (by decide))) [20, 21, 22, 23] 1500 43 [.tmp 4, .cell 5 28, .tmp 6] Tryz.func91 rfl Tryz.ntmps91 (by rw [Tryz.results91]) (by simp) rfl (fun hsm => ?_)
  simp (maxSteps := 10000000) only [go_sem, ↓reduceIte, Nat.reduceMul, Nat.reduceDiv, Nat.reduceAdd, Nat.reduceEqDiff, Nat.reduceLeDiff, Nat.reduceLT, reduceCtorEq, Int.reduceNeg, Int.reduceLT, Int.reduceLE, Int.reduceAdd, Int.reduceToNat, Nat.reduceBEq, Int.reduceMul, Int.reduceSub, Nat.reduceSub, Int.reduceBNe, Nat.reduceBNe, Tnum_Cmp, hoO, hoK, hpin, asB_b, asP_b, hr, cmpx_self, Int.reduceGT, zX]
  repeat' first | (with_reducible apply And.intro) | (with_reducible apply condP <;> intro _)
  all_goals first | (show chk _ _ = true; kernel_rfl) | assumption | (simp only [go_sem, *, hoO, hoK, hpin, hr, widA, widR, wgo, cmpx_self, Int.reduceAdd, Int.reduceGT, zX] <;> rfl) | rfl | (exfalso; simp_all only [Bool.true_eq_false, Bool.false_eq_true, reduceCtorEq]; done)
theorem b_wid4 (l : List J) (z : Int) (a b c d : X) (hr : wids l z = ([a, b, c, d], 0)) : Ct Tryz.prog 91 [bA_ l, iA z] (· = widA (widR ([a, b, c, d], 0))) := by
  refine ct_of (O := orO (hoO 99 1 (hpin [[.lit (.int .i64 z)]] 152 [bA_ l] (pxe (wids l z)))) (tblO Tnum_Cmp)) (by kernel_rfl) tyB_ok (fun w => hoO_or (hoO_ok (ent Tryz.func99 (by kernel_rfl) rfl) (fun ls c xs e he hp S w' gs hb ht' hL => by
    injection he with he; subst he
    obtain ⟨rfl, rfl, rfl⟩ := hp
    exact echX ht' (c_widest hL) l)) (tblO_ok Tnum_Cmp_ok _ w) (fun _ _ _ => tblO_none fun _ => one_none (by decide))) [20, 21, 22, 23] 1500 43 [.tmp 4, .cell 5 28, .tmp 6] Tryz.func91 rfl Tryz.ntmps91 (by rw [Tryz.results91]) (by simp) rfl (fun hsm => ?_)
  simp (maxSteps := 10000000) only [go_sem, ↓reduceIte, Nat.reduceMul, Nat.reduceDiv, Nat.reduceAdd, Nat.reduceEqDiff, Nat.reduceLeDiff, Nat.reduceLT, reduceCtorEq, Int.reduceNeg, Int.reduceLT, Int.reduceLE, Int.reduceAdd, Int.reduceToNat, Nat.reduceBEq, Int.reduceMul, Int.reduceSub, Nat.reduceSub, Int.reduceBNe, Nat.reduceBNe, Tnum_Cmp, hoO, hoK, hpin, asB_b, asP_b, hr, cmpx_self, Int.reduceGT, zX]
  repeat' first | (with_reducible apply And.intro) | (with_reducible apply condP <;> intro _)
  all_goals first | (show chk _ _ = true; kernel_rfl) | assumption | (simp only [go_sem, *, hoO, hoK, hpin, hr, widA, widR, wgo, cmpx_self, Int.reduceAdd, Int.reduceGT, zX] <;> rfl) | rfl | (exfalso; simp_all only [Bool.true_eq_false, Bool.false_eq_true, reduceCtorEq]; done)
theorem zipP_len {φ : J → J → X × Int} : ∀ {l m : List J}, l.length = m.length → ((zipP φ l m).2 != 0) = true ∨ ((zipP φ l m).2 = 0 ∧ (zipP φ l m).1.length = l.length) := by
  intro l
  induction l with
  | nil => intro m h; exact .inr ⟨rfl, rfl⟩
  | cons a l ih =>
    intro m h
    cases m with
    | nil => simp at h
    | cons b m =>
      unfold zipP
      cases h1 : (φ a b).2 != 0 with
      | true => exact .inl (by simp only [cond_true]; exact h1)
      | false =>
        rw [cond_false]
        rcases ih (m := m) (by simpa using h) with h2 | ⟨h2, h3⟩
        · rw [h2]; exact .inl (by simp only [cond_true]; exact h2)
        · rw [h2]; exact .inr ⟨rfl, by rw [show ((0 : Int) != 0) = false from rfl, cond_false]; simp [h3]⟩
theorem bothP_len {φ : J → J → X × Int} (l m : List J) : ((bothP φ l m).2 != 0) = true ∨ ((bothP φ l m).2 = 0 ∧ (bothP φ l m).1.length = l.length ∧ rightB l = true ∧ rightB m = true ∧ l.length = m.length) := by
  unfold bothP
  cases h : rightB l && rightB m && decide (l.length = m.length) with
  | false => exact .inl rfl
  | true =>
    rw [Bool.and_eq_true, Bool.and_eq_true, decide_eq_true_eq] at h
    rw [cond_true]
    rcases zipP_len (φ := φ) h.2 with h1 | ⟨h1, h2⟩
    · exact .inl h1
    · exact .inr ⟨h1, h2, h.1.1, h.1.2, h.2⟩
theorem b_wid (l : List J) (z : Int) : Ct Tryz.prog 91 [bA_ l, iA z] (· = widA (widS l z)) := by
  unfold widS
  rcases bothP_len (φ := fun a _ => wideX a z) l l with h | ⟨h1, h2, h3, _⟩
  · exact b_wid_e l z _ rfl h
  · have h4 := rightB_len h3
    rw [← h2] at h4
    have hr : wids l z = ((wids l z).1, 0) := by rw [← show (wids l z).2 = 0 from h1]
    have h4 : 1 ≤ (wids l z).1.length ∧ (wids l z).1.length ≤ 4 := h4
    rw [hr]
    generalize (wids l z).1 = xs at hr h4
    match xs, hr, h4 with
    | [], _, h => exact absurd h.1 (by simp)
    | [a], hr, _ => exact b_wid1 l z a hr
    | [a, b], hr, _ => exact b_wid2 l z a b hr
    | [a, b, c], hr, _ => exact b_wid3 l z a b c hr
    | [a, b, c, d], hr, _ => exact b_wid4 l z a b c d hr
    | _ :: _ :: _ :: _ :: _ :: _, _, h => exact absurd h.2 (by simp)
noncomputable def Tbox_widest : Tbl := one 91 (gBZ fun l z => (True, widA (widS l z)))
theorem Tbox_widest_ok : TbOK Tryz.prog Tbox_widest := one_ok (ent Tryz.func91 (by kernel_rfl) rfl) fun args e h hp => gBZ_ct (fun l z _ => b_wid l z) h hp
theorem b_wide (l : List J) (z : Int) : Ct Tryz.prog 37 [bA_ l, iA z] (· = xeA ((widS l z).1.2, (widS l z).2)) := by
  refine ct_of (O := tblO Tbox_widest) (by kernel_rfl) tyB_ok (fun w => tblO_ok Tbox_widest_ok _ w) [] 600 18 [.cell 4 28, .tmp 5] Tryz.func37 rfl Tryz.ntmps37 (by rw [Tryz.results37]) (by simp) rfl (fun hsm => ?_)
  simp (maxSteps := 10000000) only [go_sem, ↓reduceIte, Nat.reduceMul, Nat.reduceDiv, Nat.reduceAdd, Nat.reduceEqDiff, Nat.reduceLeDiff, Nat.reduceLT, reduceCtorEq, Int.reduceNeg, Int.reduceLT, Int.reduceLE, Int.reduceAdd, Int.reduceToNat, Nat.reduceBEq, Int.reduceMul, Int.reduceSub, Nat.reduceSub, Int.reduceBNe, Nat.reduceBNe, Tbox_widest, hoO, hoK, hpin, asB_b, asP_b, widA]
  repeat' first | (with_reducible apply And.intro) | (with_reducible apply condP <;> intro _)
  all_goals first | (show chk _ _ = true; kernel_rfl) | assumption | (simp only [go_sem, *, hoO, hoK, hpin] <;> rfl) | rfl | (exfalso; simp_all only [Bool.true_eq_false, Bool.false_eq_true, reduceCtorEq]; done)
noncomputable def Tbox_Wide : Tbl := one 37 (gBZ fun l z => (True, xeA ((widS l z).1.2, (widS l z).2)))
theorem Tbox_Wide_ok : TbOK Tryz.prog Tbox_Wide := one_ok (ent Tryz.func37 (by kernel_rfl) rfl) fun args e h hp => gBZ_ct (fun l z _ => b_wide l z) h hp
noncomputable def blowJ (x : J) (z : Int) : J × Int := bif (wideX x z).2 != 0 then (zJ, (wideX x z).2) else bif (scalex (wideX x z).1 (-2)).2 != 0 then (zJ, (scalex (wideX x z).1 (-2)).2) else addJ x ⟨qx (negx (qx (scalex (wideX x z).1 (-2)).1)), qx (scalex (wideX x z).1 (-2)).1⟩ z
theorem c_blow {w : World} {S : Nat → Prop} {gs : List Nat} {z : Int} (hL : Lent S w gs [[.lit (.int .i64 z)]]) : Fv Tryz.prog w 75 (ptrs gs) (gJ fun a => (True, jeA (blowJ a z))) := by
  refine fv_run hL (ent Tryz.func75 (by kernel_rfl) rfl) (fun args e h => by obtain ⟨j, rfl, rfl⟩ := gJ_eq h; rfl) (fun args e h hp w' us hb ht' hL' hA => ?_)
  obtain ⟨j, rfl, rfl⟩ := gJ_eq h
  refine (lent_of (args := [jA j, .s (.own 1000 0)]) (O := tblO (orT Tiv_Wide (orT Tnum_Scale (orT Tnum_Neg Tiv_Add)))) (Pst := (· = jeA (blowJ j z))) (by kernel_rfl) tyB_ok (tblO_ok (orT_ok Tiv_Wide_ok (orT_ok Tnum_Scale_ok (orT_ok Tnum_Neg_ok Tiv_Add_ok))) _ w') [] 300 36 [.cell 3 40, .tmp 4] Tryz.func75 rfl Tryz.ntmps75 (by rw [Tryz.results75]) (by simp) ht' hL' hA ?_).mono ?_
  case refine_2 => rintro e w'' ⟨u, r, he, rfl, _, hR, hb2⟩; exact ⟨u, he, hR, hb2⟩
  simp (maxSteps := 10000000) only [go_sem, ↓reduceIte, Nat.reduceMul, Nat.reduceDiv, Nat.reduceAdd, Nat.reduceEqDiff, Nat.reduceLeDiff, Nat.reduceLT, reduceCtorEq, Int.reduceNeg, Int.reduceLT, Int.reduceLE, Int.reduceAdd, Int.reduceToNat, Nat.reduceBEq, Int.reduceMul, Int.reduceSub, Nat.reduceSub, Int.reduceBNe, Nat.reduceBNe, asB, asP, nilB, asJs, asXs, wsOf, Tiv_Wide, Tnum_Scale, Tnum_Neg, Tiv_Add, zJ, zX]
  repeat' first | (with_reducible apply And.intro) | (with_reducible apply condP <;> intro _)
  all_goals first | (show chk _ _ = true; kernel_rfl) | assumption | (simp only [go_sem, *, blowJ, zJ, zX] <;> rfl) | rfl | (exfalso; simp_all only [Bool.true_eq_false, Bool.false_eq_true, reduceCtorEq]; done)
theorem b_blow (l : List J) (z : Int) : Ct Tryz.prog 26 [bA_ l, iA z] (· = bxe (bothB (fun a _ => blowJ a z) l l)) := by
  refine ct_of (O := orO (hoO 72 1 (hpin [[.lit (.int .i64 z)]] 75 [bA_ l] (bxe (bothB (fun a _ => blowJ a z) l l)))) (tblO noT)) (by kernel_rfl) tyB_ok (fun w => hoO_or (hoO_ok (ent Tryz.func72 (by kernel_rfl) rfl) (fun ls c xs e he hp S w' gs hb ht' hL => by
    injection he with he; subst he
    obtain ⟨rfl, rfl, rfl⟩ := hp
    exact echJ ht' (c_blow hL) l)) (tblO_ok noT_ok _ w) (fun _ _ _ => tblO_none fun _ => rfl)) [] 600 11 [.tmp 4, .tmp 5] Tryz.func26 rfl Tryz.ntmps26 (by rw [Tryz.results26]) (by simp) rfl (fun hsm => ?_)
  simp (maxSteps := 10000000) only [go_sem, ↓reduceIte, Nat.reduceMul, Nat.reduceDiv, Nat.reduceAdd, Nat.reduceEqDiff, Nat.reduceLeDiff, Nat.reduceLT, reduceCtorEq, Int.reduceNeg, Int.reduceLT, Int.reduceLE, Int.reduceAdd, Int.reduceToNat, Nat.reduceBEq, Int.reduceMul, Int.reduceSub, Nat.reduceSub, Int.reduceBNe, Nat.reduceBNe, hoO, hoK, hpin, asB_b, asP_b]
  repeat' first | (with_reducible apply And.intro) | (with_reducible apply condP <;> intro _)
  all_goals first | (show chk _ _ = true; kernel_rfl) | assumption | (simp only [go_sem, *, hoO, hoK, hpin] <;> rfl) | rfl | (exfalso; simp_all only [Bool.true_eq_false, Bool.false_eq_true, reduceCtorEq]; done)
noncomputable def Tbox_Blow : Tbl := one 26 (gBZ fun l z => (True, bxe (bothB (fun a _ => blowJ a z) l l)))
theorem Tbox_Blow_ok : TbOK Tryz.prog Tbox_Blow := one_ok (ent Tryz.func26 (by kernel_rfl) rfl) fun args e h hp => gBZ_ct (fun l z _ => b_blow l z) h hp
end Go.Proofs.YthhaelnildaemaaGreatDoor
namespace Go.Proofs.YthhaelnildaemaaGreatDoor
open Go.RowKit Nx
set_option linter.unusedVariables false
set_option linter.unusedSimpArgs false
attribute [local go_sem] run init X.L J.L vL X.eta J.eta Q.eta List.cons_append List.nil_append brkK brkf_b brkf_t exef_some exif_some condf_b opf bodyE addR skipE stepOp stepLoad stepStore stepField stepCall stepBS stepBi stepCv stepIx lpf hdS pick forget inL mentA ment dom evs evl evp evd okeys look fillA capsOf wordsOf rowsOf lenOf convK binV shV intV unV boolT tyT tiB tiI tiW tiD tiF tiR tiU tiNum tiIv tiVal tiSc okLf okD keysOf tblO cvA cvL dnL olA olL noO noA cbL cbA orT noT one asNum asIv asVal postf_some resA tupA clA clL dropTo decide_true decide_false List.all_cons List.all_nil Bool.and_true Bool.and_self true_and and_true and_self List.length_cons List.length_nil List.drop_succ_cons List.drop_zero List.take_succ_cons List.take_zero List.getElem?_cons_zero List.getElem?_cons_succ List.map_cons List.map_nil false_implies true_implies Option.bind_some List.getElem?_toArray Bool.false_eq_true List.append_nil List.flatMap_cons List.flatMap_nil true_or or_true forall_const List.reverse_cons List.reverse_nil Option.isSome_some Option.any_some Nat.lt_irrefl not_true_eq_false Bool.not_true Bool.not_false imp_self implies_true Bool.not_eq_true' Bool.not_eq_false' Bool.true_eq_false memOf cntF nmL rnL nmA rnA isV contsOf ndB refO orO pin Int.toNat_zero decide_eq_true_eq wrap0 wrap1 ci1 ci2 BEq.rfl beq_self_eq_true Int.natCast_zero ge_iff_le gt_iff_lt Int.le_refl Nat.zero_mul Nat.one_mul Nat.zero_add Nat.zero_lt_succ Nat.lt_add_one Nat.le_refl Int.toNat_natCast gN gNN gNI gI gNNIB gNIB gJ gJJ gJN gJJI gJI stepB0 stepMk stepSl stepAp apY optI okO nilV slT resB outPs outLs outL dnT noE ptsL_nil ptsL_cons bxe pxe bne_self_eq_false wr2 wr3 wr4 wr5 wr6 wr7 wr8 gB gP gBB gBP gBZ gBBZ asB asP nilB asJs asXs wsOf bC_nil bC_cons pC_nil pC_cons fvO Lc.up tyB tiS tiBB List.replicate_succ List.replicate_zero List.flatten_cons List.flatten_nil Int.ofNat_lt Int.cast_ofNat_Int Int.ofNat_eq_natCast List.isEmpty_nil List.isEmpty_cons and_false false_and List.cons_ne_nil Nat.add_zero ite_true ite_false if_true if_false Nat.le_zero_eq eq_self Bool.and_false Bool.false_and Bool.true_and AV.s cond_true cond_false Bool.or_true Bool.true_or Bool.or_false Bool.false_or
attribute [local go_sem ↓] cond_true cond_false not_cond outL_box outL_pts clL_box clL_pts okL_box okL_pts ment_box ment_pts olL_box olL_pts cvL_box cvL_pts noO_box noO_pts asB_box asP_pts len_box len_pts
attribute [local irreducible] chk
def mkB (l : List J) : List J × Int := bothB (fun a _ => makeJ a.lo a.hi) l l
def gBIXX (k : List J → Int → X → X → Prop × AV) : List AV → Option (Prop × AV)
  | [x, .v false [.lit (.int .i64 z)], .v true ms, .v true mt] => (match asB x, asNum ms, asNum mt with
    | some l, some s, some t => some (k l z s t)
    | _, _, _ => none)
  | _ => none
theorem gBIXX_ct {P : Program} {f : FuncId} {k : List J → Int → X → X → Prop × AV} (h : ∀ l z s t, (k l z s t).1 → Ct P f [bA_ l, iA z, xA s, xA t] (· = (k l z s t).2)) {args : List AV} {e : Prop × AV} (he : gBIXX k args = some e) (hp : e.1) : Ct P f args (· = e.2) := by
  unfold gBIXX at he
  split at he
  · split at he
    · rename_i l s t hl hs ht
      injection he with he; subst he
      rw [asNum_eq hs, asNum_eq ht]
      exact (h l _ s t hp).of fun ρ D w => RA.c (fun u => asB_R hl) fun us h => h
    · cases he
  · cases he
set_option maxRecDepth 100000 in
set_option maxHeartbeats 4000000 in
theorem c_repl {w : World} {S : Nat → Prop} {gs : List Nat} (hL : Lent S w gs []) : Fv Tryz.prog w 157 (ptrs gs) (gJ fun a => (True, jeA (makeJ a.lo a.hi))) := by
  refine fv_run hL (ent Tryz.func157 (by kernel_rfl) rfl) (fun args e h => by obtain ⟨j, rfl, rfl⟩ := gJ_eq h; rfl) (fun args e h hp w' us hb ht' hL' hA => ?_)
  obtain ⟨j, rfl, rfl⟩ := gJ_eq h
  refine (lent_of (args := [jA j]) (O := tblO Tiv_Make) (Pst := (· = jeA (makeJ j.lo j.hi))) (by kernel_rfl) tyB_ok (tblO_ok Tiv_Make_ok _ w') [] 300 11 [.cell 2 40, .tmp 3] Tryz.func157 rfl Tryz.ntmps157 (by rw [Tryz.results157]) (by simp) ht' hL' hA ?_).mono ?_
  case refine_2 => rintro e w'' ⟨u, r, he, rfl, _, hR, hb2⟩; exact ⟨u, he, hR, hb2⟩
  simp (maxSteps := 10000000) only [go_sem, ↓reduceIte, Nat.reduceMul, Nat.reduceDiv, Nat.reduceAdd, Nat.reduceEqDiff, Nat.reduceLeDiff, Nat.reduceLT, reduceCtorEq, Int.reduceNeg, Int.reduceLT, Int.reduceLE, Int.reduceAdd, Int.reduceToNat, Nat.reduceBEq, Int.reduceMul, Int.reduceSub, Nat.reduceSub, boxL_nil, boxL_cons, Int.reduceBNe, Nat.reduceBNe, Tiv_Make]
  repeat' first | (with_reducible apply And.intro) | (with_reducible apply condP <;> intro _)
  all_goals first | (show chk _ _ = true; kernel_rfl) | assumption | (simp only [go_sem, *] <;> rfl) | rfl | (exfalso; simp_all only [Bool.true_eq_false, Bool.false_eq_true, reduceCtorEq]; done)
set_option maxRecDepth 100000 in
set_option maxHeartbeats 4000000 in
theorem b_repl21 (a b : J) (lo hi : X) : Ct Tryz.prog 93 [bA_ [a, b], iA 1, xA lo, xA hi] (· = .s (boxL (mkB [a, ⟨lo, hi⟩]).1)) := by
  refine ct_of (O := orO (grO 156 kClone) (orO (hoO 72 1 (hpin [] 157 [bA_ [a, ⟨lo, hi⟩]] (bxe (mkB [a, ⟨lo, hi⟩])))) (tblO noT))) (by kernel_rfl) tyB_ok (fun w => grO_or (clone_ok w) (hoO_or (hoO_ok (ent Tryz.func72 (by kernel_rfl) rfl) (fun ls c xs e he hp S w' gs hb ht' hL => by
    injection he with he; subst he
    obtain ⟨rfl, rfl, rfl⟩ := hp
    obtain rfl : gs = [] := List.eq_nil_of_length_eq_zero hL.1
    exact echJ ht' (c_repl hL) [a, ⟨lo, hi⟩])) (tblO_ok noT_ok _ w) (fun _ _ _ => tbl0)) (fun _ _ _ => orO_none (if_neg (by decide)) tbl0)) [] 600 24 [.tmp 8] Tryz.func93 rfl Tryz.ntmps93 (by rw [Tryz.results93]) (by simp) rfl (fun hsm => ?_)
  simp (maxSteps := 10000000) only [go_sem, ↓reduceIte, Nat.reduceMul, Nat.reduceDiv, Nat.reduceAdd, Nat.reduceEqDiff, Nat.reduceLeDiff, Nat.reduceLT, reduceCtorEq, Int.reduceNeg, Int.reduceLT, Int.reduceLE, Int.reduceAdd, Int.reduceToNat, Nat.reduceBEq, Int.reduceMul, Int.reduceSub, Nat.reduceSub, Int.reduceBNe, Nat.reduceBNe, hoO, hoK, hpin, asB_b, asP_b, grO, kClone, gcB, bL_cons, bL_nil]
  repeat' first | (with_reducible apply And.intro) | (with_reducible apply condP <;> intro _)
  all_goals first | (show chk _ _ = true; kernel_rfl) | assumption | (simp only [go_sem, *, hoO, hoK, hpin] <;> rfl) | rfl | (exfalso; simp_all only [Bool.true_eq_false, Bool.false_eq_true, reduceCtorEq]; done)
def rplB (l : List J) (i : Int) (lo hi : X) : List J := (mkB (l.set i.toNat ⟨lo, hi⟩)).1
noncomputable def halfB (l : List J) (z : Int) : (List J × List J) × Int := bif (widS l z).2 != 0 then (([], []), (widS l z).2) else bif (midX (l.getD (widS l z).1.1.toNat zJ) z).2 != 0 then (([], []), (midX (l.getD (widS l z).1.1.toNat zJ) z).2) else
  ((rplB l (widS l z).1.1 (l.getD (widS l z).1.1.toNat zJ).lo (midX (l.getD (widS l z).1.1.toNat zJ) z).1, rplB l (widS l z).1.1 (midX (l.getD (widS l z).1.1.toNat zJ) z).1 (l.getD (widS l z).1.1.toNat zJ).hi), 0)
def bbe (r : (List J × List J) × Int) : AV := .tup [(false, [boxL r.1.1]), (false, [boxL r.1.2]), (false, [.lit (.int .i64 r.2)])]
end Go.Proofs.YthhaelnildaemaaGreatDoor
