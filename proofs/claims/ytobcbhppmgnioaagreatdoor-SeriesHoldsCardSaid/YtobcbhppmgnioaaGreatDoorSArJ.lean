/- Package series: a polynomial of a series that the statements know. -/
import Derived.Test.YtobcbhppmgnioaaGreatDoorSArI
import Derived.Test.YtobcbhppmgnioaaGreatDoorSAkQ
import Derived.Test.YtobcbhppmgnioaaGreatDoorSAj1
import Derived.Test.YtobcbhppmgnioaaGreatDoorSSeat
namespace Go.Proofs.YtobcbhppmgnioaaGreatDoor
open Go.RowKit Nx
set_option linter.unusedVariables false
set_option linter.unusedSimpArgs false
set_option maxRecDepth 100000
set_option maxHeartbeats 4000000
attribute [local go_sem] X.eta J.eta Q.eta brkf_b brkf_t exef_some exif_some condf_b lpf hdS hd1 pick forget postf_some memOf cntF nmL rnL nmA rnA isV contsOf ndB refO orO pin Int.toNat_zero decide_eq_true_eq wrap0 wrap1 ci1 ci2 BEq.rfl beq_self_eq_true Int.natCast_zero ge_iff_le gt_iff_lt Int.le_refl Nat.zero_mul Nat.one_mul Nat.zero_add Nat.zero_lt_succ Nat.lt_add_one Nat.le_refl List.append_eq Int.toNat_natCast noE boxL_nil boxL_cons ptsL_nil ptsL_cons bxe pxe bne_self_eq_false wr2 wr3 wr4 wr5 wr6 wr7 wr8 gB gP gBB gBP gBZ gBBZ asB nilB asJs wsOf bC_nil bC_cons pC_nil pC_cons fvO Lc.up tyB tiS tiBB List.replicate_succ List.replicate_zero List.flatten_cons List.flatten_nil Int.ofNat_lt Int.cast_ofNat_Int Int.ofNat_eq_natCast List.isEmpty_nil List.isEmpty_cons and_false false_and List.cons_ne_nil Nat.add_zero ite_true ite_false if_true if_false Nat.le_zero_eq eq_self tyM tiQ tiMM gA gE asZ asT asV1 asN1 asB_b asP_b asM_m asQ_m ite_self hoO hoK hpin hoO2 hoK2 hpin2
attribute [local go_sem ↓] not_cond outL_box outL_pts clL_box clL_pts okL_box okL_pts ment_box ment_pts olL_box olL_pts cvL_box cvL_pts noO_box noO_pts asB_box asP_pts len_box len_pts
attribute [local irreducible] chk
def cvN (st : St) (x : AV) : AV := match x with
 | .v false [.osl b n] => (match look st (2 * b + 1) with
  | some (.v _ ls) => (match dnL (ls.map (cvL st)) with
   | some ks => if ls.length = n * (ls.length / n) then .v false [.sl false (ls.length / n) n ks] else cvA st x
   | none => cvA st x)
  | _ => cvA st x)
 | _ => cvA st x
def olN (st : St) (x : AV) : List Nat := match x with
 | .v false [.osl b _] => (2 * b + 1) :: ((match look st (2 * b + 1) with
  | some (.v _ ls) => ls.flatMap olL
  | _ => []) ++ olA x)
 | _ => olA x
theorem olN_osl {st : St} {b n : Nat} : olN st (.v false [.osl b n]) = (2 * b + 1) :: ((match look st (2 * b + 1) with
  | some (.v _ ls) => ls.flatMap olL
  | _ => []) ++ olA (.v false [.osl b n])) := rfl
theorem dnL_noX : ∀ {ls : List Lf} {ks : List Lc}, dnL ls = some ks → ls.all noO = true := by
 intro ls
 induction ls with
 | nil => intro ks _; rfl
 | cons l ls ih =>
  intro ks h
  cases l <;> simp only [dnL] at h <;> first | (cases h; done) | (split at h <;> first | (cases h; done) | (rename_i k hk; rw [List.all_cons, ih hk]; rfl))
section
variable {F : Fx} {w0 w : World} {N : Nat} {ρ : Env} {st st' : St} {a : Act}
theorem cvN_congr {x : AV} (h : ∀ k ∈ olN st x, look st' k = look st k) : cvN st' x = cvN st x := by
 unfold cvN
 split
 ·rename_i b n
  have h1 := h (2 * b + 1) (by unfold olN; simp)
  rw [h1]
  have h3 : cvA st' (.v false [.osl b n]) = cvA st (.v false [.osl b n]) := cvA_congr fun k hk => h k (by unfold olN; simp [hk])
  rw [h3]
  cases hl : look st (2 * b + 1) with
  | none => rfl
  | some v =>
   cases v with
   | v g ls =>
    have h2 : ls.map (cvL st') = ls.map (cvL st) := List.map_congr_left fun l hl' => cvL_congr fun k hk => h k (by rw [olN_osl, hl]; exact List.mem_cons_of_mem _ (List.mem_append_left _ (List.mem_flatMap.2 ⟨l, hl', hk⟩)))
    simp only [h2]
   | tup _ => rfl
   | pre _ _ _ => rfl
 ·rename_i hx
  have e : olN st x = olA x := by unfold olN; split <;> first | (exfalso; exact hx _ _ rfl) | rfl
  exact cvA_congr fun k hk => h k (by rw [e]; exact hk)
theorem cvN_R (hz : Cz F w0 N ρ st a w) {x : AV} {u : Value} (hR : x.R ρ (dom st) w u) (hn : noA (cvN st x) = true) : (cvN st x).R ρ.no (fun _ => false) w u := by
 have plain : ∀ y : AV, y.R ρ (dom st) w u → noA (cvA st y) = true → (cvA st y).R ρ.no (fun _ => false) w u := fun y hy hn => by
  obtain ⟨v, r, e, h1, h2⟩ := cv_RA hz (xs := [y]) (us := [u]) ⟨u, [], rfl, hy, rfl⟩ (by rw [List.map_cons, List.map_nil, List.all_cons, hn]; rfl)
  injection e with e1 e2
  subst e1; exact h1
 unfold cvN at hn ⊢
 split at hn
 ·rename_i b n
  cases hl : look st (2 * b + 1) with
  | none => simp only [hl] at hn ⊢; exact plain _ hR hn
  | some v =>
   cases v with
   | tup _ => simp only [hl] at hn ⊢; exact plain _ hR hn
   | pre _ _ _ => simp only [hl] at hn ⊢; exact plain _ hR hn
   | v g ls =>
    cases hk : dnL (ls.map (cvL st)) with
    | none => simp only [hl, hk] at hn ⊢; exact plain _ hR hn
    | some ks =>
     by_cases hq : ls.length = n * (ls.length / n)
     ·simp only [hl, hk, if_pos hq]
      obtain ⟨hdb, hu⟩ := (RL.one.1 hR : (Lf.osl b n).R ρ (dom st) w u)
      obtain ⟨g0, ls0, T0, cs, e0, hB, hr0, ho0, hg⟩ := hz.mv hl
      injection e0 with e1 e0; subst e0
      have hlen := hr0.len
      rw [Array.length_toList] at hlen
      have hkl := dn_len hk
      rw [List.length_map] at hkl
      refine RL.one.2 ⟨by rw [hkl]; exact hq, _, n, hu, Nat.le_refl _, .inr ⟨⟨ρ b, 0, none⟩, T0, cs, rfl, rfl, ⟨no_sep, fun e => (by cases e)⟩, hB.wb, ?_, ?_⟩⟩
      ·show 0 + ks.length ≤ cs.size; omega
      ·show LcL _ w ks ((cs.toList.drop 0).take ks.length)
       rw [List.drop_zero, List.take_of_length_le (by rw [Array.length_toList]; omega)]
       exact dn_R (fun g hg => ⟨hg, fun e => (by cases e)⟩) hk (cv_RL hz hr0 (dnL_noX hk))
     ·simp only [hl, hk, if_neg hq] at hn ⊢; exact plain _ hR hn
 ·exact plain _ hR hn
theorem cvN_RA (hz : Cz F w0 N ρ st a w) : ∀ {xs : List AV} {us : List Value}, RA ρ (dom st) w xs us → (xs.map (cvN st)).all noA = true → RA ρ.no (fun _ => false) w (xs.map (cvN st)) us := by
 intro xs
 induction xs with
 | nil => intro us h _; exact h
 | cons x xs ih =>
  intro us h hn
  rw [List.map_cons, List.all_cons, Bool.and_eq_true] at hn
  obtain ⟨u, r, rfl, h1, h2⟩ := h
  exact ⟨u, r, rfl, cvN_R hz h1 hn.1, ih h2 hn.2⟩
end
def tblG (T : Tbl) (g : FuncId) : Orac := fun f d st args => if f = g then (match T f (args.map (cvN st)) with
 | some e => if (args.map (cvN st)).all noA = true then some (e.1, args.flatMap (olN st), [(2 * d, e.2)]) else none
 | none => none) else none
theorem tblG_ok {T : Tbl} {g : FuncId} {F : Fx} {w0 : World} (h : TbOK Tryz.prog T) : OrOK Tryz.prog (tblG T g) F w0 := by
 have inv : ∀ f d st args e, tblG T g f d st args = some e → f = g ∧ ∃ q, T f (args.map (cvN st)) = some q ∧ (args.map (cvN st)).all noA = true ∧ e = (q.1, args.flatMap (olN st), [(2 * d, q.2)]) := by
  intro f d st args e he
  unfold tblG at he
  split at he
  case isFalse => cases he
  rename_i hf
  split at he
  case h_2 => cases he
  rename_i q hq
  split at he
  case isFalse => cases he
  rename_i hn
  injection he with he
  exact ⟨hf, q, hq, hn, he.symm⟩
 refine ⟨fun f d st args e he => ?_, fun f d st args e he hp N ρ a w us hz hd hA => ?_, fun f d st st' args e he hkk => ?_⟩
 ·obtain ⟨_, q, hq, _⟩ := inv _ _ _ _ _ he
  exact h.enters f _ q hq
 ·obtain ⟨rfl, q, hq, hn, rfl⟩ := inv _ _ _ _ _ he
  refine (h.ct f _ q hq hp ρ.no (fun _ => false) w _ (hz.tb.tab hz.bel) (cvN_RA hz hA hn)).mono ?_
  rintro en w' ⟨v, r0, rfl, rfl, hc, hR, hb⟩
  exact ⟨v, ρ, rfl, hz.val hb hd (hR _ _ hz.old)⟩
 ·obtain ⟨rfl, q, hq, hn, rfl⟩ := inv _ _ _ _ _ he
  have hm : args.map (cvN st') = args.map (cvN st) := List.map_congr_left fun x hx => cvN_congr fun k hk => hkk k (List.mem_flatMap.2 ⟨x, hx, hk⟩)
  have hm2 : args.flatMap (olN st') = args.flatMap (olN st) := by
   rw [List.flatMap_def, List.flatMap_def]
   congr 1
   refine List.map_congr_left fun x hx => ?_
   unfold olN
   split
   ·rename_i b n
    rw [hkk (2 * b + 1) (List.mem_flatMap.2 ⟨_, hx, by unfold olN; simp⟩)]
   ·rfl
  unfold tblG
  simp only [if_true, hm, hm2, hq, hn]
theorem tblG_or {T : Tbl} {g : FuncId} {F : Fx} {B : Orac} {w0 : World} (hA : OrOK Tryz.prog (tblG T g) F w0) (hB : OrOK Tryz.prog B F w0) (hn : ∀ d st args, B g d st args = none) : OrOK Tryz.prog (orO (tblG T g) B) F w0 :=
 orO_ok hA hB fun f d st args e he st' => by
  unfold tblG
  split
  ·rename_i h; subst h; rw [hn] at he; cases he
  ·rfl
def kEx (A : List AV) (r : AV) : List AV → Option (Prop × AV) := fun args => some (args = A, r)
theorem kEx_ok {f : FuncId} {A : List AV} {r : AV} (he : ∀ (vs : Array Value) (w : World), (callFunc f vs).run Tryz.prog w = .ok (.enter f vs) w) (h : Ct Tryz.prog f A (· = r)) : TbOK Tryz.prog (one f (kEx A r)) := one_ok he fun args e hk hp => by
 injection hk with hk
 subst hk
 have hp : args = A := hp
 subst hp
 exact h
abbrev x1 : X := ⟨false, 0, [1]⟩
abbrev x2 : X := ⟨false, 1, [1]⟩
abbrev x3 : X := ⟨false, 0, [3]⟩
abbrev x6 : X := ⟨false, 1, [3]⟩
abbrev pt (x : X) : J := ⟨x, x⟩
theorem fitK {s : Bool} {m : Nat} {e : Int} (h1 : nbits m ≤ 256) (h2 : -65536 ≤ e) (h3 : e ≤ 65536) : Fits ⟨s, m, e⟩ := fits_few h1 h2 h3
theorem endK {a b : Q} (fa : Fits a) (fb : Fits b) : endsQ a b = (⟨qx a, qx b⟩, 0) := by unfold endsQ; rw [res_ok fa, res_ok fb]; rfl
theorem kSm11 : mulJ (pt x1) (pt x1) 16 = (pt x1, 0) := by
 rw [mul_eq ⟨small1 (by decide), small1 (by decide)⟩ ⟨small1 (by decide), small1 (by decide)⟩, show opQ 2 (pt x1) (pt x1) 16 = endsQ ⟨false, 1, 0⟩ ⟨false, 1, 0⟩ by kernel_rfl, endK (fitK (by decide) (by decide) (by decide)) (fitK (by decide) (by decide) (by decide))]
 kernel_rfl
theorem kSm31 : mulJ (pt x3) (pt x1) 16 = (pt x3, 0) := by
 rw [mul_eq ⟨small1 (by decide), small1 (by decide)⟩ ⟨small1 (by decide), small1 (by decide)⟩, show opQ 2 (pt x3) (pt x1) 16 = endsQ ⟨false, 3, 0⟩ ⟨false, 3, 0⟩ by kernel_rfl, endK (fitK (by decide) (by decide) (by decide)) (fitK (by decide) (by decide) (by decide))]
 kernel_rfl
theorem kSm01 : mulJ (pt zX) (pt x1) 16 = (pt zX, 0) := by
 rw [mul_eq ⟨Small.nil, Small.nil⟩ ⟨small1 (by decide), small1 (by decide)⟩, show opQ 2 (pt zX) (pt x1) 16 = endsQ ⟨false, 0, 0⟩ ⟨false, 0, 0⟩ by kernel_rfl, endK (fitK (by decide) (by decide) (by decide)) (fitK (by decide) (by decide) (by decide))]
 kernel_rfl
theorem kSa11 : addJ (pt x1) (pt x1) 16 = (pt x2, 0) := by
 rw [add_eq, show opQ 0 (pt x1) (pt x1) 16 = endsQ ⟨false, 1, 1⟩ ⟨false, 1, 1⟩ by kernel_rfl, endK (fitK (by decide) (by decide) (by decide)) (fitK (by decide) (by decide) (by decide))]
 kernel_rfl
theorem kSa30 : addJ (pt x3) (pt zX) 16 = (pt x3, 0) := by
 rw [add_eq, show opQ 0 (pt x3) (pt zX) 16 = endsQ ⟨false, 3, 0⟩ ⟨false, 3, 0⟩ by kernel_rfl, endK (fitK (by decide) (by decide) (by decide)) (fitK (by decide) (by decide) (by decide))]
 kernel_rfl
theorem kSa33 : addJ (pt x3) (pt x3) 16 = (pt x6, 0) := by
 rw [add_eq, show opQ 0 (pt x3) (pt x3) 16 = endsQ ⟨false, 3, 1⟩ ⟨false, 3, 1⟩ by kernel_rfl, endK (fitK (by decide) (by decide) (by decide)) (fitK (by decide) (by decide) (by decide))]
 kernel_rfl
theorem kSa06 : addJ (pt zX) (pt x6) 16 = (pt x6, 0) := by
 rw [add_eq, show opQ 0 (pt zX) (pt x6) 16 = endsQ ⟨false, 3, 1⟩ ⟨false, 3, 1⟩ by kernel_rfl, endK (fitK (by decide) (by decide) (by decide)) (fitK (by decide) (by decide) (by decide))]
 kernel_rfl
theorem kS_make : makeJ x2 x2 = (pt x2, 0) := by kernel_rfl
theorem co_0 {z : Int} {a b : List J} {k : Nat} {x : J} (h : mulJ (a.getD 0 zJ) (b.getD k zJ) z = (x, 0)) : coN z a b k 0 = (x, 0) := by
 show (bif (mulJ (a.getD 0 zJ) (b.getD k zJ) z).2 != 0 then _ else _) = _
 rw [h]; rfl
theorem co_1 {z : Int} {a b : List J} {k i : Nat} {s x y : J} (h : coN z a b k i = (s, 0)) (h1 : mulJ (a.getD (i + 1) zJ) (b.getD (k - (i + 1)) zJ) z = (x, 0)) (h2 : addJ s x z = (y, 0)) : coN z a b k (i + 1) = (y, 0) := by
 show (bif (coN z a b k i).2 != 0 then _ else bif (mulJ (a.getD (i + 1) zJ) (b.getD (k - (i + 1)) zJ) z).2 != 0 then _ else bif (addJ (coN z a b k i).1 (mulJ (a.getD (i + 1) zJ) (b.getD (k - (i + 1)) zJ) z).1 z).2 != 0 then _ else _) = _
 rw [h, h1]
 show (bif (addJ s x z).2 != 0 then _ else ((addJ s x z).1, 0)) = _
 rw [h2]; rfl
theorem kS_two {z : Int} {a b : List J} {x y : J} (h0 : coN z a b 0 0 = (x, 0)) (h1 : coN z a b 1 1 = (y, 0)) : prR z a b 1 = .ok ⟨2, 28, 6, x.L ++ y.L⟩ := by
 have e : eachN (fun j => coN z a b j j) 2 = ([x, y], 0) := by
  rw [eachN_ok (F := fun j => coN z a b j j) (j := 1) (by rw [eachN_ok (F := fun j => coN z a b j j) (j := 0) rfl (by rw [h0])]) (by rw [h1]), eachN_ok (F := fun j => coN z a b j j) (j := 0) rfl (by rw [h0]), h0, h1]; rfl
 unfold prR
 rw [show 1 + 1 = 2 from rfl, e]
 show GR.ok ⟨2, _, 6, x.L ++ (y.L ++ [])⟩ = _
 rw [List.append_nil]
theorem kS_p1 : prR 16 [pt x3, zJ] [pt x1, pt x1] 1 = .ok ⟨2, 28, 6, (pt x3).L ++ (pt x3).L⟩ := kS_two (co_0 kSm31) (co_1 (co_0 kSm31) kSm01 kSa30)
theorem kS_p2 : prR 16 [pt x3, pt x3] [pt x1, pt x1] 1 = .ok ⟨2, 28, 6, (pt x3).L ++ (pt x6).L⟩ := kS_two (co_0 kSm31) (co_1 (co_0 kSm31) kSm31 kSa33)
theorem su_1 {z : Int} {h v0 : J} {l : List J} {j : Nat} {v x y : J} (h0 : suN z h v0 l j = (v, 0)) (h1 : mulJ v h z = (x, 0)) (h2 : addJ x (l.getD (l.length - 1 - j) zJ) z = (y, 0)) : suN z h v0 l (j + 1) = (y, 0) := by
 show (bif (suN z h v0 l j).2 != 0 then _ else bif (mulJ (suN z h v0 l j).1 h z).2 != 0 then _ else bif (addJ (mulJ (suN z h v0 l j).1 h z).1 (l.getD (l.length - 1 - j) zJ) z).2 != 0 then _ else ((addJ (mulJ (suN z h v0 l j).1 h z).1 (l.getD (l.length - 1 - j) zJ) z).1, 0)) = _
 rw [h0]
 show (bif (mulJ v h z).2 != 0 then _ else bif (addJ (mulJ v h z).1 _ z).2 != 0 then _ else ((addJ (mulJ v h z).1 _ z).1, 0)) = _
 rw [h1]
 show (bif (addJ x _ z).2 != 0 then _ else ((addJ x _ z).1, 0)) = _
 rw [h2]; rfl
theorem kS_coef : coZ [pt x1, pt x1] [pt x1, pt x1] 1 16 = (pt x2, 0) := by
 unfold coZ
 rw [show okC [pt x1, pt x1] [pt x1, pt x1] 1 16 = true by kernel_rfl]
 exact co_1 (co_0 kSm11) kSm11 kSa11
theorem kS_sum : suZ [pt x1, pt x1] (pt x1) 16 = (pt x2, 0) := by
 unfold suZ
 rw [show okU [pt x1, pt x1] (pt x1) 16 = true by kernel_rfl, cond_true]
 have e : suN 16 (pt x1) (pt x1) [pt x1] 1 = (pt x2, 0) := su_1 (x := pt x1) rfl kSm11 kSa11
 show suS 16 [pt x1, pt x1] (pt x1) 1 = _
 unfold suS
 show (bif (suN 16 (pt x1) (pt x1) [pt x1] 1).2 != 0 then _ else makeJ (suN 16 (pt x1) (pt x1) [pt x1] 1).1.lo (suN 16 (pt x1) (pt x1) [pt x1] 1).1.hi) = _
 rw [e]; exact kS_make
theorem kS_mono : Ct Tryz.prog 106 [.v true [.lit (.bool false), .lit (.int .i64 0), .ws [3], .sl false 1 1 [.lit (.int .i64 2)]], iA 1] (· = bA true) := by
 have hok : X.ok ⟨false, 0, [3]⟩ = true := by kernel_rfl
 refine ct_of (O := tblO Tnum_Right) (by kernel_rfl) tyM_ok (fun w => tblO_ok Tnum_Right_ok _ w) [] 600 37 [.tmp 4] Tryz.func106 rfl Tryz.ntmps106 (by rw [Tryz.results106]) (by simp) rfl (fun hsm => ?_)
 simp (maxSteps := 10000000) only [go_sem, seval, reduceCtorEq, Tnum_Right, hok, tiMo, tiMl, tiEl, kEx, frh, frz, frS, frA, frL]
 repeat' with_reducible first | apply And.intro | apply condP <;> intro _
 all_goals first | (show chk _ _ = true; kernel_rfl) | assumption | rfl | (simp only [go_sem, *] <;> rfl)
noncomputable def TkMono : Tbl := one 106 (kEx [.v true [.lit (.bool false), .lit (.int .i64 0), .ws [3], .sl false 1 1 [.lit (.int .i64 2)]], iA 1] (bA true))
theorem TkMono_ok : TbOK Tryz.prog TkMono := kEx_ok (ent Tryz.func106 (by kernel_rfl) rfl) kS_mono
theorem kS_dim : Ct Tryz.prog 105 [iA 1] (· = bA true) := by
 refine ct_of (O := tblO noT) (by kernel_rfl) tyM_ok (fun w => tblO_ok noT_ok _ w) [] 600 9 [.tmp 2] Tryz.func105 rfl Tryz.ntmps105 (by rw [Tryz.results105]) (by simp) rfl (fun hsm => ?_)
 simp (maxSteps := 10000000) only [go_sem, seval, reduceCtorEq, tiMo, tiMl, tiEl, kEx, frh, frz, frS, frA, frL]
 repeat' with_reducible first | apply And.intro | apply condP <;> intro _
 all_goals first | (show chk _ _ = true; kernel_rfl) | assumption | rfl | (simp only [go_sem, *] <;> rfl)
noncomputable def TkDim : Tbl := one 105 (kEx [iA 1] (bA true))
theorem TkDim_ok : TbOK Tryz.prog TkDim := kEx_ok (ent Tryz.func105 (by kernel_rfl) rfl) kS_dim
theorem kS_right : Ct Tryz.prog 66 [.v false [.sl false 4 1 [.lit (.bool false), .lit (.int .i64 0), .ws [3], .sl 1 1 [.lit (.int .i64 2)]]], iA 1] (· = bA true) := by
 have hsg : signx ⟨false, 0, [3]⟩ = 1 := by kernel_rfl
 refine ct_of (O := tblO (orT TkMono (orT TkDim Tnum_Sign))) (by kernel_rfl) tyM_ok (fun w => tblO_ok (orT_ok TkMono_ok (orT_ok TkDim_ok Tnum_Sign_ok)) _ w) [9999999, 0, 2, 8, 30, 32, 34] 600 47 [.tmp 4] Tryz.func66 rfl Tryz.ntmps66 (by rw [Tryz.results66]) (by simp) rfl (fun hsm => ?_)
 simp (maxSteps := 10000000) only [go_sem, seval, reduceCtorEq, TkMono, TkDim, Tnum_Sign, hsg, tiMo, tiMl, tiEl, kEx, frh, frz, frS, frA, frL]
 repeat' with_reducible first | apply And.intro | apply condP <;> intro _
 all_goals first | (show chk _ _ = true; kernel_rfl) | assumption | rfl | (simp only [go_sem, *] <;> rfl)
noncomputable def TkRight : Tbl := one 66 (kEx [.v false [.sl false 4 1 [.lit (.bool false), .lit (.int .i64 0), .ws [3], .sl 1 1 [.lit (.int .i64 2)]]], iA 1] (bA true))
theorem TkRight_ok : TbOK Tryz.prog TkRight := kEx_ok (ent Tryz.func66 (by kernel_rfl) rfl) kS_right
theorem se_prodZ (a b : List J) (k z : Int) (h : (0 ≤ k ∧ k ≤ 900) ∧ k.toNat < a.length ∧ k.toNat < b.length) : Gd Tryz.prog 108 [bA_ a, bA_ b, iA k, iA z] (prR z a b k.toNat) := by
 obtain ⟨n, rfl⟩ : ∃ n : Nat, k = n := ⟨k.toNat, by omega⟩
 rw [Int.toNat_natCast] at h ⊢
 exact se_prod a b n z h.2.1 h.2.2 (by omega)
noncomputable def kPrd : List AV → Option (Prop × GR) := uA asB fun a => uA asB fun b => uA asZ fun k => uA asZ fun z => uE ((0 ≤ k ∧ k ≤ 900) ∧ k.toNat < a.length ∧ k.toNat < b.length, prR z a b k.toNat)
theorem prd_ok (w : World) : OrOK Tryz.prog (gdO 108 kPrd) Fx.no w := gdO_t (ent Tryz.func108 (by kernel_rfl) rfl) (GdT.a asB_ok fun a => GdT.a asB_ok fun b => GdT.a asZ_ok fun k => GdT.a asZ_ok fun z => GdT.e fun h => se_prodZ a b k z h)
theorem kS_mon : Ct Tryz.prog 67 [.v true [.lit (.bool false), .lit (.int .i64 0), .ws [3], .sl false 1 1 [.lit (.int .i64 2)]], .v false [.sl false 1 1 [.sl 6 2 [.lit (.bool false), .lit (.int .i64 0), .ws [1], .lit (.bool false), .lit (.int .i64 0), .ws [1], .lit (.bool false), .lit (.int .i64 0), .ws [1], .lit (.bool false), .lit (.int .i64 0), .ws [1]]]], iA 1, iA 16] (· = .tup [(false, [.sl true 6 2 [.lit (.bool false), .lit (.int .i64 0), .ws [3], .lit (.bool false), .lit (.int .i64 0), .ws [3], .lit (.bool false), .lit (.int .i64 1), .ws [3], .lit (.bool false), .lit (.int .i64 1), .ws [3]]]), (false, [.lit (.int .i64 0)])]) := by
 have hp1 : prR 16 [⟨⟨false, 0, [3]⟩, ⟨false, 0, [3]⟩⟩, ⟨⟨false, 0, []⟩, ⟨false, 0, []⟩⟩] [⟨⟨false, 0, [1]⟩, ⟨false, 0, [1]⟩⟩, ⟨⟨false, 0, [1]⟩, ⟨false, 0, [1]⟩⟩] 1 = .ok ⟨2, 28, 6, [.lit (.bool false), .lit (.int .i64 0), .ws [3], .lit (.bool false), .lit (.int .i64 0), .ws [3], .lit (.bool false), .lit (.int .i64 0), .ws [3], .lit (.bool false), .lit (.int .i64 0), .ws [3]]⟩ := kS_p1
 have hp2 : prR 16 [⟨⟨false, 0, [3]⟩, ⟨false, 0, [3]⟩⟩, ⟨⟨false, 0, [3]⟩, ⟨false, 0, [3]⟩⟩] [⟨⟨false, 0, [1]⟩, ⟨false, 0, [1]⟩⟩, ⟨⟨false, 0, [1]⟩, ⟨false, 0, [1]⟩⟩] 1 = .ok ⟨2, 28, 6, [.lit (.bool false), .lit (.int .i64 0), .ws [3], .lit (.bool false), .lit (.int .i64 0), .ws [3], .lit (.bool false), .lit (.int .i64 1), .ws [3], .lit (.bool false), .lit (.int .i64 1), .ws [3]]⟩ := kS_p2
 refine ct_of (O := orO (gdO 108 kPrd) (tblO Tiv_Of)) (by kernel_rfl) tyM_ok (fun w => gdO_or (prd_ok w) (tblO_ok Tiv_Of_ok _ w) (fun _ _ _ => tblO_none fun _ => one_none (by decide))) [9999998, 41, 9999999, 2, 4, 6, 8, 9, 16, 18, 20, 33, 83, 46, 48, 50, 22, 24, 60, 62] 2000 50 [.tmp 8, .tmp 9] Tryz.func67 rfl Tryz.ntmps67 (by rw [Tryz.results67]) (by simp) rfl (fun hsm => ?_)
 simp (maxSteps := 10000000) only [go_sem, seval, reduceCtorEq, Tiv_Of, hp1, hp2, gdO, kPrd, uA, uE, grU, zJ, zX, Int.toNat_one, tiMo, tiMl, tiEl, kEx, frh, frz, frS, frA, frL]
 repeat' with_reducible first | apply And.intro | apply condP <;> intro _
 all_goals first | (show chk _ _ = true; kernel_rfl) | assumption | rfl | (simp only [go_sem, *] <;> rfl)
noncomputable def TkMon : Tbl := one 67 (kEx [.v true [.lit (.bool false), .lit (.int .i64 0), .ws [3], .sl false 1 1 [.lit (.int .i64 2)]], .v false [.sl false 1 1 [.sl 6 2 [.lit (.bool false), .lit (.int .i64 0), .ws [1], .lit (.bool false), .lit (.int .i64 0), .ws [1], .lit (.bool false), .lit (.int .i64 0), .ws [1], .lit (.bool false), .lit (.int .i64 0), .ws [1]]]], iA 1, iA 16] (.tup [(false, [.sl true 6 2 [.lit (.bool false), .lit (.int .i64 0), .ws [3], .lit (.bool false), .lit (.int .i64 0), .ws [3], .lit (.bool false), .lit (.int .i64 1), .ws [3], .lit (.bool false), .lit (.int .i64 1), .ws [3]]]), (false, [.lit (.int .i64 0)])]))
theorem TkMon_ok : TbOK Tryz.prog TkMon := kEx_ok (ent Tryz.func67 (by kernel_rfl) rfl) kS_mon
theorem kS_of : Ct Tryz.prog 30 [.v false [.sl false 4 1 [.lit (.bool false), .lit (.int .i64 0), .ws [3], .sl 1 1 [.lit (.int .i64 2)]]], .v false [.sl false 1 1 [.sl 6 2 [.lit (.bool false), .lit (.int .i64 0), .ws [1], .lit (.bool false), .lit (.int .i64 0), .ws [1], .lit (.bool false), .lit (.int .i64 0), .ws [1], .lit (.bool false), .lit (.int .i64 0), .ws [1]]]], iA 1, iA 16] (· = jeA (pt x6, 0)) := by
 have e1 : ordB 1 = true := by kernel_rfl
 have e2 : prcB 16 = true := by kernel_rfl
 have e3 : rch [⟨⟨false, 0, [1]⟩, ⟨false, 0, [1]⟩⟩, ⟨⟨false, 0, [1]⟩, ⟨false, 0, [1]⟩⟩] 1 = true := by kernel_rfl
 have e4 : addJ ⟨⟨false, 0, []⟩, ⟨false, 0, []⟩⟩ ⟨⟨false, 1, [3]⟩, ⟨false, 1, [3]⟩⟩ 16 = (⟨⟨false, 1, [3]⟩, ⟨false, 1, [3]⟩⟩, 0) := kSa06
 refine ct_of (O := tblO (orT Tse_ord (orT TkRight (orT Tse_prc (orT Tse_rch (orT TkMon Tiv_Add)))))) (by kernel_rfl) tyM_ok (fun w => tblO_ok (orT_ok Tse_ord_ok (orT_ok TkRight_ok (orT_ok Tse_prc_ok (orT_ok Tse_rch_ok (orT_ok TkMon_ok Tiv_Add_ok))))) _ w) [9999999, 0, 2, 4, 6, 16, 17, 18, 66, 68, 70, 24, 25, 90, 92, 94] 2000 79 [.cell 8 28, .tmp 9] Tryz.func30 rfl Tryz.ntmps30 (by rw [Tryz.results30]) (by simp) rfl (fun hsm => ?_)
 simp (maxSteps := 10000000) only [go_sem, seval, reduceCtorEq, Tse_ord, TkRight, Tse_prc, Tse_rch, TkMon, Tiv_Add, e1, e2, e3, e4, zJ, zX, pt, x6, tiMo, tiMl, tiEl, kEx, frh, frz, frS, frA, frL]
 repeat' with_reducible first | apply And.intro | apply condP <;> intro _
 all_goals first | (show chk _ _ = true; kernel_rfl) | assumption | rfl | (simp only [go_sem, *, pt, x6] <;> rfl)
noncomputable def TkOf : Tbl := one 30 (kEx [.v false [.sl false 4 1 [.lit (.bool false), .lit (.int .i64 0), .ws [3], .sl 1 1 [.lit (.int .i64 2)]]], .v false [.sl false 1 1 [.sl 6 2 [.lit (.bool false), .lit (.int .i64 0), .ws [1], .lit (.bool false), .lit (.int .i64 0), .ws [1], .lit (.bool false), .lit (.int .i64 0), .ws [1], .lit (.bool false), .lit (.int .i64 0), .ws [1]]]], iA 1, iA 16] (jeA (pt x6, 0)))
theorem TkOf_ok : TbOK Tryz.prog TkOf := kEx_ok (ent Tryz.func30 (by kernel_rfl) rfl) kS_of
noncomputable def Tse_Sum : Tbl := one 21 (gA asB fun a => gA asV1 fun v => gA asZ fun z => gE (a.length ≤ 1000, jeA (suZ a v z)))
theorem Tse_Sum_ok : TbOK Tryz.prog Tse_Sum := one_t (ent Tryz.func21 (by kernel_rfl) rfl) (.a asB_ok fun a => .a asV1_ok fun v => .a asZ_ok fun z => .e fun h => se_Sum a v z h)
noncomputable def Tse_Words : Tbl := one 34 (gWW fun l l1 => (l = l1, bA true))
theorem Tse_Words_ok : TbOK Tryz.prog Tse_Words := one_ok (ent Tryz.func34 (by kernel_rfl) rfl) fun args e h hp => by
 obtain ⟨l, l1, rfl, rfl⟩ := gWW_eq h
 have hp : l = l1 := hp
 subst hp
 exact ctWW rfl (fun w Al nl cl Al1 nl1 cl1 ht hl hn hl1 hn1 => (words_same w 0 w.heap.size 0 w.heap.size Al Al1 nl cl nl1 cl1 l hl.1 hl1.1 (by omega)).mono fun _ _ h => by obtain ⟨m, he, hw⟩ := h; subst hw; exact post_b ⟨he, below_drewN (Below.refl _ _) m⟩)
theorem kS_known : Ct Tryz.prog 8 [] (· = bA true) := by
 have e1 : coZ [⟨⟨false, 0, [1]⟩, ⟨false, 0, [1]⟩⟩, ⟨⟨false, 0, [1]⟩, ⟨false, 0, [1]⟩⟩] [⟨⟨false, 0, [1]⟩, ⟨false, 0, [1]⟩⟩, ⟨⟨false, 0, [1]⟩, ⟨false, 0, [1]⟩⟩] 1 16 = (pt x2, 0) := kS_coef
 have e2 : suZ [⟨⟨false, 0, [1]⟩, ⟨false, 0, [1]⟩⟩, ⟨⟨false, 0, [1]⟩, ⟨false, 0, [1]⟩⟩] ⟨⟨false, 0, [1]⟩, ⟨false, 0, [1]⟩⟩ 16 = (pt x2, 0) := kS_sum
 refine ct_of (O := orO (tblG TkOf 30) (tblO (orT Tse_Coef (orT Tse_Sum (orT Tiv_Of Tse_Words))))) (by kernel_rfl) tyM_ok (fun w => tblG_or (tblG_ok TkOf_ok) (tblO_ok (orT_ok Tse_Coef_ok (orT_ok Tse_Sum_ok (orT_ok Tiv_Of_ok Tse_Words_ok))) _ w) (fun _ _ _ => tblO_none fun _ => orT_none (one_none (by decide)) (orT_none (one_none (by decide)) (orT_none (one_none (by decide)) (one_none (by decide)))))) [] 2000 73 [.tmp 0] Tryz.func8 rfl Tryz.ntmps8 (by rw [Tryz.results8]) (by simp) rfl (fun hsm => ?_)
 simp (maxSteps := 10000000) only [go_sem, seval, reduceCtorEq, Tse_Coef, Tse_Sum, Tiv_Of, Tse_Words, TkOf, e1, e2, pt, x6, x2, x1, tblG, cvN, olN, gWW, tiMo, tiMl, tiEl, kEx, frh, frz, frS, frA, frL]
 repeat' with_reducible first | apply And.intro | apply condP <;> intro _
 all_goals first | (show chk _ _ = true; kernel_rfl) | (simp only [inW]; decide) | assumption | rfl | (simp only [go_sem, *] <;> rfl)
noncomputable def Tse_known : Tbl := one 8 (kEx [] (bA true))
theorem Tse_known_ok : TbOK Tryz.prog Tse_known := kEx_ok (ent Tryz.func8 (by kernel_rfl) rfl) kS_known
end Go.Proofs.YtobcbhppmgnioaaGreatDoor
