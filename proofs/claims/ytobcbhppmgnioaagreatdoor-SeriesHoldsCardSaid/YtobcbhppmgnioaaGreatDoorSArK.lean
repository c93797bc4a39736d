/- Coefficients of products and sums by Horner's rule hold the exact ones. No function of the program stands in it. -/
import Derived.Test.YtobcbhppmgnioaaGreatDoorSArI
import Derived.Test.YtobcbhppmgnioaaGreatDoorSAp1
namespace Go.Proofs.YtobcbhppmgnioaaGreatDoor
open Go.RowKit Nx
set_option linter.unusedVariables false
set_option linter.unusedSimpArgs false
theorem le_abs (a : Q) : -(a.e.natAbs : Int) ≤ a.e := by omega
theorem plus_assoc (a b c : Q) : plus (plus a b) c = plus a (plus b c) := by
 obtain ⟨E, hE⟩ : ∃ E : Nat, E = a.e.natAbs + b.e.natAbs + c.e.natAbs := ⟨_, rfl⟩
 have h1 : -(E : Int) ≤ a.e := by omega
 have h2 : -(E : Int) ≤ b.e := by omega
 have h3 : -(E : Int) ≤ c.e := by omega
 refine at_inj (E := E) (ofz_canon _ _) (ofz_canon _ _) (low_plus (low_plus h1 h2) h3) (low_plus h1 (low_plus h2 h3)) ?_
 rw [at_plus (low_plus h1 h2) h3, at_plus h1 h2, at_plus h1 (low_plus h2 h3), at_plus h2 h3, Int.add_assoc]
theorem times_plus (a b t : Q) : times (plus a b) t = plus (times a t) (times b t) := by
 obtain ⟨E, hE⟩ : ∃ E : Nat, E = a.e.natAbs + b.e.natAbs := ⟨_, rfl⟩
 have h1 : -(E : Int) ≤ a.e := by omega
 have h2 : -(E : Int) ≤ b.e := by omega
 have h3 := le_abs t
 refine at_inj (E := E + t.e.natAbs) (ofz_canon _ _) (ofz_canon _ _) (low_times (low_plus h1 h2) h3) (low_plus (low_times h1 h3) (low_times h2 h3)) ?_
 rw [at_times (low_plus h1 h2) h3, at_plus h1 h2, at_plus (low_times h1 h3) (low_times h2 h3), at_times h1 h3, at_times h2 h3, Int.add_mul]
theorem times_assoc (a b c : Q) : times (times a b) c = times a (times b c) := by
 have h1 := le_abs a
 have h2 := le_abs b
 have h3 := le_abs c
 have l1 := low_times (low_times h1 h2) h3
 have l2 := low_times h1 (low_times h2 h3)
 rw [← Nat.add_assoc] at l2
 refine at_inj (E := a.e.natAbs + b.e.natAbs + c.e.natAbs) (ofz_canon _ _) (ofz_canon _ _) l1 l2 ?_
 have e1 := at_times (low_times h1 h2) h3
 have e2 := at_times h1 (low_times h2 h3)
 rw [← Nat.add_assoc] at e2
 rw [e1, e2, at_times h1 h2, at_times h2 h3, Int.mul_assoc]
theorem one_qk : ofz 1 0 = ⟨false, 1, 0⟩ := by kernel_rfl
theorem times_one1 {a : Q} (hc : Canon a) : times a (ofz 1 0) = a := by
 have h1 := le_abs a
 have h0 : -((0 : Nat) : Int) ≤ (ofz 1 0).e := by rw [one_qk]; show _ ≤ (0 : Int); omega
 have := low_times h1 h0
 refine at_inj (E := a.e.natAbs + 0) (ofz_canon _ _) hc this (by omega) ?_
 rw [at_times h1 h0, one_qk]
 show _ * ((1 : Int) * 2 ^ ((0 : Int) + ((0 : Nat) : Int)).toNat) = _
 rw [show ((0 : Int) + ((0 : Nat) : Int)).toNat = 0 from rfl]
 simp
abbrev sp (f : Nat → Q) (t : Q) (m : Nat) : Q := sq f (pw t) (m + 1)
theorem sp_zero {f : Nat → Q} {t : Q} (hc : Canon (f 0)) : sp f t 0 = f 0 := by
 show plus q0 (times (f 0) (ofz 1 0)) = f 0
 rw [times_one1 hc]; exact plus_zero hc
theorem times_comm1 (a b : Q) : times a b = times b a := by unfold times; rw [Int.mul_comm, Int.add_comm]
theorem pw_one {t : Q} (hc : Canon t) : pw t 1 = t := by
 show times (ofz 1 0) t = t
 rw [times_comm1]; exact times_one1 hc
theorem sp_shift {f : Nat → Q} {t : Q} (hf : ∀ i, Canon (f i)) (ht : Canon t) (m : Nat) : sp f t (m + 1) = plus (times (sp (fun i => f (i + 1)) t m) t) (f 0) := by
 induction m with
 | zero =>
  show plus (sp f t 0) (times (f 1) (pw t 1)) = _
  rw [sp_zero (hf 0), sp_zero (f := fun i => f (i + 1)) (hf 1), pw_one ht]
  exact plus_comm _ _
 | succ m ih =>
  show plus (sp f t (m + 1)) (times (f (m + 2)) (times (pw t (m + 1)) t)) = plus (times (plus (sp (fun i => f (i + 1)) t m) (times (f (m + 2)) (pw t (m + 1)))) t) (f 0)
  rw [ih, times_plus, times_assoc, plus_assoc, plus_assoc]
  congr 1
  exact plus_comm _ _
def hr (f : Nat → Q) (t : Q) (n : Nat) : Nat → Q
 | 0 => f n
 | j + 1 => plus (times (hr f t n j) t) (f (n - 1 - j))
theorem hr_sp {f : Nat → Q} {t : Q} {n : Nat} (hf : ∀ i, Canon (f i)) (ht : Canon t) : ∀ j, j ≤ n → hr f t n j = sp (fun i => f (n - j + i)) t j := by
 intro j
 induction j with
 | zero => intro _; exact (sp_zero (f := fun i => f (n - 0 + i)) (hf _)).symm
 | succ j ih =>
  intro hj
  have e := sp_shift (f := fun i => f (n - (j + 1) + i)) (fun i => hf _) ht j
  rw [e]
  show plus (times (hr f t n j) t) (f (n - 1 - j)) = plus (times (sp (fun i => f (n - (j + 1) + (i + 1))) t j) t) (f (n - (j + 1) + 0))
  rw [ih (by omega)]
  have e1 : (fun i => f (n - (j + 1) + (i + 1))) = fun i => f (n - j + i) := funext fun i => by congr 1; omega
  rw [e1, show n - 1 - j = n - (j + 1) + 0 by omega]
theorem hr_all {f : Nat → Q} {t : Q} {n : Nat} (hf : ∀ i, Canon (f i)) (ht : Canon t) : hr f t n n = sp f t n := by
 rw [hr_sp hf ht n (Nat.le_refl _), Nat.sub_self]
 congr 1
 funext i
 rw [Nat.zero_add]
theorem Bn.up {l l' h : Nat} {q : Q} (hb : Bn l h q) (hl : l ≤ l') : Bn l' h q := by
 obtain ⟨h1, h2, h3⟩ := hb
 obtain ⟨d, rfl⟩ : ∃ d, l' = l + d := ⟨l' - l, by omega⟩
 have e : q.at (l + d) = q.at l * 2 ^ d := at_more h1
 have p : (0 : Int) ≤ 2 ^ d := Int.le_of_lt (Int.pow_pos (by omega))
 have k : (2 : Int) ^ (h + (l + d)) = 2 ^ (h + l) * 2 ^ d := by rw [← Int.pow_add]; congr 1; omega
 refine ⟨by omega, ?_, ?_⟩
 ·rw [e, k, ← Int.neg_mul]; exact Int.mul_le_mul_of_nonneg_right h2 p
 ·rw [e, k]; exact Int.mul_le_mul_of_nonneg_right h3 p
section
variable {z : Int} {v T c : J} {x t : X} {q : Q} {l h lq hq : Nat}
theorem su_step (hz : prl z = true) (gv : Good v) (nv : BnJ l h v) (mv : hasJ v (qx q) = true) (vq : Valid q) (nq : Bn lq hq q) (gT : Good T) (fT : FewJ T) (mT : hasJ T t = true) (xt : GX t) (bt : Bd 132 t.q)
  (gc : Good c) (fc : FewJ c) (mc : hasJ c x = true) (xx : GX x) (bx : Bd 132 x.q) (h16 : 16 ≤ h + 16) (hb : h + 17 + (l + 8) ≤ 3900) (hbq : hq + 264 + 1 + (lq + 132) ≤ 3900) :
  ∃ p s, mulJ v T z = (p, 0) ∧ addJ p c z = (s, 0) ∧ Good s ∧ BnJ (l + 8) (h + 16 + 1) s ∧ hasJ s (qx (plus (times q t.q) x.q)) = true ∧ Valid (plus (times q t.q) x.q) ∧ Bn (lq + 132) (hq + 264 + 1) (plus (times q t.q) x.q) := by
 obtain ⟨a1, a2, _⟩ := okJ_parts gv.1
 obtain ⟨c1, c2, _⟩ := okJ_parts gT.1
 have k1 := (ok_arg a1 gv.2.lo).1
 have k2 := (ok_arg a2 gv.2.hi).1
 have w := has_v mv
 have w1 := has_v mT
 have p3 := bn_of_bd (fewj_bd fT).1
 have p4 := bn_of_bd (fewj_bd fT).2
 have e1 : (qx q).q = q := (qx_ok vq).2.2
 have eq' : -((65536 : Nat) : Int) ≤ (qx q).q.e := ok_e (qx_ok vq).1
 have et := ok_e xt.1
 have kq := (ok_arg (qx_ok vq).1 (qx_ok vq).2.1).1
 obtain ⟨T', hT'⟩ : ∃ T', T' = times q t.q := ⟨_, rfl⟩
 have bT : Bn (lq + 132) (hq + 264) T' := by rw [hT']; exact bn_times nq (bn_of_bd bt)
 have cT : Canon T' := by rw [hT']; exact ofz_canon _ _
 have vT : Valid T' := ⟨cT, (bn_bd cT bT).fits (by omega)⟩
 have eT : T' = times (qx q).q t.q := by rw [e1]; exact hT'
 obtain ⟨p, ep, gp, np, hp⟩ := hold2 (E := 65536 + 65536) (r := T') hz (bn_least nv.1 nv.2 p3 p4) (bn_great k1 k2 nv.1 nv.2 p3 p4) (least_canon _ _ _ _) (neg_canon (least_canon _ _ _ _)) (by omega) (low_least (ok_e a1) (ok_e a2) (ok_e c1) (ok_e c2)) (low_great k1 k2 (ok_e a1) (ok_e a2) (ok_e c1) (ok_e c2)) (by rw [eT]; exact low_times eq' et) vT
  (by rw [eT, at_times eq' et]; exact least_le (ok_e a1) (ok_e a2) (ok_e c1) (ok_e c2) w.2.2.1 w.2.2.2 w1.2.2.1 w1.2.2.2)
  (by rw [eT, at_times eq' et]; exact great_ge k1 k2 kq (ok_e a1) (ok_e a2) (ok_e c1) (ok_e c2) w.2.2.1 w.2.2.2 w1.2.2.1 w1.2.2.2)
 have em : mulJ v T z = (p, 0) := by rw [mul_eq gv.2 gT.2, op2 gv.1 gT.1 hz]; exact ep
 obtain ⟨d1, d2, _⟩ := okJ_parts gp.1
 obtain ⟨f1, f2, _⟩ := okJ_parts gc.1
 have u := has_v hp
 have u1 := has_v mc
 have q1 : (qx T').q = T' := (qx_ok vT).2.2
 have lT : -((65536 : Nat) : Int) ≤ T'.e := vT.2.2.1
 have lx := ok_e xx.1
 have p5 := (bn_of_bd (fewj_bd fc).1).up (show 8 ≤ l + 8 by omega)
 have p6 := (bn_of_bd (fewj_bd fc).2).up (show 8 ≤ l + 8 by omega)
 have bN : Bn (lq + 132) (hq + 264 + 1) (plus T' x.q) := bn_plus bT (((bn_of_bd bx).up (show 132 ≤ lq + 132 by omega)).mono (show 2 * 132 ≤ hq + 264 by omega))
 have vN : Valid (plus T' x.q) := ⟨ofz_canon _ _, (bn_bd (ofz_canon _ _) bN).fits (by omega)⟩
 obtain ⟨r, er, gr, nr, hr⟩ := hold2 (E := 65536) (r := plus T' x.q) hz (bn_plus np.1 (p5.mono (show 2 * 8 ≤ h + 2 * 8 by omega))) (bn_plus np.2 (p6.mono (show 2 * 8 ≤ h + 2 * 8 by omega))) (ofz_canon _ _) (ofz_canon _ _) (by omega) (low_plus (ok_e d1) (ok_e f1)) (low_plus (ok_e d2) (ok_e f2)) (low_plus lT lx) vN
  (by rw [at_plus (ok_e d1) (ok_e f1), at_plus lT lx]; have a := u.2.2.1; have b := u1.2.2.1; unfold X.v at a b; rw [q1] at a; exact Int.add_le_add a b)
  (by rw [at_plus (ok_e d2) (ok_e f2), at_plus lT lx]; have a := u.2.2.2; have b := u1.2.2.2; unfold X.v at a b; rw [q1] at a; exact Int.add_le_add a b)
 rw [hT'] at vN bN hr
 exact ⟨p, r, em, by rw [add_eq, op0 gp.1 gc.1 hz, er], gr, nr, hr, vN, bN⟩
end
def PtB (a : List J) (x : List X) : Prop := ∀ i, i < a.length → Good (a.getD i zJ) ∧ FewJ (a.getD i zJ) ∧ GX (x.getD i zX) ∧ hasJ (a.getD i zJ) (x.getD i zX) = true ∧ Bd 132 (x.getD i zX).q
theorem makeJ_self {s : J} (h : okJ s = true) : makeJ s.lo s.hi = (s, 0) := by
 have h' : okJ ⟨s.lo, s.hi⟩ = true := h
 unfold makeJ
 rw [h']; rfl
theorem su_hold {z : Int} {a : List J} {x : List X} {h : J} {t : X} {n : Nat} (hz : prl z = true) (hn : n ≤ 5) (hl : a.length = n + 1) (hp : PtB a x) (gT : Good h) (fT : FewJ h) (mT : hasJ h t = true) (xt : GX t) (bt : Bd 132 t.q) :
  ∃ s, suS z a h n = (s, 0) ∧ Good s ∧ hasJ s (qx (hr (fun i => (x.getD i zX).q) t.q n n)) = true ∧ ∀ j, j ≤ n → Valid (hr (fun i => (x.getD i zX).q) t.q n j) ∧ Bn (132 * (j + 1)) (264 * (j + 1) + j) (hr (fun i => (x.getD i zX).q) t.q n j) := by
 have hll : (a.take n).length = n := by rw [List.length_take]; omega
 have hgd : ∀ i, i < n → (a.take n).getD i zJ = a.getD i zJ := fun i hi => by
  rw [List.getD_eq_getElem?_getD, List.getElem?_take, if_pos hi, ← List.getD_eq_getElem?_getD]
 obtain ⟨g0, f0, x0, m0, b0⟩ := hp n (by omega)
 have v0 : Valid (x.getD n zX).q := ok_arg x0.1 x0.2
 have key : ∀ j, j ≤ n → ∃ s, suN z h (a.getD n zJ) (a.take n) j = (s, 0) ∧ Good s ∧ BnJ (8 * (j + 1)) (16 * (j + 1) + j) s ∧ hasJ s (qx (hr (fun i => (x.getD i zX).q) t.q n j)) = true ∧ Valid (hr (fun i => (x.getD i zX).q) t.q n j) ∧ Bn (132 * (j + 1)) (264 * (j + 1) + j) (hr (fun i => (x.getD i zX).q) t.q n j) := by
  intro j
  induction j with
  | zero =>
   intro _
   refine ⟨_, rfl, g0, ⟨bn_of_bd (fewj_bd f0).1, bn_of_bd (fewj_bd f0).2⟩, ?_, v0, bn_of_bd b0⟩
   show hasJ _ (qx (x.getD n zX).q) = true
   rw [qx_q x0.1 x0.2]; exact m0
  | succ j ih =>
   intro hj
   obtain ⟨s, es, gs, ns, ms, vs, bs⟩ := ih (by omega)
   obtain ⟨gc, fc, xc, mc, bc⟩ := hp (n - 1 - j) (by omega)
   obtain ⟨p, r, e1, e2, gr, nr, mr, vr, br⟩ := su_step (l := 8 * (j + 1)) (h := 16 * (j + 1) + j) (lq := 132 * (j + 1)) (hq := 264 * (j + 1) + j) hz gs ns ms vs bs gT fT mT xt bt gc fc mc xc bc (by omega) (by omega) (by omega)
   refine ⟨r, ?_, gr, ⟨by have := nr.1; rwa [show 8 * (j + 1) + 8 = 8 * (j + 1 + 1) by omega, show 16 * (j + 1) + j + 16 + 1 = 16 * (j + 1 + 1) + (j + 1) by omega] at this, by have := nr.2; rwa [show 8 * (j + 1) + 8 = 8 * (j + 1 + 1) by omega, show 16 * (j + 1) + j + 16 + 1 = 16 * (j + 1 + 1) + (j + 1) by omega] at this⟩, mr, vr, by rwa [show 132 * (j + 1) + 132 = 132 * (j + 1 + 1) by omega, show 264 * (j + 1) + j + 264 + 1 = 264 * (j + 1 + 1) + (j + 1) by omega] at br⟩
   show (bif (suN z h (a.getD n zJ) (a.take n) j).2 != 0 then _ else bif (mulJ (suN z h (a.getD n zJ) (a.take n) j).1 h z).2 != 0 then _ else bif (addJ (mulJ (suN z h (a.getD n zJ) (a.take n) j).1 h z).1 ((a.take n).getD ((a.take n).length - 1 - j) zJ) z).2 != 0 then _ else ((addJ (mulJ (suN z h (a.getD n zJ) (a.take n) j).1 h z).1 ((a.take n).getD ((a.take n).length - 1 - j) zJ) z).1, 0)) = _
   rw [es, hll, hgd _ (by omega)]
   show (bif (mulJ s h z).2 != 0 then _ else bif (addJ (mulJ s h z).1 _ z).2 != 0 then _ else ((addJ (mulJ s h z).1 _ z).1, 0)) = _
   rw [e1]
   show (bif (addJ p _ z).2 != 0 then _ else ((addJ p _ z).1, 0)) = _
   rw [e2]; rfl
 obtain ⟨s, es, gs, _, ms, _⟩ := key n (Nat.le_refl _)
 refine ⟨s, ?_, gs, ms, fun j hj => by obtain ⟨_, _, _, _, _, h1, h2⟩ := key j hj; exact ⟨h1, h2⟩⟩
 unfold suS
 rw [es]
 exact makeJ_self gs.1
theorem co_tot {z : Int} {a b : List J} {k : Nat} (h : ∀ i, i ≤ k → (totN zJ (fun i => mulJ (a.getD i zJ) (b.getD (k - i) zJ) z) (fun s x => addJ s x z) (i + 1)).2 = 0) : ∀ i, i ≤ k → coN z a b k i = totN zJ (fun i => mulJ (a.getD i zJ) (b.getD (k - i) zJ) z) (fun s x => addJ s x z) (i + 1) := by
 intro i
 induction i with
 | zero =>
  intro _
  rw [totN_s (j := 0) rfl]; rfl
 | succ i ih =>
  intro hi
  have h1 := h i (by omega)
  rw [totN_s (j := i + 1) h1]
  show (bif (coN z a b k i).2 != 0 then _ else bif (mulJ (a.getD (i + 1) zJ) (b.getD (k - (i + 1)) zJ) z).2 != 0 then _ else bif (addJ (coN z a b k i).1 (mulJ (a.getD (i + 1) zJ) (b.getD (k - (i + 1)) zJ) z).1 z).2 != 0 then _ else ((addJ (coN z a b k i).1 (mulJ (a.getD (i + 1) zJ) (b.getD (k - (i + 1)) zJ) z).1 z).1, 0)) = _
  rw [ih (by omega), h1]
  rw [decide_eq_true (show 0 < i + 1 by omega)]
  rfl
theorem co_hold {z : Int} {a b : List J} {x y : List X} {k : Nat} (hz : prl z = true) (hk : k ≤ 50) (ha : a.length = k + 1) (hb : b.length = k + 1) (hx : PtB a x) (hy : PtB b y) :
  ∃ s, coN z a b k k = (s, 0) ∧ Good s ∧ hasJ s (qx (sq (fun i => (x.getD i zX).q) (fun i => (y.getD (k - i) zX).q) (k + 1))) = true ∧ ∀ i, i ≤ k + 1 → Valid (sq (fun i => (x.getD i zX).q) (fun i => (y.getD (k - i) zX).q) i) ∧ Bn 264 (528 + i) (sq (fun i => (x.getD i zX).q) (fun i => (y.getD (k - i) zX).q) i) := by
 have h := dot_hold (js := fun i => a.getD i zJ) (ks := fun i => b.getD (k - i) zJ) (xs := fun i => x.getD i zX) (ys := fun i => y.getD (k - i) zX) (n := k + 1) hz (fun i hi => by
  obtain ⟨g1, f1, x1, m1, b1⟩ := hx i (by omega)
  obtain ⟨g2, f2, x2, m2, b2⟩ := hy (k - i) (by omega)
  exact ⟨g1, f1, g2, f2, x1, x2, m1, m2, b1, b2⟩) (by omega)
 obtain ⟨s, es, gs, _, ms⟩ := (h (k + 1) (Nat.le_refl _)).2.2 (by omega)
 refine ⟨s, ?_, gs, ms, fun i hi => ⟨(h i hi).1, (h i hi).2.1⟩⟩
 rw [co_tot (fun i hi => by obtain ⟨s, e, _⟩ := (h (i + 1) (by omega)).2.2 (by omega); rw [e]) k (Nat.le_refl _), es]
end Go.Proofs.YtobcbhppmgnioaaGreatDoor
