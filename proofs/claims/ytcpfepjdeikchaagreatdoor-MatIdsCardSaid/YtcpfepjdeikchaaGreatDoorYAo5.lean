/- Some matrices that the statements know. -/
import Derived.Test.YtcpfepjdeikchaaGreatDoorYAo7
import Derived.Test.YtcpfepjdeikchaaGreatDoorYAj1
import Derived.Test.YtcpfepjdeikchaaGreatDoorYAj2
namespace Go.Proofs.YtcpfepjdeikchaaGreatDoor
open Go.RowKit Nx
set_option linter.unusedVariables false
set_option linter.unusedSimpArgs false
attribute [local irreducible] chk
noncomputable def T7_Words : Tbl := one 48 (gWW fun l l1 => (l = l1, bA true))
theorem T7_Words_ok : TbOK Tryz.prog T7_Words := one_ok (ent Tryz.func48 (by kernel_rfl) rfl) fun args e h hp => by
 obtain ⟨l, l1, rfl, rfl⟩ := gWW_eq h
 have hp : l = l1 := hp
 subst hp
 exact ctWW rfl (fun w Al nl cl Al1 nl1 cl1 ht hl hn hl1 hn1 => (words_same w 0 w.heap.size 0 w.heap.size Al Al1 nl cl nl1 cl1 l hl.1 hl1.1 (by omega)).mono fun _ _ h => by obtain ⟨m, he, hw⟩ := h; subst hw; exact post_b ⟨he, below_drewN (Below.refl _ _) m⟩)
theorem fit7 {s : Bool} {m : Nat} {e : Int} (h1 : nbits m ≤ 256) (h2 : -65536 ≤ e) (h3 : e ≤ 65536) : Fits ⟨s, m, e⟩ := fits_few h1 h2 h3
theorem end7 {a b : Q} (fa : Fits a) (fb : Fits b) : endsQ a b = (⟨qx a, qx b⟩, 0) := by unfold endsQ; rw [res_ok fa, res_ok fb]; rfl
abbrev x0 : X := ⟨false, 0, []⟩
abbrev x1 : X := ⟨false, 0, [1]⟩
abbrev x2 : X := ⟨false, 1, [1]⟩
abbrev x4 : X := ⟨false, 2, [1]⟩
abbrev x5 : X := ⟨false, 0, [5]⟩
abbrev pt (x : X) : J := ⟨x, x⟩
theorem k7m11 : mulJ (pt x1) (pt x1) 16 = (pt x1, 0) := by
 rw [mul_eq ⟨small1 (by decide), small1 (by decide)⟩ ⟨small1 (by decide), small1 (by decide)⟩, show opQ 2 (pt x1) (pt x1) 16 = endsQ ⟨false, 1, 0⟩ ⟨false, 1, 0⟩ by kernel_rfl, end7 (fit7 (by decide) (by decide) (by decide)) (fit7 (by decide) (by decide) (by decide))]
 kernel_rfl
theorem k7m12 : mulJ (pt x1) (pt x2) 16 = (pt x2, 0) := by
 rw [mul_eq ⟨small1 (by decide), small1 (by decide)⟩ ⟨small1 (by decide), small1 (by decide)⟩, show opQ 2 (pt x1) (pt x2) 16 = endsQ ⟨false, 1, 1⟩ ⟨false, 1, 1⟩ by kernel_rfl, end7 (fit7 (by decide) (by decide) (by decide)) (fit7 (by decide) (by decide) (by decide))]
 kernel_rfl
theorem k7m10 : mulJ (pt x1) (pt x0) 16 = (pt x0, 0) := by
 rw [mul_eq ⟨small1 (by decide), small1 (by decide)⟩ ⟨Small.nil, Small.nil⟩, show opQ 2 (pt x1) (pt x0) 16 = endsQ ⟨false, 0, 0⟩ ⟨false, 0, 0⟩ by kernel_rfl, end7 (fit7 (by decide) (by decide) (by decide)) (fit7 (by decide) (by decide) (by decide))]
 kernel_rfl
theorem k7m20 : mulJ (pt x2) (pt x0) 16 = (pt x0, 0) := by
 rw [mul_eq ⟨small1 (by decide), small1 (by decide)⟩ ⟨Small.nil, Small.nil⟩, show opQ 2 (pt x2) (pt x0) 16 = endsQ ⟨false, 0, 0⟩ ⟨false, 0, 0⟩ by kernel_rfl, end7 (fit7 (by decide) (by decide) (by decide)) (fit7 (by decide) (by decide) (by decide))]
 kernel_rfl
theorem k7m21 : mulJ (pt x2) (pt x1) 16 = (pt x2, 0) := by
 rw [mul_eq ⟨small1 (by decide), small1 (by decide)⟩ ⟨small1 (by decide), small1 (by decide)⟩, show opQ 2 (pt x2) (pt x1) 16 = endsQ ⟨false, 1, 1⟩ ⟨false, 1, 1⟩ by kernel_rfl, end7 (fit7 (by decide) (by decide) (by decide)) (fit7 (by decide) (by decide) (by decide))]
 kernel_rfl
theorem k7m01 : mulJ (pt x0) (pt x1) 16 = (pt x0, 0) := by
 rw [mul_eq ⟨Small.nil, Small.nil⟩ ⟨small1 (by decide), small1 (by decide)⟩, show opQ 2 (pt x0) (pt x1) 16 = endsQ ⟨false, 0, 0⟩ ⟨false, 0, 0⟩ by kernel_rfl, end7 (fit7 (by decide) (by decide) (by decide)) (fit7 (by decide) (by decide) (by decide))]
 kernel_rfl
theorem k7m02 : mulJ (pt x0) (pt x2) 16 = (pt x0, 0) := by
 rw [mul_eq ⟨Small.nil, Small.nil⟩ ⟨small1 (by decide), small1 (by decide)⟩, show opQ 2 (pt x0) (pt x2) 16 = endsQ ⟨false, 0, 0⟩ ⟨false, 0, 0⟩ by kernel_rfl, end7 (fit7 (by decide) (by decide) (by decide)) (fit7 (by decide) (by decide) (by decide))]
 kernel_rfl
theorem k7m22 : mulJ (pt x2) (pt x2) 16 = (pt x4, 0) := by
 rw [mul_eq ⟨small1 (by decide), small1 (by decide)⟩ ⟨small1 (by decide), small1 (by decide)⟩, show opQ 2 (pt x2) (pt x2) 16 = endsQ ⟨false, 1, 2⟩ ⟨false, 1, 2⟩ by kernel_rfl, end7 (fit7 (by decide) (by decide) (by decide)) (fit7 (by decide) (by decide) (by decide))]
 kernel_rfl
theorem k7a10 : addJ (pt x1) (pt x0) 16 = (pt x1, 0) := by
 rw [add_eq, show opQ 0 (pt x1) (pt x0) 16 = endsQ ⟨false, 1, 0⟩ ⟨false, 1, 0⟩ by kernel_rfl, end7 (fit7 (by decide) (by decide) (by decide)) (fit7 (by decide) (by decide) (by decide))]
 kernel_rfl
theorem k7a22 : addJ (pt x2) (pt x2) 16 = (pt x4, 0) := by
 rw [add_eq, show opQ 0 (pt x2) (pt x2) 16 = endsQ ⟨false, 1, 2⟩ ⟨false, 1, 2⟩ by kernel_rfl, end7 (fit7 (by decide) (by decide) (by decide)) (fit7 (by decide) (by decide) (by decide))]
 kernel_rfl
theorem k7a00 : addJ (pt x0) (pt x0) 16 = (pt x0, 0) := by
 rw [add_eq, show opQ 0 (pt x0) (pt x0) 16 = endsQ ⟨false, 0, 0⟩ ⟨false, 0, 0⟩ by kernel_rfl, end7 (fit7 (by decide) (by decide) (by decide)) (fit7 (by decide) (by decide) (by decide))]
 kernel_rfl
theorem k7a01 : addJ (pt x0) (pt x1) 16 = (pt x1, 0) := by
 rw [add_eq, show opQ 0 (pt x0) (pt x1) 16 = endsQ ⟨false, 1, 0⟩ ⟨false, 1, 0⟩ by kernel_rfl, end7 (fit7 (by decide) (by decide) (by decide)) (fit7 (by decide) (by decide) (by decide))]
 kernel_rfl
theorem k7a14 : addJ (pt x1) (pt x4) 16 = (pt x5, 0) := by
 rw [add_eq, show opQ 0 (pt x1) (pt x4) 16 = endsQ ⟨false, 5, 0⟩ ⟨false, 5, 0⟩ by kernel_rfl, end7 (fit7 (by decide) (by decide) (by decide)) (fit7 (by decide) (by decide) (by decide))]
 kernel_rfl
theorem k7a02 : addJ (pt x0) (pt x2) 16 = (pt x2, 0) := by
 rw [add_eq, show opQ 0 (pt x0) (pt x2) 16 = endsQ ⟨false, 1, 1⟩ ⟨false, 1, 1⟩ by kernel_rfl, end7 (fit7 (by decide) (by decide) (by decide)) (fit7 (by decide) (by decide) (by decide))]
 kernel_rfl
theorem k7a11 : addJ (pt x1) (pt x1) 16 = (pt x2, 0) := by
 rw [add_eq, show opQ 0 (pt x1) (pt x1) 16 = endsQ ⟨false, 1, 1⟩ ⟨false, 1, 1⟩ by kernel_rfl, end7 (fit7 (by decide) (by decide) (by decide)) (fit7 (by decide) (by decide) (by decide))]
 kernel_rfl
theorem k7a20 : addJ (pt x2) (pt x0) 16 = (pt x2, 0) := by
 rw [add_eq, show opQ 0 (pt x2) (pt x0) 16 = endsQ ⟨false, 1, 1⟩ ⟨false, 1, 1⟩ by kernel_rfl, end7 (fit7 (by decide) (by decide) (by decide)) (fit7 (by decide) (by decide) (by decide))]
 kernel_rfl
theorem k7s21 : subJ (pt x2) (pt x1) 16 = (pt x1, 0) := by
 rw [sub_eq, show opQ 1 (pt x2) (pt x1) 16 = endsQ ⟨false, 1, 0⟩ ⟨false, 1, 0⟩ by kernel_rfl, end7 (fit7 (by decide) (by decide) (by decide)) (fit7 (by decide) (by decide) (by decide))]
 kernel_rfl
theorem k7s20 : subJ (pt x2) (pt x0) 16 = (pt x2, 0) := by
 rw [sub_eq, show opQ 1 (pt x2) (pt x0) 16 = endsQ ⟨false, 1, 1⟩ ⟨false, 1, 1⟩ by kernel_rfl, end7 (fit7 (by decide) (by decide) (by decide)) (fit7 (by decide) (by decide) (by decide))]
 kernel_rfl
theorem k7s00 : subJ (pt x0) (pt x0) 16 = (pt x0, 0) := by
 rw [sub_eq, show opQ 1 (pt x0) (pt x0) 16 = endsQ ⟨false, 0, 0⟩ ⟨false, 0, 0⟩ by kernel_rfl, end7 (fit7 (by decide) (by decide) (by decide)) (fit7 (by decide) (by decide) (by decide))]
 kernel_rfl
theorem k7d0 : midX (pt x0) 16 = (x0, 0) := by
 rw [mid_eq ⟨Small.nil, Small.nil⟩]
 unfold rmid
 rw [show rnd (Int.toNat 16) false (hlf (plus (pt x0).lo.q (pt x0).hi.q)) = ⟨false, 0, 0⟩ by kernel_rfl, res_ok (fit7 (by decide) (by decide) (by decide))]
 kernel_rfl
theorem k7d1 : midX (pt x1) 16 = (x1, 0) := by
 rw [mid_eq ⟨small1 (by decide), small1 (by decide)⟩]
 unfold rmid
 rw [show rnd (Int.toNat 16) false (hlf (plus (pt x1).lo.q (pt x1).hi.q)) = ⟨false, 1, 0⟩ by kernel_rfl, res_ok (fit7 (by decide) (by decide) (by decide))]
 kernel_rfl
theorem k7d2 : midX (pt x2) 16 = (x2, 0) := by
 rw [mid_eq ⟨small1 (by decide), small1 (by decide)⟩]
 unfold rmid
 rw [show rnd (Int.toNat 16) false (hlf (plus (pt x2).lo.q (pt x2).hi.q)) = ⟨false, 1, 1⟩ by kernel_rfl, res_ok (fit7 (by decide) (by decide) (by decide))]
 kernel_rfl
def mA2 : List (List J) := [[pt x1, pt x2], [pt x0, pt x1]]
def mP2 : List (List J) := [[pt x1, pt x4], [pt x0, pt x1]]
def mI2 : List (List J) := [[pt x1, pt x0], [pt x0, pt x1]]
def mS2 : List (List J) := [[pt x2, pt x2], [pt x0, pt x2]]
def mU2 : List (List J) := [[pt x2, pt x4], [pt x0, pt x2]]
def tblD (T : Tbl) (g : FuncId) : Orac := fun f d st args => if f = g then (match args with
 | [.v false [.osl b n]] => (match look st (2 * b + 1) with
  | some (.v _ ls) => (match dnL (ls.map (cvL st)) with
   | some ks => if ls.length = n * (ls.length / n) then (match T f [.v false [.sl false (ls.length / n) n ks]] with
    | some e => some (e.1, (2 * b + 1) :: ls.flatMap olL, [(2 * d, e.2)])
    | none => none) else none
   | none => none)
  | _ => none)
 | _ => none) else none
theorem dnL_no : ∀ {ls : List Lf} {ks : List Lc}, dnL ls = some ks → ls.all noO = true := by
 intro ls
 induction ls with
 | nil => intro ks _; rfl
 | cons l ls ih =>
  intro ks h
  cases l <;> simp only [dnL] at h <;> first | (cases h; done) | (split at h <;> first | (cases h; done) | (rename_i k hk; rw [List.all_cons, ih hk]; rfl))
theorem tblD_ok {T : Tbl} {g : FuncId} {w0 : World} (h : TbOK Tryz.prog T) : OrOK Tryz.prog (tblD T g) (fun _ => False) w0 := by
 have inv : ∀ f d st args e, tblD T g f d st args = some e → ∃ b n m ls ks q, args = [.v false [.osl b n]] ∧ look st (2 * b + 1) = some (.v m ls) ∧ dnL (ls.map (cvL st)) = some ks ∧ ls.length = n * (ls.length / n) ∧ T f [.v false [.sl false (ls.length / n) n ks]] = some q ∧ e = (q.1, (2 * b + 1) :: ls.flatMap olL, [(2 * d, q.2)]) := by
  intro f d st args e he
  unfold tblD at he
  split at he
  case isFalse => cases he
  split at he
  case h_2 => cases he
  rename_i b n
  split at he
  case h_2 => cases he
  rename_i m ls hl
  split at he
  case h_2 => cases he
  rename_i ks hk
  split at he
  case isFalse => cases he
  rename_i hn
  split at he
  case h_2 => cases he
  rename_i q hq
  injection he with he
  exact ⟨b, n, m, ls, ks, q, rfl, hl, hk, hn, hq, he.symm⟩
 refine ⟨fun f d st args e he => ?_, fun f d st args e he hp N ρ a w us hz hd hA => ?_, fun f d st st' args e he hkk => ?_⟩
 ·obtain ⟨b, n, m, ls, ks, q, _, _, _, _, hq, _⟩ := inv _ _ _ _ _ he
  exact h.enters f _ q hq
 ·obtain ⟨b, n, m, ls, ks, q, rfl, hl, hk, hn, hq, rfl⟩ := inv _ _ _ _ _ he
  obtain ⟨u, r, rfl, hu, hr⟩ := hA
  have hu : (Lf.osl b n).R ρ (dom st) w u := RL.one.1 hu
  have hA2 : RA ρ.no (fun _ => false) w [.v false [.sl false (ls.length / n) n ks]] (u :: r) := by
   refine ⟨u, r, rfl, RL.one.2 ?_, hr⟩
   obtain ⟨hdb, hu⟩ := hu
   obtain ⟨g0, ls0, T0, cs, e0, hB, hr0, ho0, hg⟩ := hz.mv hl
   injection e0 with e1 e0; subst e0
   have hlen := hr0.len
   rw [Array.length_toList] at hlen
   have hkl := dn_len hk
   rw [List.length_map] at hkl
   refine ⟨by rw [hkl]; exact hn, _, n, hu, Nat.le_refl _, .inr ⟨⟨ρ b, 0, none⟩, T0, cs, rfl, rfl, ⟨no_sep, fun e => (by cases e)⟩, hB.wb, ?_, ?_⟩⟩
   ·show 0 + ks.length ≤ cs.size; omega
   ·show LcL _ w ks ((cs.toList.drop 0).take ks.length)
    rw [List.drop_zero, List.take_of_length_le (by rw [Array.length_toList]; omega)]
    exact dn_R (fun g hg => ⟨hg, fun e => (by cases e)⟩) hk (cv_RL hz hr0 (dnL_no hk))
  refine (h.ct f _ q hq hp ρ.no (fun _ => false) w _ (hz.tb.tab hz.bel) hA2).mono ?_
  rintro en w' ⟨v, r0, rfl, rfl, hc, hR, hb⟩
  exact ⟨v, ρ, rfl, hz.val hb hd (hR _ _ hz.old)⟩
 ·obtain ⟨b, n, m, ls, ks, q, rfl, hl, hk, hn, hq, rfl⟩ := inv _ _ _ _ _ he
  have hm : ls.map (cvL st') = ls.map (cvL st) := List.map_congr_left fun l hl' => cvL_congr fun k hk' => hkk k (List.mem_cons_of_mem _ (List.mem_flatMap.2 ⟨l, hl', hk'⟩))
  rw [← he]
  unfold tblD
  simp only [hkk (2 * b + 1) (List.mem_cons_self ..), hl, hm]
theorem tblD_or {T : Tbl} {g : FuncId} {B : Orac} {w0 : World} (hA : OrOK Tryz.prog (tblD T g) (fun _ => False) w0) (hB : OrOK Tryz.prog B (fun _ => False) w0) (hn : ∀ d st args, B g d st args = none) : OrOK Tryz.prog (orO (tblD T g) B) (fun _ => False) w0 :=
 orO_ok hA hB fun f d st args e he st' => by
  unfold tblD
  split
  ·rename_i h; subst h; rw [hn] at he; cases he
  ·rfl
theorem two_each {α : Type} {F : Nat → α × Int} {x y : α} (h0 : F 0 = (x, 0)) (h1 : F 1 = (y, 0)) : eachN F 2 = ([x, y], 0) := by
 rw [eachN_ok (F := F) (j := 1) (by rw [eachN_ok (F := F) (j := 0) rfl (by rw [h0])]) (by rw [h1]), eachN_ok (F := F) (j := 0) rfl (by rw [h0]), h0, h1]; rfl
theorem two_tot {α : Type} {z : α} {F : Nat → α × Int} {add : α → α → α × Int} {x y s : α} (h0 : F 0 = (x, 0)) (h1 : F 1 = (y, 0)) (h2 : add x y = (s, 0)) : totN z F add 2 = (s, 0) := by
 have e : totN z F add 1 = (x, 0) := by rw [totN_s (j := 0) rfl, h0]; rfl
 rw [totN_s (j := 1) (by rw [e]), e, h1]
 show (bif (add x y).2 != 0 then (z, (add x y).2) else ((add x y).1, 0)) = _
 rw [h2]; rfl
theorem two_one {α : Type} {φ : J → α × Int} {l : List J} {x y : α} (hr : rightB l = true) (hl : l.length = 2) (h0 : φ (l.getD 0 zJ) = (x, 0)) (h1 : φ (l.getD 1 zJ) = (y, 0)) : oneN φ l = ([x, y], 0) := by
 unfold oneN; rw [hr, hl]; exact two_each h0 h1
theorem two_pair {α : Type} {φ : J → J → α × Int} {l m : List J} {x y : α} (hr : rightB l = true) (hm : rightB m = true) (hl : l.length = 2) (hk : m.length = 2) (h0 : φ (l.getD 0 zJ) (m.getD 0 zJ) = (x, 0)) (h1 : φ (l.getD 1 zJ) (m.getD 1 zJ) = (y, 0)) : pairN φ l m = ([x, y], 0) := by
 unfold pairN; rw [hr, hm, hl, hk]; exact two_each h0 h1
theorem k7_mul : frm (okMM mA2 mA2 16) (eachN (fun i => eachN (fun j => totN zJ (fun k => mulJ (at2 mA2 i k) (at2 mA2 k j) 16) (fun s x => addJ s x 16) mA2.length) mA2.length) mA2.length) = (mP2, 0) := by
 rw [show okMM mA2 mA2 16 = true by kernel_rfl]
 exact two_each (two_each (two_tot k7m11 k7m20 k7a10) (two_tot k7m12 k7m21 k7a22)) (two_each (two_tot k7m01 k7m10 k7a00) (two_tot k7m02 k7m11 k7a01))
theorem k7_add : frm (okMM mA2 mI2 16) (eachN (fun i => pairN (fun x y => addJ x y 16) (mA2.getD i []) (mI2.getD i [])) mA2.length) = (mS2, 0) := by
 rw [show okMM mA2 mI2 16 = true by kernel_rfl]
 exact two_each (two_pair (by kernel_rfl) (by kernel_rfl) rfl rfl k7a11 k7a20) (two_pair (by kernel_rfl) (by kernel_rfl) rfl rfl k7a00 k7a11)
theorem k7_sub : frm (okMM mS2 mI2 16) (eachN (fun i => pairN (fun x y => subJ x y 16) (mS2.getD i []) (mI2.getD i [])) mS2.length) = (mA2, 0) := by
 rw [show okMM mS2 mI2 16 = true by kernel_rfl]
 exact two_each (two_pair (by kernel_rfl) (by kernel_rfl) rfl rfl k7s21 k7s20) (two_pair (by kernel_rfl) (by kernel_rfl) rfl rfl k7s00 k7s21)
theorem k7_tim : frm (bif okJ (pt x2) then okM mA2 16 else false) (eachN (fun i => oneN (fun y => mulJ (pt x2) y 16) (mA2.getD i [])) mA2.length) = (mU2, 0) := by
 rw [show (bif okJ (pt x2) then okM mA2 16 else false) = true by kernel_rfl]
 exact two_each (two_one (by kernel_rfl) rfl k7m21 k7m22) (two_one (by kernel_rfl) rfl k7m20 k7m21)
theorem k7_mid : frm (okM mA2 16) (eachN (fun i => oneN (fun y => midX y 16) (mA2.getD i [])) mA2.length) = ([[x1, x2], [x0, x1]], 0) := by
 rw [show okM mA2 16 = true by kernel_rfl]
 exact two_each (two_one (by kernel_rfl) rfl k7d1 k7d2) (two_one (by kernel_rfl) rfl k7d0 k7d1)
theorem k7_vec : frm (okV mA2 [pt x1, pt x2] 16) (eachN (fun i => totN zJ (fun k => mulJ (at2 mA2 i k) ([pt x1, pt x2].getD k zJ) 16) (fun s x => addJ s x 16) mA2.length) mA2.length) = ([pt x5, pt x2], 0) := by
 rw [show okV mA2 [pt x1, pt x2] 16 = true by kernel_rfl]
 exact two_each (two_tot k7m11 k7m22 k7a14) (two_tot k7m01 k7m12 k7a02)
theorem k7_up {a b : X} {q : Q} (ha : a.ok = true) (hb : b.ok = true) (hr : rnd (Int.toNat 16) true (plus a.q b.q) = q) (hq : Fits q) : upX 16 a b = (qx q, 0) := by
 unfold upX
 rw [rtwo_ok ha hb (by kernel_rfl)]
 unfold gadd
 rw [hr, res_ok hq]
theorem k7_grt : grt ([⟨false, 0, [3]⟩, x1], 0) = (⟨false, 0, [3]⟩, 0) := by kernel_rfl
theorem k7_norm : normM mA2 16 = (⟨false, 0, [3]⟩, 0) := by
 unfold normM
 rw [show okM mA2 16 = true by kernel_rfl, cond_true]
 have h1 : upX 16 x1 x2 = (⟨false, 0, [3]⟩, 0) := (k7_up (q := ⟨false, 3, 0⟩) (by kernel_rfl) (by kernel_rfl) (by kernel_rfl) (fit7 (by decide) (by decide) (by decide))).trans (by kernel_rfl)
 have h2 : upX 16 x0 x1 = (x1, 0) := (k7_up (q := ⟨false, 1, 0⟩) (by kernel_rfl) (by kernel_rfl) (by kernel_rfl) (fit7 (by decide) (by decide) (by decide))).trans (by kernel_rfl)
 have e0 : totN zX (fun k => (magJ (at2 mA2 0 k), 0)) (upX 16) 2 = (⟨false, 0, [3]⟩, 0) := two_tot (x := x1) (y := x2) (by kernel_rfl) (by kernel_rfl) h1
 have e1 : totN zX (fun k => (magJ (at2 mA2 1 k), 0)) (upX 16) 2 = (x1, 0) := two_tot (x := x0) (y := x1) (by kernel_rfl) (by kernel_rfl) h2
 have e2 : eachN (fun i => totN zX (fun k => (magJ (at2 mA2 i k), 0)) (upX 16) mA2.length) mA2.length = ([⟨false, 0, [3]⟩, x1], 0) := two_each (F := fun i => totN zX (fun k => (magJ (at2 mA2 i k), 0)) (upX 16) 2) e0 e1
 rw [e2]
 exact k7_grt
theorem k7_id : idM 2 = mI2 := by kernel_rfl
theorem k7_in : inM mA2 mA2 = true := by kernel_rfl
theorem k7_same : sameM mA2 mA2 = true := by kernel_rfl
theorem k7_r : rightM mA2 = true := by kernel_rfl
theorem Tm_OfC (a : List (List X)) (h0 : 1 ≤ a.length) (h1 : a.length ≤ 100) (h2 : ∀ r ∈ a, r.length ≤ 100) : Ct Tryz.prog 26 [qA_ a] (· = .s (.sl true 1 (a.map poi).length ((a.map poi).map rC))) := mt_of1 a h0 h1 h2
noncomputable def TkOf : Tbl := one 26 (gA asQ fun a => gE (a = [[x1, x2], [x0, x1]], .s (mL mA2)))
theorem TkOf_ok : TbOK Tryz.prog TkOf := one_t (ent Tryz.func26 (by kernel_rfl) rfl) (.a asQ_ok fun a => .e fun h => by subst h; exact Tm_OfC [[x1, x2], [x0, x1]] (by decide) (by decide) (by decide))
noncomputable def TkMul : Tbl := one 28 (gA asM fun a => gA asM fun b => gA asZ fun p => gE (a = mA2 ∧ b = mA2 ∧ p = 16, .tup [(false, [.sl true 1 2 [.sl 6 2 [.lit (.bool false), .lit (.int .i64 0), .ws [1], .lit (.bool false), .lit (.int .i64 0), .ws [1], .lit (.bool false), .lit (.int .i64 2), .ws [1], .lit (.bool false), .lit (.int .i64 2), .ws [1]], .sl 6 2 [.lit (.bool false), .lit (.int .i64 0), .ws [], .lit (.bool false), .lit (.int .i64 0), .ws [], .lit (.bool false), .lit (.int .i64 0), .ws [1], .lit (.bool false), .lit (.int .i64 0), .ws [1]]]]), (false, [.lit (.int .i64 0)])]))
theorem TkMul_ok : TbOK Tryz.prog TkMul := one_t (ent Tryz.func28 (by kernel_rfl) rfl) (.a asM_ok fun a => .a asM_ok fun b => .a asZ_ok fun p => .e fun h => by
 obtain ⟨rfl, rfl, rfl⟩ := h
 have := mMul mA2 mA2 16
 rw [k7_mul] at this; exact this)
noncomputable def TkAdd : Tbl := one 43 (gA asM fun a => gA asM fun b => gA asZ fun p => gE (a = mA2 ∧ b = mI2 ∧ p = 16, mxe (mS2, 0)))
theorem TkAdd_ok : TbOK Tryz.prog TkAdd := one_t (ent Tryz.func43 (by kernel_rfl) rfl) (.a asM_ok fun a => .a asM_ok fun b => .a asZ_ok fun p => .e fun h => by
 obtain ⟨rfl, rfl, rfl⟩ := h
 have := mAdd mA2 mI2 16
 rw [k7_add] at this; exact this)
noncomputable def TkSub : Tbl := one 44 (gA asM fun a => gA asM fun b => gA asZ fun p => gE (a = mS2 ∧ b = mI2 ∧ p = 16, mxe (mA2, 0)))
theorem TkSub_ok : TbOK Tryz.prog TkSub := one_t (ent Tryz.func44 (by kernel_rfl) rfl) (.a asM_ok fun a => .a asM_ok fun b => .a asZ_ok fun p => .e fun h => by
 obtain ⟨rfl, rfl, rfl⟩ := h
 have := mSub mS2 mI2 16
 rw [k7_sub] at this; exact this)
noncomputable def TkTim : Tbl := one 45 (gA asV1 fun x => gA asM fun a => gA asZ fun p => gE (x = pt x2 ∧ a = mA2 ∧ p = 16, .tup [(false, [.sl true 1 2 [.sl 6 2 [.lit (.bool false), .lit (.int .i64 1), .ws [1], .lit (.bool false), .lit (.int .i64 1), .ws [1], .lit (.bool false), .lit (.int .i64 2), .ws [1], .lit (.bool false), .lit (.int .i64 2), .ws [1]], .sl 6 2 [.lit (.bool false), .lit (.int .i64 0), .ws [], .lit (.bool false), .lit (.int .i64 0), .ws [], .lit (.bool false), .lit (.int .i64 1), .ws [1], .lit (.bool false), .lit (.int .i64 1), .ws [1]]]]), (false, [.lit (.int .i64 0)])]))
theorem TkTim_ok : TbOK Tryz.prog TkTim := one_t (ent Tryz.func45 (by kernel_rfl) rfl) (.a asV1_ok fun x => .a asM_ok fun a => .a asZ_ok fun p => .e fun h => by
 obtain ⟨rfl, rfl, rfl⟩ := h
 have := mTim (pt x2) mA2 16
 rw [k7_tim] at this; exact this)
noncomputable def TkMid : Tbl := one 47 (gA asM fun a => gA asZ fun p => gE (a = mA2 ∧ p = 16, .tup [(false, [.sl true 1 2 [.sl 3 2 [.lit (.bool false), .lit (.int .i64 0), .ws [1], .lit (.bool false), .lit (.int .i64 1), .ws [1]], .sl 3 2 [.lit (.bool false), .lit (.int .i64 0), .ws [], .lit (.bool false), .lit (.int .i64 0), .ws [1]]]]), (false, [.lit (.int .i64 0)])]))
theorem TkMid_ok : TbOK Tryz.prog TkMid := one_t (ent Tryz.func47 (by kernel_rfl) rfl) (.a asM_ok fun a => .a asZ_ok fun p => .e fun h => by
 obtain ⟨rfl, rfl⟩ := h
 have := mMid mA2 16
 rw [k7_mid] at this; exact this)
noncomputable def TkVec : Tbl := one 29 (gA asM fun a => gA asB fun b => gA asZ fun p => gE (a = mA2 ∧ b = [pt x1, pt x2] ∧ p = 16, .tup [(false, [.sl true 6 2 [.lit (.bool false), .lit (.int .i64 0), .ws [5], .lit (.bool false), .lit (.int .i64 0), .ws [5], .lit (.bool false), .lit (.int .i64 1), .ws [1], .lit (.bool false), .lit (.int .i64 1), .ws [1]]]), (false, [.lit (.int .i64 0)])]))
theorem TkVec_ok : TbOK Tryz.prog TkVec := one_t (ent Tryz.func29 (by kernel_rfl) rfl) (.a asM_ok fun a => .a asB_ok fun b => .a asZ_ok fun p => .e fun h => by
 obtain ⟨rfl, rfl, rfl⟩ := h
 have := mVec mA2 [pt x1, pt x2] 16
 rw [k7_vec] at this; exact this)
noncomputable def TkNrm : Tbl := one 36 (gA asM fun a => gA asZ fun p => gE (a = mA2 ∧ p = 16, .tup [(true, [.lit (.bool false), .lit (.int .i64 0), .ws [3]]), (false, [.lit (.int .i64 0)])]))
theorem TkNrm_ok : TbOK Tryz.prog TkNrm := one_t (ent Tryz.func36 (by kernel_rfl) rfl) (.a asM_ok fun a => .a asZ_ok fun p => .e fun h => by
 obtain ⟨rfl, rfl⟩ := h
 have := mNrm mA2 16
 rw [k7_norm] at this; exact this)
noncomputable def TkId : Tbl := one 15 (gA asZ fun z => gE (z = 2, .s (mL mI2)))
theorem TkId_ok : TbOK Tryz.prog TkId := one_t (ent Tryz.func15 (by kernel_rfl) rfl) (.a asZ_ok fun z => .e fun h => by
 subst h
 have := mId1 2 (by kernel_rfl)
 rw [k7_id] at this; exact this)
noncomputable def TkBof : Tbl := one 42 (gA asP fun l => gE (l = [x1, x2], .s (.sl true 6 2 [.lit (.bool false), .lit (.int .i64 0), .ws [1], .lit (.bool false), .lit (.int .i64 0), .ws [1], .lit (.bool false), .lit (.int .i64 1), .ws [1], .lit (.bool false), .lit (.int .i64 1), .ws [1]])))
theorem TkBof_ok : TbOK Tryz.prog TkBof := one_t (ent Tryz.func42 (by kernel_rfl) rfl) (.a asP_ok fun l => .e fun h => by subst h; exact bx_of1 [x1, x2] (by decide) (by decide))
noncomputable def TkSame : Tbl := one 11 (gA asM fun a => gA asM fun b => gE (a = mA2 ∧ b = mA2, bA true))
theorem TkSame_ok : TbOK Tryz.prog TkSame := one_t (ent Tryz.func11 (by kernel_rfl) rfl) (.a asM_ok fun a => .a asM_ok fun b => .e fun h => by
 obtain ⟨rfl, rfl⟩ := h
 have := mt_same mA2 mA2 (by decide)
 rw [k7_same] at this; exact this)
noncomputable def TkRight : Tbl := one 9 (gA asM fun a => gE (a = mA2, bA true))
theorem TkRight_ok : TbOK Tryz.prog TkRight := one_t (ent Tryz.func9 (by kernel_rfl) rfl) (.a asM_ok fun a => .e fun h => by
 subst h
 have := m_right mA2
 rw [k7_r] at this; exact this)
noncomputable def TkIn : Tbl := one 13 (gA asM fun a => gA asM fun b => gE (a = mA2 ∧ b = mA2, bA true))
theorem TkIn_ok : TbOK Tryz.prog TkIn := one_t (ent Tryz.func13 (by kernel_rfl) rfl) (.a asM_ok fun a => .a asM_ok fun b => .e fun h => by
 obtain ⟨rfl, rfl⟩ := h
 have := mt_in mA2 mA2 (by decide)
 rw [k7_in] at this; exact this)
attribute [local irreducible] mA2 mS2 mI2
set_option maxRecDepth 100000 in
set_option maxHeartbeats 4000000 in
theorem l7_known  : Ct Tryz.prog 7 [] (· = bA true) := by
 refine ct_of (O := orO (tblD TkOf 26) (tblO (orT TkMul (orT TkNrm (orT TkBof (orT TkVec (orT TkId (orT TkAdd (orT TkSub (orT Tiv_Of (orT TkTim (orT TkMid (orT T7_Words (orT TkSame (orT TkRight TkIn))))))))))))))) (by kernel_rfl) tyM_ok (fun w => tblD_or (tblD_ok TkOf_ok) (tblO_ok (orT_ok TkMul_ok (orT_ok TkNrm_ok (orT_ok TkBof_ok (orT_ok TkVec_ok (orT_ok TkId_ok (orT_ok TkAdd_ok (orT_ok TkSub_ok (orT_ok Tiv_Of_ok (orT_ok TkTim_ok (orT_ok TkMid_ok (orT_ok T7_Words_ok (orT_ok TkSame_ok (orT_ok TkRight_ok TkIn_ok))))))))))))) _ w) (fun _ _ _ => tblO_none fun _ => orT_none (one_none (by decide)) (orT_none (one_none (by decide)) (orT_none (one_none (by decide)) (orT_none (one_none (by decide)) (orT_none (one_none (by decide)) (orT_none (one_none (by decide)) (orT_none (one_none (by decide)) (orT_none (one_none (by decide)) (orT_none (one_none (by decide)) (orT_none (one_none (by decide)) (orT_none (one_none (by decide)) (orT_none (one_none (by decide)) (orT_none (one_none (by decide)) (one_none (by decide)))))))))))))))) [] 4000 176 [.tmp 0] Tryz.func7 rfl Tryz.ntmps7 (by rw [Tryz.results7]) (by simp) rfl (fun hsm => ?_)
 simp (maxSteps := 10000000) only [run, seval, init, X.L, J.L, vL, X.eta, J.eta, Q.eta, List.cons_append, List.nil_append, brkK, brkf_b, brkf_t, exef_some, exif_some, condf_b, opf, bodyE, addR, skipE, stepOp, stepLoad, stepStore, stepField, stepCall, stepBS, stepB0, stepMk, stepSl, stepAp, apY, optI, okO, nilV, slT, stepBi, stepCv, stepIx, inL, mentA, ment, dom, evs, evl, evp, evd, okeys, look, fillA, capsOf, wordsOf, rowsOf, lenOf, convK, binV, shV, intV, unV, boolT, tyT, tiB, tiI, tiW, tiD, tiF, tiR, tiU, tiNum, tiIv, tiVal, tiSc, okLf, okD, keysOf, tblO, cvA, cvL, dnL, olA, olL, noO, noA, cbL, cbA, orT, ↓cond_true, ↓cond_false, ↓not_cond, noT, one, asNum, asIv, asVal, postf_some, resA, resB, outPs, outLs, outL, dnT, tupA, clA, clL, dropTo, decide_true, decide_false, reduceCtorEq, List.all_cons, List.all_nil, Bool.and_true, Bool.and_self, true_and, and_true, and_self, List.length_cons, List.length_nil, List.drop_succ_cons, List.drop_zero, List.take_succ_cons, List.take_zero, List.getElem?_cons_zero, List.getElem?_cons_succ, List.map_cons, List.map_nil, false_implies, true_implies, Option.bind_some, List.getElem?_toArray, Bool.false_eq_true, List.append_nil, List.flatMap_cons, List.flatMap_nil, true_or, or_true, forall_const, List.reverse_cons, List.reverse_nil, Option.isSome_some, Option.any_some, Nat.lt_irrefl, not_true_eq_false, Bool.not_true, Bool.not_false, imp_self, implies_true, Bool.not_eq_true', Bool.not_eq_false', Bool.true_eq_false, memOf, cntF, nmL, rnL, nmA, rnA, isV, noE, contsOf, ndB, refO, orO, pin, Int.toNat_zero, decide_eq_true_eq, wrap0, wrap1, ci1, ci2, BEq.rfl, beq_self_eq_true, Int.natCast_zero, ge_iff_le, gt_iff_lt, Int.le_refl, Nat.zero_mul, Nat.one_mul, Nat.zero_add, Nat.zero_lt_succ, Nat.lt_add_one, Nat.le_refl, List.append_eq, boxL_nil, boxL_cons, ptsL_nil, ptsL_cons, ↓outL_box, ↓outL_pts, ↓clL_box, ↓clL_pts, ↓okL_box, ↓okL_pts, ↓ment_box, ↓ment_pts, ↓olL_box, ↓olL_pts, ↓cvL_box, ↓cvL_pts, ↓noO_box, ↓noO_pts, ↓asB_box, ↓asP_pts, ↓len_box, ↓len_pts, bne_self_eq_false, wr2, wr3, wr4, wr5, wr6, wr7, wr8, gN, gNN, gNI, gI, gNIB, gNNIB, gJ, gJJ, gJN, gJJI, gJI, gB, gP, gBB, gBP, gBZ, gBBZ, bC_nil, bC_cons, pC_nil, pC_cons, fvO, Lc.up, tyB, tiS, tiBB, Int.toNat_natCast, List.replicate_succ, List.replicate_zero, List.flatten_cons, List.flatten_nil, Int.ofNat_lt, Int.cast_ofNat_Int, Int.ofNat_eq_natCast, List.isEmpty_nil, List.isEmpty_cons, and_false, false_and, List.cons_ne_nil, Nat.add_zero, ite_true, ite_false, if_true, if_false, Nat.le_zero_eq, eq_self, Bool.and_false, Bool.false_and, Bool.true_and, tyM, tiQ, tiMM, gA, gE, asZ, asT, asV1, asN1, asB_b, asP_b, asM_m, asQ_m, ite_self, hoO, hoK, hpin, hoO2, hoK2, hpin2, TkOf, TkMul, TkNrm, TkBof, TkVec, TkId, TkAdd, TkSub, Tiv_Of, TkTim, TkMid, T7_Words, TkSame, TkRight, TkIn, asB, asJs, nilB, wsOf, asP, asXs, asQ, asPs, gWW, x0, x1, x2, pt, mL, mxe, tblD, bxe, pxe, lpf, hdS, hd1, pick, forget, frh, frz, frS, frA, frL]
 repeat' with_reducible first | apply And.intro | apply condP <;> intro _
 all_goals first | (show chk _ _ = true; kernel_rfl) | (simp only [inW]; decide) | assumption | rfl | (simp only [go_sem, *] <;> rfl)
noncomputable def T7_known : Tbl := one 7 (gE (True, bA true))
theorem T7_known_ok : TbOK Tryz.prog T7_known := one_t (ent Tryz.func7 (by kernel_rfl) rfl) (.e fun _ => l7_known)
end Go.Proofs.YtcpfepjdeikchaaGreatDoor
