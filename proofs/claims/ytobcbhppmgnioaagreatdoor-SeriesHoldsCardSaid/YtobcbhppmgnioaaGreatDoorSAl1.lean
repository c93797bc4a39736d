/- Functions handed over as values; boxes and points as cells. No function of the program stands in it. -/
import Derived.Test.YtobcbhppmgnioaaGreatDoorSAi7
namespace Go.Proofs.YtobcbhppmgnioaaGreatDoor
set_option linter.unusedSimpArgs false
set_option linter.unusedVariables false
open Go.RowKit Nx
section
def Fv (P : Program) (w : World) (f : FuncId) (caps : List Value) (k : List AV → Option (Prop × AV)) : Prop :=
 (∀ (vs : Array Value) (w : World), (callFunc f vs).run P w = .ok (.enter f vs) w) ∧
 ∀ args e, k args = some e → e.1 → ∀ ρ D w' us, Below w.heap.size w w' → Tab w' → RA ρ D w' args us →
  Calls P f (us ++ caps).toArray w' fun en w'' => ∃ u, en = .returned u ∧ (∀ ρ' D', Old ρ' D' w' → e.2.R ρ' D' w'' u) ∧ Below w'.heap.size w' w''
abbrev litA (u : Value) : AV := .s (.lit u)
open Classical in
noncomputable def fvO (n : Nat) (f : FuncId) (caps : List Value) (k : List AV → Option (Prop × AV)) : Orac := fun g d st args =>
 if n ≤ args.length then (if g = f ∧ args.drop n = caps.map litA then (match k ((args.take n).map (cvA st)) with
  | some e => if ((args.take n).map (cvA st)).all noA = true then some (e.1, (args.take n).flatMap olA, [(2 * d, e.2)]) else none
  | none => none) else none) else none
theorem Fv.mono {P : Program} {w w' : World} {f : FuncId} {caps : List Value} {k : List AV → Option (Prop × AV)} (h : Fv P w f caps k) (hb : Below w.heap.size w w') : Fv P w' f caps k :=
 ⟨h.1, fun args e he hp ρ D w2 us hb2 => h.2 args e he hp ρ D w2 us (below_step hb hb2)⟩
def plL : Lf → Bool
 | .lit _ => true
 | .ws _ => true
 | .dg _ => true
 | _ => false
def plA : AV → Bool
 | .v _ ls => ls.all plL
 | _ => false
theorem RL.plain {ρ ρ' : Env} {D D' : Nat → Bool} {w : World} : ∀ {ls : List Lf} {us : List Value}, ls.all plL = true → RL ρ D w ls us → RL ρ' D' w ls us := by
 intro ls
 induction ls with
 | nil => intro us _ h; exact h
 | cons l ls ih =>
  intro us hp h
  rw [List.all_cons, Bool.and_eq_true] at hp
  obtain ⟨u, r, e, h1, h2⟩ := h
  refine ⟨u, r, e, ?_, ih hp.2 h2⟩
  cases l with
  | lit _ => exact h1
  | ws _ => exact h1
  | dg _ => exact h1
  | _ => cases hp.1
theorem RA.plain {ρ ρ' : Env} {D D' : Nat → Bool} {w : World} : ∀ {xs : List AV} {us : List Value}, xs.all plA = true → RA ρ D w xs us → RA ρ' D' w xs us := by
 intro xs
 induction xs with
 | nil => intro us _ h; exact h
 | cons x xs ih =>
  intro us hp h
  rw [List.all_cons, Bool.and_eq_true] at hp
  obtain ⟨u, r, e, h1, h2⟩ := h
  refine ⟨u, r, e, ?_, ih hp.2 h2⟩
  cases x with
  | v g ls =>
   cases g with
   | true => obtain ⟨us, e, h3⟩ := h1; exact ⟨us, e, RL.plain hp.1 h3⟩
   | false => exact RL.plain (us := [u]) hp.1 h1
  | _ => cases hp.1
theorem Lent.mono {S : Nat → Prop} {w w' : World} {gs : List Nat} {ls : List (List Lf)} (h : Lent S w gs ls) (hb : Below w.heap.size w w') : Lent S w' gs ls :=
 ⟨h.1, h.2.1, h.2.2.1, fun t g l h1 h2 => by
  obtain ⟨a1, a2, T, cs, hB, hR⟩ := h.2.2.2 t g l h1 h2
  exact ⟨a1, a2, T, cs, hB.below hb hB.lt, fun ρ D hS => (hR ρ D hS).mono (Ext.refl _ _) (Keeps.below hb)⟩⟩
abbrev HK := List (List Lf) → FuncId → List AV → Option (Prop × AV)
def hoK (kk : HK) (d n : Nat) (st : St) (args : List AV) : List AV → Option Ef
 | [.v false [.clo c bs]] => (match contsOf st bs with
  | some ls => if ndB bs = true ∧ (ls.all fun l => l.all cbL) = true ∧ ((args.take n).map (cvA st)).all noA = true then (match kk ls c ((args.take n).map (cvA st)) with
   | some e => some (e.1, (args.take n).flatMap olA ++ bs.map (fun b => 2 * b + 1), [(2 * d, e.2)])
   | none => none) else none
  | none => none)
 | _ => none
def hoO (g : FuncId) (n : Nat) (kk : HK) : Orac := fun f d st args => if f = g then hoK kk d n st args (args.drop n) else none
theorem wr2 : IntKind.i64.wrap 2 = 2 := by rw [IntKind.wrap_i64]; decide
theorem wr3 : IntKind.i64.wrap 3 = 3 := by rw [IntKind.wrap_i64]; decide
theorem wr4 : IntKind.i64.wrap 4 = 4 := by rw [IntKind.wrap_i64]; decide
theorem wr5 : IntKind.i64.wrap 5 = 5 := by rw [IntKind.wrap_i64]; decide
theorem wr6 : IntKind.i64.wrap 6 = 6 := by rw [IntKind.wrap_i64]; decide
theorem wr7 : IntKind.i64.wrap 7 = 7 := by rw [IntKind.wrap_i64]; decide
theorem wr8 : IntKind.i64.wrap 8 = 8 := by rw [IntKind.wrap_i64]; decide
def X.C (x : X) : List Lc := [.lit (.bool x.s), .lit (.int .i64 x.e), .ws x.xs]
def J.C (j : J) : List Lc := [.lit (.bool j.lo.s), .lit (.int .i64 j.lo.e), .ws j.lo.xs, .lit (.bool j.hi.s), .lit (.int .i64 j.hi.e), .ws j.hi.xs]
def bC (l : List J) : List Lc := l.flatMap J.C
def pC (l : List X) : List Lc := l.flatMap X.C
theorem bC_nil : bC [] = [] := rfl
theorem bC_cons {j : J} {l : List J} : bC (j :: l) = .lit (.bool j.lo.s) :: .lit (.int .i64 j.lo.e) :: .ws j.lo.xs :: .lit (.bool j.hi.s) :: .lit (.int .i64 j.hi.e) :: .ws j.hi.xs :: bC l := rfl
theorem pC_nil : pC [] = [] := rfl
theorem pC_cons {x : X} {l : List X} : pC (x :: l) = .lit (.bool x.s) :: .lit (.int .i64 x.e) :: .ws x.xs :: pC l := rfl
def wsOf : Lc → Option (List Nat)
 | .ws xs => some xs
 | .lit (.slice none m n) => bif decide (m = 0) && decide (n = 0) then some [] else none
 | _ => none
theorem wsOf_R {S : Nat → Prop} {w : World} {c : Lc} {xs : List Nat} {u : Value} (h : wsOf c = some xs) (hR : c.R S w u) : (Lc.ws xs).R S w u := by
 unfold wsOf at h
 split at h
 ·injection h with h; subst h; exact hR
 ·rename_i m n
  cases hc : decide (m = 0) && decide (n = 0) with
  | false => rw [hc] at h; cases h
  | true =>
   rw [hc] at h; injection h with h; subst h
   rw [Bool.and_eq_true, decide_eq_true_eq, decide_eq_true_eq] at hc
   obtain ⟨rfl, rfl⟩ := hc
   have hR : u = .slice none 0 0 := hR
   exact ⟨none, 0, 0, hR, ⟨Rd.none_, Small.nil⟩, Nat.zero_le _⟩
 ·cases h
def asJs : List Lc → Option (List J)
 | [] => some []
 | .lit (.bool s) :: .lit (.int .i64 e) :: a :: .lit (.bool t) :: .lit (.int .i64 f) :: b :: r => (match wsOf a, wsOf b, asJs r with
  | some xs, some ys, some l => some (⟨⟨s, e, xs⟩, ⟨t, f, ys⟩⟩ :: l)
  | _, _, _ => none)
 | _ => none
def asXs : List Lc → Option (List X)
 | [] => some []
 | .lit (.bool s) :: .lit (.int .i64 e) :: a :: r => (match wsOf a, asXs r with
  | some xs, some l => some (⟨s, e, xs⟩ :: l)
  | _, _ => none)
 | _ => none
section
variable {S : Nat → Prop} {w : World}
theorem asJs_R : ∀ (n : Nat) {ls : List Lc} {l : List J} {us : List Value}, ls.length ≤ n → asJs ls = some l → ls.length = (bC l).length ∧ (LcL S w ls us → LcL S w (bC l) us) := by
 intro n
 induction n with
 | zero =>
  intro ls l us h0 h
  have : ls = [] := List.eq_nil_of_length_eq_zero (by omega)
  subst this
  injection h with h; subst h; exact ⟨rfl, fun h => h⟩
 | succ n ih =>
  intro ls l us h0 h
  unfold asJs at h
  split at h
  ·injection h with h; subst h; exact ⟨rfl, fun h => h⟩
  ·split at h
   ·rename_i xs ys l' h1 h2 hl
    injection h with h; subst h
    rw [bC_cons]
    refine ⟨by simp only [List.length_cons]; rw [(ih (us := []) (by simp at h0; omega) hl).1], ?_⟩
    rintro ⟨u0, _, rfl, r0, u1, _, rfl, r1, u2, _, rfl, r2, u3, _, rfl, r3, u4, _, rfl, r4, u5, vs, rfl, r5, hr⟩
    exact ⟨u0, _, rfl, r0, u1, _, rfl, r1, u2, _, rfl, wsOf_R h1 r2, u3, _, rfl, r3, u4, _, rfl, r4, u5, vs, rfl, wsOf_R h2 r5, (ih (by simp at h0; omega) hl).2 hr⟩
   ·cases h
  ·cases h
theorem slR_map {sz n : Nat} {ls ls' : List Lc} {v : Value} (hl : ls.length = ls'.length) (h : ∀ us, LcL S w ls us → LcL S w ls' us) (hR : (Lc.sl sz n ls).R S w v) : (Lc.sl sz n ls').R S w v := by
 obtain ⟨h1, A, c, e, hc, h2⟩ := hR
 refine ⟨by rw [← hl]; exact h1, A, c, e, hc, ?_⟩
 rcases h2 with h2 | ⟨ad, T, cs, e1, e2, hS, hB, h3, h4⟩
 ·exact .inl (List.eq_nil_of_length_eq_zero (by rw [← hl, h2]; rfl))
 ·exact .inr ⟨ad, T, cs, e1, e2, hS, hB, by rw [← hl]; exact h3, by rw [← hl]; exact h _ h4⟩
end
theorem asJs_C : ∀ (l : List J), asJs (bC l) = some l := by
 intro l
 induction l with
 | nil => rfl
 | cons j l ih => rw [bC_cons]; simp only [asJs, wsOf, ih]
theorem asXs_C : ∀ (l : List X), asXs (pC l) = some l := by
 intro l
 induction l with
 | nil => rfl
 | cons j l ih => rw [pC_cons]; simp only [asXs, wsOf, ih]
abbrev bA_ (l : List J) : AV := .s (.sl false 6 l.length (bC l))
def nilB (x : AV) : Bool := match x with
 | .v false [.lit (.slice none m n)] => decide (m = 0) && decide (n = 0)
 | .v false [.sl false _ n ls] => decide (n = 0) && ls.isEmpty
 | _ => false
def asB (x : AV) : Option (List J) := bif nilB x then some [] else (match x with
 | .v false [.sl false sz n ls] => (match asJs ls with
  | some l => if sz = 6 ∧ n = l.length then some l else none
  | none => none)
 | _ => none)
def asP (x : AV) : Option (List X) := bif nilB x then some [] else (match x with
 | .v false [.sl false sz n ls] => (match asXs ls with
  | some l => if sz = 3 ∧ n = l.length then some l else none
  | none => none)
 | _ => none)
section
variable {ρ : Env} {D : Nat → Bool} {w : World} {u : Value}
theorem nilB_R {x : AV} {sz : Nat} (h : nilB x = true) (hR : x.R ρ D w u) : (AV.s (.sl false sz 0 [])).R ρ D w u := by
 unfold nilB at h
 split at h
 ·rw [Bool.and_eq_true] at h
  have h1 := of_decide_eq_true h.1; have h2 := of_decide_eq_true h.2
  subst h1; subst h2
  have hR : u = .slice none 0 0 := RL.one.1 hR
  exact RL.one.2 ⟨by simp, none, 0, hR, Nat.le_refl _, .inl rfl⟩
 ·rename_i sz' n ls
  rw [Bool.and_eq_true] at h
  have h1 := of_decide_eq_true h.1
  have h2 : ls = [] := by cases ls with
   | nil => rfl
   | cons _ _ => cases h.2
  subst h1; subst h2
  obtain ⟨_, A, c, e, hc, _⟩ : (Lc.sl sz' 0 []).R (SepF false ρ D) w u := RL.one.1 hR
  exact RL.one.2 ⟨by simp, A, c, e, hc, .inl rfl⟩
 ·cases h
theorem asB_R {x : AV} {l : List J} (h : asB x = some l) (hR : x.R ρ D w u) : (bA_ l).R ρ D w u := by
 unfold asB at h
 cases hn : nilB x with
 | true => rw [hn, cond_true] at h; injection h with h; subst h; exact nilB_R hn hR
 | false =>
  rw [hn, cond_false] at h
  split at h
  ·split at h
   ·rename_i ls l' hl
    split at h
    ·rename_i hc
     injection h with h; subst h
     obtain ⟨rfl, rfl⟩ := hc
     exact RL.one.2 (slR_map (asJs_R (S := SepF false ρ D) (w := w) (us := []) _ (Nat.le_refl _) hl).1 (fun us => (asJs_R _ (Nat.le_refl _) hl).2) (RL.one.1 hR))
    ·cases h
   ·cases h
  ·cases h
end
theorem asB_b (l : List J) : asB (.v false [.sl false 6 l.length (bC l)]) = some l := by
 cases l with
 | nil => rfl
 | cons j l =>
  show (bif decide ((j :: l).length = 0) && (bC (j :: l)).isEmpty then some [] else (match asJs (bC (j :: l)) with
   | some m => if 6 = 6 ∧ (j :: l).length = m.length then some m else none
   | none => none)) = _
  rw [asJs_C]
  simp
theorem asP_b (l : List X) : asP (.v false [.sl false 3 l.length (pC l)]) = some l := by
 cases l with
 | nil => rfl
 | cons j l =>
  show (bif decide ((j :: l).length = 0) && (pC (j :: l)).isEmpty then some [] else (match asXs (pC (j :: l)) with
   | some m => if 3 = 3 ∧ (j :: l).length = m.length then some m else none
   | none => none)) = _
  rw [asXs_C]
  simp
theorem Ct.of {P : Program} {f : FuncId} {args args' : List AV} {Pst : AV → Prop} (h : Ct P f args' Pst) (hR : ∀ ρ D w us, RA ρ D w args us → RA ρ D w args' us) : Ct P f args Pst := fun ρ D w us ht hA => h ρ D w us ht (hR ρ D w us hA)
theorem RA.c {ρ : Env} {D : Nat → Bool} {w : World} {x y : AV} {xs ys : List AV} (h1 : ∀ u, x.R ρ D w u → y.R ρ D w u) (h2 : ∀ us, RA ρ D w xs us → RA ρ D w ys us) : ∀ us, RA ρ D w (x :: xs) us → RA ρ D w (y :: ys) us := fun us h => by
 obtain ⟨u, r, rfl, h3, h4⟩ := h
 exact ⟨u, r, rfl, h1 u h3, h2 r h4⟩
def gB (k : List J → Prop × AV) : List AV → Option (Prop × AV)
 | [x] => (match asB x with
  | some l => some (k l)
  | none => none)
 | _ => none
def gP (k : List X → Prop × AV) : List AV → Option (Prop × AV)
 | [x] => (match asP x with
  | some l => some (k l)
  | none => none)
 | _ => none
def gBB (k : List J → List J → Prop × AV) : List AV → Option (Prop × AV)
 | [x, y] => (match asB x, asB y with
  | some l, some m => some (k l m)
  | _, _ => none)
 | _ => none
def gBP (k : List J → List X → Prop × AV) : List AV → Option (Prop × AV)
 | [x, y] => (match asB x, asP y with
  | some l, some m => some (k l m)
  | _, _ => none)
 | _ => none
def gBZ (k : List J → Int → Prop × AV) : List AV → Option (Prop × AV)
 | [x, .v false [.lit (.int .i64 z)]] => (match asB x with
  | some l => some (k l z)
  | none => none)
 | _ => none
def gBBZ (k : List J → List J → Int → Prop × AV) : List AV → Option (Prop × AV)
 | [x, y, .v false [.lit (.int .i64 z)]] => (match asB x, asB y with
  | some l, some m => some (k l m z)
  | _, _ => none)
 | _ => none
def boxL (l : List J) : Lf := bif l.isEmpty then .lit (.slice none 0 0) else .sl true 6 l.length (bC l)
def ptsL (l : List X) : Lf := bif l.isEmpty then .lit (.slice none 0 0) else .sl true 3 l.length (pC l)
def boxC (l : List J) : Lf := bif l.isEmpty then .lit (.slice none 0 0) else .sl false 6 l.length (bC l)
def ptsC (l : List X) : Lf := bif l.isEmpty then .lit (.slice none 0 0) else .sl false 3 l.length (pC l)
section
variable {st : St} {l : List J} {m : List X} {a : J} {x : X}
theorem boxL_nil : boxL [] = .lit (.slice none 0 0) := rfl
theorem boxL_cons : boxL (a :: l) = .sl true 6 (a :: l).length (bC (a :: l)) := rfl
theorem ptsL_nil : ptsL [] = .lit (.slice none 0 0) := rfl
theorem ptsL_cons : ptsL (x :: m) = .sl true 3 (x :: m).length (pC (x :: m)) := rfl
theorem outL_box : outL st (boxL l) = boxL l := by cases l <;> rfl
theorem outL_pts : outL st (ptsL m) = ptsL m := by cases m <;> rfl
theorem clL_box : clL (boxL l) = true := by cases l <;> rfl
theorem clL_pts : clL (ptsL m) = true := by cases m <;> rfl
theorem okL_box : okLf (boxL l) = true := by cases l <;> rfl
theorem okL_pts : okLf (ptsL m) = true := by cases m <;> rfl
theorem ment_box : ment st (boxL l) = true := by cases l <;> rfl
theorem ment_pts : ment st (ptsL m) = true := by cases m <;> rfl
theorem olL_box : olL (boxL l) = [] := by cases l <;> rfl
theorem olL_pts : olL (ptsL m) = [] := by cases m <;> rfl
theorem cvL_box : cvL st (boxL l) = boxC l := by cases l <;> rfl
theorem cvL_pts : cvL st (ptsL m) = ptsC m := by cases m <;> rfl
theorem noO_box : noO (boxC l) = true := by cases l <;> rfl
theorem noO_pts : noO (ptsC m) = true := by cases m <;> rfl
theorem asB_box : asB (.v false [boxC l]) = some l := by
 cases l with
 | nil => rfl
 | cons a l => exact asB_b (a :: l)
theorem asP_pts : asP (.v false [ptsC m]) = some m := by
 cases m with
 | nil => rfl
 | cons a l => exact asP_b (a :: l)
theorem len_box : lenOf (.v false [boxL l]) = some l.length := by cases l <;> rfl
theorem len_pts : lenOf (.v false [ptsL m]) = some m.length := by cases m <;> rfl
end
def bxe (r : List J × Int) : AV := .tup [(false, [boxL r.1]), (false, [.lit (.int .i64 r.2)])]
def pxe (r : List X × Int) : AV := .tup [(false, [ptsL r.1]), (false, [.lit (.int .i64 r.2)])]
end
section
attribute [local irreducible] chk
def tiS : TI := ⟨false, 1, [.lit (.slice none 0 0)], [.slice none 0 0], [], some (26, false)⟩
def tiBB : TI := ⟨false, 1, [.lit (.slice none 0 0)], [.slice none 0 0], [], some (23, false)⟩
def tyB (t : TypeId) : Option TI := if t = 46 then some tiS else if t = 35 then some tiBB else tyT t
theorem ok_S : TiOK Tryz.prog 46 tiS := leaf_ok (by kernel_rfl) (by kernel_rfl) (by kernel_rfl) (by kernel_rfl) (fun _ _ _ => rfl) rfl (fun b h => by cases h) (fun k z h => by cases h) (sl_of' (by kernel_rfl))
theorem ok_BB : TiOK Tryz.prog 35 tiBB := leaf_ok (by kernel_rfl) (by kernel_rfl) (by kernel_rfl) (by kernel_rfl) (fun _ _ _ => rfl) rfl (fun b h => by cases h) (fun k z h => by cases h) (sl_of' (by kernel_rfl))
theorem tyB_ok (t : TypeId) (i : TI) (h : tyB t = some i) : TiOK Tryz.prog t i := by
 unfold tyB at h
 by_cases h0 : t = 46
 ·rw [if_pos h0] at h; injection h with h; subst h; subst h0; exact ok_S
 rw [if_neg h0] at h
 by_cases h1 : t = 35
 ·rw [if_pos h1] at h; injection h with h; subst h; subst h1; exact ok_BB
 rw [if_neg h1] at h
 exact tyT_ok t i h
end
end Go.Proofs.YtobcbhppmgnioaaGreatDoor
