/- Matrices as cells; tables of arguments, one by one; what each and total do, turn by turn; two closures handed over. No function of the program stands in it. -/
import Derived.Test.YtcpfepjdeikchaaGreatDoorYAn1
import Derived.Test.YtcpfepjdeikchaaGreatDoorYAl2
namespace Go.Proofs.YtcpfepjdeikchaaGreatDoor
set_option linter.unusedSimpArgs false
set_option linter.unusedVariables false
set_option maxHeartbeats 4000000
set_option maxRecDepth 100000
open Go.RowKit Nx
section
def rC (l : List J) : Lc := .sl 6 l.length (bC l)
def rP (l : List X) : Lc := .sl 3 l.length (pC l)
abbrev mA_ (m : List (List J)) : AV := .s (.sl false 1 m.length (m.map rC))
abbrev qA_ (m : List (List X)) : AV := .s (.sl false 1 m.length (m.map rP))
abbrev mL (m : List (List J)) : Lf := .sl true 1 m.length (m.map rC)
abbrev qL (m : List (List X)) : Lf := .sl true 1 m.length (m.map rP)
abbrev mxe (r : List (List J) × Int) : AV := .tup [(false, [mL r.1]), (false, [.lit (.int .i64 r.2)])]
abbrev qxe (r : List (List X) × Int) : AV := .tup [(false, [qL r.1]), (false, [.lit (.int .i64 r.2)])]
def asRs : List Lc → Option (List (List J))
 | [] => some []
 | .sl sz n ls :: r => (match asJs ls, asRs r with
  | some l, some m => if sz = 6 ∧ n = l.length then some (l :: m) else none
  | _, _ => none)
 | _ => none
def asPs : List Lc → Option (List (List X))
 | [] => some []
 | .sl sz n ls :: r => (match asXs ls, asPs r with
  | some l, some m => if sz = 3 ∧ n = l.length then some (l :: m) else none
  | _, _ => none)
 | _ => none
section
variable {S : Nat → Prop} {w : World}
theorem asRs_R : ∀ {ls : List Lc} {m : List (List J)}, asRs ls = some m → ls.length = (m.map rC).length ∧ ∀ us, LcL S w ls us → LcL S w (m.map rC) us := by
 intro ls
 induction ls with
 | nil => intro m h; injection h with h; subst h; exact ⟨rfl, fun _ h => h⟩
 | cons l ls ih =>
  intro m h
  unfold asRs at h
  split at h
  ·rename_i e; cases e
  ·rename_i sz n ks r e
   injection e with e1 e2; subst e1; subst e2
   split at h
   ·rename_i l' m' h1 h2
    split at h
    ·rename_i hc
     injection h with h; subst h
     obtain ⟨rfl, rfl⟩ := hc
     obtain ⟨i1, i2⟩ := ih h2
     refine ⟨by simp [i1], ?_⟩
     rintro us ⟨u, r, rfl, h3, h4⟩
     exact ⟨u, r, rfl, slR_map (asJs_R (S := S) (w := w) (us := []) _ (Nat.le_refl _) h1).1 (fun us => (asJs_R _ (Nat.le_refl _) h1).2) h3, i2 _ h4⟩
    ·cases h
   ·cases h
  ·cases h
theorem asPs_R : ∀ {ls : List Lc} {m : List (List X)}, asPs ls = some m → ls.length = (m.map rP).length ∧ ∀ us, LcL S w ls us → LcL S w (m.map rP) us := by
 intro ls
 induction ls with
 | nil => intro m h; injection h with h; subst h; exact ⟨rfl, fun _ h => h⟩
 | cons l ls ih =>
  intro m h
  unfold asPs at h
  split at h
  ·rename_i e; cases e
  ·rename_i sz n ks r e
   injection e with e1 e2; subst e1; subst e2
   split at h
   ·rename_i l' m' h1 h2
    split at h
    ·rename_i hc
     injection h with h; subst h
     obtain ⟨rfl, rfl⟩ := hc
     obtain ⟨i1, i2⟩ := ih h2
     refine ⟨by simp [i1], ?_⟩
     rintro us ⟨u, r, rfl, h3, h4⟩
     exact ⟨u, r, rfl, slR_map (asXs_R (S := S) (w := w) (us := []) _ (Nat.le_refl _) h1).1 (fun us => (asXs_R _ (Nat.le_refl _) h1).2) h3, i2 _ h4⟩
    ·cases h
   ·cases h
  ·cases h
end
theorem asRs_C : ∀ (m : List (List J)), asRs (m.map rC) = some m := by
 intro m
 induction m with
 | nil => rfl
 | cons l m ih =>
  show (match asJs (bC l), asRs (m.map rC) with
   | some l', some m' => if 6 = 6 ∧ l.length = l'.length then some (l' :: m') else none
   | _, _ => none) = _
  rw [asJs_C, ih]
  simp
theorem asPs_C : ∀ (m : List (List X)), asPs (m.map rP) = some m := by
 intro m
 induction m with
 | nil => rfl
 | cons l m ih =>
  show (match asXs (pC l), asPs (m.map rP) with
   | some l', some m' => if 3 = 3 ∧ l.length = l'.length then some (l' :: m') else none
   | _, _ => none) = _
  rw [asXs_C, ih]
  simp
def asM (x : AV) : Option (List (List J)) := bif nilB x then some [] else (match x with
 | .v false [.sl false sz n ls] => (match asRs ls with
  | some m => if sz = 1 ∧ n = m.length then some m else none
  | none => none)
 | _ => none)
def asQ (x : AV) : Option (List (List X)) := bif nilB x then some [] else (match x with
 | .v false [.sl false sz n ls] => (match asPs ls with
  | some m => if sz = 1 ∧ n = m.length then some m else none
  | none => none)
 | _ => none)
theorem asM_m (m : List (List J)) : asM (.v false [.sl false 1 m.length (m.map rC)]) = some m := by
 cases m with
 | nil => rfl
 | cons l m =>
  show (bif decide ((l :: m).length = 0) && ((l :: m).map rC).isEmpty then some [] else (match asRs ((l :: m).map rC) with
   | some m' => if 1 = 1 ∧ (l :: m).length = m'.length then some m' else none
   | none => none)) = _
  rw [asRs_C]
  simp
theorem asQ_m (m : List (List X)) : asQ (.v false [.sl false 1 m.length (m.map rP)]) = some m := by
 cases m with
 | nil => rfl
 | cons l m =>
  show (bif decide ((l :: m).length = 0) && ((l :: m).map rP).isEmpty then some [] else (match asPs ((l :: m).map rP) with
   | some m' => if 1 = 1 ∧ (l :: m).length = m'.length then some m' else none
   | none => none)) = _
  rw [asPs_C]
  simp
def AsOK {α : Type} (pa : AV → Option α) (c : α → AV) : Prop := ∀ x a, pa x = some a → ∀ ρ D w u, x.R ρ D w u → (c a).R ρ D w u
def gA {α : Type} (pa : AV → Option α) (k : α → List AV → Option (Prop × AV)) : List AV → Option (Prop × AV)
 | [] => none
 | x :: r => (match pa x with
  | some a => k a r
  | none => none)
def gE (e : Prop × AV) : List AV → Option (Prop × AV)
 | [] => some e
 | _ :: _ => none
def CtT (P : Program) (f : FuncId) (pre : List AV) (k : List AV → Option (Prop × AV)) : Prop := ∀ args e, k args = some e → e.1 → Ct P f (pre ++ args) (· = e.2)
theorem CtT.e {P : Program} {f : FuncId} {pre : List AV} {e : Prop × AV} (h : e.1 → Ct P f pre (· = e.2)) : CtT P f pre (gE e) := by
 intro args q hq hp
 cases args with
 | nil => injection hq with hq; subst hq; rw [List.append_nil]; exact h hp
 | cons _ _ => cases hq
theorem CtT.a {P : Program} {f : FuncId} {pre : List AV} {α : Type} {pa : AV → Option α} {c : α → AV} {k : α → List AV → Option (Prop × AV)} (ha : AsOK pa c) (h : ∀ a, CtT P f (pre ++ [c a]) (k a)) : CtT P f pre (gA pa k) := by
 intro args q hq hp
 cases args with
 | nil => cases hq
 | cons x r =>
  have hq : (match pa x with
   | some a => k a r
   | none => none) = some q := hq
  split at hq
  ·rename_i a hx
   refine (h a r q hq hp).of fun ρ D w us hR => ?_
   rw [List.append_assoc]
   have key : ∀ (xs : List AV) (us : List Value), RA ρ D w (xs ++ x :: r) us → RA ρ D w (xs ++ c a :: r) us := by
    intro xs
    induction xs with
    | nil => rintro us ⟨u, r', rfl, h1, h2⟩; exact ⟨u, r', rfl, ha x a hx _ _ _ _ h1, h2⟩
    | cons y ys ih => rintro us ⟨u, r', rfl, h1, h2⟩; exact ⟨u, r', rfl, h1, ih _ h2⟩
   exact key pre us hR
  ·cases hq
theorem one_t {P : Program} {f : FuncId} {k : List AV → Option (Prop × AV)} (he : ∀ (vs : Array Value) (w : World), (callFunc f vs).run P w = .ok (.enter f vs) w) (h : CtT P f [] k) : TbOK P (one f k) := one_ok he fun args e hk hp => h args e hk hp
def asZ : AV → Option Int
 | .v false [.lit (.int .i64 z)] => some z
 | _ => none
def asT : AV → Option Bool
 | .v false [.lit (.bool b)] => some b
 | _ => none
def asV1 : AV → Option J
 | .v true ls => asIv ls
 | _ => none
def asN1 : AV → Option X
 | .v true ls => asNum ls
 | _ => none
theorem asZ_ok : AsOK asZ iA := by
 intro x a h ρ D w u hR
 unfold asZ at h
 split at h
 ·injection h with h; subst h; exact hR
 ·cases h
theorem asV1_ok : AsOK asV1 jA := by
 intro x a h ρ D w u hR
 unfold asV1 at h
 split at h
 ·rw [asIv_eq h] at hR; exact hR
 ·cases h
theorem asB_ok : AsOK asB bA_ := fun _ _ h _ _ _ _ hR => asB_R h hR
theorem asP_ok : AsOK asP pA_ := fun _ _ h _ _ _ _ hR => asP_R h hR
theorem asM_ok : AsOK asM mA_ := by
 intro x m h ρ D w u hR
 unfold asM at h
 cases hn : nilB x with
 | true => rw [hn, cond_true] at h; injection h with h; subst h; exact nilB_R hn hR
 | false =>
  rw [hn, cond_false] at h
  split at h
  ·split at h
   ·rename_i ls m' hl
    split at h
    ·rename_i hc
     injection h with h; subst h
     obtain ⟨rfl, rfl⟩ := hc
     exact RL.one.2 (slR_map (asRs_R (S := SepF false ρ D) (w := w) hl).1 (asRs_R hl).2 (RL.one.1 hR))
    ·cases h
   ·cases h
  ·cases h
theorem asQ_ok : AsOK asQ qA_ := by
 intro x m h ρ D w u hR
 unfold asQ at h
 cases hn : nilB x with
 | true => rw [hn, cond_true] at h; injection h with h; subst h; exact nilB_R hn hR
 | false =>
  rw [hn, cond_false] at h
  split at h
  ·split at h
   ·rename_i ls m' hl
    split at h
    ·rename_i hc
     injection h with h; subst h
     obtain ⟨rfl, rfl⟩ := hc
     exact RL.one.2 (slR_map (asPs_R (S := SepF false ρ D) (w := w) hl).1 (asPs_R hl).2 (RL.one.1 hR))
    ·cases h
   ·cases h
  ·cases h
def Wk1 (r r' : AV) : Prop := (∀ ρ D w u, r.R ρ D w u → r'.R ρ D w u) ∧ clA r' = true
theorem Ct.wk {P : Program} {f : FuncId} {args : List AV} {r r' : AV} (h : Ct P f args (· = r)) (hw : Wk1 r r') : Ct P f args (· = r') := fun ρ D w us ht hA =>
 (h ρ D w us ht hA).mono fun _ _ ⟨u, _, e, e1, _, hR, hb⟩ => ⟨u, r', e, rfl, hw.2, fun ρ' D' ho => hw.1 _ _ _ _ (by have := hR ρ' D' ho; rw [e1] at this; exact this), hb⟩
theorem Hc.wk {P : Program} {w : World} {g : FuncId} {args : List AV} {r r' : AV} (h : Hc P w g args r) (hw : Wk1 r r') : Hc P w g args r' := fun ρ D us hA =>
 (h ρ D us hA).mono fun _ _ ⟨u, e, hR, hb⟩ => ⟨u, e, fun ρ' D' ho => hw.1 _ _ _ _ (hR ρ' D' ho), hb⟩
def rC0 (l : List J) : Lc := bif l.isEmpty then .lit (.slice none 0 0) else rC l
def rP0 (l : List X) : Lc := bif l.isEmpty then .lit (.slice none 0 0) else rP l
theorem rC0_R {S : Nat → Prop} {w : World} {l : List J} {u : Value} (h : (rC0 l).R S w u) : (rC l).R S w u := by
 cases l with
 | nil => have h : u = .slice none 0 0 := h; subst h; exact ⟨rfl, none, 0, rfl, Nat.le_refl _, .inl rfl⟩
 | cons _ _ => exact h
theorem rP0_R {S : Nat → Prop} {w : World} {l : List X} {u : Value} (h : (rP0 l).R S w u) : (rP l).R S w u := by
 cases l with
 | nil => have h : u = .slice none 0 0 := h; subst h; exact ⟨rfl, none, 0, rfl, Nat.le_refl _, .inl rfl⟩
 | cons _ _ => exact h
theorem LcL.maps {α : Type} {S : Nat → Prop} {w : World} {f g : α → Lc} (h : ∀ a u, (f a).R S w u → (g a).R S w u) : ∀ (m : List α) (us : List Value), LcL S w (m.map f) us → LcL S w (m.map g) us := by
 intro m
 induction m with
 | nil => intro us h; exact h
 | cons a m ih => rintro us ⟨u, r, rfl, h1, h2⟩; exact ⟨u, r, rfl, h a u h1, ih r h2⟩
theorem nil_sl {ρ : Env} {D : Nat → Bool} {w : World} {u : Value} {sz : Nat} (h : (Lf.lit (.slice none 0 0)).R ρ D w u) : (Lf.sl true sz 0 []).R ρ D w u := by
 have h : u = .slice none 0 0 := h
 subst h
 exact ⟨by simp, none, 0, rfl, Nat.le_refl _, .inl rfl⟩
theorem mL_R {ρ : Env} {D : Nat → Bool} {w : World} {m : List (List J)} {u : Value} (h : (Lf.sl true 1 m.length (m.map rC0)).R ρ D w u) : (mL m).R ρ D w u := slR_map (by simp) (LcL.maps (fun _ _ => rC0_R) m) h
theorem qL_R {ρ : Env} {D : Nat → Bool} {w : World} {m : List (List X)} {u : Value} (h : (Lf.sl true 1 m.length (m.map rP0)).R ρ D w u) : (qL m).R ρ D w u := slR_map (by simp) (LcL.maps (fun _ _ => rP0_R) m) h
theorem wk_tup {l l' : Lf} {z : Int} (h : ∀ ρ D w u, l.R ρ D w u → l'.R ρ D w u) (hc : clL l' = true) : Wk1 (.tup [(false, [l]), (false, [.lit (.int .i64 z)])]) (.tup [(false, [l']), (false, [.lit (.int .i64 z)])]) := by
 refine ⟨?_, by simp only [clA, List.all_cons, List.all_nil, hc, Bool.and_true, Bool.true_and]; rfl⟩
 rintro ρ D w u ⟨us, rfl, x, r, rfl, h1, h2⟩
 exact ⟨_, rfl, x, r, rfl, RL.one.2 (h _ _ _ _ (RL.one.1 h1)), h2⟩
theorem wk_one {l l' : Lf} (h : ∀ ρ D w u, l.R ρ D w u → l'.R ρ D w u) (hc : clL l' = true) : Wk1 (.s l) (.s l') := by
 refine ⟨fun ρ D w u h1 => RL.one.2 (h _ _ _ _ (RL.one.1 h1)), by simp [clA, hc]⟩
def eachN {α : Type} (F : Nat → α × Int) : Nat → List α × Int
 | 0 => ([], 0)
 | j + 1 => bif (eachN F j).2 != 0 then eachN F j else bif (F j).2 != 0 then ([], (F j).2) else ((eachN F j).1 ++ [(F j).1], 0)
section
variable {α : Type} {F G : Nat → α × Int}
theorem eachN_ok {j : Nat} (h : (eachN F j).2 = 0) (hF : (F j).2 = 0) : eachN F (j + 1) = ((eachN F j).1 ++ [(F j).1], 0) := by
 show (bif (eachN F j).2 != 0 then eachN F j else bif (F j).2 != 0 then ([], (F j).2) else ((eachN F j).1 ++ [(F j).1], 0)) = _
 rw [h, hF]; rfl
theorem eachN_err {j : Nat} (h : (eachN F j).2 = 0) (hF : ((F j).2 != 0) = true) : eachN F (j + 1) = ([], (F j).2) := by
 show (bif (eachN F j).2 != 0 then eachN F j else bif (F j).2 != 0 then ([], (F j).2) else ((eachN F j).1 ++ [(F j).1], 0)) = _
 rw [h, hF]; rfl
theorem eachN_stop {j n : Nat} (h : ((eachN F j).2 != 0) = true) (hn : j ≤ n) : eachN F n = eachN F j := by
 induction n with
 | zero => have : j = 0 := by omega
           subst this; rfl
 | succ n ih =>
  by_cases e : j = n + 1
  ·rw [e]
  ·have := ih (by omega)
   show (bif (eachN F n).2 != 0 then eachN F n else bif (F n).2 != 0 then ([], (F n).2) else ((eachN F n).1 ++ [(F n).1], 0)) = _
   rw [this, h]; rfl
theorem eachN_at {j n : Nat} (h : (eachN F j).2 = 0) (hF : ((F j).2 != 0) = true) (hn : j < n) : eachN F n = ([], (F j).2) := by
 have h1 := eachN_err h hF
 rw [eachN_stop (j := j + 1) (by rw [h1]; exact hF) hn, h1]
theorem eachN_len {n : Nat} (h : (eachN F n).2 = 0) : (eachN F n).1.length = n := by
 induction n with
 | zero => rfl
 | succ n ih =>
  cases h1 : (eachN F n).2 != 0 with
  | true =>
   have h2 := eachN_stop (n := n + 1) h1 (Nat.le_succ n)
   rw [h2] at h
   rw [h] at h1; cases h1
  | false =>
   have h1 : (eachN F n).2 = 0 := by simpa using h1
   cases hF : (F n).2 != 0 with
   | true => rw [eachN_err h1 hF] at h; have h : (F n).2 = 0 := h; rw [h] at hF; cases hF
   | false =>
    rw [eachN_ok h1 (by simpa using hF)]
    simp [ih h1]
theorem eachN_get {n : Nat} (h : (eachN F n).2 = 0) : ∀ j, j < n → (F j).2 = 0 ∧ (eachN F n).1[j]? = some (F j).1 := by
 induction n with
 | zero => intro j hj; omega
 | succ n ih =>
  intro j hj
  cases h1 : (eachN F n).2 != 0 with
  | true =>
   have h2 := eachN_stop (n := n + 1) h1 (Nat.le_succ n)
   rw [h2] at h
   rw [h] at h1; cases h1
  | false =>
   have h1 : (eachN F n).2 = 0 := by simpa using h1
   cases hF : (F n).2 != 0 with
   | true => rw [eachN_err h1 hF] at h; have h : (F n).2 = 0 := h; rw [h] at hF; cases hF
   | false =>
    have hF : (F n).2 = 0 := by simpa using hF
    rw [eachN_ok h1 hF]
    have hl := eachN_len h1
    by_cases e : j = n
    ·subst e; exact ⟨hF, by rw [List.getElem?_append_right (by omega), hl]; simp⟩
    ·obtain ⟨i1, i2⟩ := ih h1 j (by omega)
     exact ⟨i1, by rw [List.getElem?_append_left (by omega)]; exact i2⟩
theorem eachN_all {n : Nat} (h : ∀ j, j < n → (F j).2 = 0) : (eachN F n).2 = 0 := by
 induction n with
 | zero => rfl
 | succ n ih => rw [eachN_ok (ih fun j hj => h j (by omega)) (h n (Nat.lt_succ_self n))]
end
def totN {α : Type} (z : α) (F : Nat → α × Int) (add : α → α → α × Int) : Nat → α × Int
 | 0 => (z, 0)
 | j + 1 => bif (totN z F add j).2 != 0 then totN z F add j else bif (F j).2 != 0 then (z, (F j).2) else bif decide (0 < j) then (bif (add (totN z F add j).1 (F j).1).2 != 0 then (z, (add (totN z F add j).1 (F j).1).2) else ((add (totN z F add j).1 (F j).1).1, 0)) else ((F j).1, 0)
section
variable {α : Type} {z : α} {F G : Nat → α × Int} {add : α → α → α × Int}
theorem totN_s {j : Nat} (h : (totN z F add j).2 = 0) : totN z F add (j + 1) = bif (F j).2 != 0 then (z, (F j).2) else bif decide (0 < j) then (bif (add (totN z F add j).1 (F j).1).2 != 0 then (z, (add (totN z F add j).1 (F j).1).2) else ((add (totN z F add j).1 (F j).1).1, 0)) else ((F j).1, 0) := by
 show (bif (totN z F add j).2 != 0 then totN z F add j else _) = _
 rw [h]; rfl
theorem totN_stop {j n : Nat} (h : ((totN z F add j).2 != 0) = true) (hn : j ≤ n) : totN z F add n = totN z F add j := by
 induction n with
 | zero => have : j = 0 := by omega
           subst this; rfl
 | succ n ih =>
  by_cases e : j = n + 1
  ·rw [e]
  ·have := ih (by omega)
   show (bif (totN z F add n).2 != 0 then totN z F add n else _) = _
   rw [this, h]; rfl
theorem totN_congr {n : Nat} (h : ∀ j, j < n → F j = G j) : totN z F add n = totN z G add n := by
 induction n with
 | zero => rfl
 | succ n ih =>
  unfold totN
  rw [ih fun j hj => h j (by omega), h n (Nat.lt_succ_self n)]
end
def cA {α : Type} (cf : α → List Lf) (zf : List Lf) (n : Nat) (l : List α) : List Lf := l.flatMap cf ++ (List.replicate (n - l.length) zf).flatten
section
variable {α : Type} {cf : α → List Lf} {zf : List Lf} {s n : Nat}
theorem fm_len (hc : ∀ a, (cf a).length = s) : ∀ (l : List α), (l.flatMap cf).length = l.length * s := by
 intro l
 induction l with
 | nil => simp
 | cons a l ih => rw [List.flatMap_cons, List.length_append, hc, ih, List.length_cons, Nat.succ_mul]; omega
theorem rep_len (hz : zf.length = s) : ∀ (k : Nat), (List.replicate k zf).flatten.length = k * s := by
 intro k
 induction k with
 | zero => simp
 | succ k ih => rw [List.replicate_succ, List.flatten_cons, List.length_append, hz, ih, Nat.succ_mul]; omega
theorem cA_len (hc : ∀ a, (cf a).length = s) (hz : zf.length = s) {l : List α} (hl : l.length ≤ n) : (cA cf zf n l).length = n * s := by
 unfold cA
 rw [List.length_append, fm_len hc, rep_len hz, ← Nat.add_mul]
 congr 1; omega
theorem cA_set (hc : ∀ a, (cf a).length = s) (hz : zf.length = s) {l : List α} {j : Nat} (a : α) (hl : l.length = j) (hj : j < n) : (cA cf zf n l).take (j * s) ++ cf a ++ (cA cf zf n l).drop (j * s + s) = cA cf zf n (l ++ [a]) := by
 have h1 := fm_len hc l
 rw [hl] at h1
 obtain ⟨k, hk⟩ : ∃ k, n - l.length = k + 1 := ⟨n - l.length - 1, by omega⟩
 have hk2 : n - (l ++ [a]).length = k := by simp; omega
 unfold cA
 rw [hk, hk2, List.replicate_succ, List.flatten_cons, List.flatMap_append]
 rw [List.take_append_of_le_length (by omega), List.take_of_length_le (by omega)]
 rw [List.drop_append, List.drop_of_length_le (by omega), h1, List.nil_append, show j * s + s - j * s = s by omega, List.drop_append_of_le_length (by omega), List.drop_of_length_le (by omega), List.nil_append]
 simp
theorem cA_all {p : Lf → Bool} (hc : ∀ a, (cf a).all p = true) (hz : zf.all p = true) {l : List α} : (cA cf zf n l).all p = true := by
 have h2 : ∀ k, (List.replicate k zf).flatten.all p = true := by
  intro k
  induction k with
  | zero => rfl
  | succ k ih => rw [List.replicate_succ, List.flatten_cons, List.all_append, hz, ih]; rfl
 unfold cA
 rw [List.all_append, h2, Bool.and_true]
 induction l with
 | nil => rfl
 | cons a l ih => rw [List.flatMap_cons, List.all_append, hc, ih]; rfl
theorem cA_nil : cA cf zf n [] = (List.replicate n zf).flatten := by unfold cA; simp
end
theorem dnT_app : ∀ {ls ms : List Lf} {ks js : List Lc}, dnT ls = some ks → dnT ms = some js → dnT (ls ++ ms) = some (ks ++ js) := by
 intro ls
 induction ls with
 | nil => intro ms ks js h1 h2; injection h1 with h1; subst h1; exact h2
 | cons l ls ih =>
  intro ms ks js h1 h2
  cases l with
  | lit v =>
   unfold dnT at h1
   split at h1
   ·rename_i k hk; injection h1 with h1; subst h1; rw [List.cons_append]; unfold dnT; rw [ih hk h2]; rfl
   ·cases h1
  | ws v =>
   unfold dnT at h1
   split at h1
   ·rename_i k hk; injection h1 with h1; subst h1; rw [List.cons_append]; unfold dnT; rw [ih hk h2]; rfl
   ·cases h1
  | dg v =>
   unfold dnT at h1
   split at h1
   ·rename_i k hk; injection h1 with h1; subst h1; rw [List.cons_append]; unfold dnT; rw [ih hk h2]; rfl
   ·cases h1
  | sl f a b c =>
   cases f with
   | false => cases h1
   | true =>
    unfold dnT at h1
    split at h1
    ·rename_i k hk; injection h1 with h1; subst h1; rw [List.cons_append]; unfold dnT; rw [ih hk h2]; rfl
    ·cases h1
  | _ => cases h1
theorem dnT_fm {α : Type} {cf : α → List Lf} {cc : α → List Lc} (h : ∀ a, dnT (cf a) = some (cc a)) : ∀ (l : List α), dnT (l.flatMap cf) = some (l.flatMap cc) := by
 intro l
 induction l with
 | nil => rfl
 | cons a l ih => rw [List.flatMap_cons, List.flatMap_cons]; exact dnT_app (h a) ih
theorem cA_full {α : Type} {cf : α → List Lf} {zf : List Lf} {n : Nat} {l : List α} (hl : l.length = n) : cA cf zf n l = l.flatMap cf := by unfold cA; rw [hl, Nat.sub_self]; simp
theorem dnT_J (j : J) : dnT j.L = some j.C := rfl
theorem dnT_X (x : X) : dnT x.L = some x.C := rfl
theorem dnT_box (l : List J) : dnT [boxL l] = some [rC0 l] := by cases l <;> rfl
theorem dnT_pts (l : List X) : dnT [ptsL l] = some [rP0 l] := by cases l <;> rfl
theorem fm_one {α β : Type} (f : α → β) (l : List α) : (l.flatMap fun a => [f a]) = l.map f := by
 induction l with
 | nil => rfl
 | cons a l ih => rw [List.flatMap_cons, ih]; rfl
abbrev HK2 := List (List Lf) → FuncId → List (List Lf) → FuncId → List AV → Option (Prop × AV)
def hoK2 (kk : HK2) (d n : Nat) (st : St) (args : List AV) : List AV → Option Ef
 | [.v false [.clo c bs], .v false [.clo c2 bs2]] => (match contsOf st bs, contsOf st bs2 with
  | some ls, some ls2 => if (ndB bs = true ∧ (ls.all fun l => l.all cbL) = true) ∧ (ndB bs2 = true ∧ (ls2.all fun l => l.all cbL) = true) ∧ ((args.take n).map (cvA st)).all noA = true then (match kk ls c ls2 c2 ((args.take n).map (cvA st)) with
   | some e => some (e.1, (args.take n).flatMap olA ++ bs.map (fun b => 2 * b + 1) ++ bs2.map (fun b => 2 * b + 1), [(2 * d, e.2)])
   | none => none) else none
  | _, _ => none)
 | _ => none
def hoO2 (g : FuncId) (n : Nat) (kk : HK2) : Orac := fun f d st args => if f = g then hoK2 kk d n st args (args.drop n) else none
theorem hoO2_ok {P : Program} {g : FuncId} {n : Nat} {kk : HK2} {w0 : World} (hen : ∀ (vs : Array Value) (w : World), (callFunc g vs).run P w = .ok (.enter g vs) w)
  (hk : ∀ ls c ls2 c2 xs e, kk ls c ls2 c2 xs = some e → e.1 → ∀ (S : Nat → Prop) w gs gs2, Below w0.heap.size w0 w → Tab w → Lent S w gs ls → Lent S w gs2 ls2 → Hc P w g (xs ++ [fvA c (ptrs gs), fvA c2 (ptrs gs2)]) e.2) : OrOK P (hoO2 g n kk) (fun _ => False) w0 := by
 have inv : ∀ f d st args e, hoO2 g n kk f d st args = some e → f = g ∧ ∃ c bs ls c2 bs2 ls2 q, args.drop n = [.v false [.clo c bs], .v false [.clo c2 bs2]] ∧ contsOf st bs = some ls ∧ contsOf st bs2 = some ls2 ∧ ((ndB bs = true ∧ (ls.all fun l => l.all cbL) = true) ∧ (ndB bs2 = true ∧ (ls2.all fun l => l.all cbL) = true) ∧ ((args.take n).map (cvA st)).all noA = true) ∧ kk ls c ls2 c2 ((args.take n).map (cvA st)) = some q ∧ e = (q.1, (args.take n).flatMap olA ++ bs.map (fun b => 2 * b + 1) ++ bs2.map (fun b => 2 * b + 1), [(2 * d, q.2)]) := by
  intro f d st args e he
  unfold hoO2 at he
  split at he
  case isFalse => cases he
  rename_i hf
  refine ⟨hf, ?_⟩
  generalize hx : args.drop n = x at he
  unfold hoK2 at he
  split at he
  case h_2 => cases he
  rename_i c bs c2 bs2
  split at he
  case h_2 => cases he
  rename_i ls ls2 hls hls2
  split at he
  case isFalse => cases he
  rename_i hc
  split at he
  case h_2 => cases he
  rename_i q hq
  injection he with he
  exact ⟨c, bs, ls, c2, bs2, ls2, q, rfl, hls, hls2, hc, hq, he.symm⟩
 refine ⟨fun f d st args e he => ?_, fun f d st args e he hp N ρ a w us hz hd hA => ?_, fun f d st st' args e he hkk => ?_⟩
 ·obtain ⟨rfl, _⟩ := inv _ _ _ _ _ he; exact hen
 ·obtain ⟨rfl, c, bs, ls, c2, bs2, ls2, q, hx, hls, hls2, hc, hq, rfl⟩ := inv _ _ _ _ _ he
  obtain ⟨c1, c2'⟩ := hA.cut n
  rw [hx] at c2'
  have hL := conts_lent hz hls hc.1.1 hc.1.2
  have hL2 := conts_lent hz hls2 hc.2.1.1 hc.2.1.2
  obtain ⟨v, _, e2, hv, v2, r, rfl, hv2, hr⟩ := c2'
  have hr : r = [] := hr
  subst hr
  obtain ⟨_, hv⟩ := RL.one.1 hv
  obtain ⟨_, hv2⟩ := RL.one.1 hv2
  have hv : v = .func (.func c) #[] (ptrs (bs.map ρ.r)).toArray := by rw [hv]; unfold ptrs; rw [List.map_map]; rfl
  have hv2 : v2 = .func (.func c2) #[] (ptrs (bs2.map ρ.r)).toArray := by rw [hv2]; unfold ptrs; rw [List.map_map]; rfl
  have hA2 : RA ρ.no (fun _ => false) w ((args.take n).map (cvA st) ++ [fvA c (ptrs (bs.map ρ.r)), fvA c2 (ptrs (bs2.map ρ.r))]) us := by
   have : us = us.take n ++ [v, v2] := by rw [← e2, List.take_append_drop]
   rw [this]
   exact (cv_RA hz c1 hc.2.2).append ⟨v, [v2], rfl, RL.one.2 hv, v2, [], rfl, RL.one.2 hv2, rfl⟩
  refine (hk _ _ _ _ _ _ hq hp _ w _ _ hz.bel.to (hz.tb.tab hz.bel) hL hL2 _ _ us hA2).mono ?_
  rintro en w' ⟨u, rfl, hR, hb⟩
  exact ⟨u, ρ, rfl, hz.val hb hd (hR _ _ hz.old)⟩
 ·obtain ⟨rfl, c, bs, ls, c2, bs2, ls2, q, hx, hls, hls2, hc, hq, rfl⟩ := inv _ _ _ _ _ he
  have hm : (args.take n).map (cvA st') = (args.take n).map (cvA st) := List.map_congr_left fun x hx => cvA_congr fun k hk' => hkk k (List.mem_append.2 (.inl (List.mem_append.2 (.inl (List.mem_flatMap.2 ⟨x, hx, hk'⟩)))))
  have hm2 := conts_congr (st := st) (st' := st') (bs := bs) fun k hk' => hkk k (List.mem_append.2 (.inl (List.mem_append.2 (.inr hk'))))
  have hm3 := conts_congr (st := st) (st' := st') (bs := bs2) fun k hk' => hkk k (List.mem_append.2 (.inr hk'))
  rw [← he]
  unfold hoO2
  rw [if_pos rfl, if_pos rfl, hx]
  unfold hoK2
  simp only [hm, hm2, hm3]
theorem hoO2_or {P : Program} {g : FuncId} {n : Nat} {kk : HK2} {B : Orac} {w0 : World} (hA : OrOK P (hoO2 g n kk) (fun _ => False) w0) (hB : OrOK P B (fun _ => False) w0) (hn : ∀ d st args, B g d st args = none) : OrOK P (orO (hoO2 g n kk) B) (fun _ => False) w0 :=
 orO_ok hA hB fun f d st args e he st' => by
  unfold hoO2
  split
  ·rename_i h; subst h; rw [hn] at he; cases he
  ·rfl
theorem fvO_orT {P : Program} {f : FuncId} {caps : List Value} {k : Int → Prop × AV} {T : Tbl} {w0 : World} (hA : OrOK P (fvO 1 f caps (gI k)) (fun _ => False) w0) (hB : OrOK P (tblO T) (fun _ => False) w0) (hT : ∀ g args e, T g args = some e → ∃ ls r, args = .v true ls :: r) : OrOK P (orO (fvO 1 f caps (gI k)) (tblO T)) (fun _ => False) w0 :=
 orO_ok hA hB fun g d st args e he st' => by
  unfold tblO at he
  split at he
  case h_2 => cases he
  rename_i q hq
  obtain ⟨ls, r, hx⟩ := hT _ _ _ hq
  match args, hx with
  | .v true l :: r', _ =>
   unfold fvO
   split
   ·split
    ·rfl
    ·rfl
   ·rfl
  | .v false l :: r', hx => rw [List.map_cons] at hx; injection hx with hx; cases hx
  | .tup _ :: r', hx => rw [List.map_cons] at hx; injection hx with hx; cases hx
  | .pre _ _ _ :: r', hx => rw [List.map_cons] at hx; injection hx with hx; cases hx
end
section
attribute [go_sem] X.eta J.eta Q.eta brkf_b brkf_t exef_some exif_some condf_b postf_some memOf cntF nmL rnL nmA rnA isV contsOf ndB refO orO pin Int.toNat_zero decide_eq_true_eq wrap0 wrap1 ci1 ci2 BEq.rfl beq_self_eq_true Int.natCast_zero ge_iff_le gt_iff_lt Int.le_refl Nat.zero_mul Nat.one_mul Nat.zero_add Nat.zero_lt_succ Nat.lt_add_one Nat.le_refl List.append_eq Int.toNat_natCast noE boxL_nil boxL_cons ptsL_nil ptsL_cons bne_self_eq_false wr2 wr3 wr4 wr5 wr6 wr7 wr8 gB gP gBB gBP gBZ gBBZ bC_nil bC_cons pC_nil pC_cons fvO Lc.up tyB tiS tiBB List.replicate_succ List.replicate_zero List.flatten_cons List.flatten_nil Int.ofNat_lt Int.cast_ofNat_Int Int.ofNat_eq_natCast List.isEmpty_nil List.isEmpty_cons and_false false_and List.cons_ne_nil Nat.add_zero ite_true ite_false if_true if_false Nat.le_zero_eq eq_self
attribute [go_sem ↓] not_cond outL_box outL_pts clL_box clL_pts okL_box okL_pts ment_box ment_pts olL_box olL_pts cvL_box cvL_pts noO_box noO_pts asB_box asP_pts len_box len_pts
attribute [local irreducible] chk
def tiMM : TI := ⟨false, 1, [.lit (.slice none 0 0)], [.slice none 0 0], [], some (22, false)⟩
def tiQ : TI := ⟨false, 1, [.lit (.slice none 0 0)], [.slice none 0 0], [], some (46, false)⟩
def tyM (t : TypeId) : Option TI := if t = 74 then some tiMM else if t = 29 then some tiQ else if t = 95 then some tiF else tyB t
theorem ok_MM : TiOK Tryz.prog 74 tiMM := leaf_ok (by kernel_rfl) (by kernel_rfl) (by kernel_rfl) (by kernel_rfl) (fun _ _ _ => rfl) rfl (fun b h => by cases h) (fun k z h => by cases h) (sl_of' (by kernel_rfl))
theorem ok_Q : TiOK Tryz.prog 29 tiQ := leaf_ok (by kernel_rfl) (by kernel_rfl) (by kernel_rfl) (by kernel_rfl) (fun _ _ _ => rfl) rfl (fun b h => by cases h) (fun k z h => by cases h) (sl_of' (by kernel_rfl))
theorem ok_F3 : TiOK Tryz.prog 95 tiF := leaf_ok (by kernel_rfl) (by kernel_rfl) (by kernel_rfl) (by kernel_rfl) (fun _ _ _ => rfl) rfl (fun b h => by cases h) (fun k z h => by cases h) (fun e b h => by cases h)
theorem tyM_ok (t : TypeId) (i : TI) (h : tyM t = some i) : TiOK Tryz.prog t i := by
 unfold tyM at h
 by_cases h0 : t = 74
 ·rw [if_pos h0] at h; injection h with h; subst h; subst h0; exact ok_MM
 rw [if_neg h0] at h
 by_cases h1 : t = 29
 ·rw [if_pos h1] at h; injection h with h; subst h; subst h1; exact ok_Q
 rw [if_neg h1] at h
 by_cases h2 : t = 95
 ·rw [if_pos h2] at h; injection h with h; subst h; subst h2; exact ok_F3
 rw [if_neg h2] at h
 exact tyB_ok t i h
def eachR {α : Type} (r : List α → Lc) (x : List (List α) × Int) : AV := .tup [(false, [bif x.1.isEmpty then .lit (.slice none 0 0) else .sl true 1 x.1.length (x.1.map r)]), (false, [.lit (.int .i64 x.2)])]
theorem meC_J (st : St) (j : J) : j.L.all (ment st) = true := rfl
theorem meC_X (st : St) (x : X) : x.L.all (ment st) = true := rfl
theorem meC_b (st : St) (l : List J) : [boxL l].all (ment st) = true := by rw [List.all_cons, ment_box]; rfl
theorem meC_p (st : St) (l : List X) : [ptsL l].all (ment st) = true := by rw [List.all_cons, ment_pts]; rfl
def cJ_ (n : Nat) (l : List J) : List Lf := cA J.L zJ.L n l
theorem cJ_len {n : Nat} {l : List J} (hl : l.length ≤ n) : (cJ_ n l).length = n * 6 := cA_len (cf := J.L) (zf := zJ.L) (s := 6) (fun _ => rfl) rfl hl
theorem cJ_me {st : St} {n : Nat} {l : List J} : (cJ_ n l).all (ment st) = true := cA_all (p := ment st) (meC_J st) rfl
theorem eachJ0 {w : World} {f : FuncId} {caps : List Value} {n : Nat} {F : Nat → J × Int} (ht : Tab w) (hf : Fv Tryz.prog w f caps (gI fun z => (0 ≤ z ∧ z < (n : Int), jeA (F z.toNat)))) (h1 : 1 ≤ n) (h2 : n ≤ 1000) : Hc Tryz.prog w 76 [iA n, fvA f caps] (bxe (eachN F n)) := by
 have c1 : (0 ≤ (n : Int)) = True := eq_true (by omega)
 have c2 : ((n : Int) ≤ 1000) = True := eq_true (by omega)
 have e0 : (List.replicate n [.lit (.bool false), .lit (.int .i64 0), .ws [], .lit (.bool false), .lit (.int .i64 0), .ws []]).flatten = cJ_ n ([] : List J) := (cA_nil (cf := J.L) (zf := zJ.L)).symm
 refine hc_of (O := orO (fvO 1 f caps (gI fun z => (0 ≤ z ∧ z < (n : Int), jeA (F z.toNat)))) (tblO noT)) (by kernel_rfl) tyM_ok (fvO_or (fvO_ok hf) (tblO_ok noT_ok _ w) (fun g d st args h => tbn)) ht [9999999, 0, 2, 12, 23, 24, 26] ((n + 1) * 200 + 100) 31 [.tmp 4, .tmp 5] Tryz.func76 rfl Tryz.ntmps76 (by rw [Tryz.results76]) (by simp) rfl (fun hsm => ?_)
 simp (maxSteps := 10000000) only [go_sem, seval, reduceCtorEq, tyM, tiQ, tiMM, c1, c2, e0]
 refine loop_ind 200 (fun j => [(0, iA n), (2, fvA f caps), (12, .s (.osl 11 n)), (23, .v true (cJ_ n (eachN F j).1)), (24, iA n), (26, iA j)]) n (fun j => (eachN F j).2 = 0) 0 (fun j _ => by simp only [List.all_cons, List.all_nil, mentA, ment, cJ_me, Bool.and_true]; rfl) (fun j mm _ hj hI ih => ?_) (by omega) rfl rfl
 have hlen := eachN_len hI
 rcases Nat.lt_or_ge j n with hlt | hge
 ·have d := decide_eq_true (show (j : Int) < (n : Int) by omega)
  have d0 : ((j : Int) < (n : Int)) = True := eq_true (by omega)
  have g1 : (j < n) = True := eq_true hlt
  have g0 : (0 ≤ (j : Int)) = True := eq_true (by omega)
  have hw := wrap_nat (j := j) (by omega)
  have hl := cJ_len (n := n) (l := (eachN F j).1) (by omega)
  have g3 : (j * 6 + 6 ≤ n * 6) = True := eq_true (by omega)
  cases hF : (F j).2 != 0 with
  | true =>
   have hr := eachN_at hI hF hlt
   simp (maxSteps := 10000000) only [go_sem, seval, reduceCtorEq, tyM, tiQ, tiMM, d, d0, g0, g1, hw, hF, hr, eachR]
   repeat' with_reducible first | apply And.intro | apply condP <;> intro _
   all_goals first | (show chk _ _ = true; kernel_rfl) | assumption | rfl | (simp only [*]; done)
  | false =>
   have hF0 : (F j).2 = 0 := by simpa using hF
   have hk := eachN_ok hI hF0
   have es := cA_set (cf := J.L) (zf := zJ.L) (s := 6) (fun _ => rfl) rfl (F j).1 hlen hlt
   have es : List.take (j * 6) (cJ_ n (eachN F j).1) ++ [.lit (.bool (F j).1.lo.s), .lit (.int .i64 (F j).1.lo.e), .ws (F j).1.lo.xs, .lit (.bool (F j).1.hi.s), .lit (.int .i64 (F j).1.hi.e), .ws (F j).1.hi.xs] ++ List.drop (j * 6 + 6) (cJ_ n (eachN F j).1) = cJ_ n (eachN F (j + 1)).1 := by rw [hk]; exact es
   have es' : List.take (j * 6) (cJ_ n (eachN F j).1) ++ ([.lit (.bool (F j).1.lo.s), .lit (.int .i64 (F j).1.lo.e), .ws (F j).1.lo.xs, .lit (.bool (F j).1.hi.s), .lit (.int .i64 (F j).1.hi.e), .ws (F j).1.hi.xs] ++ List.drop (j * 6 + 6) (cJ_ n (eachN F j).1)) = cJ_ n (eachN F (j + 1)).1 := by rw [← List.append_assoc]; exact es
   have hk2 : (eachN F (j + 1)).2 = 0 := by rw [hk]
   replace ih := ih hlt hk2
   simp (maxSteps := 10000000) only [go_sem, seval, reduceCtorEq, tyM, tiQ, tiMM, d, d0, g0, g1, g3, hw, hF, hl, es]
   repeat' with_reducible first | apply And.intro | apply condP <;> intro _
   all_goals first | (show chk _ _ = true; kernel_rfl) | (exact ih _ _ rfl) | assumption | rfl
 ·have hn : j = n := by omega
  subst hn
  have d := decide_eq_false (show ¬ (j : Int) < (j : Int) by omega)
  have hl := cJ_len (n := j) (l := (eachN F j).1) (by omega)
  have hq : j * 6 / j = 6 := Nat.mul_div_cancel_left _ (by omega)
  have hdn : dnT (cJ_ j (eachN F j).1) = some (bC (eachN F j).1) := by unfold cJ_; rw [cA_full hlen]; exact dnT_fm dnT_J _
  have hfin : bxe (eachN F j) = .tup [(false, [.sl true 6 j (bC (eachN F j).1)]), (false, [.lit (.int .i64 0)])] := by
   cases hx : eachN F j with
   | mk l e =>
    rw [hx] at hI hlen
    have hI : e = 0 := hI
    have hlen : l.length = j := hlen
    subst hI; subst hlen
    cases l with
    | nil => simp at h1
    | cons a l => rfl
  simp (maxSteps := 10000000) only [go_sem, seval, reduceCtorEq, tyM, tiQ, tiMM, d, hl, hq, hdn, hfin]
  repeat' with_reducible first | apply And.intro | apply condP <;> intro _
  all_goals first | (show chk _ _ = true; kernel_rfl) | assumption | rfl | (simp only [*]; done)
theorem eachJ {w : World} {f : FuncId} {caps : List Value} {n : Nat} {F : Nat → J × Int} (ht : Tab w) (hf : Fv Tryz.prog w f caps (gI fun z => (0 ≤ z ∧ z < (n : Int), jeA (F z.toNat)))) (h1 : 1 ≤ n) (h2 : n ≤ 1000) : Hc Tryz.prog w 76 [iA n, fvA f caps] (bxe (eachN F n)) := eachJ0 ht hf h1 h2
def cX_ (n : Nat) (l : List X) : List Lf := cA X.L zX.L n l
theorem cX_len {n : Nat} {l : List X} (hl : l.length ≤ n) : (cX_ n l).length = n * 3 := cA_len (cf := X.L) (zf := zX.L) (s := 3) (fun _ => rfl) rfl hl
theorem cX_me {st : St} {n : Nat} {l : List X} : (cX_ n l).all (ment st) = true := cA_all (p := ment st) (meC_X st) rfl
theorem eachX0 {w : World} {f : FuncId} {caps : List Value} {n : Nat} {F : Nat → X × Int} (ht : Tab w) (hf : Fv Tryz.prog w f caps (gI fun z => (0 ≤ z ∧ z < (n : Int), xeA (F z.toNat)))) (h1 : 1 ≤ n) (h2 : n ≤ 1000) : Hc Tryz.prog w 91 [iA n, fvA f caps] (pxe (eachN F n)) := by
 have c1 : (0 ≤ (n : Int)) = True := eq_true (by omega)
 have c2 : ((n : Int) ≤ 1000) = True := eq_true (by omega)
 have e0 : (List.replicate n [.lit (.bool false), .lit (.int .i64 0), .ws []]).flatten = cX_ n ([] : List X) := (cA_nil (cf := X.L) (zf := zX.L)).symm
 refine hc_of (O := orO (fvO 1 f caps (gI fun z => (0 ≤ z ∧ z < (n : Int), xeA (F z.toNat)))) (tblO noT)) (by kernel_rfl) tyM_ok (fvO_or (fvO_ok hf) (tblO_ok noT_ok _ w) (fun g d st args h => tbn)) ht [9999999, 0, 2, 12, 23, 24, 26] ((n + 1) * 200 + 100) 31 [.tmp 4, .tmp 5] Tryz.func91 rfl Tryz.ntmps91 (by rw [Tryz.results91]) (by simp) rfl (fun hsm => ?_)
 simp (maxSteps := 10000000) only [go_sem, seval, reduceCtorEq, tyM, tiQ, tiMM, c1, c2, e0]
 refine loop_ind 200 (fun j => [(0, iA n), (2, fvA f caps), (12, .s (.osl 11 n)), (23, .v true (cX_ n (eachN F j).1)), (24, iA n), (26, iA j)]) n (fun j => (eachN F j).2 = 0) 0 (fun j _ => by simp only [List.all_cons, List.all_nil, mentA, ment, cX_me, Bool.and_true]; rfl) (fun j mm _ hj hI ih => ?_) (by omega) rfl rfl
 have hlen := eachN_len hI
 rcases Nat.lt_or_ge j n with hlt | hge
 ·have d := decide_eq_true (show (j : Int) < (n : Int) by omega)
  have d0 : ((j : Int) < (n : Int)) = True := eq_true (by omega)
  have g1 : (j < n) = True := eq_true hlt
  have g0 : (0 ≤ (j : Int)) = True := eq_true (by omega)
  have hw := wrap_nat (j := j) (by omega)
  have hl := cX_len (n := n) (l := (eachN F j).1) (by omega)
  have g3 : (j * 3 + 3 ≤ n * 3) = True := eq_true (by omega)
  cases hF : (F j).2 != 0 with
  | true =>
   have hr := eachN_at hI hF hlt
   simp (maxSteps := 10000000) only [go_sem, seval, reduceCtorEq, tyM, tiQ, tiMM, d, d0, g0, g1, hw, hF, hr, eachR]
   repeat' with_reducible first | apply And.intro | apply condP <;> intro _
   all_goals first | (show chk _ _ = true; kernel_rfl) | assumption | rfl | (simp only [*]; done)
  | false =>
   have hF0 : (F j).2 = 0 := by simpa using hF
   have hk := eachN_ok hI hF0
   have es := cA_set (cf := X.L) (zf := zX.L) (s := 3) (fun _ => rfl) rfl (F j).1 hlen hlt
   have es : List.take (j * 3) (cX_ n (eachN F j).1) ++ [.lit (.bool (F j).1.s), .lit (.int .i64 (F j).1.e), .ws (F j).1.xs] ++ List.drop (j * 3 + 3) (cX_ n (eachN F j).1) = cX_ n (eachN F (j + 1)).1 := by rw [hk]; exact es
   have es' : List.take (j * 3) (cX_ n (eachN F j).1) ++ ([.lit (.bool (F j).1.s), .lit (.int .i64 (F j).1.e), .ws (F j).1.xs] ++ List.drop (j * 3 + 3) (cX_ n (eachN F j).1)) = cX_ n (eachN F (j + 1)).1 := by rw [← List.append_assoc]; exact es
   have hk2 : (eachN F (j + 1)).2 = 0 := by rw [hk]
   replace ih := ih hlt hk2
   simp (maxSteps := 10000000) only [go_sem, seval, reduceCtorEq, tyM, tiQ, tiMM, d, d0, g0, g1, g3, hw, hF, hl, es]
   repeat' with_reducible first | apply And.intro | apply condP <;> intro _
   all_goals first | (show chk _ _ = true; kernel_rfl) | (exact ih _ _ rfl) | assumption | rfl
 ·have hn : j = n := by omega
  subst hn
  have d := decide_eq_false (show ¬ (j : Int) < (j : Int) by omega)
  have hl := cX_len (n := j) (l := (eachN F j).1) (by omega)
  have hq : j * 3 / j = 3 := Nat.mul_div_cancel_left _ (by omega)
  have hdn : dnT (cX_ j (eachN F j).1) = some (pC (eachN F j).1) := by unfold cX_; rw [cA_full hlen]; exact dnT_fm dnT_X _
  have hfin : pxe (eachN F j) = .tup [(false, [.sl true 3 j (pC (eachN F j).1)]), (false, [.lit (.int .i64 0)])] := by
   cases hx : eachN F j with
   | mk l e =>
    rw [hx] at hI hlen
    have hI : e = 0 := hI
    have hlen : l.length = j := hlen
    subst hI; subst hlen
    cases l with
    | nil => simp at h1
    | cons a l => rfl
  simp (maxSteps := 10000000) only [go_sem, seval, reduceCtorEq, tyM, tiQ, tiMM, d, hl, hq, hdn, hfin]
  repeat' with_reducible first | apply And.intro | apply condP <;> intro _
  all_goals first | (show chk _ _ = true; kernel_rfl) | assumption | rfl | (simp only [*]; done)
theorem eachX {w : World} {f : FuncId} {caps : List Value} {n : Nat} {F : Nat → X × Int} (ht : Tab w) (hf : Fv Tryz.prog w f caps (gI fun z => (0 ≤ z ∧ z < (n : Int), xeA (F z.toNat)))) (h1 : 1 ≤ n) (h2 : n ≤ 1000) : Hc Tryz.prog w 91 [iA n, fvA f caps] (pxe (eachN F n)) := eachX0 ht hf h1 h2
def cB_ (n : Nat) (l : List (List J)) : List Lf := cA (fun l => [boxL l]) [.lit (.slice none 0 0)] n l
theorem cB_len {n : Nat} {l : List (List J)} (hl : l.length ≤ n) : (cB_ n l).length = n * 1 := cA_len (cf := (fun l => [boxL l])) (zf := [.lit (.slice none 0 0)]) (s := 1) (fun _ => rfl) rfl hl
theorem cB_me {st : St} {n : Nat} {l : List (List J)} : (cB_ n l).all (ment st) = true := cA_all (p := ment st) (meC_b st) rfl
theorem eachB0 {w : World} {f : FuncId} {caps : List Value} {n : Nat} {F : Nat → (List J) × Int} (ht : Tab w) (hf : Fv Tryz.prog w f caps (gI fun z => (0 ≤ z ∧ z < (n : Int), bxe (F z.toNat)))) (h1 : 1 ≤ n) (h2 : n ≤ 1000) : Hc Tryz.prog w 74 [iA n, fvA f caps] (eachR rC0 (eachN F n)) := by
 have c1 : (0 ≤ (n : Int)) = True := eq_true (by omega)
 have c2 : ((n : Int) ≤ 1000) = True := eq_true (by omega)
 have e0 : (List.replicate n [.lit (.slice none 0 0)]).flatten = cB_ n ([] : List (List J)) := (cA_nil (cf := (fun l => [boxL l])) (zf := [.lit (.slice none 0 0)])).symm
 refine hc_of (O := orO (fvO 1 f caps (gI fun z => (0 ≤ z ∧ z < (n : Int), bxe (F z.toNat)))) (tblO noT)) (by kernel_rfl) tyM_ok (fvO_or (fvO_ok hf) (tblO_ok noT_ok _ w) (fun g d st args h => tbn)) ht [9999999, 0, 2, 12, 23, 24, 26] ((n + 1) * 200 + 100) 31 [.tmp 4, .tmp 5] Tryz.func74 rfl Tryz.ntmps74 (by rw [Tryz.results74]) (by simp) rfl (fun hsm => ?_)
 simp (maxSteps := 10000000) only [go_sem, seval, reduceCtorEq, tyM, tiQ, tiMM, c1, c2, e0]
 refine loop_ind 200 (fun j => [(0, iA n), (2, fvA f caps), (12, .s (.osl 11 n)), (23, .v true (cB_ n (eachN F j).1)), (24, iA n), (26, iA j)]) n (fun j => (eachN F j).2 = 0) 0 (fun j _ => by simp only [List.all_cons, List.all_nil, mentA, ment, cB_me, Bool.and_true]; rfl) (fun j mm _ hj hI ih => ?_) (by omega) rfl rfl
 have hlen := eachN_len hI
 rcases Nat.lt_or_ge j n with hlt | hge
 ·have d := decide_eq_true (show (j : Int) < (n : Int) by omega)
  have d0 : ((j : Int) < (n : Int)) = True := eq_true (by omega)
  have g1 : (j < n) = True := eq_true hlt
  have g0 : (0 ≤ (j : Int)) = True := eq_true (by omega)
  have hw := wrap_nat (j := j) (by omega)
  have hl := cB_len (n := n) (l := (eachN F j).1) (by omega)
  have g3 : (j * 1 + 1 ≤ n * 1) = True := eq_true (by omega)
  cases hF : (F j).2 != 0 with
  | true =>
   have hr := eachN_at hI hF hlt
   simp (maxSteps := 10000000) only [go_sem, seval, reduceCtorEq, tyM, tiQ, tiMM, d, d0, g0, g1, hw, hF, hr, eachR, bxe, pxe]
   repeat' with_reducible first | apply And.intro | apply condP <;> intro _
   all_goals first | (show chk _ _ = true; kernel_rfl) | assumption | rfl | (simp only [*]; done)
  | false =>
   have hF0 : (F j).2 = 0 := by simpa using hF
   have hk := eachN_ok hI hF0
   have es := cA_set (cf := (fun l => [boxL l])) (zf := [.lit (.slice none 0 0)]) (s := 1) (fun _ => rfl) rfl (F j).1 hlen hlt
   have es : List.take (j * 1) (cB_ n (eachN F j).1) ++ [boxL (F j).1] ++ List.drop (j * 1 + 1) (cB_ n (eachN F j).1) = cB_ n (eachN F (j + 1)).1 := by rw [hk]; exact es
   have es' : List.take (j * 1) (cB_ n (eachN F j).1) ++ ([boxL (F j).1] ++ List.drop (j * 1 + 1) (cB_ n (eachN F j).1)) = cB_ n (eachN F (j + 1)).1 := by rw [← List.append_assoc]; exact es
   have hk2 : (eachN F (j + 1)).2 = 0 := by rw [hk]
   replace ih := ih hlt hk2
   simp (maxSteps := 10000000) only [go_sem, seval, reduceCtorEq, tyM, tiQ, tiMM, d, d0, g0, g1, g3, hw, hF, hl, es, bxe, pxe]
   repeat' with_reducible first | apply And.intro | apply condP <;> intro _
   all_goals first | (show chk _ _ = true; kernel_rfl) | (exact ih _ _ rfl) | assumption | rfl
 ·have hn : j = n := by omega
  subst hn
  have d := decide_eq_false (show ¬ (j : Int) < (j : Int) by omega)
  have hl := cB_len (n := j) (l := (eachN F j).1) (by omega)
  have hq : j * 1 / j = 1 := Nat.mul_div_cancel_left _ (by omega)
  have hdn : dnT (cB_ j (eachN F j).1) = some ((eachN F j).1.map rC0) := by unfold cB_; rw [cA_full hlen, ← fm_one]; exact dnT_fm dnT_box _
  have hfin : eachR rC0 (eachN F j) = .tup [(false, [.sl true 1 j ((eachN F j).1.map rC0)]), (false, [.lit (.int .i64 0)])] := by
   cases hx : eachN F j with
   | mk l e =>
    rw [hx] at hI hlen
    have hI : e = 0 := hI
    have hlen : l.length = j := hlen
    subst hI; subst hlen
    cases l with
    | nil => simp at h1
    | cons a l => rfl
  simp (maxSteps := 10000000) only [go_sem, seval, reduceCtorEq, tyM, tiQ, tiMM, d, hl, hq, hdn, hfin]
  repeat' with_reducible first | apply And.intro | apply condP <;> intro _
  all_goals first | (show chk _ _ = true; kernel_rfl) | assumption | rfl | (simp only [*]; done)
theorem eachR_B (x : List (List J) × Int) : Wk1 (eachR rC0 x) (mxe x) := by
 obtain ⟨l, e⟩ := x
 cases l with
 | nil => exact wk_tup (fun _ _ _ _ h => nil_sl h) rfl
 | cons a l => exact wk_tup (fun _ _ _ _ h => mL_R h) rfl
theorem eachR_P (x : List (List X) × Int) : Wk1 (eachR rP0 x) (qxe x) := by
 obtain ⟨l, e⟩ := x
 cases l with
 | nil => exact wk_tup (fun _ _ _ _ h => nil_sl h) rfl
 | cons a l => exact wk_tup (fun _ _ _ _ h => qL_R h) rfl
theorem eachB {w : World} {f : FuncId} {caps : List Value} {n : Nat} {F : Nat → (List J) × Int} (ht : Tab w) (hf : Fv Tryz.prog w f caps (gI fun z => (0 ≤ z ∧ z < (n : Int), bxe (F z.toNat)))) (h1 : 1 ≤ n) (h2 : n ≤ 1000) : Hc Tryz.prog w 74 [iA n, fvA f caps] (mxe (eachN F n)) := (eachB0 ht hf h1 h2).wk (eachR_B _)
def cP_ (n : Nat) (l : List (List X)) : List Lf := cA (fun l => [ptsL l]) [.lit (.slice none 0 0)] n l
theorem cP_len {n : Nat} {l : List (List X)} (hl : l.length ≤ n) : (cP_ n l).length = n * 1 := cA_len (cf := (fun l => [ptsL l])) (zf := [.lit (.slice none 0 0)]) (s := 1) (fun _ => rfl) rfl hl
theorem cP_me {st : St} {n : Nat} {l : List (List X)} : (cP_ n l).all (ment st) = true := cA_all (p := ment st) (meC_p st) rfl
theorem eachP0 {w : World} {f : FuncId} {caps : List Value} {n : Nat} {F : Nat → (List X) × Int} (ht : Tab w) (hf : Fv Tryz.prog w f caps (gI fun z => (0 ≤ z ∧ z < (n : Int), pxe (F z.toNat)))) (h1 : 1 ≤ n) (h2 : n ≤ 1000) : Hc Tryz.prog w 110 [iA n, fvA f caps] (eachR rP0 (eachN F n)) := by
 have c1 : (0 ≤ (n : Int)) = True := eq_true (by omega)
 have c2 : ((n : Int) ≤ 1000) = True := eq_true (by omega)
 have e0 : (List.replicate n [.lit (.slice none 0 0)]).flatten = cP_ n ([] : List (List X)) := (cA_nil (cf := (fun l => [ptsL l])) (zf := [.lit (.slice none 0 0)])).symm
 refine hc_of (O := orO (fvO 1 f caps (gI fun z => (0 ≤ z ∧ z < (n : Int), pxe (F z.toNat)))) (tblO noT)) (by kernel_rfl) tyM_ok (fvO_or (fvO_ok hf) (tblO_ok noT_ok _ w) (fun g d st args h => tbn)) ht [9999999, 0, 2, 12, 23, 24, 26] ((n + 1) * 200 + 100) 31 [.tmp 4, .tmp 5] Tryz.func110 rfl Tryz.ntmps110 (by rw [Tryz.results110]) (by simp) rfl (fun hsm => ?_)
 simp (maxSteps := 10000000) only [go_sem, seval, reduceCtorEq, tyM, tiQ, tiMM, c1, c2, e0]
 refine loop_ind 200 (fun j => [(0, iA n), (2, fvA f caps), (12, .s (.osl 11 n)), (23, .v true (cP_ n (eachN F j).1)), (24, iA n), (26, iA j)]) n (fun j => (eachN F j).2 = 0) 0 (fun j _ => by simp only [List.all_cons, List.all_nil, mentA, ment, cP_me, Bool.and_true]; rfl) (fun j mm _ hj hI ih => ?_) (by omega) rfl rfl
 have hlen := eachN_len hI
 rcases Nat.lt_or_ge j n with hlt | hge
 ·have d := decide_eq_true (show (j : Int) < (n : Int) by omega)
  have d0 : ((j : Int) < (n : Int)) = True := eq_true (by omega)
  have g1 : (j < n) = True := eq_true hlt
  have g0 : (0 ≤ (j : Int)) = True := eq_true (by omega)
  have hw := wrap_nat (j := j) (by omega)
  have hl := cP_len (n := n) (l := (eachN F j).1) (by omega)
  have g3 : (j * 1 + 1 ≤ n * 1) = True := eq_true (by omega)
  cases hF : (F j).2 != 0 with
  | true =>
   have hr := eachN_at hI hF hlt
   simp (maxSteps := 10000000) only [go_sem, seval, reduceCtorEq, tyM, tiQ, tiMM, d, d0, g0, g1, hw, hF, hr, eachR, bxe, pxe]
   repeat' with_reducible first | apply And.intro | apply condP <;> intro _
   all_goals first | (show chk _ _ = true; kernel_rfl) | assumption | rfl | (simp only [*]; done)
  | false =>
   have hF0 : (F j).2 = 0 := by simpa using hF
   have hk := eachN_ok hI hF0
   have es := cA_set (cf := (fun l => [ptsL l])) (zf := [.lit (.slice none 0 0)]) (s := 1) (fun _ => rfl) rfl (F j).1 hlen hlt
   have es : List.take (j * 1) (cP_ n (eachN F j).1) ++ [ptsL (F j).1] ++ List.drop (j * 1 + 1) (cP_ n (eachN F j).1) = cP_ n (eachN F (j + 1)).1 := by rw [hk]; exact es
   have es' : List.take (j * 1) (cP_ n (eachN F j).1) ++ ([ptsL (F j).1] ++ List.drop (j * 1 + 1) (cP_ n (eachN F j).1)) = cP_ n (eachN F (j + 1)).1 := by rw [← List.append_assoc]; exact es
   have hk2 : (eachN F (j + 1)).2 = 0 := by rw [hk]
   replace ih := ih hlt hk2
   simp (maxSteps := 10000000) only [go_sem, seval, reduceCtorEq, tyM, tiQ, tiMM, d, d0, g0, g1, g3, hw, hF, hl, es, bxe, pxe]
   repeat' with_reducible first | apply And.intro | apply condP <;> intro _
   all_goals first | (show chk _ _ = true; kernel_rfl) | (exact ih _ _ rfl) | assumption | rfl
 ·have hn : j = n := by omega
  subst hn
  have d := decide_eq_false (show ¬ (j : Int) < (j : Int) by omega)
  have hl := cP_len (n := j) (l := (eachN F j).1) (by omega)
  have hq : j * 1 / j = 1 := Nat.mul_div_cancel_left _ (by omega)
  have hdn : dnT (cP_ j (eachN F j).1) = some ((eachN F j).1.map rP0) := by unfold cP_; rw [cA_full hlen, ← fm_one]; exact dnT_fm dnT_pts _
  have hfin : eachR rP0 (eachN F j) = .tup [(false, [.sl true 1 j ((eachN F j).1.map rP0)]), (false, [.lit (.int .i64 0)])] := by
   cases hx : eachN F j with
   | mk l e =>
    rw [hx] at hI hlen
    have hI : e = 0 := hI
    have hlen : l.length = j := hlen
    subst hI; subst hlen
    cases l with
    | nil => simp at h1
    | cons a l => rfl
  simp (maxSteps := 10000000) only [go_sem, seval, reduceCtorEq, tyM, tiQ, tiMM, d, hl, hq, hdn, hfin]
  repeat' with_reducible first | apply And.intro | apply condP <;> intro _
  all_goals first | (show chk _ _ = true; kernel_rfl) | assumption | rfl | (simp only [*]; done)
theorem eachP {w : World} {f : FuncId} {caps : List Value} {n : Nat} {F : Nat → (List X) × Int} (ht : Tab w) (hf : Fv Tryz.prog w f caps (gI fun z => (0 ≤ z ∧ z < (n : Int), pxe (F z.toNat)))) (h1 : 1 ≤ n) (h2 : n ≤ 1000) : Hc Tryz.prog w 110 [iA n, fvA f caps] (qxe (eachN F n)) := (eachP0 ht hf h1 h2).wk (eachR_P _)
end
section
attribute [local go_sem] tyM
attribute [local irreducible] chk
theorem fvO_two {P : Program} {f f2 : FuncId} {caps caps2 : List Value} {k : Int → Prop × AV} {k2 : List AV → Option (Prop × AV)} {w0 : World} (hA : OrOK P (fvO 1 f caps (gI k)) (fun _ => False) w0) (hB : OrOK P (fvO 2 f2 caps2 k2) (fun _ => False) w0) (hT : ∀ args e, k2 args = some e → ∃ ls r, args = .v true ls :: r) : OrOK P (orO (fvO 1 f caps (gI k)) (fvO 2 f2 caps2 k2)) (fun _ => False) w0 :=
 orO_ok hA hB fun g d st args e he st' => by
  unfold fvO at he
  split at he
  case isFalse => cases he
  split at he
  case isFalse => cases he
  split at he
  case h_2 => cases he
  rename_i q hq
  obtain ⟨ls, r, hx⟩ := hT _ _ hq
  match args, hx with
  | [], hx => cases hx
  | .v true l :: r', _ =>
   unfold fvO
   split
   ·split
    ·rfl
    ·rfl
   ·rfl
  | .v false l :: r', hx => rw [List.take_succ_cons, List.map_cons] at hx; injection hx with hx; cases hx
  | .tup _ :: r', hx => rw [List.take_succ_cons, List.map_cons] at hx; injection hx with hx; cases hx
  | .pre _ _ _ :: r', hx => rw [List.take_succ_cons, List.map_cons] at hx; injection hx with hx; cases hx
theorem totJ {w : World} {f f2 : FuncId} {caps caps2 : List Value} {n : Nat} {F : Nat → J × Int} {add : J → J → J × Int} (ht : Tab w) (hf : Fv Tryz.prog w f caps (gI fun z => (0 ≤ z ∧ z < (n : Int), jeA (F z.toNat)))) (hf2 : Fv Tryz.prog w f2 caps2 (gJJ fun a b => (True, jeA (add a b)))) (h2 : n ≤ 1000) : Hc Tryz.prog w 133 [iA n, fvA f caps, fvA f2 caps2] (jeA (totN zJ F add n)) := by
 refine hc_of (O := orO (fvO 1 f caps (gI fun z => (0 ≤ z ∧ z < (n : Int), jeA (F z.toNat)))) (fvO 2 f2 caps2 (gJJ fun a b => (True, jeA (add a b))))) (by kernel_rfl) tyM_ok (fvO_two (fvO_ok hf) (fvO_ok hf2) (fun args e h => by obtain ⟨a, b, rfl, _⟩ := gJJ_eq h; exact ⟨_, _, rfl⟩)) ht [9999999, 0, 2, 4, 12, 13, 16, 17, 18, 19, 26, 28] ((n + 1) * 300 + 200) 43 [.cell 6 39, .tmp 7] Tryz.func133 rfl Tryz.ntmps133 (by rw [Tryz.results133]) (by simp) rfl (fun hsm => ?_)
 simp (maxSteps := 10000000) only [go_sem, seval, reduceCtorEq]
 refine loop_ind 300 (fun j => [(0, iA n), (2, fvA f caps), (4, fvA f2 caps2), (12, .s (.own 6 0)), (13, .v true [.lit (.bool false), .lit (.int .i64 0), .ws [], .lit (.bool false), .lit (.int .i64 0), .ws []]), (16, .s (.own 8 0)), (17, .v true [.lit (.bool (totN zJ F add j).1.lo.s), .lit (.int .i64 (totN zJ F add j).1.lo.e), .ws (totN zJ F add j).1.lo.xs, .lit (.bool (totN zJ F add j).1.hi.s), .lit (.int .i64 (totN zJ F add j).1.hi.e), .ws (totN zJ F add j).1.hi.xs]), (18, .s (.own 9 0)), (19, .v true [.lit (.bool false), .lit (.int .i64 0), .ws [], .lit (.bool false), .lit (.int .i64 0), .ws []]), (26, iA n), (28, iA j)]) n (fun j => (totN zJ F add j).2 = 0) 0 (fun j _ => rfl) (fun j mm _ hj hI ih => ?_) (by omega) rfl rfl
 have hs := totN_s (z := zJ) (F := F) (add := add) hI
 rcases Nat.lt_or_ge j n with hlt | hge
 ·have d := decide_eq_true (show (j : Int) < (n : Int) by omega)
  have d0 : ((j : Int) < (n : Int)) = True := eq_true (by omega)
  have g1 : (j < n) = True := eq_true hlt
  have g0 : (0 ≤ (j : Int)) = True := eq_true (by omega)
  have hw := wrap_nat (j := j) (by omega)
  cases hF : (F j).2 != 0 with
  | true =>
   have hF2 : ((F j).2 == 0) = false := by simpa using hF
   rw [hF, cond_true] at hs
   have hr : totN zJ F add n = (zJ, (F j).2) := by rw [totN_stop (j := j + 1) (by rw [hs]; exact hF) hlt, hs]
   simp (maxSteps := 10000000) only [go_sem, seval, reduceCtorEq, ite_self, d, d0, g0, g1, hw, hF, hF2, hr]
   repeat' with_reducible first | apply And.intro | apply condP <;> intro _
   all_goals first | (show chk _ _ = true; kernel_rfl) | assumption | rfl | (simp only [*]; done)
  | false =>
   have hF0 : (F j).2 = 0 := by simpa using hF
   have hF2 : ((F j).2 == 0) = true := by rw [hF0]; rfl
   rw [hF, cond_false] at hs
   rcases Nat.eq_zero_or_pos j with h0 | h0
   ·have e : decide ((0 : Int) < (j : Int)) = false := decide_eq_false (by omega)
    have hs : totN zJ F add (j + 1) = ((F j).1, 0) := by rw [hs, decide_eq_false (by omega)]; rfl
    have hk2 : (totN zJ F add (j + 1)).2 = 0 := by rw [hs]
    replace ih := ih hlt hk2
    rw [hs] at ih
    simp (maxSteps := 10000000) only [go_sem, seval, reduceCtorEq, ite_self, d, d0, g0, g1, hw, hF, hF2, e, hF0]
    repeat' with_reducible first | apply And.intro | apply condP <;> intro _
    all_goals first | (show chk _ _ = true; kernel_rfl) | (exact ih _ _ rfl) | assumption | rfl
   ·have e : decide ((0 : Int) < (j : Int)) = true := decide_eq_true (by omega)
    rw [decide_eq_true h0, cond_true] at hs
    cases hA : (add (totN zJ F add j).1 (F j).1).2 != 0 with
    | true =>
     rw [hA, cond_true] at hs
     have hr : totN zJ F add n = (zJ, (add (totN zJ F add j).1 (F j).1).2) := by rw [totN_stop (j := j + 1) (by rw [hs]; exact hA) hlt, hs]
     simp (maxSteps := 10000000) only [go_sem, seval, reduceCtorEq, ite_self, d, d0, g0, g1, hw, hF, hF2, e, hA, hr]
     repeat' with_reducible first | apply And.intro | apply condP <;> intro _
     all_goals first | (show chk _ _ = true; kernel_rfl) | assumption | rfl | (simp only [*]; done)
    | false =>
     rw [hA, cond_false] at hs
     have hk2 : (totN zJ F add (j + 1)).2 = 0 := by rw [hs]
     replace ih := ih hlt hk2
     rw [hs] at ih
     simp (maxSteps := 10000000) only [go_sem, seval, reduceCtorEq, ite_self, d, d0, g0, g1, hw, hF, hF2, e, hA]
     repeat' with_reducible first | apply And.intro | apply condP <;> intro _
     all_goals first | (show chk _ _ = true; kernel_rfl) | (exact ih _ _ rfl) | assumption | rfl
 ·have hn : j = n := by omega
  subst hn
  have d := decide_eq_false (show ¬ (j : Int) < (j : Int) by omega)
  have hr : totN zJ F add j = ((totN zJ F add j).1, 0) := by rw [← hI]
  simp (maxSteps := 10000000) only [go_sem, seval, reduceCtorEq, d]
  rw [hr]
  repeat' with_reducible first | apply And.intro | apply condP <;> intro _
  all_goals first | (show chk _ _ = true; kernel_rfl) | assumption | rfl | (simp only [*]; done)
theorem totX {w : World} {f f2 : FuncId} {caps caps2 : List Value} {n : Nat} {F : Nat → X × Int} {add : X → X → X × Int} (ht : Tab w) (hf : Fv Tryz.prog w f caps (gI fun z => (0 ≤ z ∧ z < (n : Int), xeA (F z.toNat)))) (hf2 : Fv Tryz.prog w f2 caps2 (gNN fun a b => (True, xeA (add a b)))) (h2 : n ≤ 1000) : Hc Tryz.prog w 95 [iA n, fvA f caps, fvA f2 caps2] (xeA (totN zX F add n)) := by
 refine hc_of (O := orO (fvO 1 f caps (gI fun z => (0 ≤ z ∧ z < (n : Int), xeA (F z.toNat)))) (fvO 2 f2 caps2 (gNN fun a b => (True, xeA (add a b))))) (by kernel_rfl) tyM_ok (fvO_two (fvO_ok hf) (fvO_ok hf2) (fun args e h => by obtain ⟨a, b, rfl, _⟩ := gNN_eq h; exact ⟨_, _, rfl⟩)) ht [9999999, 0, 2, 4, 12, 13, 16, 17, 18, 19, 26, 28] ((n + 1) * 300 + 200) 43 [.cell 6 37, .tmp 7] Tryz.func95 rfl Tryz.ntmps95 (by rw [Tryz.results95]) (by simp) rfl (fun hsm => ?_)
 simp (maxSteps := 10000000) only [go_sem, seval, reduceCtorEq]
 refine loop_ind 300 (fun j => [(0, iA n), (2, fvA f caps), (4, fvA f2 caps2), (12, .s (.own 6 0)), (13, .v true [.lit (.bool false), .lit (.int .i64 0), .ws []]), (16, .s (.own 8 0)), (17, .v true [.lit (.bool (totN zX F add j).1.s), .lit (.int .i64 (totN zX F add j).1.e), .ws (totN zX F add j).1.xs]), (18, .s (.own 9 0)), (19, .v true [.lit (.bool false), .lit (.int .i64 0), .ws []]), (26, iA n), (28, iA j)]) n (fun j => (totN zX F add j).2 = 0) 0 (fun j _ => rfl) (fun j mm _ hj hI ih => ?_) (by omega) rfl rfl
 have hs := totN_s (z := zX) (F := F) (add := add) hI
 rcases Nat.lt_or_ge j n with hlt | hge
 ·have d := decide_eq_true (show (j : Int) < (n : Int) by omega)
  have d0 : ((j : Int) < (n : Int)) = True := eq_true (by omega)
  have g1 : (j < n) = True := eq_true hlt
  have g0 : (0 ≤ (j : Int)) = True := eq_true (by omega)
  have hw := wrap_nat (j := j) (by omega)
  cases hF : (F j).2 != 0 with
  | true =>
   have hF2 : ((F j).2 == 0) = false := by simpa using hF
   rw [hF, cond_true] at hs
   have hr : totN zX F add n = (zX, (F j).2) := by rw [totN_stop (j := j + 1) (by rw [hs]; exact hF) hlt, hs]
   simp (maxSteps := 10000000) only [go_sem, seval, reduceCtorEq, ite_self, d, d0, g0, g1, hw, hF, hF2, hr]
   repeat' with_reducible first | apply And.intro | apply condP <;> intro _
   all_goals first | (show chk _ _ = true; kernel_rfl) | assumption | rfl | (simp only [*]; done)
  | false =>
   have hF0 : (F j).2 = 0 := by simpa using hF
   have hF2 : ((F j).2 == 0) = true := by rw [hF0]; rfl
   rw [hF, cond_false] at hs
   rcases Nat.eq_zero_or_pos j with h0 | h0
   ·have e : decide ((0 : Int) < (j : Int)) = false := decide_eq_false (by omega)
    have hs : totN zX F add (j + 1) = ((F j).1, 0) := by rw [hs, decide_eq_false (by omega)]; rfl
    have hk2 : (totN zX F add (j + 1)).2 = 0 := by rw [hs]
    replace ih := ih hlt hk2
    rw [hs] at ih
    simp (maxSteps := 10000000) only [go_sem, seval, reduceCtorEq, ite_self, d, d0, g0, g1, hw, hF, hF2, e, hF0]
    repeat' with_reducible first | apply And.intro | apply condP <;> intro _
    all_goals first | (show chk _ _ = true; kernel_rfl) | (exact ih _ _ rfl) | assumption | rfl
   ·have e : decide ((0 : Int) < (j : Int)) = true := decide_eq_true (by omega)
    rw [decide_eq_true h0, cond_true] at hs
    cases hA : (add (totN zX F add j).1 (F j).1).2 != 0 with
    | true =>
     rw [hA, cond_true] at hs
     have hr : totN zX F add n = (zX, (add (totN zX F add j).1 (F j).1).2) := by rw [totN_stop (j := j + 1) (by rw [hs]; exact hA) hlt, hs]
     simp (maxSteps := 10000000) only [go_sem, seval, reduceCtorEq, ite_self, d, d0, g0, g1, hw, hF, hF2, e, hA, hr]
     repeat' with_reducible first | apply And.intro | apply condP <;> intro _
     all_goals first | (show chk _ _ = true; kernel_rfl) | assumption | rfl | (simp only [*]; done)
    | false =>
     rw [hA, cond_false] at hs
     have hk2 : (totN zX F add (j + 1)).2 = 0 := by rw [hs]
     replace ih := ih hlt hk2
     rw [hs] at ih
     simp (maxSteps := 10000000) only [go_sem, seval, reduceCtorEq, ite_self, d, d0, g0, g1, hw, hF, hF2, e, hA]
     repeat' with_reducible first | apply And.intro | apply condP <;> intro _
     all_goals first | (show chk _ _ = true; kernel_rfl) | (exact ih _ _ rfl) | assumption | rfl
 ·have hn : j = n := by omega
  subst hn
  have d := decide_eq_false (show ¬ (j : Int) < (j : Int) by omega)
  have hr : totN zX F add j = ((totN zX F add j).1, 0) := by rw [← hI]
  simp (maxSteps := 10000000) only [go_sem, seval, reduceCtorEq, d]
  rw [hr]
  repeat' with_reducible first | apply And.intro | apply condP <;> intro _
  all_goals first | (show chk _ _ = true; kernel_rfl) | assumption | rfl | (simp only [*]; done)
end
end Go.Proofs.YtcpfepjdeikchaaGreatDoor
