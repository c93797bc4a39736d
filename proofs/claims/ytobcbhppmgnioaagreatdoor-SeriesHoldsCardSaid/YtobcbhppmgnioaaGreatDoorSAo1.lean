/- Matrices as cells; tables of arguments, one by one; what each and total do, turn by turn; two closures handed over. No function of the program stands in it. -/
import Derived.Test.YtobcbhppmgnioaaGreatDoorSSeat
namespace Go.Proofs.YtobcbhppmgnioaaGreatDoor
set_option linter.unusedSimpArgs false
set_option linter.unusedVariables false
open Go.RowKit Nx
section
def rC (l : List J) : Lc := .sl 6 l.length (bC l)
def rP (l : List X) : Lc := .sl 3 l.length (pC l)
def asRs : List Lc → Option (List (List J))
 | [] => some []
 | .sl sz n ls :: r => (match asJs ls, asRs r with
  | some l, some m => if sz = 6 ∧ n = l.length then some (l :: m) else none
  | _, _ => none)
 | _ => none
def asPs : List Lc → Option (List (List X))
 | [] => some []
 | .sl sz n ls :: r => (match asXs ls, asPs r with
  | some l, some m => if sz = 3 ∧ n = l.length then some (l :: m) else none
  | _, _ => none)
 | _ => none
section
variable {S : Nat → Prop} {w : World}
end
theorem asRs_C : ∀ (m : List (List J)), asRs (m.map rC) = some m := by
 intro m
 induction m with
 | nil => rfl
 | cons l m ih =>
  show (match asJs (bC l), asRs (m.map rC) with
   | some l', some m' => if 6 = 6 ∧ l.length = l'.length then some (l' :: m') else none
   | _, _ => none) = _
  rw [asJs_C, ih]
  simp
theorem asPs_C : ∀ (m : List (List X)), asPs (m.map rP) = some m := by
 intro m
 induction m with
 | nil => rfl
 | cons l m ih =>
  show (match asXs (pC l), asPs (m.map rP) with
   | some l', some m' => if 3 = 3 ∧ l.length = l'.length then some (l' :: m') else none
   | _, _ => none) = _
  rw [asXs_C, ih]
  simp
def asM (x : AV) : Option (List (List J)) := bif nilB x then some [] else (match x with
 | .v false [.sl false sz n ls] => (match asRs ls with
  | some m => if sz = 1 ∧ n = m.length then some m else none
  | none => none)
 | _ => none)
def asQ (x : AV) : Option (List (List X)) := bif nilB x then some [] else (match x with
 | .v false [.sl false sz n ls] => (match asPs ls with
  | some m => if sz = 1 ∧ n = m.length then some m else none
  | none => none)
 | _ => none)
theorem asM_m (m : List (List J)) : asM (.v false [.sl false 1 m.length (m.map rC)]) = some m := by
 cases m with
 | nil => rfl
 | cons l m =>
  show (bif decide ((l :: m).length = 0) && ((l :: m).map rC).isEmpty then some [] else (match asRs ((l :: m).map rC) with
   | some m' => if 1 = 1 ∧ (l :: m).length = m'.length then some m' else none
   | none => none)) = _
  rw [asRs_C]
  simp
theorem asQ_m (m : List (List X)) : asQ (.v false [.sl false 1 m.length (m.map rP)]) = some m := by
 cases m with
 | nil => rfl
 | cons l m =>
  show (bif decide ((l :: m).length = 0) && ((l :: m).map rP).isEmpty then some [] else (match asPs ((l :: m).map rP) with
   | some m' => if 1 = 1 ∧ (l :: m).length = m'.length then some m' else none
   | none => none)) = _
  rw [asPs_C]
  simp
def AsOK {α : Type} (pa : AV → Option α) (c : α → AV) : Prop := ∀ x a, pa x = some a → ∀ ρ D w u, x.R ρ D w u → (c a).R ρ D w u
def gA {α : Type} (pa : AV → Option α) (k : α → List AV → Option (Prop × AV)) : List AV → Option (Prop × AV)
 | [] => none
 | x :: r => (match pa x with
  | some a => k a r
  | none => none)
def gE (e : Prop × AV) : List AV → Option (Prop × AV)
 | [] => some e
 | _ :: _ => none
def CtT (P : Program) (f : FuncId) (pre : List AV) (k : List AV → Option (Prop × AV)) : Prop := ∀ args e, k args = some e → e.1 → Ct P f (pre ++ args) (· = e.2)
theorem CtT.e {P : Program} {f : FuncId} {pre : List AV} {e : Prop × AV} (h : e.1 → Ct P f pre (· = e.2)) : CtT P f pre (gE e) := by
 intro args q hq hp
 cases args with
 | nil => injection hq with hq; subst hq; rw [List.append_nil]; exact h hp
 | cons _ _ => cases hq
theorem CtT.a {P : Program} {f : FuncId} {pre : List AV} {α : Type} {pa : AV → Option α} {c : α → AV} {k : α → List AV → Option (Prop × AV)} (ha : AsOK pa c) (h : ∀ a, CtT P f (pre ++ [c a]) (k a)) : CtT P f pre (gA pa k) := by
 intro args q hq hp
 cases args with
 | nil => cases hq
 | cons x r =>
  have hq : (match pa x with
   | some a => k a r
   | none => none) = some q := hq
  split at hq
  ·rename_i a hx
   refine (h a r q hq hp).of fun ρ D w us hR => ?_
   rw [List.append_assoc]
   have key : ∀ (xs : List AV) (us : List Value), RA ρ D w (xs ++ x :: r) us → RA ρ D w (xs ++ c a :: r) us := by
    intro xs
    induction xs with
    | nil => rintro us ⟨u, r', rfl, h1, h2⟩; exact ⟨u, r', rfl, ha x a hx _ _ _ _ h1, h2⟩
    | cons y ys ih => rintro us ⟨u, r', rfl, h1, h2⟩; exact ⟨u, r', rfl, h1, ih _ h2⟩
   exact key pre us hR
  ·cases hq
theorem one_t {P : Program} {f : FuncId} {k : List AV → Option (Prop × AV)} (he : ∀ (vs : Array Value) (w : World), (callFunc f vs).run P w = .ok (.enter f vs) w) (h : CtT P f [] k) : TbOK P (one f k) := one_ok he fun args e hk hp => h args e hk hp
def asZ : AV → Option Int
 | .v false [.lit (.int .i64 z)] => some z
 | _ => none
def asT : AV → Option Bool
 | .v false [.lit (.bool b)] => some b
 | _ => none
def asV1 : AV → Option J
 | .v true ls => asIv ls
 | _ => none
def asN1 : AV → Option X
 | .v true ls => asNum ls
 | _ => none
theorem asZ_ok : AsOK asZ iA := by
 intro x a h ρ D w u hR
 unfold asZ at h
 split at h
 ·injection h with h; subst h; exact hR
 ·cases h
theorem asV1_ok : AsOK asV1 jA := by
 intro x a h ρ D w u hR
 unfold asV1 at h
 split at h
 ·rw [asIv_eq h] at hR; exact hR
 ·cases h
theorem asB_ok : AsOK asB bA_ := fun _ _ h _ _ _ _ hR => asB_R h hR
def eachN {α : Type} (F : Nat → α × Int) : Nat → List α × Int
 | 0 => ([], 0)
 | j + 1 => bif (eachN F j).2 != 0 then eachN F j else bif (F j).2 != 0 then ([], (F j).2) else ((eachN F j).1 ++ [(F j).1], 0)
section
variable {α : Type} {F G : Nat → α × Int}
theorem eachN_ok {j : Nat} (h : (eachN F j).2 = 0) (hF : (F j).2 = 0) : eachN F (j + 1) = ((eachN F j).1 ++ [(F j).1], 0) := by
 show (bif (eachN F j).2 != 0 then eachN F j else bif (F j).2 != 0 then ([], (F j).2) else ((eachN F j).1 ++ [(F j).1], 0)) = _
 rw [h, hF]; rfl
theorem eachN_err {j : Nat} (h : (eachN F j).2 = 0) (hF : ((F j).2 != 0) = true) : eachN F (j + 1) = ([], (F j).2) := by
 show (bif (eachN F j).2 != 0 then eachN F j else bif (F j).2 != 0 then ([], (F j).2) else ((eachN F j).1 ++ [(F j).1], 0)) = _
 rw [h, hF]; rfl
theorem eachN_stop {j n : Nat} (h : ((eachN F j).2 != 0) = true) (hn : j ≤ n) : eachN F n = eachN F j := by
 induction n with
 | zero => have : j = 0 := by omega
           subst this; rfl
 | succ n ih =>
  by_cases e : j = n + 1
  ·rw [e]
  ·have := ih (by omega)
   show (bif (eachN F n).2 != 0 then eachN F n else bif (F n).2 != 0 then ([], (F n).2) else ((eachN F n).1 ++ [(F n).1], 0)) = _
   rw [this, h]; rfl
theorem eachN_at {j n : Nat} (h : (eachN F j).2 = 0) (hF : ((F j).2 != 0) = true) (hn : j < n) : eachN F n = ([], (F j).2) := by
 have h1 := eachN_err h hF
 rw [eachN_stop (j := j + 1) (by rw [h1]; exact hF) hn, h1]
theorem eachN_len {n : Nat} (h : (eachN F n).2 = 0) : (eachN F n).1.length = n := by
 induction n with
 | zero => rfl
 | succ n ih =>
  cases h1 : (eachN F n).2 != 0 with
  | true =>
   have h2 := eachN_stop (n := n + 1) h1 (Nat.le_succ n)
   rw [h2] at h
   rw [h] at h1; cases h1
  | false =>
   have h1 : (eachN F n).2 = 0 := by simpa using h1
   cases hF : (F n).2 != 0 with
   | true => rw [eachN_err h1 hF] at h; have h : (F n).2 = 0 := h; rw [h] at hF; cases hF
   | false =>
    rw [eachN_ok h1 (by simpa using hF)]
    simp [ih h1]
end
def totN {α : Type} (z : α) (F : Nat → α × Int) (add : α → α → α × Int) : Nat → α × Int
 | 0 => (z, 0)
 | j + 1 => bif (totN z F add j).2 != 0 then totN z F add j else bif (F j).2 != 0 then (z, (F j).2) else bif decide (0 < j) then (bif (add (totN z F add j).1 (F j).1).2 != 0 then (z, (add (totN z F add j).1 (F j).1).2) else ((add (totN z F add j).1 (F j).1).1, 0)) else ((F j).1, 0)
section
variable {α : Type} {z : α} {F G : Nat → α × Int} {add : α → α → α × Int}
theorem totN_s {j : Nat} (h : (totN z F add j).2 = 0) : totN z F add (j + 1) = bif (F j).2 != 0 then (z, (F j).2) else bif decide (0 < j) then (bif (add (totN z F add j).1 (F j).1).2 != 0 then (z, (add (totN z F add j).1 (F j).1).2) else ((add (totN z F add j).1 (F j).1).1, 0)) else ((F j).1, 0) := by
 show (bif (totN z F add j).2 != 0 then totN z F add j else _) = _
 rw [h]; rfl
end
section
variable {α : Type} {cf : α → List Lf} {zf : List Lf} {s n : Nat}
theorem fm_len (hc : ∀ a, (cf a).length = s) : ∀ (l : List α), (l.flatMap cf).length = l.length * s := by
 intro l
 induction l with
 | nil => simp
 | cons a l ih => rw [List.flatMap_cons, List.length_append, hc, ih, List.length_cons, Nat.succ_mul]; omega
end
theorem dnT_app : ∀ {ls ms : List Lf} {ks js : List Lc}, dnT ls = some ks → dnT ms = some js → dnT (ls ++ ms) = some (ks ++ js) := by
 intro ls
 induction ls with
 | nil => intro ms ks js h1 h2; injection h1 with h1; subst h1; exact h2
 | cons l ls ih =>
  intro ms ks js h1 h2
  cases l with
  | lit v =>
   unfold dnT at h1
   split at h1
   ·rename_i k hk; injection h1 with h1; subst h1; rw [List.cons_append]; unfold dnT; rw [ih hk h2]; rfl
   ·cases h1
  | ws v =>
   unfold dnT at h1
   split at h1
   ·rename_i k hk; injection h1 with h1; subst h1; rw [List.cons_append]; unfold dnT; rw [ih hk h2]; rfl
   ·cases h1
  | dg v =>
   unfold dnT at h1
   split at h1
   ·rename_i k hk; injection h1 with h1; subst h1; rw [List.cons_append]; unfold dnT; rw [ih hk h2]; rfl
   ·cases h1
  | sl f a b c =>
   cases f with
   | false => cases h1
   | true =>
    unfold dnT at h1
    split at h1
    ·rename_i k hk; injection h1 with h1; subst h1; rw [List.cons_append]; unfold dnT; rw [ih hk h2]; rfl
    ·cases h1
  | _ => cases h1
theorem dnT_fm {α : Type} {cf : α → List Lf} {cc : α → List Lc} (h : ∀ a, dnT (cf a) = some (cc a)) : ∀ (l : List α), dnT (l.flatMap cf) = some (l.flatMap cc) := by
 intro l
 induction l with
 | nil => rfl
 | cons a l ih => rw [List.flatMap_cons, List.flatMap_cons]; exact dnT_app (h a) ih
theorem dnT_J (j : J) : dnT j.L = some j.C := rfl
theorem dnT_X (x : X) : dnT x.L = some x.C := rfl
abbrev HK2 := List (List Lf) → FuncId → List (List Lf) → FuncId → List AV → Option (Prop × AV)
def hoK2 (kk : HK2) (d n : Nat) (st : St) (args : List AV) : List AV → Option Ef
 | [.v false [.clo c bs], .v false [.clo c2 bs2]] => (match contsOf st bs, contsOf st bs2 with
  | some ls, some ls2 => if (ndB bs = true ∧ (ls.all fun l => l.all cbL) = true) ∧ (ndB bs2 = true ∧ (ls2.all fun l => l.all cbL) = true) ∧ ((args.take n).map (cvA st)).all noA = true then (match kk ls c ls2 c2 ((args.take n).map (cvA st)) with
   | some e => some (e.1, (args.take n).flatMap olA ++ bs.map (fun b => 2 * b + 1) ++ bs2.map (fun b => 2 * b + 1), [(2 * d, e.2)])
   | none => none) else none
  | _, _ => none)
 | _ => none
def hoO2 (g : FuncId) (n : Nat) (kk : HK2) : Orac := fun f d st args => if f = g then hoK2 kk d n st args (args.drop n) else none
end
section
attribute [local irreducible] chk
def tiMM : TI := ⟨false, 1, [.lit (.slice none 0 0)], [.slice none 0 0], [], some (35, false)⟩
def tiQ : TI := ⟨false, 1, [.lit (.slice none 0 0)], [.slice none 0 0], [], some (46, false)⟩
def tiMo : TI := ⟨true, 4, [.lit (.bool false), .lit (.int .i64 0), .ws [], .lit (.slice none 0 0)], [.bool false, .int .i64 0, .slice none 0 0, .slice none 0 0], [(0, 3, true), (3, 1, false)], none⟩
def tiMl : TI := ⟨false, 1, [.lit (.slice none 0 0)], [.slice none 0 0], [], some (33, false)⟩
def tiEl : TI := ⟨false, 1, [.lit (.slice none 0 0)], [.slice none 0 0], [], some (3, false)⟩
def tyM (t : TypeId) : Option TI := if t = 33 then some tiMo else if t = 22 then some tiMl else if t = 31 then some tiEl else tyB t
theorem ok_Ml : TiOK Tryz.prog 22 tiMl := leaf_ok (by kernel_rfl) (by kernel_rfl) (by kernel_rfl) (by kernel_rfl) (fun _ _ _ => rfl) rfl (fun b h => by cases h) (fun k z h => by cases h) (sl_of' (by kernel_rfl))
theorem ok_El : TiOK Tryz.prog 31 tiEl := leaf_ok (by kernel_rfl) (by kernel_rfl) (by kernel_rfl) (by kernel_rfl) (fun _ _ _ => rfl) rfl (fun b h => by cases h) (fun k z h => by cases h) (sl_of' (by kernel_rfl))
theorem ok_Mo : TiOK Tryz.prog 33 tiMo := row_ok (by kernel_rfl) rfl rfl (by kernel_rfl) (by kernel_rfl) (by kernel_rfl) (by kernel_rfl) (by kernel_rfl) (fun _ _ _ => rz4 (Rl _) (Rl _) R_ws0 (Rl _)) rfl rfl
theorem tyM_ok (t : TypeId) (i : TI) (h : tyM t = some i) : TiOK Tryz.prog t i := by
 unfold tyM at h
 by_cases h0 : t = 33
 ·rw [if_pos h0] at h; injection h with h; subst h; subst h0; exact ok_Mo
 rw [if_neg h0] at h
 by_cases h1 : t = 22
 ·rw [if_pos h1] at h; injection h with h; subst h; subst h1; exact ok_Ml
 rw [if_neg h1] at h
 by_cases h2 : t = 31
 ·rw [if_pos h2] at h; injection h with h; subst h; subst h2; exact ok_El
 rw [if_neg h2] at h
 exact tyB_ok t i h
theorem meC_J (st : St) (j : J) : j.L.all (ment st) = true := rfl
theorem meC_X (st : St) (x : X) : x.L.all (ment st) = true := rfl
end
section
attribute [local irreducible] chk
end
end Go.Proofs.YtobcbhppmgnioaaGreatDoor
