/- Calls to which blocks are lent for reading. -/
import Derived.Test.YtpacpmmdjmnamaaDoorHAi2
namespace Go.Proofs.YtpacpmmdjmnamaaDoor
open Go.RowKit Nx
set_option linter.unusedVariables false
set_option linter.unusedSimpArgs false
def memOf : Nat → List (List Lf) → St
  | _, [] => []
  | k, l :: r => (2 * k + 1, .v false l) :: memOf (k + 1) r
def Lent (S : Nat → Prop) (w : World) (gs : List Nat) (ls : List (List Lf)) : Prop := gs.length = ls.length ∧ gs.Nodup ∧ (∀ g ∈ gs, ¬ S g) ∧ ∀ (t g : Nat) (l : List Lf), gs[t]? = some g → ls[t]? = some l → l.all cbL = true ∧ l.all okLf = true ∧ ∃ T cs, Blk w g T cs ∧ ∀ ρ D, (∀ g, S g → Sep ρ D g) → RL ρ D w l cs.toList
def contsOf (st : St) : List Nat → Option (List (List Lf))
  | [] => some []
  | b :: bs => (match look st (2 * b + 1), contsOf st bs with
    | some (.v _ ls), some r => some (ls :: r)
    | _, _ => none)
def ndB : List Nat → Bool
  | [] => true
  | x :: xs => !(inL xs x) && ndB xs
theorem RA.split {ρ : Env} {D : Nat → Bool} {w : World} {xs : List AV} {us : List Value} (h : RA ρ D w xs us) (n : Nat) : RA ρ D w (xs.take n) (us.take n) ∧ RA ρ D w (xs.drop n) (us.drop n) := by
  induction n generalizing xs us with
  | zero => simp only [List.take_zero, List.drop_zero]; exact ⟨rfl, h⟩
  | succ n ih =>
    cases xs with
    | nil => rw [show us = [] from h]; exact ⟨rfl, rfl⟩
    | cons x xs =>
      obtain ⟨u, r, rfl, h1, h2⟩ := h
      obtain ⟨i1, i2⟩ := ih h2
      exact ⟨⟨u, _, rfl, h1, i1⟩, i2⟩
def orO (A B : Orac) : Orac := fun f d st args => match A f d st args with
  | some e => some e
  | none => B f d st args
def Only (O : Orac) (g : FuncId) : Prop := ∀ f d st args, f ≠ g → O f d st args = none
theorem orO_ok {P : Program} {A B : Orac} {F : Nat → Prop} {w0 : World} (hA : OrOK P A F w0) (hB : OrOK P B F w0) (hd : ∀ f d st args e, B f d st args = some e → ∀ st' , A f d st' args = none) : OrOK P (orO A B) F w0 := by
  refine ⟨fun f d st args e he => ?_, fun f d st args e he => ?_, fun f d st st' args e he hk => ?_⟩
  · unfold orO at he
    split at he
    · rename_i q hq; injection he with he; subst he; exact hA.enters _ _ _ _ _ hq
    · exact hB.enters _ _ _ _ _ he
  · unfold orO at he
    split at he
    · rename_i q hq; injection he with he; subst he; exact hA.sound _ _ _ _ _ hq
    · exact hB.sound _ _ _ _ _ he
  · unfold orO at he
    split at he
    · rename_i q hq
      injection he with he; subst he
      unfold orO; rw [hA.cong _ _ _ st' _ _ hq hk]
    · unfold orO; rw [hd _ _ _ _ _ he st', hB.cong _ _ _ st' _ _ he hk]
end Go.Proofs.YtpacpmmdjmnamaaDoor
namespace Go.Proofs.YtpacpmmdjmnamaaDoor
open Go.RowKit Nx
set_option linter.unusedVariables false
set_option linter.unusedSimpArgs false
def cntF : Nat → Nat → List Nat
  | _, 0 => []
  | k, n + 1 => k :: cntF (k + 1) n
def nmL : List Lf → List Nat
  | [] => []
  | .own b _ :: r => b :: nmL r
  | .osl b _ :: r => b :: nmL r
  | .clo _ bs :: r => bs ++ nmL r
  | .lit _ :: r => nmL r
  | .ws _ :: r => nmL r
  | .dg _ :: r => nmL r
  | .sl _ _ _ _ :: r => nmL r
  | .im _ :: r => nmL r
  | .ol _ _ :: r => nmL r
  | .oe _ _ _ :: r => nmL r
  | .ov _ _ _ _ :: r => nmL r
def rnL : Nat → List Lf → List Lf
  | _, [] => []
  | k, .own _ o :: r => .own k o :: rnL (k + 1) r
  | k, .osl _ n :: r => .osl k n :: rnL (k + 1) r
  | k, .clo f bs :: r => .clo f (cntF k bs.length) :: rnL (k + bs.length) r
  | k, .lit v :: r => .lit v :: rnL k r
  | k, .ws v :: r => .ws v :: rnL k r
  | k, .dg v :: r => .dg v :: rnL k r
  | k, .sl _ a b c :: r => .sl false a b c :: rnL k r
  | k, .im v :: r => .im v :: rnL k r
  | k, .ol b v :: r => .ol b v :: rnL k r
  | k, .oe b v o :: r => .oe b v o :: rnL k r
  | k, .ov b v o n :: r => .ov b v o n :: rnL k r
def nmA : List AV → List Nat
  | [] => []
  | .v _ ls :: r => nmL ls ++ nmA r
  | .tup _ :: r => nmA r
  | .pre _ _ _ :: r => nmA r
def rnA : Nat → List AV → List AV
  | _, [] => []
  | k, .v g ls :: r => .v g (rnL k ls) :: rnA (k + (nmL ls).length) r
  | k, .tup vs :: r => .tup vs :: rnA k r
  | k, .pre a b c :: r => .pre a b c :: rnA k r
def noE : Lf → Bool
  | .ol _ _ => false
  | .oe _ _ _ => false
  | .ov _ _ _ _ => false
  | .lit _ => true
  | .own _ _ => true
  | .osl _ _ => true
  | .ws _ => true
  | .dg _ => true
  | .clo _ _ => true
  | .sl _ _ _ _ => true
  | .im _ => true
def isV : List AV → Bool
  | [] => true
  | .v _ ls :: r => ls.all noE && isV r
  | .tup _ :: _ => false
  | .pre _ _ _ :: _ => false
def smBs : List (List Lf) → Prop
  | [] => True
  | l :: r => smLs l ∧ smBs r
theorem smBs_of {ls : List (List Lf)} (h : ∀ (t : Nat) (l : List Lf), ls[t]? = some l → smLs l) : smBs ls := by
  induction ls with
  | nil => trivial
  | cons l ls ih => exact ⟨h 0 l rfl, ih fun t l' ht => h (t + 1) l' (by simpa using ht)⟩
theorem Lent.sm {S : Nat → Prop} {w : World} {gs : List Nat} {ls : List (List Lf)} (h : Lent S w gs ls) : smBs ls := smBs_of fun t l hl => by
  have ht : t < gs.length := by
    rw [h.1]
    rcases Nat.lt_or_ge t ls.length with h | h
    · exact h
    · rw [List.getElem?_eq_none h] at hl; cases hl
  obtain ⟨_, _, T, cs, _, hR⟩ := h.2.2.2 t gs[t] l (List.getElem?_eq_getElem ht) hl
  exact (hR envA (fun _ => false) fun g hg => ⟨fun b hb => (by cases hb), fun b hb => (by cases hb)⟩).sm
abbrev KT := List AV → List (List Lf) → Option (Prop × AV)
def refO (g : FuncId) (k : KT) : Orac := fun f d st args => if f = g then (match contsOf st (nmA args) with
  | some ls => if ndB (nmA args) = true ∧ (ls.all fun l => l.all cbL) = true ∧ isV args = true then (match k (rnA 1000 args) ls with
      | some e => some (e.1, (nmA args).map (fun b => 2 * b + 1), [(2 * d, e.2)])
      | none => none) else none
  | none => none) else none
def pin (A : List AV) (L : List (List Lf)) (r : AV) : KT := fun args ls => some (args = A ∧ ls = L, r)
end Go.Proofs.YtpacpmmdjmnamaaDoor
