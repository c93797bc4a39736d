/- A reckoning with values that are known in part: cells, values, states; what a world must hold for them. No function of the program stands in it. -/
import Derived.Test.YtobcbhppmgnioaaGreatDoorSLift
import Derived.Deep.MidRow
import Derived.Laws.CopyRow
namespace Go.Proofs.YtobcbhppmgnioaaGreatDoor
set_option linter.unusedSimpArgs false
set_option linter.unusedVariables false
open Go.RowKit Nx
section
inductive Lc where
 | lit (v : Value)
 | ws (xs : List Nat)
 | dg (N : Nat)
 | sl (sz n : Nat) (ls : List Lc)
inductive Lf where
 | lit (v : Value)
 | own (b o : Nat)
 | osl (b n : Nat)
 | ws (xs : List Nat)
 | dg (N : Nat)
 | clo (f : FuncId) (caps : List Nat)
 | sl (f : Bool) (sz n : Nat) (ls : List Lc)
 | im (ls : List Lc)
 | ol (b k : Nat)
 | oe (b k o : Nat)
 | ov (b k o n : Nat)
inductive AV where
 | v (g : Bool) (ls : List Lf)
 | tup (vs : List (Bool × List Lf))
 | pre (e : TypeId) (sz : Nat) (ls : List Lf)
abbrev AV.s (l : Lf) : AV := .v false [l]
structure Env where
 r : Nat → Nat
 z : Nat
 gh : Nat → Value
 gv : Nat → Nat
 al : Nat → Bool
instance : CoeFun Env (fun _ => Nat → Nat) := ⟨Env.r⟩
abbrev envA : Env := ⟨fun n => n, 0, fun _ => undef, fun _ => 0, fun _ => false⟩
abbrev Env.up (ρ : Env) (b : Nat) (v : Value) (n : Nat) : Env := { ρ with gh := fun x => if x = b then v else ρ.gh x, gv := fun x => if x = b then n else ρ.gv x, al := fun x => if x = b then true else ρ.al x }
def Sep (ρ : Env) (D : Nat → Bool) (g : Nat) : Prop := (∀ b, D b = true → ρ b ≠ g) ∧ ∀ b, ρ.al b = true → (ρ.gh b).ownBlock ≠ some g
def SepF (f : Bool) (ρ : Env) (D : Nat → Bool) (g : Nat) : Prop := Sep ρ D g ∧ (f = true → ρ.z ≤ g)
def Wb (w : World) (g : Nat) (T : TypeId) (cs : Array Value) : Prop := ∃ fr : Nat × Nat, w.heap[g]? = some (.cells cs T fr)
section
variable {w w' : World} {g : Nat} {T : TypeId} {cs : Array Value}
theorem Blk.wb (h : Blk w g T cs) : Wb w g T cs := ⟨_, h⟩
theorem Wb.lt (h : Wb w g T cs) : g < w.heap.size := by
 obtain ⟨fr, h⟩ := h
 rcases Nat.lt_or_ge g w.heap.size with hlt | hge
 ·exact hlt
 ·rw [Array.getElem?_eq_none hge] at h; cases h
theorem Wb.cell (h : Wb w g T cs) (i : Nat) : w.cell? ⟨g, i, none⟩ = cs[i]? := by
 obtain ⟨fr, h⟩ := h
 exact cell_of_row w g i cs T fr h
theorem Wb.of (h : Wb w g T cs) (e : w'.heap[g]? = w.heap[g]?) : Wb w' g T cs := by
 obtain ⟨fr, h⟩ := h
 exact ⟨fr, e.trans h⟩
end
mutual
def Lc.R (S : Nat → Prop) (w : World) : Lc → Value → Prop
 | .lit u, v => v = u
 | .ws xs, v => ∃ (A : Option Addr) (n c : Nat), v = .slice A n c ∧ Arg w A n c xs ∧ n ≤ 100000
 | .dg N, v => ∃ (A : Option Addr) (n c : Nat), v = .slice A n c ∧ Dg w A n c N
 | .sl sz n ls, v => ls.length = n * sz ∧ ∃ (A : Option Addr) (c : Nat), v = .slice A n c ∧ n ≤ c ∧ (ls = [] ∨ ∃ (ad : Addr) (T : TypeId) (cs : Array Value), A = some ad ∧ ad.spot = none ∧ S ad.block ∧ Wb w ad.block T cs ∧ ad.off + ls.length ≤ cs.size ∧ LcL S w ls ((cs.toList.drop ad.off).take ls.length))
def LcL (S : Nat → Prop) (w : World) : List Lc → List Value → Prop
 | [], vs => vs = []
 | l :: ls, vs => ∃ u us, vs = u :: us ∧ l.R S w u ∧ LcL S w ls us
end
def ImR (S : Nat → Prop) (w : World) (ls : List Lc) (v : Value) : Prop := ∃ (g o : Nat) (T : TypeId) (cs : Array Value), v = .pointer (some ⟨g, o, none⟩) ∧ S g ∧ Wb w g T cs ∧ o + ls.length ≤ cs.size ∧ LcL S w ls ((cs.toList.drop o).take ls.length)
def Lf.R (ρ : Env) (D : Nat → Bool) (w : World) : Lf → Value → Prop
 | .lit u, v => v = u
 | .own b o, v => D b = true ∧ v = .pointer (some ⟨ρ b, o, none⟩)
 | .osl b n, v => D b = true ∧ v = .slice (some ⟨ρ b, 0, none⟩) n n
 | .ws xs, v => ∃ (A : Option Addr) (n c : Nat), v = .slice A n c ∧ Arg w A n c xs ∧ n ≤ 100000
 | .dg N, v => ∃ (A : Option Addr) (n c : Nat), v = .slice A n c ∧ Dg w A n c N
 | .clo f cs, v => (∀ b ∈ cs, D b = true) ∧ v = .func (.func f) #[] (cs.map fun b => Value.pointer (some ⟨ρ b, 0, none⟩)).toArray
 | .sl f sz n ls, v => (Lc.sl sz n ls).R (SepF f ρ D) w v
 | .im ls, v => ImR (Sep ρ D) w ls v
 | .ol b k, v => ρ.al b = true ∧ k ≤ ρ.gv b ∧ (k = ρ.gv b → v = ρ.gh b) ∧ ∃ A c, v = .slice A k c
 | .oe b k o, v => ρ.al b = true ∧ k ≤ ρ.gv b ∧ (k = ρ.gv b → ∃ g, (ρ.gh b).ownBlock = some g ∧ v = .pointer (some ⟨g, o, none⟩)) ∧ ∃ g o', v = .pointer (some ⟨g, o', none⟩)
 | .ov b k o n, v => ρ.al b = true ∧ k ≤ ρ.gv b ∧ (k = ρ.gv b → 0 < n → ∃ g c, (ρ.gh b).ownBlock = some g ∧ v = .slice (some ⟨g, o, none⟩) n c) ∧ ∃ A c, v = .slice A n c
def RL (ρ : Env) (D : Nat → Bool) (w : World) : List Lf → List Value → Prop
 | [], vs => vs = []
 | l :: ls, vs => ∃ u us, vs = u :: us ∧ l.R ρ D w u ∧ RL ρ D w ls us
def VR (ρ : Env) (D : Nat → Bool) (w : World) (g : Bool) (ls : List Lf) (u : Value) : Prop :=
 match g with
 | true => ∃ us : List Value, u = .agg us.toArray ∧ RL ρ D w ls us
 | false => RL ρ D w ls [u]
def RT (ρ : Env) (D : Nat → Bool) (w : World) : List (Bool × List Lf) → List Value → Prop
 | [], vs => vs = []
 | p :: ps, vs => ∃ u us, vs = u :: us ∧ VR ρ D w p.1 p.2 u ∧ RT ρ D w ps us
def AV.R (ρ : Env) (D : Nat → Bool) (w : World) : AV → Value → Prop
 | .v g ls, u => VR ρ D w g ls u
 | .tup ps, u => ∃ us : List Value, u = .tuple us.toArray ∧ RT ρ D w ps us
 | .pre _ _ _, _ => False
structure Ext (ρ ρ' : Env) (D D' : Nat → Bool) (w : World) : Prop where
 dom : ∀ b, D b = true → D' b = true
 same : ∀ b, D b = true → ρ' b = ρ b
 new : ∀ b, D' b = true → D b = true ∨ w.heap.size ≤ ρ' b
 z : ρ'.z = ρ.z
 gro : ∀ b, ρ.al b = true → ρ'.al b = true ∧ ρ.gv b ≤ ρ'.gv b ∧ (ρ.gv b = ρ'.gv b → ρ'.gh b = ρ.gh b)
 gnw : ∀ b g, ρ'.al b = true → (ρ'.gh b).ownBlock = some g → (ρ.al b = true ∧ (ρ.gh b).ownBlock = some g) ∨ w.heap.size ≤ g
theorem Ext.refl (ρ : Env) (D : Nat → Bool) {w : World} : Ext ρ ρ D D w := ⟨fun _ h => h, fun _ _ => rfl, fun _ h => .inl h, rfl, fun _ h => ⟨h, Nat.le_refl _, fun _ => rfl⟩, fun _ _ h1 h2 => .inl ⟨h1, h2⟩⟩
def Keeps (S : Nat → Prop) (w w' : World) : Prop := (∀ A n c xs, Arg w A n c xs → Arg w' A n c xs) ∧ (∀ A n c N, Dg w A n c N → Dg w' A n c N) ∧ ∀ g T cs, S g → Wb w g T cs → Wb w' g T cs
theorem Keeps.below {S : Nat → Prop} {w w' : World} (h : Below w.heap.size w w') : Keeps S w w' := ⟨fun _ _ _ _ hA => hA.step h, fun _ _ _ _ hD => hD.step h, fun _ _ _ _ hB => hB.of (h.block _ hB.lt)⟩
theorem Keeps.refl (S : Nat → Prop) (w : World) : Keeps S w w := ⟨fun _ _ _ _ h => h, fun _ _ _ _ h => h, fun _ _ _ _ h => h⟩
mutual
theorem Lc.R.mono {S S' : Nat → Prop} {w w' : World} (hk : Keeps S w w') (hS : ∀ g T cs, Wb w g T cs → S g → S' g) : ∀ (l : Lc) (u : Value), l.R S w u → l.R S' w' u
 | .lit _, _, h => h
 | .ws _, _, ⟨A, n, c, e, hA, hn⟩ => ⟨A, n, c, e, hk.1 _ _ _ _ hA, hn⟩
 | .dg _, _, ⟨A, n, c, e, hA⟩ => ⟨A, n, c, e, hk.2.1 _ _ _ _ hA⟩
 | .sl _ _ ls, _, ⟨hl, A, c, e, hc, h⟩ => ⟨hl, A, c, e, hc, h.imp id fun ⟨ad, T, cs, e1, e2, h1, h2, h3, h4⟩ => ⟨ad, T, cs, e1, e2, hS _ _ _ h2 h1, hk.2.2 _ _ _ h1 h2, h3, LcL.mono hk hS ls _ h4⟩⟩
theorem LcL.mono {S S' : Nat → Prop} {w w' : World} (hk : Keeps S w w') (hS : ∀ g T cs, Wb w g T cs → S g → S' g) : ∀ (ls : List Lc) (us : List Value), LcL S w ls us → LcL S' w' ls us
 | [], _, h => h
 | l :: ls, _, ⟨u, r, e, h1, h2⟩ => ⟨u, r, e, Lc.R.mono hk hS l u h1, LcL.mono hk hS ls r h2⟩
end
def Lc.up : Lc → Lf
 | .lit v => .lit v
 | .ws xs => .ws xs
 | .dg N => .dg N
 | .sl a b c => .sl false a b c
section
variable {S : Nat → Prop} {w : World}
theorem LcL.len : ∀ {ls : List Lc} {us : List Value}, LcL S w ls us → us.length = ls.length
 | [], _, h => by rw [show _ = [] from h]; rfl
 | _ :: _, _, ⟨_, _, e, _, h⟩ => by rw [e, List.length_cons, List.length_cons, LcL.len h]
theorem LcL.take {ls : List Lc} {us : List Value} (h : LcL S w ls us) (n : Nat) : LcL S w (ls.take n) (us.take n) := by
 induction n generalizing ls us with
 | zero => simp [LcL]
 | succ n ih =>
  cases ls with
  | nil => rw [show us = [] from h]; simp [LcL]
  | cons l ls => obtain ⟨u, r, e, h1, h2⟩ := h; rw [e]; exact ⟨u, r.take n, rfl, h1, ih h2⟩
theorem LcL.drop {ls : List Lc} {us : List Value} (h : LcL S w ls us) (n : Nat) : LcL S w (ls.drop n) (us.drop n) := by
 induction n generalizing ls us with
 | zero => simpa using h
 | succ n ih =>
  cases ls with
  | nil => rw [show us = [] from h]; simp [LcL]
  | cons l ls => obtain ⟨u, r, e, h1, h2⟩ := h; rw [e]; exact ih h2
theorem ImR.part {S : Nat → Prop} {w : World} {ls : List Lc} {g o : Nat} {T : TypeId} {cs : Array Value} (hS : S g) (hB : Wb w g T cs) (hl : o + ls.length ≤ cs.size) (h : LcL S w ls ((cs.toList.drop o).take ls.length)) (k m : Nat) (hk : k ≤ ls.length) : ImR S w ((ls.drop k).take m) (.pointer (some ⟨g, o + k, none⟩)) := by
 refine ⟨g, o + k, T, cs, rfl, hS, hB, ?_, ?_⟩
 ·rw [List.length_take, List.length_drop]; omega
 ·have := (h.drop k).take m
  rw [List.drop_take, List.drop_drop, List.take_take] at this
  rw [List.length_take, List.length_drop]
  exact this
end
theorem ImR.mono {S S' : Nat → Prop} {w w' : World} {ls : List Lc} {u : Value} (h : ImR S w ls u) (hk : Keeps S w w') (hS : ∀ g T cs, Wb w g T cs → S g → S' g) : ImR S' w' ls u := by
 obtain ⟨g, o, T, cs, e, h1, h2, h3, h4⟩ := h
 exact ⟨g, o, T, cs, e, hS _ _ _ h2 h1, hk.2.2 _ _ _ h1 h2, h3, LcL.mono hk hS ls _ h4⟩
theorem Lc.R.up {ρ : Env} {D : Nat → Bool} {w : World} {l : Lc} {u : Value} (h : l.R (Sep ρ D) w u) : l.up.R ρ D w u := by
 cases l with
 | sl a b c => exact Lc.R.mono (Keeps.refl _ _) (fun _ _ _ _ h => ⟨h, fun e => by cases e⟩) _ _ h
 | _ => exact h
theorem Sep.ext {ρ ρ' : Env} {D D' : Nat → Bool} {w : World} (he : Ext ρ ρ' D D' w) {g : Nat} {T : TypeId} {cs : Array Value} (hB : Wb w g T cs) (h : Sep ρ D g) : Sep ρ' D' g := by
 refine ⟨fun b hb => ?_, fun b hb e => ?_⟩
 ·rcases he.new b hb with h1 | h1
  ·rw [he.same b h1]; exact h.1 b h1
  ·have := hB.lt; omega
 ·rcases he.gnw b g hb e with h1 | h1
  ·exact h.2 b h1.1 h1.2
  ·have := hB.lt; omega
theorem SepF.ext {f : Bool} {ρ ρ' : Env} {D D' : Nat → Bool} {w : World} (he : Ext ρ ρ' D D' w) {g : Nat} {T : TypeId} {cs : Array Value} (hB : Wb w g T cs) (h : SepF f ρ D g) : SepF f ρ' D' g := ⟨h.1.ext he hB, fun e => by rw [he.z]; exact h.2 e⟩
theorem Keeps.sub {S S' : Nat → Prop} {w w' : World} (h : Keeps S w w') (hs : ∀ g, S' g → S g) : Keeps S' w w' := ⟨h.1, h.2.1, fun g T cs h1 h2 => h.2.2 g T cs (hs g h1) h2⟩
section
variable {ρ ρ' : Env} {D D' : Nat → Bool} {w w' : World}
theorem Lf.R.mono {l : Lf} {u : Value} (h : l.R ρ D w u) (he : Ext ρ ρ' D D' w) (hk : Keeps (Sep ρ D) w w') : l.R ρ' D' w' u := by
 cases l with
 | lit v => exact h
 | own b o => exact ⟨he.dom b h.1, by rw [he.same b h.1]; exact h.2⟩
 | osl b n => exact ⟨he.dom b h.1, by rw [he.same b h.1]; exact h.2⟩
 | ws xs => obtain ⟨A, n, c, e, hA, hn⟩ := h; exact ⟨A, n, c, e, hk.1 _ _ _ _ hA, hn⟩
 | dg N => obtain ⟨A, n, c, e, hA⟩ := h; exact ⟨A, n, c, e, hk.2.1 _ _ _ _ hA⟩
 | sl f sz n ls => exact Lc.R.mono (hk.sub fun _ h => h.1) (fun _ _ _ hB => SepF.ext he hB) _ _ h
 | im ls => exact ImR.mono h hk fun _ _ _ hB => Sep.ext he hB
 | ol b k =>
  obtain ⟨h1, h2, h3, h4⟩ := h
  obtain ⟨g1, g2, g3⟩ := he.gro b h1
  exact ⟨g1, Nat.le_trans h2 g2, fun e => by rw [g3 (by omega)]; exact h3 (by omega), h4⟩
 | oe b k o =>
  obtain ⟨h1, h2, h3, h4⟩ := h
  obtain ⟨g1, g2, g3⟩ := he.gro b h1
  exact ⟨g1, Nat.le_trans h2 g2, fun e => by rw [g3 (by omega)]; exact h3 (by omega), h4⟩
 | ov b k o n =>
  obtain ⟨h1, h2, h3, h4⟩ := h
  obtain ⟨g1, g2, g3⟩ := he.gro b h1
  exact ⟨g1, Nat.le_trans h2 g2, fun e => by rw [g3 (by omega)]; exact h3 (by omega), h4⟩
 | clo f cs =>
  refine ⟨fun b hb => he.dom b (h.1 b hb), ?_⟩
  rw [h.2]
  congr 2
  exact List.map_congr_left fun b hb => by rw [he.same b (h.1 b hb)]
theorem RL.mono {ls : List Lf} {us : List Value} (h : RL ρ D w ls us) (he : Ext ρ ρ' D D' w) (hk : Keeps (Sep ρ D) w w') : RL ρ' D' w' ls us := by
 induction ls generalizing us with
 | nil => exact h
 | cons l ls ih => obtain ⟨u, r, e, h1, h2⟩ := h; exact ⟨u, r, e, h1.mono he hk, ih h2⟩
theorem VR.mono {g : Bool} {ls : List Lf} {u : Value} (h : VR ρ D w g ls u) (he : Ext ρ ρ' D D' w) (hk : Keeps (Sep ρ D) w w') : VR ρ' D' w' g ls u := by
 cases g with
 | true => obtain ⟨us, e, h1⟩ := h; exact ⟨us, e, h1.mono he hk⟩
 | false => exact RL.mono h he hk
theorem RT.mono {ps : List (Bool × List Lf)} {us : List Value} (h : RT ρ D w ps us) (he : Ext ρ ρ' D D' w) (hk : Keeps (Sep ρ D) w w') : RT ρ' D' w' ps us := by
 induction ps generalizing us with
 | nil => exact h
 | cons p ps ih => obtain ⟨u, r, e, h1, h2⟩ := h; exact ⟨u, r, e, h1.mono he hk, ih h2⟩
theorem AV.R.mono {a : AV} {u : Value} (h : a.R ρ D w u) (he : Ext ρ ρ' D D' w) (hk : Keeps (Sep ρ D) w w') : a.R ρ' D' w' u := by
 cases a with
 | v g ls => exact VR.mono h he hk
 | tup ps => obtain ⟨us, e, h1⟩ := h; exact ⟨us, e, h1.mono he hk⟩
 | pre _ _ _ => exact h
theorem RL.len {ls : List Lf} {us : List Value} (h : RL ρ D w ls us) : us.length = ls.length := by
 induction ls generalizing us with
 | nil => rw [h]; rfl
 | cons l ls ih => obtain ⟨u, r, e, h1, h2⟩ := h; rw [e, List.length_cons, List.length_cons, ih h2]
theorem RL.append {ls ms : List Lf} {us vs : List Value} (h : RL ρ D w ls us) (k : RL ρ D w ms vs) : RL ρ D w (ls ++ ms) (us ++ vs) := by
 induction ls generalizing us with
 | nil => rw [show us = [] from h]; exact k
 | cons l ls ih => obtain ⟨u, r, e, h1, h2⟩ := h; rw [e]; exact ⟨u, r ++ vs, rfl, h1, ih h2⟩
theorem RL.take {ls : List Lf} {us : List Value} (h : RL ρ D w ls us) (n : Nat) : RL ρ D w (ls.take n) (us.take n) := by
 induction n generalizing ls us with
 | zero => simp [RL]
 | succ n ih =>
  cases ls with
  | nil => rw [show us = [] from h]; simp [RL]
  | cons l ls => obtain ⟨u, r, e, h1, h2⟩ := h; rw [e]; exact ⟨u, r.take n, rfl, h1, ih h2⟩
theorem RL.drop {ls : List Lf} {us : List Value} (h : RL ρ D w ls us) (n : Nat) : RL ρ D w (ls.drop n) (us.drop n) := by
 induction n generalizing ls us with
 | zero => simpa using h
 | succ n ih =>
  cases ls with
  | nil => rw [show us = [] from h]; simp [RL]
  | cons l ls => obtain ⟨u, r, e, h1, h2⟩ := h; rw [e]; exact ih h2
theorem RL.get {ls : List Lf} {us : List Value} (h : RL ρ D w ls us) {n : Nat} {l : Lf} (hl : ls[n]? = some l) : ∃ u, us[n]? = some u ∧ l.R ρ D w u := by
 induction n generalizing ls us with
 | zero =>
  cases ls with
  | nil => simp at hl
  | cons k ls => obtain ⟨u, r, e, h1, h2⟩ := h; simp at hl; subst hl; exact ⟨u, by rw [e]; rfl, h1⟩
 | succ n ih =>
  cases ls with
  | nil => simp at hl
  | cons k ls =>
   obtain ⟨u, r, e, h1, h2⟩ := h
   obtain ⟨x, hx, hr⟩ := ih h2 (by simpa using hl)
   exact ⟨x, by rw [e]; simpa using hx, hr⟩
theorem LcL.up {ls : List Lc} {us : List Value} (h : LcL (Sep ρ D) w ls us) : RL ρ D w (ls.map Lc.up) us := by
 induction ls generalizing us with
 | nil => exact h
 | cons l ls ih => obtain ⟨u, r, e, h1, h2⟩ := h; exact ⟨u, r, e, h1.up, ih h2⟩
theorem RL.one {l : Lf} {u : Value} : RL ρ D w [l] [u] ↔ l.R ρ D w u := by
 constructor
 ·rintro ⟨x, r, e, h1, h2⟩; injection e with e1 e2; subst e1; exact h1
 ·intro h; exact ⟨u, [], rfl, h, rfl⟩
end
def okLf : Lf → Bool
 | .lit (.int .u64 _) => false
 | .lit (.int .u32 _) => false
 | .lit (.agg _) => false
 | .lit (.tuple _) => false
 | _ => true
theorem okLf_one {ρ : Env} {D : Nat → Bool} {w : World} {l : Lf} {u : Value} (h : okLf l = true) (hr : l.R ρ D w u) : u.oneCell' = true ∧ (∀ z, u ≠ .int .u64 z) ∧ (∀ z, u ≠ .int .u32 z) := by
 cases l with
 | lit v =>
  have hr : u = v := hr
  subst hr
  refine ⟨?_, ?_, ?_⟩
  ·cases u <;> first | rfl | simp [okLf] at h
  ·rintro z rfl; simp [okLf] at h
  ·rintro z rfl; simp [okLf] at h
 | own b o => obtain ⟨_, rfl⟩ := hr; exact ⟨rfl, (fun z h => by cases h), (fun z h => by cases h)⟩
 | osl b n => obtain ⟨_, rfl⟩ := hr; exact ⟨rfl, (fun z h => by cases h), (fun z h => by cases h)⟩
 | ws xs => obtain ⟨A, n, c, rfl, _⟩ := hr; exact ⟨rfl, (fun z h => by cases h), (fun z h => by cases h)⟩
 | dg N => obtain ⟨A, n, c, rfl, _⟩ := hr; exact ⟨rfl, (fun z h => by cases h), (fun z h => by cases h)⟩
 | clo f cs => obtain ⟨_, rfl⟩ := hr; exact ⟨rfl, (fun z h => by cases h), (fun z h => by cases h)⟩
 | ol b k => obtain ⟨_, _, _, A, c, rfl⟩ := hr; exact ⟨rfl, (fun z h => by cases h), (fun z h => by cases h)⟩
 | oe b k o => obtain ⟨_, _, _, g, o', rfl⟩ := hr; exact ⟨rfl, (fun z h => by cases h), (fun z h => by cases h)⟩
 | ov b k o n => obtain ⟨_, _, _, A, c, rfl⟩ := hr; exact ⟨rfl, (fun z h => by cases h), (fun z h => by cases h)⟩
 | sl f sz n ls => obtain ⟨_, A, c, rfl, _⟩ := hr; exact ⟨rfl, (fun z h => by cases h), (fun z h => by cases h)⟩
 | im ls => obtain ⟨g, o, T, cs, rfl, _⟩ := hr; exact ⟨rfl, (fun z h => by cases h), (fun z h => by cases h)⟩
theorem RL.okAll {ρ : Env} {D : Nat → Bool} {w : World} {ls : List Lf} {us : List Value} (h : RL ρ D w ls us) (ho : ls.all okLf = true) : ∀ u ∈ us, u.oneCell' = true ∧ (∀ z, u ≠ .int .u64 z) ∧ (∀ z, u ≠ .int .u32 z) := by
 induction ls generalizing us with
 | nil => rw [show us = [] from h]; intro u hu; cases hu
 | cons l ls ih =>
  obtain ⟨x, r, e, h1, h2⟩ := h
  rw [List.all_cons, Bool.and_eq_true] at ho
  rw [e]
  intro u hu
  rcases List.mem_cons.1 hu with rfl | hu
  ·exact okLf_one ho.1 h1
  ·exact ih h2 ho.2 u hu
theorem rd_other {k : IntKind} (hk : k = .u64 ∨ k = .u32) {w : World} {g : Nat} {T : TypeId} {cs cs' : Array Value} (hb : Blk w g T cs) (ho : ∀ u ∈ cs.toList, (∀ z, u ≠ .int .u64 z) ∧ (∀ z, u ≠ .int .u32 z))
  {lo hi n c : Nat} {A : Option Addr} {xs : List Nat} (h : Rd k w lo hi A n c xs) : Rd k (w.setRow g cs') lo hi A n c xs := by
 refine ⟨h.1, h.2.1, fun hn => ?_⟩
 obtain ⟨ad, e, hl, hh, hc⟩ := h.2.2 hn
 refine ⟨ad, e, hl, hh, fun j u hu => ?_⟩
 rw [← hc j u hu]
 refine cell_setRow_other w g cs' _ ?_
 intro hblk
 have h1 := hc j u hu
 unfold World.cell? at h1
 rw [hblk, show w.heap[g]? = some (.cells cs T (0, 0)) from hb] at h1
 simp only at h1
 split at h1
 ·cases h1
 ·have h2 : (Value.int k (u : Int)) ∈ cs.toList := by
   rw [← Array.getElem?_toList] at h1
   exact List.mem_of_getElem? h1
  have h3 := ho _ h2
  rcases hk with rfl | rfl
  ·exact h3.1 _ rfl
  ·exact h3.2 _ rfl
theorem Keeps.setRow {S : Nat → Prop} {w : World} {g : Nat} {T : TypeId} {cs cs' : Array Value} (hb : Blk w g T cs) (ho : ∀ u ∈ cs.toList, (∀ z, u ≠ .int .u64 z) ∧ (∀ z, u ≠ .int .u32 z)) (hS : ¬ S g) : Keeps S w (w.setRow g cs') := by
 refine ⟨fun A n c xs h => ⟨?_, h.2⟩, fun A n c N h => ?_, fun g' T' cs'' h1 h2 => h2.of (setRow_other w _ _ _ (fun e => by subst e; exact hS h1))⟩
 ·have := rd_other (.inl rfl) hb ho (cs' := cs') h.1
  rwa [show w.heap.size = (w.setRow g cs').heap.size by simp] at this
 ·have h' : Rd .u32 w 0 w.heap.size A n c (digs B32 N) := h
  have := rd_other (.inr rfl) hb ho (cs' := cs') h'
  rwa [show w.heap.size = (w.setRow g cs').heap.size by simp] at this
abbrev St := List (Nat × AV)
def look : St → Nat → Option AV
 | [], _ => none
 | (k, a) :: st, t => if t = k then some a else look st t
def dom (st : St) (b : Nat) : Bool := match look st (2 * b + 1) with
 | some (.v _ _) => true
 | _ => false
theorem dom_some {st : St} {b : Nat} (h : dom st b = true) : ∃ g ls, look st (2 * b + 1) = some (.v g ls) := by
 unfold dom at h
 split at h
 ·rename_i g ls hl; exact ⟨g, ls, hl⟩
 ·cases h
theorem look_same {st : St} {k : Nat} {a : AV} : look ((k, a) :: st) k = some a := by simp [look]
theorem look_other {st : St} {k t : Nat} {a : AV} (h : t ≠ k) : look ((k, a) :: st) t = look st t := by simp [look, h]
structure Fx where
 f : Nat → Prop
 sp : Nat → Option Obj
 df : List Deferred
instance : CoeFun Fx (fun _ => Nat → Prop) := ⟨Fx.f⟩
abbrev Fx.on (f : Nat → Prop) : Fx := ⟨f, fun _ => none, []⟩
abbrev Fx.no : Fx := Fx.on fun _ => False
structure Bel (F : Fx) (w w' : World) : Prop where
 os : w'.os = w.os
 tape : w'.tape = w.tape
 output : w'.output = w.output
 size : w.heap.size ≤ w'.heap.size
 block : ∀ k, k < w.heap.size → ¬ F k → w'.heap[k]? = w.heap[k]?
 oth : ∀ k o, F.sp k = some o → w'.heap[k]? = some o ∧ ∀ cs T fr, o ≠ .cells cs T fr
theorem Bel.refl (f : Nat → Prop) (w : World) : Bel (Fx.on f) w w := ⟨rfl, rfl, rfl, Nat.le_refl _, fun _ _ _ => rfl, fun _ _ h => by cases h⟩
theorem Bel.below {F : Fx} {w0 w w' : World} (h : Bel F w0 w) (hb : Below w.heap.size w w') : Bel F w0 w' :=
 ⟨hb.os.trans h.os, hb.tape.trans h.tape, hb.output.trans h.output, Nat.le_trans h.size hb.size, fun k hk hF => (hb.block k (Nat.lt_of_lt_of_le hk h.size)).trans (h.block k hk hF), fun k o e => ⟨(hb.block k (Array.getElem?_eq_some_iff.1 (h.oth k o e).1).1).trans (h.oth k o e).1, (h.oth k o e).2⟩⟩
theorem Bel.setRow {F : Fx} {w0 w : World} (h : Bel F w0 w) {g : Nat} {T : TypeId} {cs0 : Array Value} (hB : Blk w g T cs0) (hg : w0.heap.size ≤ g ∨ F g) (cs : Array Value) : Bel F w0 (w.setRow g cs) :=
 ⟨h.os, h.tape, h.output, by simpa using h.size, fun k hk hF => by
  rw [setRow_other w g k cs (fun e => by subst e; rcases hg with hg | hg; omega; exact hF hg)]
  exact h.block k hk hF, fun k o e => by
  obtain ⟨h1, h2⟩ := h.oth k o e
  refine ⟨?_, h2⟩
  rw [setRow_other w g k cs (fun e2 => by subst e2; rw [show w.heap[k]? = some (.cells cs0 T (0, 0)) from hB] at h1; injection h1 with h1; exact h2 _ _ _ h1.symm)]
  exact h1⟩
theorem Bel.to {w w' : World} (h : Bel Fx.no w w') : Below w.heap.size w w' := ⟨h.os, h.tape, h.output, h.size, fun k hk => h.block k hk (fun h => h)⟩
theorem Bel.of {w w' : World} (h : Below w.heap.size w w') : Bel Fx.no w w' := ⟨h.os, h.tape, h.output, h.size, fun k hk _ => h.block k hk, fun _ _ h => by cases h⟩
def Tb (F : Fx) (w0 : World) : Prop := Tab w0 ∧ ¬ F 0
theorem Tb.tab {F : Fx} {w0 w : World} (h : Tb F w0) (hb : Bel F w0 w) : Tab w := fun i hi => by
 have h1 := h.1 i hi
 rw [← h1]
 refine World.cell?_of_block (w := w0) ?_
 exact hb.block _ (World.block_lt_of_cell? w0 _ h1) h.2
def Ok1 (u : Value) : Prop := u.oneCell' = true ∧ (∀ z, u ≠ .int .u64 z) ∧ ∀ z, u ≠ .int .u32 z
def Gr (w : World) (base : Nat) (e : TypeId) (sz : Nat) (v : Value) (n : Nat) (us : List Value) : Prop := ∃ (g cap : Nat) (cur : Array Value), v = .slice (some ⟨g, 0, none⟩) n cap ∧ base ≤ g ∧ (∃ T, Blk w g T cur) ∧ n ≤ cap ∧ cap ≤ maxLen ∧ cur.size = cap * sz ∧ cur.toList.take (n * sz) = us ∧ ∀ u ∈ cur.toList, Ok1 u
theorem Gr.lt {w : World} {base : Nat} {e : TypeId} {sz : Nat} {v : Value} {n : Nat} {us : List Value} (h : Gr w base e sz v n us) : ∀ k, v.ownBlock = some k → base ≤ k ∧ k < w.heap.size := by
 obtain ⟨g, cap, cur, rfl, hb, ⟨T, hB⟩, _⟩ := h
 intro k hk; injection hk with hk; subst hk; exact ⟨hb, hB.lt⟩
theorem Gr.kept {w w' : World} {base : Nat} {e : TypeId} {sz : Nat} {v : Value} {n : Nat} {us : List Value} {row : Option Nat} (h : Gr w base e sz v n us) (hg : w.grownBy w' row) (hne : ∀ g, v.ownBlock = some g → row ≠ some g) : Gr w' base e sz v n us := by
 obtain ⟨g, cap, cur, rfl, hb, ⟨T, hB⟩, h1⟩ := h
 exact ⟨g, cap, cur, rfl, hb, ⟨T, (hg.block g hB.lt fun e => hne g rfl e.symm).trans hB⟩, h1⟩
theorem Gr.len {w : World} {base : Nat} {e : TypeId} {sz : Nat} {v : Value} {n : Nat} {us : List Value} (h : Gr w base e sz v n us) : us.length = n * sz := by
 obtain ⟨g, cap, cur, rfl, hb, hB, h1, h2, h3, h4, _⟩ := h
 rw [← h4, List.length_take, Array.length_toList, h3]
 exact Nat.min_eq_left (Nat.mul_le_mul_right _ h1)
structure Cz (F : Fx) (w0 : World) (N : Nat) (ρ : Env) (st : St) (a : Act) (w : World) : Prop where
 tb : Tb F w0
 bel : Bel F w0 w
 sz : a.tmps.size = N
 df : a.defers = F.df
 sl : ∀ t v, look st (2 * t) = some v → ∃ u, a.tmps[t]? = some u ∧ v.R ρ (dom st) w u
 mm : ∀ b v, look st (2 * b + 1) = some v → (∀ e sz ls, v ≠ .pre e sz ls) → ∃ g ls T cs, v = .v g ls ∧ Blk w (ρ b) T cs ∧ RL ρ (dom st) w ls cs.toList ∧ ls.all okLf = true ∧ (g = true → (b < N ∧ w0.heap.size ≤ ρ b) ∨ (1000 ≤ b ∧ F (ρ b)))
 inj : ∀ b b', dom st b = true → dom st b' = true → ρ b = ρ b' → b = b'
 zz : ρ.z = w0.heap.size
 gm : ∀ b, ρ.al b = true → ∃ e sz ls, look st (2 * b + 1) = some (.pre e sz ls)
 gc : ∀ b e sz ls, look st (2 * b + 1) = some (.pre e sz ls) → ρ.al b = true ∧ (ls = [] ∨ 0 < ρ.gv b) ∧ 0 < sz ∧ ls.all okLf = true ∧ ∃ us, Gr w w0.heap.size e sz (ρ.gh b) (ρ.gv b) us ∧ RL ρ (dom st) w ls us
 gi : ∀ b b' g, ρ.al b = true → ρ.al b' = true → (ρ.gh b).ownBlock = some g → (ρ.gh b').ownBlock = some g → b = b'
 gd : ∀ b b', ρ.al b = true → dom st b' = true → (ρ.gh b).ownBlock ≠ some (ρ b')
section
variable {F : Fx} {w0 w w' : World} {N : Nat} {ρ : Env} {st : St} {a : Act}
theorem Cz.mv {b : Nat} {g : Bool} {ls : List Lf} (h : Cz F w0 N ρ st a w) (hl : look st (2 * b + 1) = some (.v g ls)) : ∃ g' ls' T cs, AV.v g ls = .v g' ls' ∧ Blk w (ρ b) T cs ∧ RL ρ (dom st) w ls' cs.toList ∧ ls'.all okLf = true ∧ (g' = true → (b < N ∧ w0.heap.size ≤ ρ b) ∨ (1000 ≤ b ∧ F (ρ b))) := h.mm b _ hl fun _ _ _ e => by cases e
theorem Cz.lt (h : Cz F w0 N ρ st a w) {b : Nat} (hb : dom st b = true) : ρ b < w.heap.size := by
 obtain ⟨g, ls, hl⟩ := dom_some hb
 obtain ⟨_, _, _, _, _, hB, _⟩ := h.mv hl
 exact hB.lt
theorem Cz.glt (h : Cz F w0 N ρ st a w) {b g : Nat} (hb : ρ.al b = true) (e : (ρ.gh b).ownBlock = some g) : w0.heap.size ≤ g ∧ g < w.heap.size := by
 obtain ⟨e', sz, ls, hl⟩ := h.gm b hb
 obtain ⟨_, _, _, _, us, ho, _⟩ := h.gc b e' sz ls hl
 exact ho.lt g e
theorem Cz.gcs1 {st' : St} {ρ' : Env} (h : Cz F w0 N ρ st a w) {row : Option Nat} (hg : w.grownBy w' row) {b : Nat} (hne : ∀ g, ρ.al b = true → row = some g → (ρ.gh b).ownBlock ≠ some g) (hk : Keeps (Sep ρ (dom st)) w w') (he : Ext ρ ρ' (dom st) (dom st') w) (e1 : ρ'.gh b = ρ.gh b) (e2 : ρ'.gv b = ρ.gv b) (e3 : ρ'.al b = ρ.al b) {e : TypeId} {sz : Nat} {ls : List Lf} (hl : look st (2 * b + 1) = some (.pre e sz ls)) :
  ρ'.al b = true ∧ (ls = [] ∨ 0 < ρ'.gv b) ∧ 0 < sz ∧ ls.all okLf = true ∧ ∃ us, Gr w' w0.heap.size e sz (ρ'.gh b) (ρ'.gv b) us ∧ RL ρ' (dom st') w' ls us := by
 obtain ⟨h1, h2, h3, h4, us, ho, hR⟩ := h.gc b e sz ls hl
 rw [e1, e2, e3]
 exact ⟨h1, h2, h3, h4, us, ho.kept hg fun g hg' er => hne g h1 er hg', hR.mono he hk⟩
theorem Cz.gcs {st' : St} {ρ' : Env} (h : Cz F w0 N ρ st a w) {row : Option Nat} (hg : w.grownBy w' row) (hne : ∀ b g, ρ.al b = true → row = some g → (ρ.gh b).ownBlock ≠ some g) (hk : Keeps (Sep ρ (dom st)) w w') (he : Ext ρ ρ' (dom st) (dom st') w) (e1 : ρ'.gh = ρ.gh) (e2 : ρ'.gv = ρ.gv) (e3 : ρ'.al = ρ.al) {b : Nat} {e : TypeId} {sz : Nat} {ls : List Lf} (hl : look st (2 * b + 1) = some (.pre e sz ls)) :
  ρ'.al b = true ∧ (ls = [] ∨ 0 < ρ'.gv b) ∧ 0 < sz ∧ ls.all okLf = true ∧ ∃ us, Gr w' w0.heap.size e sz (ρ'.gh b) (ρ'.gv b) us ∧ RL ρ' (dom st') w' ls us :=
 h.gcs1 hg (hne b) hk he (by rw [e1]) (by rw [e2]) (by rw [e3]) hl
theorem grown_below {w w' : World} (hb : Below w.heap.size w w') : w.grownBy w' none := ⟨hb.os, hb.tape, hb.output, hb.size, fun k hk _ => hb.block k hk⟩
theorem Cz.congr {st' : St} (h : Cz F w0 N ρ st a w) (e : ∀ k, look st' k = look st k) : Cz F w0 N ρ st' a w := by
 have hd : dom st' = dom st := funext fun b => by unfold dom; rw [e]
 refine ⟨h.tb, h.bel, h.sz, h.df, fun t v hv => ?_, fun b v hv hne => ?_, fun b b' h1 h2 => ?_, h.zz, fun b hb => ?_, fun b x y z hv => ?_, h.gi, fun b b' h1 h2 => h.gd b b' h1 (by rw [← hd]; exact h2)⟩
 ·rw [hd]; exact h.sl t v (by rw [← e]; exact hv)
 ·rw [hd]; exact h.mm b v (by rw [← e]; exact hv) hne
 ·rw [hd] at h1 h2; exact h.inj b b' h1 h2
 ·obtain ⟨x, y, z, hl⟩ := h.gm b hb; exact ⟨x, y, z, by rw [e]; exact hl⟩
 ·rw [hd]; exact h.gc b x y z (by rw [← e]; exact hv)
theorem dom_even (st : St) (t : Nat) (v : AV) : dom ((2 * t, v) :: st) = dom st := funext fun b => by unfold dom; rw [look_other (by omega)]
theorem Cz.val {d : Nat} {v : AV} {u : Value} (h : Cz F w0 N ρ st a w) (hb : Below w.heap.size w w') (hd : d < N) (hv : v.R ρ (dom st) w' u) : Cz F w0 N ρ ((2 * d, v) :: st) (a.put (some d) u) w' := by
 have hk : Keeps (Sep ρ (dom st)) w w' := Keeps.below hb
 refine ⟨h.tb, h.bel.below hb, ?_, h.df, fun t x hx => ?_, fun b x hx hne => ?_, fun b b' h1 h2 => ?_, h.zz, fun b hb => ?_, fun b x y z hv => ?_, h.gi, fun b b' h1 h2 => h.gd b b' h1 (by rw [← dom_even st d v]; exact h2)⟩
 ·rw [kn_size_put]; exact h.sz
 ·rw [dom_even]
  by_cases e : t = d
  ·subst e
   rw [look_same] at hx; injection hx with hx; subst hx
   exact ⟨u, kn_get_same (by rw [h.sz]; exact hd), hv⟩
  ·rw [look_other (by omega)] at hx
   obtain ⟨y, hy, hr⟩ := h.sl t x hx
   exact ⟨y, by rw [kn_get_other (fun h => e h.symm)]; exact hy, hr.mono (Ext.refl _ _) hk⟩
 ·rw [dom_even]
  rw [look_other (by omega)] at hx
  obtain ⟨g, ls, T, cs, e, hB, hr, ho, hg⟩ := h.mm b x hx hne
  exact ⟨g, ls, T, cs, e, hB.below hb hB.lt, hr.mono (Ext.refl _ _) hk, ho, hg⟩
 ·rw [dom_even] at h1 h2; exact h.inj b b' h1 h2
 ·obtain ⟨x, y, z, hl⟩ := h.gm b hb; exact ⟨x, y, z, by rw [look_other (by omega)]; exact hl⟩
 ·rw [look_other (by omega)] at hv
  exact h.gcs (grown_below hb) (fun _ _ _ e => by cases e) hk (by rw [dom_even]; exact Ext.refl _ _) rfl rfl rfl hv
theorem Cz.new {d : Nat} {ls : List Lf} {cs : List Value} {T : TypeId} {l : Lf} {u : Value} (hu : ∀ (ρ' : Env) (D' : Nat → Bool) (w' : World), D' d = true → ρ' d = w.heap.size → l.R ρ' D' w' u) (h : Cz F w0 N ρ st a w) (hd : d < N) (hn : look st (2 * d + 1) = none) (hr : RL ρ (dom st) w ls cs) (ho : ls.all okLf = true) :
  Cz F w0 N { ρ with r := fun b => if b = d then w.heap.size else ρ b } ((2 * d, .s l) :: (2 * d + 1, .v true ls) :: st) (a.put (some d) u) (w.alloc (.cells cs.toArray T)) := by
 have hb := one_below w (.cells cs.toArray T)
 have hk : Keeps (Sep ρ (dom st)) w _ := Keeps.below hb
 have hdm : ∀ b, dom ((2 * d, .s l) :: (2 * d + 1, .v true ls) :: st) b = if b = d then true else dom st b := fun b => by
  rw [dom_even]; unfold dom
  by_cases e : b = d
  ·subst e; rw [look_same, if_pos rfl]
  ·rw [look_other (by omega), if_neg e]
 have hnd : dom st d = false := by unfold dom; rw [hn]
 have he : Ext ρ { ρ with r := fun b => if b = d then w.heap.size else ρ b } (dom st) (dom ((2 * d, .s l) :: (2 * d + 1, .v true ls) :: st)) w := by
  refine ⟨fun b hb => ?_, fun b hb => ?_, fun b hb => ?_, rfl, fun _ h => ⟨h, Nat.le_refl _, fun _ => rfl⟩, fun _ _ h1 h2 => .inl ⟨h1, h2⟩⟩
  ·rw [hdm]; split
   ·rfl
   ·exact hb
  ·have : b ≠ d := fun e => by subst e; rw [hnd] at hb; cases hb
   simp [this]
  ·rw [hdm] at hb
   by_cases e : b = d
   ·right; simp [e]
   ·rw [if_neg e] at hb; exact .inl hb
 refine ⟨h.tb, h.bel.below hb, ?_, h.df, fun t x hx => ?_, fun b x hx hne => ?_, fun b b' h1 h2 e => ?_, h.zz, fun b hb' => ?_, fun b x y z hv => ?_, h.gi, fun b b' h1 h2 e => ?_⟩
 ·rw [kn_size_put]; exact h.sz
 ·by_cases e : t = d
  ·subst e
   rw [look_same] at hx; injection hx with hx; subst hx
   refine ⟨_, kn_get_same (by rw [h.sz]; exact hd), ?_⟩
   exact RL.one.2 (hu _ _ _ (by rw [hdm, if_pos rfl]) (by simp))
  ·rw [look_other (by omega), look_other (by omega)] at hx
   obtain ⟨y, hy, hr⟩ := h.sl t x hx
   exact ⟨y, by rw [kn_get_other (fun h => e h.symm)]; exact hy, hr.mono he hk⟩
 ·rw [look_other (by omega)] at hx
  by_cases e : b = d
  ·subst e
   rw [look_same] at hx; injection hx with hx; subst hx
   refine ⟨true, ls, T, cs.toArray, rfl, ?_, by simpa using hr.mono he hk, ho, fun _ => .inl ⟨hd, ?_⟩⟩
   ·simp only [if_pos]; exact Blk.new w T _
   ·simp only [if_pos]; exact h.bel.size
  ·rw [look_other (by omega)] at hx
   obtain ⟨g', ls', T', cs', e', hB, hr', ho', hg⟩ := h.mm b x hx hne
   refine ⟨g', ls', T', cs', e', ?_, hr'.mono he hk, ho', ?_⟩
   ·simp only [if_neg e]; exact hB.below hb hB.lt
   ·simp only [if_neg e]; exact hg
 ·rw [hdm] at h1 h2
  have hlt : ∀ x, dom st x = true → ρ x < w.heap.size := fun x hx => h.lt hx
  by_cases e1 : b = d <;> by_cases e2 : b' = d
  ·rw [e1, e2]
  ·rw [if_neg e2] at h2
   simp only [e1, if_pos, if_neg e2] at e
   have := hlt b' h2; omega
  ·rw [if_neg e1] at h1
   simp only [e2, if_pos, if_neg e1] at e
   have := hlt b h1; omega
  ·rw [if_neg e1] at h1; rw [if_neg e2] at h2
   simp only [if_neg e1, if_neg e2] at e
   exact h.inj b b' h1 h2 e
 ·obtain ⟨x, y, z, hl⟩ := h.gm b hb'
  have : b ≠ d := fun e => by subst e; rw [hn] at hl; cases hl
  exact ⟨x, y, z, by rw [look_other (by omega), look_other (by omega)]; exact hl⟩
 ·have hbd : b ≠ d := fun e => by
   subst e
   rw [look_other (by omega), look_same] at hv; injection hv with hv; cases hv
  rw [look_other (by omega), look_other (by omega)] at hv
  exact h.gcs (grown_below hb) (fun _ _ _ e => by cases e) hk he rfl rfl rfl hv
 ·rw [hdm] at h2
  by_cases e1 : b' = d
  ·have e : (ρ.gh b).ownBlock = some (if b' = d then w.heap.size else ρ b') := e
   rw [if_pos e1] at e
   have := (h.glt h1 e).2; omega
  ·rw [if_neg e1] at h2
   have e : (ρ.gh b).ownBlock = some (if b' = d then w.heap.size else ρ b') := e
   rw [if_neg e1] at e
   exact h.gd b b' h1 h2 e
theorem Cz.put {b : Nat} {ls ls' : List Lf} {cs : List Value} (h : Cz F w0 N ρ st a w) (hl : look st (2 * b + 1) = some (.v true ls)) (hr : RL ρ (dom st) w ls' cs) (ho : ls'.all okLf = true) :
  Cz F w0 N ρ ((2 * b + 1, .v true ls') :: st) a (w.setRow (ρ b) cs.toArray) := by
 obtain ⟨g0, ls0, T, cs0, e0, hB, hr0, ho0, hg⟩ := h.mv hl
 injection e0 with e1 e0; subst e0
 replace hg := hg e1.symm
 have hdb0 : dom st b = true := by unfold dom; rw [hl]
 have hk : Keeps (Sep ρ (dom st)) w (w.setRow (ρ b) cs.toArray) := Keeps.setRow hB (fun u hu => (hr0.okAll ho0 u hu).2) fun h => h.1 b hdb0 rfl
 have hdb : dom st b = true := by unfold dom; rw [hl]
 have hdm : dom ((2 * b + 1, .v true ls') :: st) = dom st := funext fun x => by
  unfold dom
  by_cases e : x = b
  ·subst e; rw [look_same, hl]
  ·rw [look_other (by omega)]
 refine ⟨h.tb, h.bel.setRow hB (hg.imp (fun x => x.2) fun x => x.2) _, h.sz, h.df, fun t x hx => ?_, fun x v hx hne => ?_, fun x x' h1 h2 => ?_, h.zz, fun x hx => ?_, fun x y z u hv => ?_, h.gi, fun x x' h1 h2 => h.gd x x' h1 (by rw [← hdm]; exact h2)⟩
 ·rw [look_other (by omega)] at hx
  obtain ⟨y, hy, hr'⟩ := h.sl t x hx
  rw [hdm]; exact ⟨y, hy, hr'.mono (Ext.refl _ _) hk⟩
 ·rw [hdm]
  by_cases e : x = b
  ·subst e
   rw [look_same] at hx; injection hx with hx; subst hx
   exact ⟨true, ls', T, cs.toArray, rfl, setRow_heap w _ cs0 _ T _ hB, by simpa using hr.mono (Ext.refl _ _) hk, ho, fun _ => hg⟩
  ·rw [look_other (by omega)] at hx
   obtain ⟨g2, l2, T2, c2, e2, hB2, hr2, ho2, hg2⟩ := h.mm x v hx hne
   have hdx : dom st x = true := by unfold dom; rw [hx, e2]
   exact ⟨g2, l2, T2, c2, e2, (setRow_other w _ _ _ (fun e' => e (h.inj _ _ hdx hdb e'))).trans hB2, hr2.mono (Ext.refl _ _) hk, ho2, hg2⟩
 ·rw [hdm] at h1 h2; exact h.inj x x' h1 h2
 ·obtain ⟨y, z, u, hl'⟩ := h.gm x hx
  have : x ≠ b := fun e => by subst e; rw [hl] at hl'; injection hl' with hl'; cases hl'
  exact ⟨y, z, u, by rw [look_other (by omega)]; exact hl'⟩
 ·have hxb : x ≠ b := fun e => by
   subst e
   rw [look_same] at hv; injection hv with hv; cases hv
  rw [look_other (by omega)] at hv
  exact h.gcs (row := some (ρ b)) ⟨by simp, by simp, by simp, by simp, fun k _ hk' => setRow_other w _ _ _ (fun e => hk' (by rw [e]))⟩ (fun c g hc e e' => by injection e with e; subst e; exact h.gd c b hc hdb e') hk (by rw [hdm]; exact Ext.refl _ _) rfl rfl rfl hv
theorem Cz.apF {b n : Nat} {v' : Value} {e : TypeId} {sz : Nat} {ls' : List Lf} {us : List Value} {row : Option Nat} (h : Cz F w0 N ρ st a w) (hdm : dom st b = false) (hsz : 0 < sz) (hn : ls' = [] ∨ 0 < n) (hv : ρ.al b = true → ρ.gv b ≤ n ∧ (ρ.gv b = n → v' = ρ.gh b)) (hg : w.grownBy w' row) (hrow : ∀ g, row = some g → ρ.al b = true ∧ (ρ.gh b).ownBlock = some g) (hk : Keeps (Sep ρ (dom st)) w w') (hown : ∀ g, v'.ownBlock = some g → row = some g ∨ w.heap.size ≤ g) (ho : ls'.all okLf = true) (hG : Gr w' w0.heap.size e sz v' n us) (hR : Ext ρ (ρ.up b v' n) (dom st) (dom ((2 * b + 1, .pre e sz ls') :: st)) w → RL (ρ.up b v' n) (dom ((2 * b + 1, .pre e sz ls') :: st)) w' ls' us) :
  Cz F w0 N (ρ.up b v' n) ((2 * b + 1, .pre e sz ls') :: st) a w' := by
 have hdm' : dom ((2 * b + 1, .pre e sz ls') :: st) = dom st := funext fun x => by
  by_cases e1 : x = b
  ·subst e1; rw [hdm]; unfold dom; rw [look_same]
  ·unfold dom; rw [look_other (by omega)]
 have hnb : ∀ x, dom st x = true → ∀ g, row = some g → ρ x ≠ g := fun x hx g hr e1 => by
  obtain ⟨h1, h2⟩ := hrow g hr
  exact h.gd b x h1 hx (by rw [h2, e1])
 have he : Ext ρ (ρ.up b v' n) (dom st) (dom ((2 * b + 1, .pre e sz ls') :: st)) w := by
  refine ⟨fun x hx => by rw [hdm']; exact hx, fun _ _ => rfl, fun x hx => by rw [hdm'] at hx; exact .inl hx, rfl, fun x hx => ?_, fun x g hx hg' => ?_⟩
  ·by_cases e1 : x = b
   ·subst e1
    have := hv hx
    simp only [if_true]
    exact ⟨trivial, this.1, this.2⟩
   ·simp only [if_neg e1]; exact ⟨hx, Nat.le_refl _, fun _ => trivial⟩
  ·by_cases e1 : x = b
   ·subst e1
    simp only [if_true] at hg'
    exact (hown g hg').imp (fun e => hrow g e) id
   ·simp only [if_neg e1] at hx hg'; exact .inl ⟨hx, hg'⟩
 refine ⟨h.tb, ⟨hg.os.trans h.bel.os, hg.tape.trans h.bel.tape, hg.output.trans h.bel.output, Nat.le_trans h.bel.size hg.size, fun k hk1 hF => ?_, fun k o e1 => ⟨(hg.block k (Array.getElem?_eq_some_iff.1 (h.bel.oth k o e1).1).1 fun e2 => ?_).trans (h.bel.oth k o e1).1, (h.bel.oth k o e1).2⟩⟩, ?_, h.df, fun t x hx => ?_, fun x v hx hne => ?_, fun x x' h1 h2 => ?_, h.zz, fun x hx => ?_, fun x y z u hv' => ?_, fun x x' g h1 h2 h3 h4 => ?_, fun x x' h1 h2 => ?_⟩
 ·refine (hg.block k (Nat.lt_of_lt_of_le hk1 h.bel.size) fun e1 => ?_).trans (h.bel.block k hk1 hF)
  obtain ⟨h1, h2⟩ := hrow k e1.symm
  have := (h.glt h1 h2).1; omega
 ·obtain ⟨h1, h2⟩ := hrow k e2.symm
  obtain ⟨e3, s3, l3, hl3⟩ := h.gm b h1
  obtain ⟨_, _, _, _, us3, ⟨g3, c3, r3, e4, _, ⟨T3, hB3⟩, _⟩, _⟩ := h.gc b e3 s3 l3 hl3
  rw [e4] at h2
  injection h2 with h2; subst h2
  have h5 := (h.bel.oth g3 o e1).1
  rw [show w.heap[g3]? = some (.cells r3 T3 (0, 0)) from hB3] at h5
  injection h5 with h5
  exact (h.bel.oth g3 o e1).2 _ _ _ h5.symm
 ·exact h.sz
 ·rw [look_other (by omega)] at hx
  obtain ⟨y, hy, hr⟩ := h.sl t x hx
  exact ⟨y, hy, hr.mono he hk⟩
 ·have e1 : x ≠ b := fun e1 => by
   subst e1
   rw [look_same] at hx; injection hx with hx
   exact hne _ _ _ hx.symm
  rw [look_other (by omega)] at hx
  obtain ⟨g2, l2, T2, c2, e2, hB2, hr2, ho2, hg2⟩ := h.mm x v hx hne
  have hdx : dom st x = true := by unfold dom; rw [hx, e2]
  exact ⟨g2, l2, T2, c2, e2, (hg.block _ hB2.lt fun e3 => hnb x hdx _ e3.symm rfl).trans hB2, hr2.mono he hk, ho2, hg2⟩
 ·rw [hdm'] at h1 h2; exact h.inj x x' h1 h2
 ·by_cases e1 : x = b
  ·subst e1; exact ⟨e, sz, ls', by rw [look_same]⟩
  ·simp only [if_neg e1] at hx
   obtain ⟨y, z, u, hl⟩ := h.gm x hx
   exact ⟨y, z, u, by rw [look_other (by omega)]; exact hl⟩
 ·by_cases e1 : x = b
  ·subst e1
   rw [look_same] at hv'; injection hv' with hv'; injection hv' with h1 h2 h3
   subst h1; subst h2; subst h3
   simp only [if_true]
   exact ⟨trivial, hn, hsz, ho, us, hG, hR he⟩
  ·rw [look_other (by omega)] at hv'
   exact h.gcs1 hg (fun g h1 h2 h3 => by
    obtain ⟨h4, h5⟩ := hrow g h2
    exact e1 (h.gi x b g h1 h4 h3 h5)) hk he (by simp [e1]) (by simp [e1]) (by simp [e1]) hv'
 ·by_cases e1 : x = b <;> by_cases e2 : x' = b
  ·rw [e1, e2]
  ·simp only [if_neg e2] at h2 h4
   subst e1
   simp only [if_true] at h3
   rcases hown g h3 with h5 | h5
   ·obtain ⟨h6, h7⟩ := hrow g h5
    exact h.gi x x' g h6 h2 h7 h4
   ·have := (h.glt h2 h4).2; omega
  ·simp only [if_neg e1] at h1 h3
   subst e2
   simp only [if_true] at h4
   rcases hown g h4 with h5 | h5
   ·obtain ⟨h6, h7⟩ := hrow g h5
    exact h.gi x x' g h1 h6 h3 h7
   ·have := (h.glt h1 h3).2; omega
  ·simp only [if_neg e1] at h1 h3
   simp only [if_neg e2] at h2 h4
   exact h.gi x x' g h1 h2 h3 h4
 ·rw [hdm'] at h2
  intro e2
  by_cases e1 : x = b
  ·subst e1
   have e2 : (if x = x then v' else ρ.gh x).ownBlock = some (ρ x') := e2
   rw [if_pos rfl] at e2
   rcases hown _ e2 with h5 | h5
   ·exact hnb x' h2 _ h5 rfl
   ·have := h.lt h2; omega
  ·have h1 : (if x = b then true else ρ.al x) = true := h1
   have e2 : (if x = b then v' else ρ.gh x).ownBlock = some (ρ x') := e2
   rw [if_neg e1] at h1 e2
   exact h.gd x x' h1 h2 e2
theorem Cz.apM {b n : Nat} {v' : Value} {e : TypeId} {sz : Nat} {ls' : List Lf} {us : List Value} {row : Option Nat} (h : Cz F w0 N ρ st a w) (hdm : dom st b = false) (hsz : 0 < sz) (hn : ls' = [] ∨ 0 < n) (hv : ρ.al b = true → ρ.gv b ≤ n ∧ (ρ.gv b = n → v' = ρ.gh b)) (hg : w.grownBy w' row) (hrow : ∀ g, row = some g → ρ.al b = true ∧ (ρ.gh b).ownBlock = some g) (hk : Keeps (Sep ρ (dom st)) w w') (hown : ∀ g, v'.ownBlock = some g → row = some g ∨ w.heap.size ≤ g) (ho : ls'.all okLf = true) (hG : Gr w' w0.heap.size e sz v' n us) (hR : RL ρ (dom st) w ls' us) :
  Cz F w0 N (ρ.up b v' n) ((2 * b + 1, .pre e sz ls') :: st) a w' := by
 exact h.apF hdm hsz hn hv hg hrow hk hown ho hG fun he => hR.mono he hk
theorem Cz.apG {b d n : Nat} {v' : Value} {e : TypeId} {sz : Nat} {ls' : List Lf} {us : List Value} {row : Option Nat} (h : Cz F w0 N ρ st a w) (hd : d < N) (hdm : dom st b = false) (hsz : 0 < sz) (hn : ls' = [] ∨ 0 < n) (hv : ρ.al b = true → ρ.gv b < n) (hg : w.grownBy w' row) (hrow : ∀ g, row = some g → ρ.al b = true ∧ (ρ.gh b).ownBlock = some g) (hk : Keeps (Sep ρ (dom st)) w w') (hown : ∀ g, v'.ownBlock = some g → row = some g ∨ w.heap.size ≤ g) (ho : ls'.all okLf = true) (hG : Gr w' w0.heap.size e sz v' n us) (hR : Ext ρ (ρ.up b v' n) (dom st) (dom ((2 * b + 1, .pre e sz ls') :: st)) w → RL (ρ.up b v' n) (dom ((2 * b + 1, .pre e sz ls') :: st)) w' ls' us) :
  Cz F w0 N (ρ.up b v' n) ((2 * d, .s (.ol b n)) :: (2 * b + 1, .pre e sz ls') :: st) (a.put (some d) v') w' := by
 have h1 := h.apF hdm hsz hn (fun hal => ⟨Nat.le_of_lt (hv hal), fun e => by have := hv hal; omega⟩) hg hrow hk hown ho hG hR
 obtain ⟨g, cap, cur, e2, _⟩ := hG
 exact h1.val (Below.refl _ _) hd (RL.one.2 ⟨by simp, by simp, fun _ => by simp, ⟨_, _, e2⟩⟩)
theorem Cz.ap {b d n : Nat} {v' : Value} {e : TypeId} {sz : Nat} {ls' : List Lf} {us : List Value} {row : Option Nat} (h : Cz F w0 N ρ st a w) (hd : d < N) (hdm : dom st b = false) (hsz : 0 < sz) (hn : ls' = [] ∨ 0 < n) (hv : ρ.al b = true → ρ.gv b < n) (hg : w.grownBy w' row) (hrow : ∀ g, row = some g → ρ.al b = true ∧ (ρ.gh b).ownBlock = some g) (hk : Keeps (Sep ρ (dom st)) w w') (hown : ∀ g, v'.ownBlock = some g → row = some g ∨ w.heap.size ≤ g) (ho : ls'.all okLf = true) (hG : Gr w' w0.heap.size e sz v' n us) (hR : RL ρ (dom st) w ls' us) :
  Cz F w0 N (ρ.up b v' n) ((2 * d, .s (.ol b n)) :: (2 * b + 1, .pre e sz ls') :: st) (a.put (some d) v') w' := by
 exact h.apG hd hdm hsz hn hv hg hrow hk hown ho hG fun he => hR.mono he hk
theorem Cz.cur {b k sz : Nat} {e : TypeId} {ls : List Lf} (h : Cz F w0 N ρ st a w) (hl : look st (2 * b + 1) = some (.pre e sz ls)) (hk : ls.length = k * sz) : ρ.al b = true ∧ ρ.gv b = k ∧ (ls = [] ∨ 0 < k) ∧ 0 < sz ∧ ls.all okLf = true ∧ dom st b = false ∧ ∃ (g cap : Nat) (cur : Array Value) (us : List Value), ρ.gh b = .slice (some ⟨g, 0, none⟩) k cap ∧ (ρ.gh b).ownBlock = some g ∧ w0.heap.size ≤ g ∧ (∃ T, Blk w g T cur) ∧ k ≤ cap ∧ cap ≤ maxLen ∧ cur.size = cap * sz ∧ cur.toList.take (k * sz) = us ∧ us.length = k * sz ∧ (∀ u ∈ cur.toList, Ok1 u) ∧ RL ρ (dom st) w ls us := by
 obtain ⟨hal, hgv, hsz, hok, us, hG, hR⟩ := h.gc b e sz ls hl
 have hul := hG.len
 have hgk : ρ.gv b = k := by
  have : ρ.gv b * sz = k * sz := by rw [← hk, ← hR.len, hul]
  exact Nat.eq_of_mul_eq_mul_right hsz this
 obtain ⟨g, cap, cur, egh, hbg, hBg, hkc, hcm, hcs, htk, hcok⟩ := hG
 rw [hgk] at egh hkc htk hul
 exact ⟨hal, hgk, hgk ▸ hgv, hsz, hok, by unfold dom; rw [hl], g, cap, cur, us, egh, by rw [egh]; rfl, hbg, hBg, hkc, hcm, hcs, htk, hul, hcok, hR⟩
end
end
section
structure TI where
 agg : Bool
 size : Nat
 zero : List Lf
 zv : List Value
 flds : List (Nat × Nat × Bool)
 el : Option (TypeId × Bool)
def zof (i : TI) : Value := match i.agg, i.zv with
 | true, l => .agg l.toArray
 | false, u :: _ => u
 | false, [] => undef
structure TiOK (P : Program) (t : TypeId) (i : TI) : Prop where
 size : (P.info? t).map (·.size) = some i.size
 zero : (P.info? t).bind (·.zero) = some (zof i)
 row : (P.underlying t).map (·.isRow) = some i.agg
 fld : ∀ (k : Nat) (p : Nat × Nat × Bool), i.flds[k]? = some p → ∃ (fs : Array Field) (f : Field), P.underlying t = some (.struct fs) ∧ fs[k]? = some f ∧ f.offset = p.1 ∧ (P.info? f.type).map (·.size) = some p.2.1 ∧ p.2.1 ≠ 0 ∧ (P.underlying f.type).map (·.isRow) = some p.2.2
 pl : i.agg = true → ∃ fs : Array Field, P.underlying t = some (.struct fs) ∧ fs.toList.mapM (fun f => (P.info? f.type).map fun i => (f.offset, i.size)) = some (i.flds.map fun p => (p.1, p.2.1))
 rz : ∀ ρ D w, RL ρ D w i.zero i.zv
 ok : i.zero.all okLf = true ∨ (i.agg = false ∧ ∃ z, i.zv = [.int .u64 z])
 len : i.zv.length = i.size
 one : i.agg = false → i.size = 1
 ik : ∀ k z, i.agg = false → i.zv = [.int k z] → P.underlying t = some (.int k)
 sl : ∀ e b, i.el = some (e, b) → P.underlying t = some (.slice e) ∧ (b = true → ∃ ie z, P.info? e = some ie ∧ ie.size = 1 ∧ ie.zero = some z ∧ ie.bytes ≤ 8)
 bl : ∀ b, i.agg = false → i.zv = [.bool b] → P.underlying t = some .bool
 bt : (P.info? t).any (fun i => decide (i.bytes ≤ 100000)) = true
def evs (st : St) : Operand → Option AV
 | .tmp t => look st (2 * t)
 | .const v => some (.s (.lit v))
 | .func f => some (.s (.clo f []))
 | .global g => some (.s (.lit (.pointer (some ⟨g, 0, none⟩))))
def okeys : Operand → List Nat
 | .tmp t => [2 * t]
 | _ => []
section
variable {F : Fx} {w0 w : World} {N : Nat} {ρ : Env} {st : St} {a : Act}
theorem Cz.ev (h : Cz F w0 N ρ st a w) {x : Operand} {v : AV} (hx : evs st x = some v) : v.R ρ (dom st) w (a.eval x) := by
 cases x with
 | tmp t =>
  obtain ⟨u, hu, hr⟩ := h.sl t v hx
  rw [ev_of hu]; exact hr
 | const c => injection hx with hx; subst hx; exact RL.one.2 rfl
 | func f => injection hx with hx; subst hx; exact RL.one.2 ⟨(fun b hb => by cases hb), rfl⟩
 | global g => injection hx with hx; subst hx; exact RL.one.2 rfl
end
section
variable {P : Program} {w : World} {t : TypeId} {i : TI}
theorem run_sizeOf (h : TiOK P t i) : (sizeOf t).run P w = .ok i.size w := by
 have := h.size
 cases hq : P.info? t with
 | none => rw [hq] at this; cases this
 | some x => rw [hq] at this; injection this with this; simp [sizeOf, typeInfo, hq, ← this]
theorem run_zero (h : TiOK P t i) : (zeroValue t).run P w = .ok (zof i) w := by
 have := h.zero
 cases hq : P.info? t with
 | none => rw [hq] at this; cases this
 | some x => rw [hq] at this; have this : x.zero = some (zof i) := this; simp [zeroValue, typeInfo, hq, this]
theorem run_isAgg (h : TiOK P t i) : (isAgg t).run P w = .ok i.agg w := by
 have := h.row
 cases hq : P.underlying t with
 | none => rw [hq] at this; cases this
 | some x =>
  rw [hq] at this; injection this with this
  unfold isAgg
  rw [Sem.run_bind, run_underlying hq w]
  rw [← this]
  cases x <;> simp [TypeDesc.isRow]
theorem zof_cells (h : TiOK P t i) : (zof i).cells = i.zv.toArray := by
 unfold zof
 cases ha : i.agg with
 | true => rfl
 | false =>
  have h1 := h.one ha; have h2 := h.len
  have hr := h.rz envA (fun _ => true) default
  have ho := h.ok
  match hz : i.zv with
  | [] => rw [hz] at h2; simp at h2; omega
  | [u] =>
   rw [hz] at hr
   rcases ho with ho | ⟨_, z, hz'⟩
   ·have := (hr.okAll ho u (by simp)).1
    simp only
    cases u <;> first | rfl | simp [Value.oneCell'] at this
   ·rw [hz] at hz'; injection hz' with hz'; subst hz'; rfl
  | u :: x :: r => rw [hz] at h2; simp at h2; omega
theorem run_alloc (h : TiOK P t i) : (Instr.alloc t true (.tuple #[])).run P w = .ok (.pointer (some ⟨w.heap.size, 0, none⟩)) (w.alloc (.cells i.zv.toArray t)) := by
 unfold Instr.alloc
 rw [Sem.run_bind, run_zero h]
 simp only [Result.andThen_ok, newVar, zof_cells h, newRow]
 go_simp
theorem run_loadA (h : TiOK P t i) {g : Nat} {T : TypeId} {cs : Array Value} {o : Nat} (hb : Wb w g T cs) (hl : o + i.size ≤ cs.size) (hg : i.agg = true) :
  (Instr.loadAt t (.pointer (some ⟨g, o, none⟩))).run P w = .ok (.agg ((cs.toList.drop o).take i.size).toArray) w := by
 have hr := h.row
 rw [hg] at hr
 cases hq : P.underlying t with
 | none => rw [hq] at hr; cases hr
 | some x =>
  rw [hq] at hr; injection hr with hr
  refine run_loadAt_mid w g o t _ x (fun j v hv => ?_) hq hr ?_
  ·rw [List.getElem?_take] at hv
   split at hv
   ·rw [List.getElem?_drop] at hv
    rw [hb.cell, ← Array.getElem?_toList]; exact hv
   ·cases hv
  ·rw [h.size, List.length_take, List.length_drop, Array.length_toList]; congr 1; omega
theorem run_loadS (h : TiOK P t i) {g : Nat} {T : TypeId} {cs : Array Value} {o : Nat} {u : Value} (hb : Wb w g T cs) (hu : cs.toList[o]? = some u) (hg : i.agg = false) :
  (Instr.loadAt t (.pointer (some ⟨g, o, none⟩))).run P w = .ok u w := by
 have h1 := run_isAgg (w := w) h
 rw [hg] at h1
 have hc : w.cell? ⟨g, o, none⟩ = some u := by rw [hb.cell, ← Array.getElem?_toList]; exact hu
 simp only [Instr.loadAt, Instr.sureAddr, Sem.run_bind, Sem.run_pure, Result.andThen_ok, loadVar, h1]
 go_simp
theorem run_storeA (h : TiOK P t i) {g : Nat} {T : TypeId} {cs : Array Value} {o : Nat} {v : Value} {us : List Value} (hb : Blk w g T cs) (hv : v.cells = us.toArray) (hs : us.length = i.size) (hl : o + us.length ≤ cs.size) (h1 : ∀ u ∈ us, u.oneCell' = true) :
  (Instr.storeAt t (.pointer (some ⟨g, o, none⟩)) v).run P w = .ok () (w.setRow g (cs.toList.take o ++ us ++ cs.toList.drop (o + us.length)).toArray) := by
 have hst := run_storeCells_at (P := P) g o T us 0 cs w hb (by omega) h1
 simp only [Nat.add_zero] at hst
 have hz := run_sizeOf (w := w) h
 simp only [Instr.storeAt, Instr.sureAddr, Sem.run_bind, Sem.run_pure, Result.andThen_ok, storeVar, hz, hv]
 rw [if_neg (by simp [hs])]
 exact hst
theorem run_field (h : TiOK P t i) {k : Nat} {p : Nat × Nat × Bool} (hp : i.flds[k]? = some p) (g o : Nat) : (Instr.fieldAt t (.pointer (some ⟨g, o, none⟩)) k).run P w = .ok (.pointer (some ⟨g, o + p.1, none⟩)) w := by
 obtain ⟨fs, f, hu, hf, ho, hs, h0, _⟩ := h.fld k p hp
 have h1 : (sizeOf f.type).run P w = .ok p.2.1 w := by
  cases hq : P.info? f.type with
  | none => rw [hq] at hs; cases hs
  | some x => rw [hq] at hs; injection hs with hs; simp [sizeOf, typeInfo, hq, ← hs]
 unfold Instr.fieldAt
 rw [Sem.run_bind, run_underlying hu w]
 simp only [Result.andThen_ok, hf, Instr.sureAddr, Sem.run_bind, Sem.run_pure, fieldPlace, h1]
 rw [if_neg h0]
 simp only [Sem.run_pure, Result.andThen_ok, addr_add, ho]
theorem run_part (h : TiOK P t i) {k : Nat} {p : Nat × Nat × Bool} (hp : i.flds[k]? = some p) {us : List Value} {v : Value} (hv : if p.2.2 then v = .agg ((us.drop p.1).take p.2.1).toArray else us[p.1]? = some v) :
  (Instr.field t (.agg us.toArray) k).run P w = .ok v w := by
 obtain ⟨fs, f, hu, hf, ho, hs, h0, hr⟩ := h.fld k p hp
 have h1 : (sizeOf f.type).run P w = .ok p.2.1 w := by
  cases hq : P.info? f.type with
  | none => rw [hq] at hs; cases hs
  | some x => rw [hq] at hs; injection hs with hs; simp [sizeOf, typeInfo, hq, ← hs]
 have h2 : (isAgg f.type).run P w = .ok p.2.2 w := by
  cases hq : P.underlying f.type with
  | none => rw [hq] at hr; cases hr
  | some x =>
   rw [hq] at hr; injection hr with hr
   unfold isAgg
   rw [Sem.run_bind, run_underlying hq w, ← hr]
   cases x <;> simp [TypeDesc.isRow]
 unfold Instr.field
 rw [Sem.run_bind, run_underlying hu w]
 simp only [Result.andThen_ok, hf, Sem.run_bind, asAgg, Sem.run_pure, part, h2, ho]
 cases hg : p.2.2 with
 | true =>
  rw [hg] at hv
  simp only [if_true] at hv
  simp only [if_true, Sem.run_bind, h1, Result.andThen_ok, Sem.run_pure]
  rw [hv]
  congr 2
  rw [List.extract_toArray, List.extract_eq_take_drop]
  congr 2; omega
 | false =>
  rw [hg] at hv
  simp only [Bool.false_eq_true, if_false] at hv
  simp only [Bool.false_eq_true, if_false, List.getElem?_toArray, hv, Sem.run_pure]
end
end
end Go.Proofs.YtobcbhppmgnioaaGreatDoor
