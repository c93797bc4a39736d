/- A reckoning with values that are known in part: cells, values, states; what a world must hold for them. No function of the program stands in it. -/
import Derived.Test.YtfggnoejcgehdaaGreatDoorPReg
import Derived.Deep.MidRow
import Derived.Laws.CopyRow
namespace Go.Proofs.YtfggnoejcgehdaaGreatDoor
open Go.RowKit Nx
set_option linter.unusedVariables false
set_option linter.unusedSimpArgs false
inductive Lf where
  | lit (v : Value)
  | own (b o : Nat)
  | osl (b n : Nat)
  | ws (xs : List Nat)
  | dg (N : Nat)
  | clo (f : FuncId) (caps : List Nat)
inductive AV where
  | v (g : Bool) (ls : List Lf)
  | tup (vs : List (Bool × List Lf))
abbrev AV.s (l : Lf) : AV := .v false [l]
def Lf.R (ρ : Nat → Nat) (D : Nat → Bool) (w : World) : Lf → Value → Prop
  | .lit u, v => v = u
  | .own b o, v => D b = true ∧ v = .pointer (some ⟨ρ b, o, none⟩)
  | .osl b n, v => D b = true ∧ v = .slice (some ⟨ρ b, 0, none⟩) n n
  | .ws xs, v => ∃ (A : Option Addr) (n c : Nat), v = .slice A n c ∧ Arg w A n c xs ∧ n ≤ 100000
  | .dg N, v => ∃ (A : Option Addr) (n c : Nat), v = .slice A n c ∧ Dg w A n c N
  | .clo f cs, v => (∀ b ∈ cs, D b = true) ∧ v = .func (.func f) #[] (cs.map fun b => Value.pointer (some ⟨ρ b, 0, none⟩)).toArray
def RL (ρ : Nat → Nat) (D : Nat → Bool) (w : World) : List Lf → List Value → Prop
  | [], vs => vs = []
  | l :: ls, vs => ∃ u us, vs = u :: us ∧ l.R ρ D w u ∧ RL ρ D w ls us
def VR (ρ : Nat → Nat) (D : Nat → Bool) (w : World) (g : Bool) (ls : List Lf) (u : Value) : Prop :=
  match g with
  | true => ∃ us : List Value, u = .agg us.toArray ∧ RL ρ D w ls us
  | false => RL ρ D w ls [u]
def RT (ρ : Nat → Nat) (D : Nat → Bool) (w : World) : List (Bool × List Lf) → List Value → Prop
  | [], vs => vs = []
  | p :: ps, vs => ∃ u us, vs = u :: us ∧ VR ρ D w p.1 p.2 u ∧ RT ρ D w ps us
def AV.R (ρ : Nat → Nat) (D : Nat → Bool) (w : World) : AV → Value → Prop
  | .v g ls, u => VR ρ D w g ls u
  | .tup ps, u => ∃ us : List Value, u = .tuple us.toArray ∧ RT ρ D w ps us
structure Ext (ρ ρ' : Nat → Nat) (D D' : Nat → Bool) : Prop where
  dom : ∀ b, D b = true → D' b = true
  same : ∀ b, D b = true → ρ' b = ρ b
theorem Ext.refl (ρ : Nat → Nat) (D : Nat → Bool) : Ext ρ ρ D D := ⟨fun _ h => h, fun _ _ => rfl⟩
def Keeps (w w' : World) : Prop := (∀ A n c xs, Arg w A n c xs → Arg w' A n c xs) ∧ (∀ A n c N, Dg w A n c N → Dg w' A n c N)
theorem Keeps.below {w w' : World} (h : Below w.heap.size w w') : Keeps w w' := ⟨fun _ _ _ _ hA => hA.step h, fun _ _ _ _ hD => hD.step h⟩
theorem Keeps.refl (w : World) : Keeps w w := ⟨fun _ _ _ _ h => h, fun _ _ _ _ h => h⟩
section
variable {ρ ρ' : Nat → Nat} {D D' : Nat → Bool} {w w' : World}
theorem Lf.R.mono {l : Lf} {u : Value} (h : l.R ρ D w u) (he : Ext ρ ρ' D D') (hk : Keeps w w') : l.R ρ' D' w' u := by
  cases l with
  | lit v => exact h
  | own b o => exact ⟨he.dom b h.1, by rw [he.same b h.1]; exact h.2⟩
  | osl b n => exact ⟨he.dom b h.1, by rw [he.same b h.1]; exact h.2⟩
  | ws xs => obtain ⟨A, n, c, e, hA, hn⟩ := h; exact ⟨A, n, c, e, hk.1 _ _ _ _ hA, hn⟩
  | dg N => obtain ⟨A, n, c, e, hA⟩ := h; exact ⟨A, n, c, e, hk.2 _ _ _ _ hA⟩
  | clo f cs =>
    refine ⟨fun b hb => he.dom b (h.1 b hb), ?_⟩
    rw [h.2]
    congr 2
    exact List.map_congr_left fun b hb => by rw [he.same b (h.1 b hb)]
theorem RL.mono {ls : List Lf} {us : List Value} (h : RL ρ D w ls us) (he : Ext ρ ρ' D D') (hk : Keeps w w') : RL ρ' D' w' ls us := by
  induction ls generalizing us with
  | nil => exact h
  | cons l ls ih => obtain ⟨u, r, e, h1, h2⟩ := h; exact ⟨u, r, e, h1.mono he hk, ih h2⟩
theorem VR.mono {g : Bool} {ls : List Lf} {u : Value} (h : VR ρ D w g ls u) (he : Ext ρ ρ' D D') (hk : Keeps w w') : VR ρ' D' w' g ls u := by
  cases g with
  | true => obtain ⟨us, e, h1⟩ := h; exact ⟨us, e, h1.mono he hk⟩
  | false => exact RL.mono h he hk
theorem RT.mono {ps : List (Bool × List Lf)} {us : List Value} (h : RT ρ D w ps us) (he : Ext ρ ρ' D D') (hk : Keeps w w') : RT ρ' D' w' ps us := by
  induction ps generalizing us with
  | nil => exact h
  | cons p ps ih => obtain ⟨u, r, e, h1, h2⟩ := h; exact ⟨u, r, e, h1.mono he hk, ih h2⟩
theorem AV.R.mono {a : AV} {u : Value} (h : a.R ρ D w u) (he : Ext ρ ρ' D D') (hk : Keeps w w') : a.R ρ' D' w' u := by
  cases a with
  | v g ls => exact VR.mono h he hk
  | tup ps => obtain ⟨us, e, h1⟩ := h; exact ⟨us, e, h1.mono he hk⟩
theorem RL.len {ls : List Lf} {us : List Value} (h : RL ρ D w ls us) : us.length = ls.length := by
  induction ls generalizing us with
  | nil => rw [h]; rfl
  | cons l ls ih => obtain ⟨u, r, e, h1, h2⟩ := h; rw [e, List.length_cons, List.length_cons, ih h2]
theorem RL.append {ls ms : List Lf} {us vs : List Value} (h : RL ρ D w ls us) (k : RL ρ D w ms vs) : RL ρ D w (ls ++ ms) (us ++ vs) := by
  induction ls generalizing us with
  | nil => rw [show us = [] from h]; exact k
  | cons l ls ih => obtain ⟨u, r, e, h1, h2⟩ := h; rw [e]; exact ⟨u, r ++ vs, rfl, h1, ih h2⟩
theorem RL.take {ls : List Lf} {us : List Value} (h : RL ρ D w ls us) (n : Nat) : RL ρ D w (ls.take n) (us.take n) := by
  induction n generalizing ls us with
  | zero => simp [RL]
  | succ n ih =>
    cases ls with
    | nil => rw [show us = [] from h]; simp [RL]
    | cons l ls => obtain ⟨u, r, e, h1, h2⟩ := h; rw [e]; exact ⟨u, r.take n, rfl, h1, ih h2⟩
theorem RL.drop {ls : List Lf} {us : List Value} (h : RL ρ D w ls us) (n : Nat) : RL ρ D w (ls.drop n) (us.drop n) := by
  induction n generalizing ls us with
  | zero => simpa using h
  | succ n ih =>
    cases ls with
    | nil => rw [show us = [] from h]; simp [RL]
    | cons l ls => obtain ⟨u, r, e, h1, h2⟩ := h; rw [e]; exact ih h2
theorem RL.get {ls : List Lf} {us : List Value} (h : RL ρ D w ls us) {n : Nat} {l : Lf} (hl : ls[n]? = some l) : ∃ u, us[n]? = some u ∧ l.R ρ D w u := by
  induction n generalizing ls us with
  | zero =>
    cases ls with
    | nil => simp at hl
    | cons k ls => obtain ⟨u, r, e, h1, h2⟩ := h; simp at hl; subst hl; exact ⟨u, by rw [e]; rfl, h1⟩
  | succ n ih =>
    cases ls with
    | nil => simp at hl
    | cons k ls =>
      obtain ⟨u, r, e, h1, h2⟩ := h
      obtain ⟨x, hx, hr⟩ := ih h2 (by simpa using hl)
      exact ⟨x, by rw [e]; simpa using hx, hr⟩
theorem RL.one {l : Lf} {u : Value} : RL ρ D w [l] [u] ↔ l.R ρ D w u := by
  constructor
  · rintro ⟨x, r, e, h1, h2⟩; injection e with e1 e2; subst e1; exact h1
  · intro h; exact ⟨u, [], rfl, h, rfl⟩
end
def okLf : Lf → Bool
  | .lit (.int .u64 _) => false
  | .lit (.int .u32 _) => false
  | .lit (.agg _) => false
  | .lit (.tuple _) => false
  | _ => true
theorem okLf_one {ρ : Nat → Nat} {D : Nat → Bool} {w : World} {l : Lf} {u : Value} (h : okLf l = true) (hr : l.R ρ D w u) : u.oneCell' = true ∧ (∀ z, u ≠ .int .u64 z) ∧ (∀ z, u ≠ .int .u32 z) := by
  cases l with
  | lit v =>
    have hr : u = v := hr
    subst hr
    refine ⟨?_, ?_, ?_⟩
    · cases u <;> first | rfl | simp [okLf] at h
    · rintro z rfl; simp [okLf] at h
    · rintro z rfl; simp [okLf] at h
  | own b o => obtain ⟨_, rfl⟩ := hr; exact ⟨rfl, (fun z h => by cases h), (fun z h => by cases h)⟩
  | osl b n => obtain ⟨_, rfl⟩ := hr; exact ⟨rfl, (fun z h => by cases h), (fun z h => by cases h)⟩
  | ws xs => obtain ⟨A, n, c, rfl, _⟩ := hr; exact ⟨rfl, (fun z h => by cases h), (fun z h => by cases h)⟩
  | dg N => obtain ⟨A, n, c, rfl, _⟩ := hr; exact ⟨rfl, (fun z h => by cases h), (fun z h => by cases h)⟩
  | clo f cs => obtain ⟨_, rfl⟩ := hr; exact ⟨rfl, (fun z h => by cases h), (fun z h => by cases h)⟩
theorem RL.okAll {ρ : Nat → Nat} {D : Nat → Bool} {w : World} {ls : List Lf} {us : List Value} (h : RL ρ D w ls us) (ho : ls.all okLf = true) : ∀ u ∈ us, u.oneCell' = true ∧ (∀ z, u ≠ .int .u64 z) ∧ (∀ z, u ≠ .int .u32 z) := by
  induction ls generalizing us with
  | nil => rw [show us = [] from h]; intro u hu; cases hu
  | cons l ls ih =>
    obtain ⟨x, r, e, h1, h2⟩ := h
    rw [List.all_cons, Bool.and_eq_true] at ho
    rw [e]
    intro u hu
    rcases List.mem_cons.1 hu with rfl | hu
    · exact okLf_one ho.1 h1
    · exact ih h2 ho.2 u hu
theorem rd_other {k : IntKind} (hk : k = .u64 ∨ k = .u32) {w : World} {g : Nat} {T : TypeId} {cs cs' : Array Value} (hb : Blk w g T cs) (ho : ∀ u ∈ cs.toList, (∀ z, u ≠ .int .u64 z) ∧ (∀ z, u ≠ .int .u32 z))
    {lo hi n c : Nat} {A : Option Addr} {xs : List Nat} (h : Rd k w lo hi A n c xs) : Rd k (w.setRow g cs') lo hi A n c xs := by
  refine ⟨h.1, h.2.1, fun hn => ?_⟩
  obtain ⟨ad, e, hl, hh, hc⟩ := h.2.2 hn
  refine ⟨ad, e, hl, hh, fun j u hu => ?_⟩
  rw [← hc j u hu]
  refine cell_setRow_other w g cs' _ ?_
  intro hblk
  have h1 := hc j u hu
  unfold World.cell? at h1
  rw [hblk, show w.heap[g]? = some (.cells cs T (0, 0)) from hb] at h1
  simp only at h1
  split at h1
  · cases h1
  · have h2 : (Value.int k (u : Int)) ∈ cs.toList := by
      rw [← Array.getElem?_toList] at h1
      exact List.mem_of_getElem? h1
    have h3 := ho _ h2
    rcases hk with rfl | rfl
    · exact h3.1 _ rfl
    · exact h3.2 _ rfl
theorem Keeps.setRow {w : World} {g : Nat} {T : TypeId} {cs cs' : Array Value} (hb : Blk w g T cs) (ho : ∀ u ∈ cs.toList, (∀ z, u ≠ .int .u64 z) ∧ (∀ z, u ≠ .int .u32 z)) : Keeps w (w.setRow g cs') := by
  refine ⟨fun A n c xs h => ⟨?_, h.2⟩, fun A n c N h => ?_⟩
  · have := rd_other (.inl rfl) hb ho (cs' := cs') h.1
    rwa [show w.heap.size = (w.setRow g cs').heap.size by simp] at this
  · have h' : Rd .u32 w 0 w.heap.size A n c (digs B32 N) := h
    have := rd_other (.inr rfl) hb ho (cs' := cs') h'
    rwa [show w.heap.size = (w.setRow g cs').heap.size by simp] at this
abbrev St := List (Nat × AV)
def look : St → Nat → Option AV
  | [], _ => none
  | (k, a) :: st, t => if t = k then some a else look st t
def dom (st : St) (b : Nat) : Bool := (look st (2 * b + 1)).isSome
theorem look_same {st : St} {k : Nat} {a : AV} : look ((k, a) :: st) k = some a := by simp [look]
theorem look_other {st : St} {k t : Nat} {a : AV} (h : t ≠ k) : look ((k, a) :: st) t = look st t := by simp [look, h]
structure Bel (F : Nat → Prop) (w w' : World) : Prop where
  os : w'.os = w.os
  tape : w'.tape = w.tape
  output : w'.output = w.output
  size : w.heap.size ≤ w'.heap.size
  block : ∀ k, k < w.heap.size → ¬ F k → w'.heap[k]? = w.heap[k]?
theorem Bel.refl (F : Nat → Prop) (w : World) : Bel F w w := ⟨rfl, rfl, rfl, Nat.le_refl _, fun _ _ _ => rfl⟩
theorem Bel.below {F : Nat → Prop} {w0 w w' : World} (h : Bel F w0 w) (hb : Below w.heap.size w w') : Bel F w0 w' :=
  ⟨hb.os.trans h.os, hb.tape.trans h.tape, hb.output.trans h.output, Nat.le_trans h.size hb.size, fun k hk hF => (hb.block k (Nat.lt_of_lt_of_le hk h.size)).trans (h.block k hk hF)⟩
theorem Bel.setRow {F : Nat → Prop} {w0 w : World} (h : Bel F w0 w) {g : Nat} (hg : w0.heap.size ≤ g ∨ F g) (cs : Array Value) : Bel F w0 (w.setRow g cs) :=
  ⟨h.os, h.tape, h.output, by simpa using h.size, fun k hk hF => by
    rw [setRow_other w g k cs (fun e => by subst e; rcases hg with hg | hg; omega; exact hF hg)]
    exact h.block k hk hF⟩
theorem Bel.to {w w' : World} (h : Bel (fun _ => False) w w') : Below w.heap.size w w' := ⟨h.os, h.tape, h.output, h.size, fun k hk => h.block k hk (fun h => h)⟩
theorem Bel.of {w w' : World} (h : Below w.heap.size w w') : Bel (fun _ => False) w w' := ⟨h.os, h.tape, h.output, h.size, fun k hk _ => h.block k hk⟩
def Tb (F : Nat → Prop) (w0 : World) : Prop := Tab w0 ∧ ¬ F 0
theorem Tb.tab {F : Nat → Prop} {w0 w : World} (h : Tb F w0) (hb : Bel F w0 w) : Tab w := fun i hi => by
  have h1 := h.1 i hi
  rw [← h1]
  refine World.cell?_of_block (w := w0) ?_
  exact hb.block _ (World.block_lt_of_cell? w0 _ h1) h.2
structure Cz (F : Nat → Prop) (w0 : World) (N : Nat) (ρ : Nat → Nat) (st : St) (a : Act) (w : World) : Prop where
  tb : Tb F w0
  bel : Bel F w0 w
  sz : a.tmps.size = N
  df : a.defers = []
  sl : ∀ t v, look st (2 * t) = some v → ∃ u, a.tmps[t]? = some u ∧ v.R ρ (dom st) w u
  mm : ∀ b v, look st (2 * b + 1) = some v → ∃ g ls T cs, v = .v g ls ∧ Blk w (ρ b) T cs ∧ RL ρ (dom st) w ls cs.toList ∧ ls.all okLf = true ∧ (g = true → (b < N ∧ w0.heap.size ≤ ρ b) ∨ F (ρ b))
  inj : ∀ b b', dom st b = true → dom st b' = true → ρ b = ρ b' → b = b'
section
variable {F : Nat → Prop} {w0 w w' : World} {N : Nat} {ρ : Nat → Nat} {st : St} {a : Act}
theorem Cz.congr {st' : St} (h : Cz F w0 N ρ st a w) (e : ∀ k, look st' k = look st k) : Cz F w0 N ρ st' a w := by
  have hd : dom st' = dom st := funext fun b => by unfold dom; rw [e]
  refine ⟨h.tb, h.bel, h.sz, h.df, fun t v hv => ?_, fun b v hv => ?_, fun b b' h1 h2 => ?_⟩
  · rw [hd]; exact h.sl t v (by rw [← e]; exact hv)
  · rw [hd]; exact h.mm b v (by rw [← e]; exact hv)
  · rw [hd] at h1 h2; exact h.inj b b' h1 h2
theorem dom_even (st : St) (t : Nat) (v : AV) : dom ((2 * t, v) :: st) = dom st := funext fun b => by unfold dom; rw [look_other (by omega)]
theorem Cz.val {d : Nat} {v : AV} {u : Value} (h : Cz F w0 N ρ st a w) (hb : Below w.heap.size w w') (hd : d < N) (hv : v.R ρ (dom st) w' u) : Cz F w0 N ρ ((2 * d, v) :: st) (a.put (some d) u) w' := by
  have hk := Keeps.below hb
  refine ⟨h.tb, h.bel.below hb, ?_, h.df, fun t x hx => ?_, fun b x hx => ?_, fun b b' h1 h2 => ?_⟩
  · rw [kn_size_put]; exact h.sz
  · rw [dom_even]
    by_cases e : t = d
    · subst e
      rw [look_same] at hx; injection hx with hx; subst hx
      exact ⟨u, kn_get_same (by rw [h.sz]; exact hd), hv⟩
    · rw [look_other (by omega)] at hx
      obtain ⟨y, hy, hr⟩ := h.sl t x hx
      exact ⟨y, by rw [kn_get_other (fun h => e h.symm)]; exact hy, hr.mono (Ext.refl _ _) hk⟩
  · rw [dom_even]
    rw [look_other (by omega)] at hx
    obtain ⟨g, ls, T, cs, e, hB, hr, ho, hg⟩ := h.mm b x hx
    exact ⟨g, ls, T, cs, e, hB.below hb hB.lt, hr.mono (Ext.refl _ _) hk, ho, hg⟩
  · rw [dom_even] at h1 h2; exact h.inj b b' h1 h2
theorem Cz.new {d : Nat} {ls : List Lf} {cs : List Value} {T : TypeId} {l : Lf} {u : Value} (hu : ∀ (ρ' : Nat → Nat) (D' : Nat → Bool) (w' : World), D' d = true → ρ' d = w.heap.size → l.R ρ' D' w' u) (h : Cz F w0 N ρ st a w) (hd : d < N) (hn : look st (2 * d + 1) = none) (hr : RL ρ (dom st) w ls cs) (ho : ls.all okLf = true) :
    Cz F w0 N (fun b => if b = d then w.heap.size else ρ b) ((2 * d, .s l) :: (2 * d + 1, .v true ls) :: st) (a.put (some d) u) (w.alloc (.cells cs.toArray T)) := by
  have hb := one_below w (.cells cs.toArray T)
  have hk := Keeps.below hb
  have hdm : ∀ b, dom ((2 * d, .s l) :: (2 * d + 1, .v true ls) :: st) b = if b = d then true else dom st b := fun b => by
    rw [dom_even]; unfold dom
    by_cases e : b = d
    · subst e; rw [look_same, if_pos rfl]; rfl
    · rw [look_other (by omega), if_neg e]
  have hnd : dom st d = false := by unfold dom; rw [hn]; rfl
  have he : Ext ρ (fun b => if b = d then w.heap.size else ρ b) (dom st) (dom ((2 * d, .s l) :: (2 * d + 1, .v true ls) :: st)) := by
    refine ⟨fun b hb => ?_, fun b hb => ?_⟩
    · rw [hdm]; split
      · rfl
      · exact hb
    · have : b ≠ d := fun e => by subst e; rw [hnd] at hb; cases hb
      simp [this]
  refine ⟨h.tb, h.bel.below hb, ?_, h.df, fun t x hx => ?_, fun b x hx => ?_, fun b b' h1 h2 e => ?_⟩
  · rw [kn_size_put]; exact h.sz
  · by_cases e : t = d
    · subst e
      rw [look_same] at hx; injection hx with hx; subst hx
      refine ⟨_, kn_get_same (by rw [h.sz]; exact hd), ?_⟩
      exact RL.one.2 (hu _ _ _ (by rw [hdm, if_pos rfl]) (by simp))
    · rw [look_other (by omega), look_other (by omega)] at hx
      obtain ⟨y, hy, hr⟩ := h.sl t x hx
      exact ⟨y, by rw [kn_get_other (fun h => e h.symm)]; exact hy, hr.mono he hk⟩
  · rw [look_other (by omega)] at hx
    by_cases e : b = d
    · subst e
      rw [look_same] at hx; injection hx with hx; subst hx
      refine ⟨true, ls, T, cs.toArray, rfl, ?_, by simpa using hr.mono he hk, ho, fun _ => .inl ⟨hd, ?_⟩⟩
      · simp only [if_pos]; exact Blk.new w T _
      · simp only [if_pos]; exact h.bel.size
    · rw [look_other (by omega)] at hx
      obtain ⟨g', ls', T', cs', e', hB, hr', ho', hg⟩ := h.mm b x hx
      refine ⟨g', ls', T', cs', e', ?_, hr'.mono he hk, ho', ?_⟩
      · simp only [if_neg e]; exact hB.below hb hB.lt
      · simp only [if_neg e]; exact hg
  · rw [hdm] at h1 h2
    have hlt : ∀ x, dom st x = true → ρ x < w.heap.size := fun x hx => by
      unfold dom at hx
      obtain ⟨v, hv⟩ := Option.isSome_iff_exists.1 hx
      obtain ⟨_, _, _, _, _, hB, _⟩ := h.mm x v hv
      exact hB.lt
    by_cases e1 : b = d <;> by_cases e2 : b' = d
    · rw [e1, e2]
    · rw [if_neg e2] at h2
      simp only [e1, if_pos, if_neg e2] at e
      have := hlt b' h2; omega
    · rw [if_neg e1] at h1
      simp only [e2, if_pos, if_neg e1] at e
      have := hlt b h1; omega
    · rw [if_neg e1] at h1; rw [if_neg e2] at h2
      simp only [if_neg e1, if_neg e2] at e
      exact h.inj b b' h1 h2 e
theorem Cz.put {b : Nat} {ls ls' : List Lf} {cs : List Value} (h : Cz F w0 N ρ st a w) (hl : look st (2 * b + 1) = some (.v true ls)) (hr : RL ρ (dom st) w ls' cs) (ho : ls'.all okLf = true) :
    Cz F w0 N ρ ((2 * b + 1, .v true ls') :: st) a (w.setRow (ρ b) cs.toArray) := by
  obtain ⟨g0, ls0, T, cs0, e0, hB, hr0, ho0, hg⟩ := h.mm b _ hl
  injection e0 with e1 e0; subst e0
  replace hg := hg e1.symm
  have hk : Keeps w (w.setRow (ρ b) cs.toArray) := Keeps.setRow hB fun u hu => (hr0.okAll ho0 u hu).2
  have hdb : dom st b = true := by unfold dom; rw [hl]; rfl
  have hdm : dom ((2 * b + 1, .v true ls') :: st) = dom st := funext fun x => by
    unfold dom
    by_cases e : x = b
    · subst e; rw [look_same, hl]; rfl
    · rw [look_other (by omega)]
  refine ⟨h.tb, h.bel.setRow (hg.imp (fun x => x.2) id) _, h.sz, h.df, fun t x hx => ?_, fun x v hx => ?_, fun x x' h1 h2 => ?_⟩
  · rw [look_other (by omega)] at hx
    obtain ⟨y, hy, hr'⟩ := h.sl t x hx
    rw [hdm]; exact ⟨y, hy, hr'.mono (Ext.refl _ _) hk⟩
  · rw [hdm]
    by_cases e : x = b
    · subst e
      rw [look_same] at hx; injection hx with hx; subst hx
      exact ⟨true, ls', T, cs.toArray, rfl, setRow_heap w _ cs0 _ T _ hB, by simpa using hr.mono (Ext.refl _ _) hk, ho, fun _ => hg⟩
    · rw [look_other (by omega)] at hx
      obtain ⟨g2, l2, T2, c2, e2, hB2, hr2, ho2, hg2⟩ := h.mm x v hx
      have hdx : dom st x = true := by unfold dom; rw [hx]; rfl
      exact ⟨g2, l2, T2, c2, e2, (setRow_other w _ _ _ (fun e' => e (h.inj _ _ hdx hdb e'))).trans hB2, hr2.mono (Ext.refl _ _) hk, ho2, hg2⟩
  · rw [hdm] at h1 h2; exact h.inj x x' h1 h2
end
end Go.Proofs.YtfggnoejcgehdaaGreatDoor
namespace Go.Proofs.YtfggnoejcgehdaaGreatDoor
open Go.RowKit Nx
set_option linter.unusedVariables false
set_option linter.unusedSimpArgs false
structure TI where
  agg : Bool
  size : Nat
  zero : List Lf
  zv : List Value
  flds : List (Nat × Nat × Bool)
  el : Option (TypeId × Bool)
def zof (i : TI) : Value := match i.agg, i.zv with
  | true, l => .agg l.toArray
  | false, u :: _ => u
  | false, [] => undef
structure TiOK (P : Program) (t : TypeId) (i : TI) : Prop where
  size : (P.info? t).map (·.size) = some i.size
  zero : (P.info? t).bind (·.zero) = some (zof i)
  row : (P.underlying t).map (·.isRow) = some i.agg
  fld : ∀ (k : Nat) (p : Nat × Nat × Bool), i.flds[k]? = some p → ∃ (fs : Array Field) (f : Field), P.underlying t = some (.struct fs) ∧ fs[k]? = some f ∧ f.offset = p.1 ∧ (P.info? f.type).map (·.size) = some p.2.1 ∧ p.2.1 ≠ 0 ∧ (P.underlying f.type).map (·.isRow) = some p.2.2
  pl : i.agg = true → ∃ fs : Array Field, P.underlying t = some (.struct fs) ∧ fs.toList.mapM (fun f => (P.info? f.type).map fun i => (f.offset, i.size)) = some (i.flds.map fun p => (p.1, p.2.1))
  rz : ∀ ρ D w, RL ρ D w i.zero i.zv
  ok : i.zero.all okLf = true ∨ (i.agg = false ∧ ∃ z, i.zv = [.int .u64 z])
  len : i.zv.length = i.size
  one : i.agg = false → i.size = 1
  ik : ∀ k z, i.agg = false → i.zv = [.int k z] → P.underlying t = some (.int k)
  sl : ∀ e b, i.el = some (e, b) → P.underlying t = some (.slice e) ∧ (b = true → ∃ ie z, P.info? e = some ie ∧ ie.size = 1 ∧ ie.zero = some z ∧ ie.bytes ≤ 8)
  bl : ∀ b, i.agg = false → i.zv = [.bool b] → P.underlying t = some .bool
def evs (st : St) : Operand → Option AV
  | .tmp t => look st (2 * t)
  | .const v => some (.s (.lit v))
  | .func f => some (.s (.clo f []))
  | .global g => some (.s (.lit (.pointer (some ⟨g, 0, none⟩))))
def okeys : Operand → List Nat
  | .tmp t => [2 * t]
  | _ => []
section
variable {F : Nat → Prop} {w0 w : World} {N : Nat} {ρ : Nat → Nat} {st : St} {a : Act}
theorem Cz.ev (h : Cz F w0 N ρ st a w) {x : Operand} {v : AV} (hx : evs st x = some v) : v.R ρ (dom st) w (a.eval x) := by
  cases x with
  | tmp t =>
    obtain ⟨u, hu, hr⟩ := h.sl t v hx
    rw [ev_of hu]; exact hr
  | const c => injection hx with hx; subst hx; exact RL.one.2 rfl
  | func f => injection hx with hx; subst hx; exact RL.one.2 ⟨(fun b hb => by cases hb), rfl⟩
  | global g => injection hx with hx; subst hx; exact RL.one.2 rfl
end
section
variable {P : Program} {w : World} {t : TypeId} {i : TI}
theorem run_sizeOf (h : TiOK P t i) : (sizeOf t).run P w = .ok i.size w := by
  have := h.size
  cases hq : P.info? t with
  | none => rw [hq] at this; cases this
  | some x => rw [hq] at this; injection this with this; simp [sizeOf, typeInfo, hq, ← this]
theorem run_zero (h : TiOK P t i) : (zeroValue t).run P w = .ok (zof i) w := by
  have := h.zero
  cases hq : P.info? t with
  | none => rw [hq] at this; cases this
  | some x => rw [hq] at this; have this : x.zero = some (zof i) := this; simp [zeroValue, typeInfo, hq, this]
theorem run_isAgg (h : TiOK P t i) : (isAgg t).run P w = .ok i.agg w := by
  have := h.row
  cases hq : P.underlying t with
  | none => rw [hq] at this; cases this
  | some x =>
    rw [hq] at this; injection this with this
    unfold isAgg
    rw [Sem.run_bind, run_underlying hq w]
    rw [← this]
    cases x <;> simp [TypeDesc.isRow]
theorem zof_cells (h : TiOK P t i) : (zof i).cells = i.zv.toArray := by
  unfold zof
  cases ha : i.agg with
  | true => rfl
  | false =>
    have h1 := h.one ha; have h2 := h.len
    have hr := h.rz (fun _ => 0) (fun _ => true) default
    have ho := h.ok
    match hz : i.zv with
    | [] => rw [hz] at h2; simp at h2; omega
    | [u] =>
      rw [hz] at hr
      rcases ho with ho | ⟨_, z, hz'⟩
      · have := (hr.okAll ho u (by simp)).1
        simp only
        cases u <;> first | rfl | simp [Value.oneCell'] at this
      · rw [hz] at hz'; injection hz' with hz'; subst hz'; rfl
    | u :: x :: r => rw [hz] at h2; simp at h2; omega
theorem run_alloc (h : TiOK P t i) : (Instr.alloc t true (.tuple #[])).run P w = .ok (.pointer (some ⟨w.heap.size, 0, none⟩)) (w.alloc (.cells i.zv.toArray t)) := by
  unfold Instr.alloc
  rw [Sem.run_bind, run_zero h]
  simp only [Result.andThen_ok, newVar, zof_cells h, newRow]
  go_simp
theorem run_loadA (h : TiOK P t i) {g : Nat} {T : TypeId} {cs : Array Value} {o : Nat} (hb : Blk w g T cs) (hl : o + i.size ≤ cs.size) (hg : i.agg = true) :
    (Instr.loadAt t (.pointer (some ⟨g, o, none⟩))).run P w = .ok (.agg ((cs.toList.drop o).take i.size).toArray) w := by
  have hr := h.row
  rw [hg] at hr
  cases hq : P.underlying t with
  | none => rw [hq] at hr; cases hr
  | some x =>
    rw [hq] at hr; injection hr with hr
    refine run_loadAt_mid w g o t _ x (fun j v hv => ?_) hq hr ?_
    · rw [List.getElem?_take] at hv
      split at hv
      · rw [List.getElem?_drop] at hv
        rw [Blk.cell hb, ← Array.getElem?_toList]; exact hv
      · cases hv
    · rw [h.size, List.length_take, List.length_drop, Array.length_toList]; congr 1; omega
theorem run_loadS (h : TiOK P t i) {g : Nat} {T : TypeId} {cs : Array Value} {o : Nat} {u : Value} (hb : Blk w g T cs) (hu : cs.toList[o]? = some u) (hg : i.agg = false) :
    (Instr.loadAt t (.pointer (some ⟨g, o, none⟩))).run P w = .ok u w := by
  have h1 := run_isAgg (w := w) h
  rw [hg] at h1
  have hc : w.cell? ⟨g, o, none⟩ = some u := by rw [Blk.cell hb, ← Array.getElem?_toList]; exact hu
  simp only [Instr.loadAt, Instr.sureAddr, Sem.run_bind, Sem.run_pure, Result.andThen_ok, loadVar, h1]
  go_simp
theorem run_storeA (h : TiOK P t i) {g : Nat} {T : TypeId} {cs : Array Value} {o : Nat} {v : Value} {us : List Value} (hb : Blk w g T cs) (hv : v.cells = us.toArray) (hs : us.length = i.size) (hl : o + us.length ≤ cs.size) (h1 : ∀ u ∈ us, u.oneCell' = true) :
    (Instr.storeAt t (.pointer (some ⟨g, o, none⟩)) v).run P w = .ok () (w.setRow g (cs.toList.take o ++ us ++ cs.toList.drop (o + us.length)).toArray) := by
  have hst := run_storeCells_at (P := P) g o T us 0 cs w hb (by omega) h1
  simp only [Nat.add_zero] at hst
  have hz := run_sizeOf (w := w) h
  simp only [Instr.storeAt, Instr.sureAddr, Sem.run_bind, Sem.run_pure, Result.andThen_ok, storeVar, hz, hv]
  rw [if_neg (by simp [hs])]
  exact hst
theorem run_field (h : TiOK P t i) {k : Nat} {p : Nat × Nat × Bool} (hp : i.flds[k]? = some p) (g o : Nat) : (Instr.fieldAt t (.pointer (some ⟨g, o, none⟩)) k).run P w = .ok (.pointer (some ⟨g, o + p.1, none⟩)) w := by
  obtain ⟨fs, f, hu, hf, ho, hs, h0, _⟩ := h.fld k p hp
  have h1 : (sizeOf f.type).run P w = .ok p.2.1 w := by
    cases hq : P.info? f.type with
    | none => rw [hq] at hs; cases hs
    | some x => rw [hq] at hs; injection hs with hs; simp [sizeOf, typeInfo, hq, ← hs]
  unfold Instr.fieldAt
  rw [Sem.run_bind, run_underlying hu w]
  simp only [Result.andThen_ok, hf, Instr.sureAddr, Sem.run_bind, Sem.run_pure, fieldPlace, h1]
  rw [if_neg h0]
  simp only [Sem.run_pure, Result.andThen_ok, addr_add, ho]
theorem run_part (h : TiOK P t i) {k : Nat} {p : Nat × Nat × Bool} (hp : i.flds[k]? = some p) {us : List Value} {v : Value} (hv : if p.2.2 then v = .agg ((us.drop p.1).take p.2.1).toArray else us[p.1]? = some v) :
    (Instr.field t (.agg us.toArray) k).run P w = .ok v w := by
  obtain ⟨fs, f, hu, hf, ho, hs, h0, hr⟩ := h.fld k p hp
  have h1 : (sizeOf f.type).run P w = .ok p.2.1 w := by
    cases hq : P.info? f.type with
    | none => rw [hq] at hs; cases hs
    | some x => rw [hq] at hs; injection hs with hs; simp [sizeOf, typeInfo, hq, ← hs]
  have h2 : (isAgg f.type).run P w = .ok p.2.2 w := by
    cases hq : P.underlying f.type with
    | none => rw [hq] at hr; cases hr
    | some x =>
      rw [hq] at hr; injection hr with hr
      unfold isAgg
      rw [Sem.run_bind, run_underlying hq w, ← hr]
      cases x <;> simp [TypeDesc.isRow]
  unfold Instr.field
  rw [Sem.run_bind, run_underlying hu w]
  simp only [Result.andThen_ok, hf, Sem.run_bind, asAgg, Sem.run_pure, part, h2, ho]
  cases hg : p.2.2 with
  | true =>
    rw [hg] at hv
    simp only [if_true] at hv
    simp only [if_true, Sem.run_bind, h1, Result.andThen_ok, Sem.run_pure]
    rw [hv]
    congr 2
    rw [List.extract_toArray, List.extract_eq_take_drop]
    congr 2; omega
  | false =>
    rw [hg] at hv
    simp only [Bool.false_eq_true, if_false] at hv
    simp only [Bool.false_eq_true, if_false, List.getElem?_toArray, hv, Sem.run_pure]
end
end Go.Proofs.YtfggnoejcgehdaaGreatDoor
