/- Calls to which blocks are lent for reading. -/
import Derived.Test.YtobcbhppmgnioaaGreatDoorSAi2
namespace Go.Proofs.YtobcbhppmgnioaaGreatDoor
set_option linter.unusedSimpArgs false
set_option linter.unusedVariables false
open Go.RowKit Nx
section
def memOf : Nat → List (List Lf) → St
 | _, [] => []
 | k, l :: r => (2 * k + 1, .v false l) :: memOf (k + 1) r
theorem mem_look : ∀ (ls : List (List Lf)) (k q : Nat) (v : AV), look (memOf k ls) q = some v → ∃ (t : Nat) (l : List Lf), q = 2 * (k + t) + 1 ∧ ls[t]? = some l ∧ v = .v false l := by
 intro ls
 induction ls with
 | nil => intro k q v h; cases h
 | cons l ls ih =>
  intro k q v h
  unfold memOf at h
  by_cases e : q = 2 * k + 1
  ·subst e
   rw [look_same] at h; injection h with h; subst h
   exact ⟨0, l, rfl, rfl, rfl⟩
  ·rw [look_other e] at h
   obtain ⟨t, l', h1, h2, h3⟩ := ih (k + 1) q v h
   exact ⟨t + 1, l', by omega, by simpa using h2, h3⟩
theorem mem_look' : ∀ (ls : List (List Lf)) (k t : Nat), t < ls.length → dom (memOf k ls) (k + t) = true := by
 intro ls
 induction ls with
 | nil => intro k t h; simp at h
 | cons l ls ih =>
  intro k t h
  cases t with
  | zero => rw [Nat.add_zero]; unfold dom memOf; rw [look_same]
  | succ t =>
   have := ih (k + 1) t (by simpa using h)
   unfold dom at this ⊢
   unfold memOf
   rw [look_other (by omega)]
   rw [show k + (t + 1) = k + 1 + t by omega]; exact this
def Lent (S : Nat → Prop) (w : World) (gs : List Nat) (ls : List (List Lf)) : Prop := gs.length = ls.length ∧ gs.Nodup ∧ (∀ g ∈ gs, ¬ S g) ∧ ∀ (t g : Nat) (l : List Lf), gs[t]? = some g → ls[t]? = some l → l.all cbL = true ∧ l.all okLf = true ∧ ∃ T cs, Blk w g T cs ∧ ∀ ρ D, (∀ g, S g → Sep ρ D g) → RL ρ D w l cs.toList
theorem lent_of {P : Program} {ty : TypeId → Option TI} {O : Orac} (hm : P.follows .mixedOrders = true) (hty : ∀ t i, ty t = some i → TiOK P t i) {S : Nat → Prop} {w : World} (hO : OrOK P O Fx.no w) {f : FuncId} {fn : Func} {c : Code} {args : List AV} {ls : List (List Lf)} {gs : List Nat} (fg : List Nat) {Pst : AV → Prop} {us : List Value}
  (fuel N : Nat) (rs : List ResultVar) (hf : P.funcs[f]? = some fn) (hb : fn.body = some c) (hN : fn.ntmps = N) (hr : fn.results.toList = rs) (hl : args.length ≤ N) (ht : Tab w) (hL : Lent S w gs ls)
  (hA : ∀ ρ D, (∀ t g, gs[t]? = some g → ρ.r (1000 + t) = g) → (∀ t, t < ls.length → D (1000 + t) = true) → (∀ g, S g → Sep ρ D g) → RA ρ D w args us)
  (h : run ty O N (fun st => postf Pst (resA ty st rs)) fg fuel [.code c] (init 0 args ++ memOf 1000 ls)) :
  Calls P f us.toArray w fun e w' => ∃ u r, e = .returned u ∧ Pst r ∧ clA r = true ∧ (∀ ρ D, Old ρ D w → r.R ρ D w' u) ∧ Below w.heap.size w w' := by
 have hρ : ∀ t g, gs[t]? = some g → (fun k => gs.getD (k - 1000) 0) (1000 + t) = g := fun t g hg => by
  simp only [Nat.add_sub_cancel_left]
  rw [List.getD_eq_getElem?_getD, hg]; rfl
 have hget : ∀ b, dom (memOf 1000 ls) b = true → ∃ t, b = 1000 + t ∧ t < gs.length := fun b hb => by
  obtain ⟨g0, l0, hb⟩ := dom_some hb
  obtain ⟨t, l, h1, h2, _⟩ := mem_look ls 1000 _ _ hb
  refine ⟨t, by omega, ?_⟩
  rw [hL.1]
  rcases Nat.lt_or_ge t ls.length with h | h
  ·exact h
  ·rw [List.getElem?_eq_none h] at h2; cases h2
 have hsep : ∀ g, S g → Sep ⟨fun k => gs.getD (k - 1000) 0, w.heap.size, fun _ => undef, fun _ => 0, fun _ => false⟩ (dom (memOf 1000 ls)) g := fun g hg => ⟨fun b hb e => by
  obtain ⟨t, rfl, ht1⟩ := hget b hb
  have e1 := hρ t gs[t] (List.getElem?_eq_getElem ht1)
  have e : (fun k => gs.getD (k - 1000) 0) (1000 + t) = g := e
  rw [e1] at e
  subst e
  exact hL.2.2.1 _ (List.getElem_mem ht1) hg, fun b hb => (by cases hb)⟩
 refine call_of (mem := memOf 1000 ls) (ρ := ⟨fun k => gs.getD (k - 1000) 0, w.heap.size, fun _ => undef, fun _ => 0, fun _ => false⟩) hm hty hO fg fuel N rs hf hb hN hr hl ht (fun k v hv => ?_) (fun b v hv => ?_) (fun b b' h1 h2 e => ?_) (hA _ _ hρ (fun t h => mem_look' ls 1000 t h) hsep) rfl rfl h
 ·obtain ⟨t, l, h1, _⟩ := mem_look ls 1000 k v hv; exact ⟨1000 + t, h1⟩
 ·obtain ⟨t, l, h1, h2, h3⟩ := mem_look ls 1000 _ v hv
  have hb : b = 1000 + t := by omega
  subst hb
  have htl : t < gs.length := by
   rw [hL.1]
   rcases Nat.lt_or_ge t ls.length with h | h
   ·exact h
   ·rw [List.getElem?_eq_none h] at h2; cases h2
  obtain ⟨a1, a2, T, cs, hB, hR⟩ := hL.2.2.2 t gs[t] l (List.getElem?_eq_getElem htl) h2
  refine ⟨l, T, cs, h3, ?_, hR _ _ hsep, a2⟩
  have e1 := hρ t gs[t] (List.getElem?_eq_getElem htl)
  dsimp only at e1 ⊢
  rw [e1]; exact hB
 ·obtain ⟨t, rfl, ht1⟩ := hget b h1
  obtain ⟨t', rfl, ht2⟩ := hget b' h2
  have e1 := hρ t gs[t] (List.getElem?_eq_getElem ht1)
  have e2 := hρ t' gs[t'] (List.getElem?_eq_getElem ht2)
  dsimp only at e e1 e2
  rw [e1, e2] at e
  have := (List.getElem_inj hL.2.1).1 e
  omega
def contsOf (st : St) : List Nat → Option (List (List Lf))
 | [] => some []
 | b :: bs => (match look st (2 * b + 1), contsOf st bs with
  | some (.v _ ls), some r => some (ls :: r)
  | _, _ => none)
def ndB : List Nat → Bool
 | [] => true
 | x :: xs => !(inL xs x) && ndB xs
theorem inL_mem {k : Nat} : ∀ {ks : List Nat}, inL ks k = false → k ∉ ks := by
 intro ks
 induction ks with
 | nil => intro _ h; cases h
 | cons x xs ih =>
  intro h hm
  unfold inL at h
  cases hx : x == k with
  | true => rw [hx] at h; cases h
  | false =>
   rw [hx] at h
   rcases List.mem_cons.1 hm with rfl | hm
   ·simp at hx
   ·exact ih h hm
theorem ndB_nodup : ∀ {ks : List Nat}, ndB ks = true → ks.Nodup := by
 intro ks
 induction ks with
 | nil => intro _; exact List.nodup_nil
 | cons x xs ih =>
  intro h
  unfold ndB at h
  rw [Bool.and_eq_true] at h
  exact List.nodup_cons.2 ⟨inL_mem (by simpa using h.1), ih h.2⟩
theorem conts_lent {F : Fx} {w0 w : World} {N : Nat} {ρ : Env} {st : St} {a : Act} (h : Cz F w0 N ρ st a w) {bs : List Nat} {ls : List (List Lf)} (hc : contsOf st bs = some ls) (hn : ndB bs = true) (hcl : (ls.all fun l => l.all cbL) = true) : Lent (Sep ρ (dom st)) w (bs.map ρ.r) ls := by
 have hget : ∀ (bs : List Nat) (ls : List (List Lf)), contsOf st bs = some ls → ls.length = bs.length ∧ ∀ (t b : Nat) (l : List Lf), bs[t]? = some b → ls[t]? = some l → ∃ g, look st (2 * b + 1) = some (.v g l) := by
  intro bs
  induction bs with
  | nil => intro ls h; injection h with h; subst h; exact ⟨rfl, fun t b l h => by simp at h⟩
  | cons b bs ih =>
   intro ls h
   unfold contsOf at h
   split at h
   ·rename_i g l r h1 h2
    injection h with h; subst h
    obtain ⟨i1, i2⟩ := ih r h2
    refine ⟨by simp [i1], fun t x y hx hy => ?_⟩
    cases t with
    | zero => simp at hx hy; subst hx; subst hy; exact ⟨g, h1⟩
    | succ t => exact i2 t x y (by simpa using hx) (by simpa using hy)
   ·cases h
 obtain ⟨hl, hg⟩ := hget bs ls hc
 have hdom : ∀ b ∈ bs, dom st b = true := fun b hb => by
  obtain ⟨t, ht⟩ := List.mem_iff_getElem?.1 hb
  have htl : t < ls.length := by
   rcases Nat.lt_or_ge t bs.length with h | h
   ·omega
   ·rw [List.getElem?_eq_none h] at ht; cases ht
  obtain ⟨g, hx⟩ := hg t b ls[t] ht (List.getElem?_eq_getElem htl)
  unfold dom; rw [hx]
 refine ⟨by simp [hl], ?_, fun g hg h => ?_, fun t g l h1 h2 => ?_⟩
 ·have hnd := ndB_nodup hn
  clear hc hn hl hg hcl hget
  induction bs with
  | nil => exact List.nodup_nil
  | cons b bs ih =>
   rw [List.nodup_cons] at hnd
   rw [List.map_cons, List.nodup_cons]
   refine ⟨fun hm => ?_, ih (fun x hx => hdom x (by simp [hx])) hnd.2⟩
   obtain ⟨x, hx, he⟩ := List.mem_map.1 hm
   have := h.inj x b (hdom x (by simp [hx])) (hdom b (by simp)) he
   subst this
   exact hnd.1 hx
 ·obtain ⟨b, hb, rfl⟩ := List.mem_map.1 hg
  exact h.1 b (hdom b hb) rfl
 ·rw [List.getElem?_map] at h1
  cases hb : bs[t]? with
  | none => rw [hb] at h1; cases h1
  | some b =>
   rw [hb] at h1; injection h1 with h1; subst h1
   obtain ⟨g, hx⟩ := hg t b l hb h2
   obtain ⟨g', ls', T, cs, e, hB, hR, ho, _⟩ := h.mv hx
   injection e with _ e; subst e
   have hcl' := List.all_eq_true.1 hcl l (List.mem_of_getElem? h2)
   exact ⟨hcl', ho, T, cs, hB, fun ρ' D' hS => hR.closed hcl' hS⟩
theorem RA.split {ρ : Env} {D : Nat → Bool} {w : World} {xs : List AV} {us : List Value} (h : RA ρ D w xs us) (n : Nat) : RA ρ D w (xs.take n) (us.take n) ∧ RA ρ D w (xs.drop n) (us.drop n) := by
 induction n generalizing xs us with
 | zero => simp only [List.take_zero, List.drop_zero]; exact ⟨rfl, h⟩
 | succ n ih =>
  cases xs with
  | nil => rw [show us = [] from h]; exact ⟨rfl, rfl⟩
  | cons x xs =>
   obtain ⟨u, r, rfl, h1, h2⟩ := h
   obtain ⟨i1, i2⟩ := ih h2
   exact ⟨⟨u, _, rfl, h1, i1⟩, i2⟩
theorem conts_congr {st st' : St} {bs : List Nat} (h : ∀ k ∈ bs.map (fun b => 2 * b + 1), look st' k = look st k) : contsOf st' bs = contsOf st bs := by
 induction bs with
 | nil => rfl
 | cons b bs ih =>
  unfold contsOf
  rw [h (2 * b + 1) (by simp), ih (fun k hk => h k (by simp only [List.map_cons]; exact List.mem_cons_of_mem _ hk))]
def orO (A B : Orac) : Orac := fun f d st args => match A f d st args with
 | some e => some e
 | none => B f d st args
def Only (O : Orac) (g : FuncId) : Prop := ∀ f d st args, f ≠ g → O f d st args = none
theorem orO_ok {P : Program} {A B : Orac} {F : Fx} {w0 : World} (hA : OrOK P A F w0) (hB : OrOK P B F w0) (hd : ∀ f d st args e, B f d st args = some e → ∀ st' , A f d st' args = none) : OrOK P (orO A B) F w0 := by
 refine ⟨fun f d st args e he => ?_, fun f d st args e he => ?_, fun f d st st' args e he hk => ?_⟩
 ·unfold orO at he
  split at he
  ·rename_i q hq; injection he with he; subst he; exact hA.enters _ _ _ _ _ hq
  ·exact hB.enters _ _ _ _ _ he
 ·unfold orO at he
  split at he
  ·rename_i q hq; injection he with he; subst he; exact hA.sound _ _ _ _ _ hq
  ·exact hB.sound _ _ _ _ _ he
 ·unfold orO at he
  split at he
  ·rename_i q hq
   injection he with he; subst he
   unfold orO; rw [hA.cong _ _ _ st' _ _ hq hk]
  ·unfold orO; rw [hd _ _ _ _ _ he st', hB.cong _ _ _ st' _ _ he hk]
end
section
def cntF : Nat → Nat → List Nat
 | _, 0 => []
 | k, n + 1 => k :: cntF (k + 1) n
def nmL : List Lf → List Nat
 | [] => []
 | .own b _ :: r => b :: nmL r
 | .osl b _ :: r => b :: nmL r
 | .clo _ bs :: r => bs ++ nmL r
 | .lit _ :: r => nmL r
 | .ws _ :: r => nmL r
 | .dg _ :: r => nmL r
 | .sl _ _ _ _ :: r => nmL r
 | .im _ :: r => nmL r
 | .ol _ _ :: r => nmL r
 | .oe _ _ _ :: r => nmL r
 | .ov _ _ _ _ :: r => nmL r
def rnL : Nat → List Lf → List Lf
 | _, [] => []
 | k, .own _ o :: r => .own k o :: rnL (k + 1) r
 | k, .osl _ n :: r => .osl k n :: rnL (k + 1) r
 | k, .clo f bs :: r => .clo f (cntF k bs.length) :: rnL (k + bs.length) r
 | k, .lit v :: r => .lit v :: rnL k r
 | k, .ws v :: r => .ws v :: rnL k r
 | k, .dg v :: r => .dg v :: rnL k r
 | k, .sl _ a b c :: r => .sl false a b c :: rnL k r
 | k, .im v :: r => .im v :: rnL k r
 | k, .ol b v :: r => .ol b v :: rnL k r
 | k, .oe b v o :: r => .oe b v o :: rnL k r
 | k, .ov b v o n :: r => .ov b v o n :: rnL k r
def nmA : List AV → List Nat
 | [] => []
 | .v _ ls :: r => nmL ls ++ nmA r
 | .tup _ :: r => nmA r
 | .pre _ _ _ :: r => nmA r
def rnA : Nat → List AV → List AV
 | _, [] => []
 | k, .v g ls :: r => .v g (rnL k ls) :: rnA (k + (nmL ls).length) r
 | k, .tup vs :: r => .tup vs :: rnA k r
 | k, .pre a b c :: r => .pre a b c :: rnA k r
def noE : Lf → Bool
 | .ol _ _ => false
 | .oe _ _ _ => false
 | .ov _ _ _ _ => false
 | .lit _ => true
 | .own _ _ => true
 | .osl _ _ => true
 | .ws _ => true
 | .dg _ => true
 | .clo _ _ => true
 | .sl _ _ _ _ => true
 | .im _ => true
def isV : List AV → Bool
 | [] => true
 | .v _ ls :: r => ls.all noE && isV r
 | .tup _ :: _ => false
 | .pre _ _ _ :: _ => false
theorem cnt_map {ρ ρ' : Env} {D' : Nat → Bool} : ∀ (bs : List Nat) (k : Nat), (∀ t b, bs[t]? = some b → ρ'.r (k + t) = ρ.r b ∧ D' (k + t) = true) → ((cntF k bs.length).map fun b => Value.pointer (some ⟨ρ' b, 0, none⟩)) = (bs.map fun b => Value.pointer (some ⟨ρ b, 0, none⟩)) ∧ ∀ b ∈ cntF k bs.length, D' b = true := by
 intro bs
 induction bs with
 | nil => intro k _; exact ⟨rfl, fun b hb => by cases hb⟩
 | cons b bs ih =>
  intro k h
  obtain ⟨i1, i2⟩ := ih (k + 1) (fun t x hx => by have := h (t + 1) x (by simpa using hx); rwa [show k + (t + 1) = k + 1 + t by omega] at this)
  have h0 := h 0 b rfl
  rw [Nat.add_zero] at h0
  refine ⟨?_, fun x hx => ?_⟩
  ·show Value.pointer (some ⟨ρ' k, 0, none⟩) :: _ = Value.pointer (some ⟨ρ b, 0, none⟩) :: _
   rw [h0.1, i1]
  ·rcases List.mem_cons.1 hx with rfl | hx
   ·exact h0.2
   ·exact i2 x hx
theorem ren_RL {ρ ρ' : Env} {D D' : Nat → Bool} {w : World} (hS : ∀ g, Sep ρ D g → Sep ρ' D' g) : ∀ (ls : List Lf) (us : List Value) (k : Nat), RL ρ D w ls us → ls.all noE = true → (∀ t b, (nmL ls)[t]? = some b → ρ'.r (k + t) = ρ.r b ∧ D' (k + t) = true) → RL ρ' D' w (rnL k ls) us := by
 intro ls
 induction ls with
 | nil => intro us k h _ _; exact h
 | cons l ls ih =>
  intro us k h hno hn
  obtain ⟨u, r, rfl, h1, h2⟩ := h
  rw [List.all_cons, Bool.and_eq_true] at hno
  have one : ∀ (b : Nat), nmL (l :: ls) = b :: nmL ls → ρ'.r k = ρ.r b ∧ D' k = true ∧ RL ρ' D' w (rnL (k + 1) ls) r := fun b e => by
   have h0 := hn 0 b (by rw [e]; rfl)
   rw [Nat.add_zero] at h0
   exact ⟨h0.1, h0.2, ih r (k + 1) h2 hno.2 fun t x hx => by have := hn (t + 1) x (by rw [e]; simpa using hx); rwa [show k + (t + 1) = k + 1 + t by omega] at this⟩
  cases l with
  | own b o =>
   obtain ⟨e1, e2, e3⟩ := one b rfl
   exact ⟨u, r, rfl, ⟨e2, by rw [e1]; exact h1.2⟩, e3⟩
  | osl b n =>
   obtain ⟨e1, e2, e3⟩ := one b rfl
   exact ⟨u, r, rfl, ⟨e2, by rw [e1]; exact h1.2⟩, e3⟩
  | clo f bs =>
   obtain ⟨c1, c2⟩ := cnt_map (ρ := ρ) (ρ' := ρ') (D' := D') bs k (fun t b hb => hn t b (by
    show (bs ++ nmL ls)[t]? = some b
    rw [List.getElem?_append_left (by
     rcases Nat.lt_or_ge t bs.length with h | h
     ·exact h
     ·rw [List.getElem?_eq_none h] at hb; cases hb)]
    exact hb))
   refine ⟨u, r, rfl, ⟨c2, by rw [c1]; exact h1.2⟩, ih r (k + bs.length) h2 hno.2 fun t x hx => ?_⟩
   have := hn (bs.length + t) x (by
    show (bs ++ nmL ls)[bs.length + t]? = some x
    rw [List.getElem?_append_right (by omega), show bs.length + t - bs.length = t by omega]; exact hx)
   rwa [← Nat.add_assoc] at this
  | lit v => exact ⟨u, r, rfl, h1, ih r k h2 hno.2 hn⟩
  | ws v => exact ⟨u, r, rfl, h1, ih r k h2 hno.2 hn⟩
  | dg v => exact ⟨u, r, rfl, h1, ih r k h2 hno.2 hn⟩
  | ol _ _ => cases hno.1
  | oe _ _ _ => cases hno.1
  | ov _ _ _ _ => cases hno.1
  | sl f a b c => exact ⟨u, r, rfl, Lc.R.mono (Keeps.refl _ _) (fun g _ _ _ h => ⟨hS g h.1, fun e => (by cases e)⟩) _ _ h1, ih r k h2 hno.2 hn⟩
  | im v => exact ⟨u, r, rfl, ImR.mono h1 (Keeps.refl _ _) fun g _ _ _ h => hS g h, ih r k h2 hno.2 hn⟩
theorem ren_RA {ρ ρ' : Env} {D D' : Nat → Bool} {w : World} (hS : ∀ g, Sep ρ D g → Sep ρ' D' g) : ∀ (xs : List AV) (us : List Value) (k : Nat), isV xs = true → RA ρ D w xs us → (∀ t b, (nmA xs)[t]? = some b → ρ'.r (k + t) = ρ.r b ∧ D' (k + t) = true) → RA ρ' D' w (rnA k xs) us := by
 intro xs
 induction xs with
 | nil => intro us k _ h _; exact h
 | cons x xs ih =>
  intro us k hv h hn
  obtain ⟨u, r, rfl, h1, h2⟩ := h
  cases x with
  | tup _ => cases hv
  | pre _ _ _ => cases hv
  | v g ls =>
   have hv2 : (ls.all noE && isV xs) = true := hv
   rw [Bool.and_eq_true] at hv2
   have hl : ∀ t b, (nmL ls)[t]? = some b → ρ'.r (k + t) = ρ.r b ∧ D' (k + t) = true := fun t b hb => hn t b (by
    show (nmL ls ++ nmA xs)[t]? = some b
    rw [List.getElem?_append_left (by
     rcases Nat.lt_or_ge t (nmL ls).length with h | h
     ·exact h
     ·rw [List.getElem?_eq_none h] at hb; cases hb)]
    exact hb)
   refine ⟨u, r, rfl, ?_, ih r (k + (nmL ls).length) hv2.2 h2 fun t x hx => ?_⟩
   ·cases g with
    | true => obtain ⟨us, e, hr⟩ := h1; exact ⟨us, e, ren_RL hS ls us k hr hv2.1 hl⟩
    | false => exact ren_RL hS ls [u] k h1 hv2.1 hl
   ·have := hn ((nmL ls).length + t) x (by
     show (nmL ls ++ nmA xs)[(nmL ls).length + t]? = some x
     rw [List.getElem?_append_right (by omega), show (nmL ls).length + t - (nmL ls).length = t by omega]; exact hx)
    rwa [← Nat.add_assoc] at this
def RCt (P : Program) (f : FuncId) (args : List AV) (ls : List (List Lf)) (r : AV) : Prop := ∀ (S : Nat → Prop) w us gs, Tab w → Lent S w gs ls → (∀ ρ D, (∀ t g, gs[t]? = some g → ρ.r (1000 + t) = g) → (∀ t, t < ls.length → D (1000 + t) = true) → (∀ g, S g → Sep ρ D g) → RA ρ D w args us) →
 Calls P f us.toArray w fun e w' => ∃ u, e = .returned u ∧ (∀ ρ D, Old ρ D w → r.R ρ D w' u) ∧ Below w.heap.size w w'
def smBs : List (List Lf) → Prop
 | [] => True
 | l :: r => smLs l ∧ smBs r
theorem smBs_of {ls : List (List Lf)} (h : ∀ (t : Nat) (l : List Lf), ls[t]? = some l → smLs l) : smBs ls := by
 induction ls with
 | nil => trivial
 | cons l ls ih => exact ⟨h 0 l rfl, ih fun t l' ht => h (t + 1) l' (by simpa using ht)⟩
theorem Lent.sm {S : Nat → Prop} {w : World} {gs : List Nat} {ls : List (List Lf)} (h : Lent S w gs ls) : smBs ls := smBs_of fun t l hl => by
 have ht : t < gs.length := by
  rw [h.1]
  rcases Nat.lt_or_ge t ls.length with h | h
  ·exact h
  ·rw [List.getElem?_eq_none h] at hl; cases hl
 obtain ⟨_, _, T, cs, _, hR⟩ := h.2.2.2 t gs[t] l (List.getElem?_eq_getElem ht) hl
 exact (hR envA (fun _ => false) fun g hg => ⟨fun b hb => (by cases hb), fun b hb => (by cases hb)⟩).sm
theorem rct_of {P : Program} {ty : TypeId → Option TI} {O : Orac} (hm : P.follows .mixedOrders = true) (hty : ∀ t i, ty t = some i → TiOK P t i) (hO : ∀ w, OrOK P O Fx.no w) {f : FuncId} {fn : Func} {c : Code} {args : List AV} {ls : List (List Lf)} {r : AV} (fg : List Nat)
  (fuel N : Nat) (rs : List ResultVar) (hf : P.funcs[f]? = some fn) (hb : fn.body = some c) (hN : fn.ntmps = N) (hr : fn.results.toList = rs) (hl : args.length ≤ N)
  (h : smAs args → smBs ls → run ty O N (fun st => postf (· = r) (resA ty st rs)) fg fuel [.code c] (init 0 args ++ memOf 1000 ls)) : RCt P f args ls r := by
 intro S w us gs ht hL hA
 have hA0 := hA ⟨fun k => gs.getD (k - 1000) 0, 0, fun _ => undef, fun _ => 0, fun _ => false⟩ (fun b => decide (1000 ≤ b ∧ b < 1000 + ls.length)) (fun t g hg => by
  simp only [Nat.add_sub_cancel_left]
  rw [List.getD_eq_getElem?_getD, hg]; rfl) (fun t ht => by simp [ht]) (fun g hg => ⟨fun b hb e => by
  have hb := of_decide_eq_true hb
  have e : gs.getD (b - 1000) 0 = g := e
  have hlt : b - 1000 < gs.length := by rw [hL.1]; omega
  rw [List.getD_eq_getElem?_getD, List.getElem?_eq_getElem hlt] at e
  subst e
  exact hL.2.2.1 _ (List.getElem_mem hlt) hg, fun b hb => (by cases hb)⟩)
 refine (lent_of (gs := gs) hm hty (hO w) fg fuel N rs hf hb hN hr hl ht hL hA (h hA0.sm hL.sm)).mono ?_
 rintro e w' ⟨u, r', he, rfl, _, hR, hb⟩
 exact ⟨u, he, hR, hb⟩
abbrev KT := List AV → List (List Lf) → Option (Prop × AV)
def refO (g : FuncId) (k : KT) : Orac := fun f d st args => if f = g then (match contsOf st (nmA args) with
 | some ls => if ndB (nmA args) = true ∧ (ls.all fun l => l.all cbL) = true ∧ isV args = true then (match k (rnA 1000 args) ls with
   | some e => some (e.1, (nmA args).map (fun b => 2 * b + 1), [(2 * d, e.2)])
   | none => none) else none
 | none => none) else none
theorem refO_ok {P : Program} {g : FuncId} {k : KT} (hen : ∀ (vs : Array Value) (w : World), (callFunc g vs).run P w = .ok (.enter g vs) w)
  (hk : ∀ args ls e, k args ls = some e → e.1 → RCt P g args ls e.2) (F : Fx) (w0 : World) : OrOK P (refO g k) F w0 := by
 refine ⟨fun f d st args e he => ?_, fun f d st args e he hp N ρ a w us hz hd hA => ?_, fun f d st st' args e he hkk => ?_⟩
 ·unfold refO at he
  split at he
  ·rename_i hf; subst hf; exact hen
  ·cases he
 ·unfold refO at he
  split at he
  ·rename_i hf
   subst hf
   split at he
   ·rename_i ls hls
    split at he
    ·rename_i hc
     split at he
     ·rename_i e0 he0
      injection he with he; subst he
      have hL := conts_lent hz hls hc.1 hc.2.1
      have := hk _ _ _ he0 hp (Sep ρ (dom st)) w us ((nmA args).map ρ.r) (hz.tb.tab hz.bel) hL (fun ρ' D' h1 h2 hS => ren_RA hS args us 1000 hc.2.2 hA (fun t b hb => by
       have hx : ((nmA args).map ρ.r)[t]? = some (ρ.r b) := by rw [List.getElem?_map, hb]; rfl
       refine ⟨h1 t _ hx, h2 t ?_⟩
       rw [← hL.1]
       rcases Nat.lt_or_ge t ((nmA args).map ρ.r).length with h | h
       ·exact h
       ·rw [List.getElem?_eq_none h] at hx; cases hx))
      refine this.mono ?_
      rintro en w' ⟨u, rfl, hR, hb⟩
      exact ⟨u, ρ, rfl, hz.val hb hd (hR _ _ hz.old)⟩
     ·cases he
    ·cases he
   ·cases he
  ·cases he
 ·have h0 := he
  unfold refO at he
  split at he
  ·rename_i hf
   split at he
   ·rename_i ls hls
    split at he
    ·split at he
     ·injection he with he; subst he
      rw [← h0]
      unfold refO
      rw [conts_congr hkk]
     ·cases he
    ·cases he
   ·cases he
  ·cases he
theorem refO_only {g : FuncId} {k : KT} : Only (refO g k) g := fun f d st args h => by unfold refO; rw [if_neg h]
theorem refO_or {P : Program} {g : FuncId} {k : KT} {B : Orac} {F : Fx} {w0 : World} (hA : OrOK P (refO g k) F w0) (hB : OrOK P B F w0) (hn : ∀ d st args, B g d st args = none) : OrOK P (orO (refO g k) B) F w0 :=
 orO_ok hA hB fun f d st args e he st' => by
  by_cases hf : f = g
  ·subst hf; rw [hn] at he; cases he
  ·exact refO_only f d st' args hf
def pin (A : List AV) (L : List (List Lf)) (r : AV) : KT := fun args ls => some (args = A ∧ ls = L, r)
theorem pin_ok {P : Program} {g : FuncId} {A : List AV} {L : List (List Lf)} {r : AV} (h : RCt P g A L r) : ∀ args ls e, pin A L r args ls = some e → e.1 → RCt P g args ls e.2 := by
 intro args ls e he hp
 injection he with he; subst he
 obtain ⟨rfl, rfl⟩ := hp
 exact h
end
end Go.Proofs.YtobcbhppmgnioaaGreatDoor
