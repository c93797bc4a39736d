/- A range over a function: the statement, out of the iterator's word and one round's body on states. -/
import Derived.Test.YtobcbhppmgnioaaGreatDoorSArA
import Derived.Test.YtobcbhppmgnioaaGreatDoorSAq1
namespace Go.Proofs.YtobcbhppmgnioaaGreatDoor
open Go.RowKit Nx
set_option linter.unusedVariables false
set_option linter.unusedSimpArgs false
def SeqI (P : Program) (gf : FuncId) (lb : Array Value) (n : Nat) (p1 p2 : Nat → AV) (Cap : World → Prop) : Prop :=
 ∀ (l m : Nat) (J Jx : Nat → World → Prop) (W : World), (∀ j W W', J j W → Below W.heap.size W W' → J j W') → (∀ j W, J j W → Cap W) →
  (∀ j c e W, j < n → J j W → (∀ ρ D, (p1 j).R ρ D W c) → (∀ ρ D, (p2 j).R ρ D W e) → ∀ m, YieldAt Fence.wide m P l #[c, e] W fun en W' => (en = .returned (.bool true) ∧ J (j + 1) W') ∨ (en = .returned (.bool false) ∧ Jx j W')) →
  J 0 W → CallsIn Fence.wide m P gf (#[.func (.yield l) #[] #[]] ++ lb) W fun en W' => (∃ v, en = .returned v) ∧ (J n W' ∨ ∃ j, j < n ∧ Jx j W')
abbrev mkD (D : Nat) : Deferred := { target := .collected D, args := #[] }
abbrev Fd (D : Nat) : Fx := ⟨fun _ => False, fun k => if k = D then some (.deferred (some [])) else none, [mkD D]⟩
abbrev FJ (D l : Nat) (r : Loop) : Fx := ⟨fun _ => False, fun k => if k = D then some (.deferred (some [])) else if k = l then some (.loop r) else none, []⟩
theorem spJ {D l : Nat} {r : Loop} {k : Nat} {x : Obj} (e : (FJ D l r).sp k = some x) : (k = D ∧ x = .deferred (some [])) ∨ (k = l ∧ x = .loop r) := by
 have e : (if k = D then some (Obj.deferred (some [])) else if k = l then some (.loop r) else none) = some x := e
 by_cases e1 : k = D
 ·rw [if_pos e1] at e; exact .inl ⟨e1, (Option.some.inj e).symm⟩
 ·rw [if_neg e1] at e
  by_cases e2 : k = l
  ·rw [if_pos e2] at e; exact .inr ⟨e2, (Option.some.inj e).symm⟩
  ·rw [if_neg e2] at e; cases e
theorem spD {D : Nat} {k : Nat} {x : Obj} (e : (Fd D).sp k = some x) : k = D ∧ x = .deferred (some []) := by
 have e : (if k = D then some (Obj.deferred (some [])) else none) = some x := e
 by_cases e1 : k = D
 ·rw [if_pos e1] at e; exact ⟨e1, (Option.some.inj e).symm⟩
 ·rw [if_neg e1] at e; cases e
def noL : Code → St → (St → Prop) → (St → Prop) → Prop := fun _ _ _ _ => False
def okS (fg : List Nat) (s' st : St) : Prop := ((hdS fg st).all fun p => mentA (hdS fg st) p.2) = true ∧ hdS fg st = s'
section
variable {P : Program} {ty : TypeId → Option TI} {O : Orac} {N : Nat} {T : Nat → Bool}
theorem rf_wp (hty : ∀ t i, ty t = some i → TiOK P t i) {w0 w : World} (hO : ∀ F, OrOK P O F w0) {a : Act} {ρ : Env} {S SX : Nat → St} {n m : Nat} {I X : Nat → Prop} {p1 p2 : Nat → AV} {q1 q2 gf : Nat} {g : Operand} {lb : Array Value} {assign body : Code} {Cap : World → Prop} {Q : Exit → Act → World → Prop} (fuel : Nat) (fg fx : List Nat)
  (hz : Cz Fx.no w0 N ρ (S 0) a w) (hg : a.eval g = .func (.func gf) #[] lb) (eg : ∀ args w, (callFunc gf args).run P w = .ok (.enter gf args) w) (hseq : SeqI P gf lb n p1 p2 Cap)
  (hcap : ∀ (j : Nat) F ρ a' W, Cz F w0 N ρ (S j) a' W → a'.tmps = a.tmps → Cap W) (hq1 : q1 < N) (hq2 : q2 < N) (hT1 : T q1 = true) (hT2 : T q2 = true)
  (hS : ∀ j t v, look (S j) (2 * t) = some v → T t = false) (hSX : ∀ j t v, look (SX j) (2 * t) = some v → T t = false)
  (hI0 : I 0) (hbody : ∀ j, j < n → I j → runR ty O N noL (fun st1 => runR ty O N noL (fun st => okS fg (S (j + 1)) st ∧ I (j + 1)) (fun st => okS fx (SX j) st ∧ X j) T true fuel [.code body] st1) (fun _ => False) T true fuel [.code assign] ((2 * q2, p2 j) :: (2 * q1, p1 j) :: S j))
  (hdone : ∀ D ρ' W, w0.heap.size ≤ D → I n → Cz (Fd D) w0 N ρ' (S n) { a with defers := [mkD D] ++ a.defers } W → Q .normal { a with defers := [mkD D] ++ a.defers } W)
  (hstop : ∀ D j ρ' W, j < n → w0.heap.size ≤ D → X j → Cz (Fd D) w0 N ρ' (SX j) { a with defers := [mkD D] ++ a.defers } W → Q .ret { a with defers := [mkD D] ++ a.defers } W) :
  (Code.rangeFunc g #[q1, q2] assign body).wpIn (Wf none) m P Q a w := by
 refine wpIn_rangeFunc (F := Wf none) ?_
 intro fn hfn
 rw [show (Wf none).round = none from rfl]
 obtain ⟨rec, hrec⟩ : ∃ rec : LoopState → Option Code → Loop, rec = fun st pe => { state := st, pending := pe, fn, tmps := a.tmps, params := #[q1, q2], assign, body, defers := w.heap.size } := ⟨_, rfl⟩
 obtain ⟨W1, hW1⟩ : ∃ W1, (w.alloc (.deferred (some []))).alloc (.loop (rec .ready none)) = W1 := ⟨_, rfl⟩
 obtain ⟨D, hD⟩ : ∃ D, w.heap.size = D := ⟨_, rfl⟩
 have hge : w0.heap.size ≤ D := by rw [← hD]; exact hz.bel.size
 have hL1 : W1.heap[D + 1]? = some (.loop (rec .ready none)) := by
  rw [← hW1, ← hD]; have := World.alloc_heap_new (w.alloc (.deferred (some []))) (.loop (rec .ready none)); rwa [World.size_alloc] at this
 have hK1 : W1.heap[D]? = some (.deferred (some [])) := by
  rw [← hW1, ← hD]; exact (Below.heap_alloc _ _ _ (by simp)).trans (World.alloc_heap_new w _)
 obtain ⟨a0, ha0⟩ : ∃ a0 : Act, a0 = { tmps := a.tmps, defers := [] } := ⟨_, rfl⟩
 have hsz0 : a0.tmps.size = N := by rw [ha0]; exact hz.sz
 have hrd : ∀ st pe, (rec st pe).params = #[q1, q2] := fun st pe => by rw [hrec]
 have spec : ∀ (r r' : Loop) (F : Fx) (ρ : Env) (st : St) (a' : Act) (W : World), F.f = (fun _ => False) → Cz F w0 N ρ st a' W → W.heap[D + 1]? = some (.loop r) → W.heap[D]? = some (.deferred (some [])) → (∀ t v, look st (2 * t) = some v → a0.tmps[t]? = a'.tmps[t]?) → a'.tmps.size = N →
   (∃ ρ, Cz (FJ D (D + 1) r') w0 N ρ st a0 (W.putObj (D + 1) (.loop r'))) ∧ (F.df = [] → a'.defers = [] → ∃ ρ, Cz (FJ D (D + 1) r') w0 N ρ st a' (W.putObj (D + 1) (.loop r'))) ∧ Cz (Fd D) w0 N ρ st { a with defers := [mkD D] ++ a.defers } (W.putObj (D + 1) (.loop r')) := by
  intro r r' F ρ st a' W hf hz' hl hk hs hsz'
  have hlt := (Array.getElem?_eq_some_iff.1 hl).1
  have h1 : Cz (Fx.no) w0 N ρ st a0 W := hz'.reF hf.symm hsz0 (by rw [ha0]) (fun k x e => by cases e) hs
  have h2 := h1.putO (.loop r') rfl hl rfl (by omega)
  have hl' : (W.putObj (D + 1) (.loop r')).heap[D + 1]? = some (.loop r') := World.putObj_heap_same hlt
  have hk' : (W.putObj (D + 1) (.loop r')).heap[D]? = some (.deferred (some [])) := (World.putObj_heap_other (by omega)).trans hk
  have sp : ∀ k x, (FJ D (D + 1) r').sp k = some x → (W.putObj (D + 1) (.loop r')).heap[k]? = some x ∧ x.isCells = false := fun k x e => by
   rcases spJ e with ⟨e1, e2⟩ | ⟨e1, e2⟩
   ·rw [e1, e2]; exact ⟨hk', rfl⟩
   ·rw [e1, e2]; exact ⟨hl', rfl⟩
  refine ⟨⟨ρ, h2.reF rfl hsz0 (by rw [ha0]) sp fun _ _ _ => rfl⟩, fun _ hdf => ⟨ρ, h2.reF rfl hsz' hdf sp fun t v hv => (hs t v hv).symm⟩, h2.reF rfl hz.sz (by show [mkD D] ++ a.defers = _; rw [hz.df]; rfl) (fun k x e => ?_) fun t v hv => by rw [ha0]⟩
  obtain ⟨e1, e2⟩ := spD e
  rw [e1, e2]; exact ⟨hk', rfl⟩
 refine ⟨D + 1, [mkD D], W1, { target := .fn (.func gf) lb, args := #[.func (.yield (D + 1)) #[] #[]] }, W1, gf, #[.func (.yield (D + 1)) #[] #[]] ++ lb, W1, ?_, ?_, ?_, ?_, (fun e => by cases e), ?_⟩
 ·rw [← hW1, hrec, ← hD]; exact run_enterLoop_outer _ _ _ _ _
 ·simp only [resolve, hg]
  simp [go_sem]
 ·intro f' _; trivial
 ·simp [invoke, go_sem, eg]
 ·refine (hseq (D + 1) _ (fun j W => I j ∧ ∃ ρ, Cz (FJ D (D + 1) (rec .ready none)) w0 N ρ (S j) a0 W) (fun j W => X j ∧ ∃ ρ, Cz (FJ D (D + 1) (rec .done (some .ret))) w0 N ρ (SX j) a0 W) W1 (fun j W W' ⟨hi, ρ, h⟩ hb => ⟨hi, ρ, h.grow hb⟩) (fun j W ⟨_, ρ, h⟩ => hcap j _ ρ a0 W h (by rw [ha0])) ?_ ?_).mono ?_
  ·
   rintro j c e W hj ⟨hIj, ρ1, hz1⟩ hc he m
   have hl : W.heap[D + 1]? = some (.loop (rec .ready none)) := (hz1.bel.oth (D + 1) _ (by show (if D + 1 = D then _ else if D + 1 = D + 1 then _ else _) = _; rw [if_neg (by omega), if_pos rfl])).1
   have hy := run_yield (P := P) (args := #[c, e]) hl (by rw [hrd]; rfl)
   refine ⟨_, _, _, _, hy, roundIn_of_wpIn trivial ?_⟩
   have hzr : Cz (FJ D (D + 1) (rec .ready none)) w0 N ρ1 ((2 * q2, p2 j) :: (2 * q1, p1 j) :: S j) ((a0.put (some q1) c).put (some q2) e) W :=
    (hz1.val (Below.refl _ _) hq1 (hc _ _)).val (Below.refl _ _) hq2 (by rw [dom_even]; exact he _ _)
   have hk0 : Kt T a0 ((a0.put (some q1) c).put (some q2) e) := Kt.put (Kt.put (fun _ _ => rfl) fun t e => by injection e with e; subst e; exact hT1) fun t e => by injection e with e; subst e; exact hT2
   have hact : (rec .ready none).tmps = a0.tmps := by rw [hrec, ha0]
   have hs := runR_sound (P := P) (m := m) (ro := some (D + 1)) hty hO (G := fun b F => b = true ∧ F = FJ D (D + 1) (rec .ready none)) (a0 := a0) (GN := fun a1 w1 => ∃ ρ st1, runR ty O N noL (fun st => okS fg (S (j + 1)) st ∧ I (j + 1)) (fun st => okS fx (SX j) st ∧ X j) T true fuel [.code body] st1 ∧ Cz (FJ D (D + 1) (rec .ready none)) w0 N ρ st1 a1 w1 ∧ Kt T a0 a1 ∧ a1.defers = []) (GR := fun _ _ => False)
    (fun _ _ _ _ _ _ _ _ hG => by cases hG.1) (fun b F ρ st a w hG h1 h2 h3 => by obtain ⟨_, rfl⟩ := hG; exact ⟨ρ, st, h1, h2, h3, h2.df⟩) (fun _ _ _ _ _ _ _ h => h.elim) fuel true _ [.code assign] ρ1 _ _ W rfl ⟨rfl, rfl⟩ (hbody j hj hIj) hzr hk0
   have hs : assign.wpIn _ m P _ _ W := hs
   have hA : (rec .ready none).assign = assign := by rw [hrec]
   have hB : (rec .ready none).body = body := by rw [hrec]
   rw [hA, hB, hrd, hact]
   have hfold : ({ tmps := (#[q1, q2].zip #[c, e]).foldl (fun t (p, v) => t.setIfInBounds p v) a0.tmps, defers := [] } : Act) = (a0.put (some q1) c).put (some q2) e := by
    rw [ha0]; simp [Act.put]
   rw [hfold]
   refine wpIn_mono hs ?_
   intro ex a1 w1 hx
   cases ex with
   | normal =>
    obtain ⟨ρ2, st1, hr1, hz2, hk2, hdf1⟩ : ∃ ρ st1, runR ty O N noL (fun st => okS fg (S (j + 1)) st ∧ I (j + 1)) (fun st => okS fx (SX j) st ∧ X j) T true fuel [.code body] st1 ∧ Cz (FJ D (D + 1) (rec .ready none)) w0 N ρ st1 a1 w1 ∧ Kt T a0 a1 ∧ a1.defers = [] := hx
    have oth : ∀ (r : Loop) (ρ : Env) (st : St) (a : Act) (w : World), Cz (FJ D (D + 1) r) w0 N ρ st a w → w.heap[D + 1]? = some (.loop r) ∧ w.heap[D]? = some (.deferred (some [])) := fun r ρ st a w h =>
     ⟨(h.bel.oth (D + 1) _ (by show (if D + 1 = D then _ else if D + 1 = D + 1 then _ else _) = _; rw [if_neg (by omega), if_pos rfl])).1, (h.bel.oth D _ (by show (if D = D then _ else _) = _; rw [if_pos rfl])).1⟩
    obtain ⟨hl2, hd2⟩ := oth _ _ _ _ _ hz2
    refine ⟨_, run_beginRound hl2 (by rw [hrec]), ?_⟩
    have hbusy : ({ rec .ready none with state := .busy } : Loop) = rec .busy none := by rw [hrec]
    rw [hbusy]
    obtain ⟨ρ3, hz3⟩ : ∃ ρ, Cz (FJ D (D + 1) (rec .busy none)) w0 N ρ st1 a1 (w1.putObj (D + 1) (.loop (rec .busy none))) := by
     have h1 : Cz (Fx.no) w0 N ρ2 st1 a1 w1 := hz2.reF rfl hz2.sz hdf1 (fun k x e => by cases e) fun _ _ _ => rfl
     have h2 := h1.putO (.loop (rec .busy none)) rfl hl2 rfl (by omega)
     refine ⟨ρ2, h2.reF rfl hz2.sz hdf1 (fun k x e => ?_) fun _ _ _ => rfl⟩
     rcases spJ e with ⟨e1, e2⟩ | ⟨e1, e2⟩
     ·rw [e1, e2]; exact ⟨(World.putObj_heap_other (by omega)).trans hd2, rfl⟩
     ·rw [e1, e2]; exact ⟨World.putObj_heap_same (Array.getElem?_eq_some_iff.1 hl2).1, rfl⟩
    have hs2 := runR_sound (P := P) (m := m) (ro := some (D + 1)) hty hO (G := fun b F => b = true ∧ F = FJ D (D + 1) (rec .busy none)) (a0 := a0) (GN := fun a1 w1 => ∃ ρ st1, (okS fg (S (j + 1)) st1 ∧ I (j + 1)) ∧ Cz (FJ D (D + 1) (rec .busy none)) w0 N ρ st1 a1 w1 ∧ Kt T a0 a1) (GR := fun a1 w1 => ∃ ρ st1, (okS fx (SX j) st1 ∧ X j) ∧ Cz (FJ D (D + 1) (rec .busy none)) w0 N ρ st1 a1 w1 ∧ Kt T a0 a1)
     (fun _ _ _ _ _ _ _ _ hG => by cases hG.1) (fun b F ρ st a w hG h1 h2 h3 => by obtain ⟨_, rfl⟩ := hG; exact ⟨ρ, st, h1, h2, h3⟩) (fun b F ρ st a w hG h1 h2 h3 => by obtain ⟨_, rfl⟩ := hG; exact ⟨ρ, st, h1, h2, h3⟩) fuel true _ [.code body] ρ3 _ _ _ rfl ⟨rfl, rfl⟩ hr1 hz3 hk2
    have hs2 : body.wpIn _ m P _ _ _ := hs2
    refine wpIn_mono hs2 ?_
    intro ex2 a2 w2 hx2
    have fin : ∀ (fg : List Nat) (s' : St) (Y : Prop) (jump : Option Code), (∀ t v, look s' (2 * t) = some v → T t = false) → (∃ ρ st1, (okS fg s' st1 ∧ Y) ∧ Cz (FJ D (D + 1) (rec .busy none)) w0 N ρ st1 a2 w2 ∧ Kt T a0 a2) →
      (Instr.endRound (D + 1) jump).run P w2 = .ok (.bool jump.isNone) (w2.putObj (D + 1) (.loop (rec (if jump.isNone then .ready else .done) jump))) ∧ Y ∧ ∃ ρ, Cz (FJ D (D + 1) (rec (if jump.isNone then .ready else .done) jump)) w0 N ρ s' a0 (w2.putObj (D + 1) (.loop (rec (if jump.isNone then .ready else .done) jump))) := by
     rintro fg s' Y jump hT' ⟨ρ4, st4, ⟨⟨hm4, he4⟩, hy4⟩, hz4, hk4⟩
     obtain ⟨hl4, hd4⟩ := oth _ _ _ _ _ hz4
     have he := run_endRound (P := P) jump hl4
     have e1 : ({ rec .busy none with state := if jump.isNone then .ready else .done, pending := jump } : Loop) = rec (if jump.isNone then .ready else .done) jump := by rw [hrec]
     rw [e1] at he
     obtain ⟨ρ5, hz5⟩ := hz4.hd fg hm4
     rw [he4] at hz5
     exact ⟨he, hy4, (spec _ _ _ ρ5 s' a2 w2 rfl hz5 hl4 hd4 (fun t v hv => (hk4 t (hT' t v hv)).symm) hz5.sz).1⟩
    cases ex2 with
    | normal =>
     obtain ⟨h1, h2⟩ := fin fg _ _ none (hS (j + 1)) hx2
     exact ⟨_, _, h1, .inl ⟨rfl, h2⟩⟩
    | ret =>
     obtain ⟨h1, h2⟩ := fin fx _ _ (some .ret) (hSX j) hx2
     exact ⟨_, _, h1, .inr ⟨rfl, h2⟩⟩
    | _ => exact hx2.elim
   | ret => exact hx.elim
   | _ => exact hx.elim
  ·
   have hb : Below w.heap.size w W1 := by
    rw [← hW1]; exact ((Below.refl _ w).alloc (Nat.le_refl _) _).alloc (by simp) _
   refine ⟨hI0, ρ, (hz.grow hb).reF rfl hsz0 (by rw [ha0]) (fun k x e => ?_) fun _ _ _ => by rw [ha0]⟩
   rcases spJ e with ⟨e1, e2⟩ | ⟨e1, e2⟩
   ·rw [e1, e2]; exact ⟨hK1, rfl⟩
   ·rw [e1, e2]; exact ⟨hL1, rfl⟩
  ·
   have oth : ∀ (r : Loop) (ρ : Env) (st : St) (a : Act) (w : World), Cz (FJ D (D + 1) r) w0 N ρ st a w → w.heap[D + 1]? = some (.loop r) ∧ w.heap[D]? = some (.deferred (some [])) := fun r ρ st a w h =>
    ⟨(h.bel.oth (D + 1) _ (by show (if D + 1 = D then _ else if D + 1 = D + 1 then _ else _) = _; rw [if_neg (by omega), if_pos rfl])).1, (h.bel.oth D _ (by show (if D = D then _ else _) = _; rw [if_pos rfl])).1⟩
   rintro en W2 ⟨⟨v, rfl⟩, ⟨hin, ρ2, hz2⟩ | ⟨j, hj, hxj, ρ2, hz2⟩⟩
   ·obtain ⟨hl, hk⟩ := oth _ _ _ _ _ hz2
    refine ⟨none, _, by have := run_endLoop (P := P) hl (by rw [hrec]; simp); rw [show (rec .ready none).pending = none by rw [hrec]] at this; exact this, ?_⟩
    exact hdone D ρ2 _ hge hin (spec _ _ _ ρ2 _ a0 W2 rfl hz2 hl hk (fun _ _ _ => rfl) hsz0).2.2
   ·obtain ⟨hl, hk⟩ := oth _ _ _ _ _ hz2
    refine ⟨some .ret, _, by have := run_endLoop (P := P) hl (by rw [hrec]; simp); rw [show (rec .done (some .ret)).pending = some .ret by rw [hrec]] at this; exact this, ?_⟩
    exact wpIn_ret (hstop D j ρ2 _ hj hge hxj (spec _ _ _ ρ2 _ a0 W2 rfl hz2 hl hk (fun _ _ _ => rfl) hsz0).2.2)
end
def rfL (P : Program) (ty : TypeId → Option TI) (O : Orac) (N : Nat) : Code → St → (St → Prop) → (St → Prop) → Prop
 | .rangeFunc g ps asg bd, st, K, KX => ∃ (S SX : Nat → St) (I X : Nat → Prop) (n gf q1 q2 fuel : Nat) (p1 p2 : Nat → AV) (caps fg fx f0 : List Nat) (T : Nat → Bool), ps = #[q1, q2] ∧ evs st g = some (.s (.clo gf caps)) ∧ okS f0 (S 0) st ∧ evs (S 0) g = some (.s (.clo gf caps)) ∧
   (q1 < N ∧ q2 < N ∧ T q1 = true ∧ T q2 = true) ∧ (∀ j t v, look (S j) (2 * t) = some v → T t = false) ∧ (∀ j t v, look (SX j) (2 * t) = some v → T t = false) ∧
   I 0 ∧ (∀ j, j < n → I j → runR ty O N noL (fun st1 => runR ty O N noL (fun st => okS fg (S (j + 1)) st ∧ I (j + 1)) (fun st => okS fx (SX j) st ∧ X j) T true fuel [.code bd] st1) (fun _ => False) T true fuel [.code asg] ((2 * q2, p2 j) :: (2 * q1, p1 j) :: S j)) ∧
   (∀ args w, (callFunc gf args).run P w = .ok (.enter gf args) w) ∧
   (∀ F w0 ρ a w, Cz F w0 N ρ (S 0) a w → ∃ Cap, SeqI P gf (caps.map fun b => Value.pointer (some ⟨ρ b, 0, none⟩)).toArray n p1 p2 Cap ∧ ∀ j F' ρ' a' W, Cz F' w0 N ρ' (S j) a' W → a'.tmps = a.tmps → Cap W) ∧
   (I n → K (S n)) ∧ ∀ j, j < n → X j → KX (SX j)
 | _, _, _, _ => False
def G1 (w0 : World) (b : Bool) (F : Fx) : Prop := (b = false ∧ F = Fx.no) ∨ (b = true ∧ ∃ D, w0.heap.size ≤ D ∧ F = Fd D)
section
variable {P : Program} {ty : TypeId → Option TI} {O : Orac} {N : Nat}
theorem rfL_sound (hty : ∀ t i, ty t = some i → TiOK P t i) {w0 : World} (hO : ∀ F, OrOK P O F w0) {m : Nat} {T : Nat → Bool} {a0 : Act} (hT : ∀ t, T t = true) {F : Fx} {c : Code} {st : St} {K KX : St → Prop} {ρ : Env} {a : Act} {w : World} (hG : G1 w0 false F) (h : rfL P ty O N c st K KX) (hz : Cz F w0 N ρ st a w) :
  c.wpIn (Wf none) m P (fun e a' w' => match e with
   | .normal => ∃ F' ρ' st', G1 w0 true F' ∧ K st' ∧ Cz F' w0 N ρ' st' a' w' ∧ Kt T a0 a'
   | .ret => ∃ F' ρ' st', G1 w0 true F' ∧ KX st' ∧ Cz F' w0 N ρ' st' a' w' ∧ Kt T a0 a'
   | _ => False) a w := by
 have hF : F = Fx.no := by
  rcases hG with ⟨_, h⟩ | ⟨h, _⟩
  ·exact h
  ·cases h
 subst hF
 cases c with
 | rangeFunc g ps asg bd =>
  obtain ⟨S, SX, I, X, n, gf, q1, q2, fuel, p1, p2, caps, fg, fx, f0, T', rfl, he, ⟨hm0, hs0⟩, he0, ⟨hq1, hq2, hT1, hT2⟩, hS, hSX, hI0, hb, hen, hit, hK, hKX⟩ := h
  obtain ⟨ρ0, hz0⟩ := hz.hd f0 hm0
  rw [hs0] at hz0
  obtain ⟨Cap, hseq, hcap⟩ := hit _ _ _ _ _ hz0
  have hev := (RL.one.1 (hz0.ev he0)).2
  have kt : ∀ a', Kt T a0 a' := fun a' t h => by rw [hT] at h; cases h
  exact rf_wp hty hO fuel fg fx hz0 hev hen hseq hcap hq1 hq2 hT1 hT2 hS hSX hI0 hb
   (fun D ρ' W hD hi hc => ⟨_, ρ', _, .inr ⟨rfl, D, hD, rfl⟩, hK hi, hc, kt _⟩) (fun D j ρ' W hj hD hx hc => ⟨_, ρ', _, .inr ⟨rfl, D, hD, rfl⟩, hKX j hj hx, hc, kt _⟩)
 | _ => exact h.elim
theorem init_cz {w : World} {args : List AV} {us : List Value} {ρ : Env} (hl : args.length ≤ N) (ht : Tab w) (hA : RA ρ (fun _ => false) w args us) (hz0 : ρ.z = w.heap.size) (hal : ρ.al = fun _ => false) :
  Cz Fx.no w N ρ (init 0 args) { tmps := us.toArray ++ Array.replicate (N - us.toArray.size) undef, defers := [] } w := by
 have hlen := hA.len
 have hlk : ∀ b, look (init 0 args) (2 * b + 1) = none := fun b => by
  cases hh : look (init 0 args) (2 * b + 1) with
  | none => rfl
  | some v => obtain ⟨t, h1, _⟩ := init_look _ _ _ _ hh; omega
 have hst : dom (init 0 args) = fun _ => false := funext fun b => by unfold dom; rw [hlk]
 refine ⟨⟨ht, fun h => h⟩, Bel.refl _ _, ?_, rfl, fun t v hv => ?_, fun b v hv _ => ?_, fun b b' h1 h2 => ?_, hz0, (fun b hb => by rw [hal] at hb; cases hb), fun b x y z hv => ?_, (fun b b' g hb => by rw [hal] at hb; cases hb), (fun b b' hb => by rw [hal] at hb; cases hb)⟩
 ·simp; omega
 ·obtain ⟨t', h1, h2⟩ := init_look _ _ _ _ hv
  have : t = t' := by omega
  subst this
  obtain ⟨u, h3, h4⟩ := hA.get h2
  refine ⟨u, ?_, by rw [hst]; exact h4⟩
  have hlt : t < us.length := by
   rcases Nat.lt_or_ge t us.length with h | h
   ·exact h
   ·rw [List.getElem?_eq_none h] at h3; cases h3
  rw [Array.getElem?_append_left (by simpa using hlt)]
  simpa using h3
 ·rw [hlk] at hv; cases hv
 ·rw [hst] at h1; cases h1
 ·rw [hlk] at hv; cases hv
theorem call_R (hty : ∀ t i, ty t = some i → TiOK P t i) {w : World} (hO : ∀ F, OrOK P O F w) {f : FuncId} {fn : Func} {c : Code} {args : List AV} {post : St → Prop} {Φ : Ending → World → Prop} {ρ : Env} {us : List Value} (fuel : Nat) (hf : P.funcs[f]? = some fn) (hb : fn.body = some c) (hN : fn.ntmps = N)
  (hl : args.length ≤ N) (ht : Tab w) (hA : RA ρ (fun _ => false) w args us) (hz0 : ρ.z = w.heap.size) (hal : ρ.al = fun _ => false)
  (hF : ∀ ρ' st a w', post st → Cz Fx.no w N ρ' st a w' → ∃ v, (results fn a.tmps).run P w' = .ok v w' ∧ Φ (.returned v) w') (h : runR ty O N (rfL P ty O N) post post (fun _ => true) false fuel [.code c] (init 0 args)) :
  Calls P f us.toArray w Φ := by
 refine (callsIn_wide (n := 3)).1 (callsIn_of_wp_marks hf hb trivial ?_)
 have hz := init_cz hl ht hA hz0 hal
 rw [hN]
 have leave : ∀ (b : Bool) (F : Fx) (ρ : Env) (st : St) (a : Act) (w' : World), G1 w b F → post st → Cz F w N ρ st a w' → LeavesInM Fence.wide 3 P fn a.tmps Φ a.defers .returning w' := by
  intro b F ρ st a w' hG hp hz
  rcases hG with ⟨_, rfl⟩ | ⟨_, D, hD, rfl⟩
  ·rw [hz.df]
   exact hF ρ st a w' hp hz
  ·rw [hz.df]
   have hk : w'.heap[D]? = some (.deferred (some [])) := (hz.bel.oth D _ (by show (if D = D then _ else _) = _; rw [if_pos rfl])).1
   have h1 : Cz Fx.no w N ρ st { tmps := a.tmps, defers := [] } w' := hz.reF rfl hz.sz rfl (fun k x e => by cases e) fun _ _ _ => rfl
   have h2 := h1.putO (.deferred none) rfl hk rfl hD
   exact ⟨by simp, .inl ⟨D, _, rfl, run_takeDeferred hk, hF ρ st { tmps := a.tmps, defers := [] } _ hp h2⟩⟩
 have := runR_sound (P := P) (m := 3) (ro := none) hty hO (G := G1 w) (a0 := { tmps := us.toArray ++ Array.replicate (N - us.toArray.size) undef, defers := [] }) (GN := fun a w' => LeavesInM Fence.wide 3 P fn a.tmps Φ a.defers .returning w') (GR := fun a w' => LeavesInM Fence.wide 3 P fn a.tmps Φ a.defers .returning w')
  (fun F c st K KX ρ a w hG hL hz _ => rfL_sound hty hO (fun _ => rfl) hG hL hz) (fun b F ρ st a w hG hp hz _ => leave b F ρ st a w hG hp hz) (fun b F ρ st a w hG hp hz _ => leave b F ρ st a w hG hp hz) fuel false _ [.code c] ρ _ _ w rfl (.inl ⟨rfl, rfl⟩) h hz (fun _ _ => rfl)
 have this : c.wpIn _ 3 P _ _ w := this
 refine wpIn_mono this ?_
 intro e a' w' he
 cases e with
 | normal => exact he
 | ret => exact he
 | exit id => exact he.elim
 | goto l => exact he.elim
 | panic ch => exact he.elim
 | outgrown => exact he.elim
theorem grp_R (hty : ∀ t i, ty t = some i → TiOK P t i) {w w' : World} {fn : Func} {ρ' : Env} {st : St} {a : Act} {r : GR} (hp : grp r st (resB ty st fn.results.toList)) (hz : Cz Fx.no w N ρ' st a w') : ∃ v, (results fn a.tmps).run P w' = .ok v w' ∧ GRR w w' r v := by
 have hrun : ∀ vs : List Value, (fn.results.toList.mapM (resOne a.tmps)).run P w' = .ok vs w' → (results fn a.tmps).run P w' = .ok (if h : vs.toArray.size = 1 then vs.toArray[0] else .tuple vs.toArray) w' := fun vs hu => by
  show Sem.run P (do let vs ← fn.results.mapM (resOne a.tmps); pure (if h : vs.size = 1 then vs[0] else .tuple vs)) w' = _
  rw [Sem.run_bind, Array.mapM_eq_mapM_toList]
  simp [hu]
 unfold grp at hp
 split at hp
 ·rename_i st0 g l hq
  obtain ⟨us, hu, hR⟩ := res_list hty hz _ _ hq
  obtain ⟨u, r, rfl, h1, h2⟩ := hR
  have h2 : r = [] := h2
  subst h2
  exact ⟨_, hrun _ hu, glf_R hz hp (RL.one.1 h1)⟩
 ·rename_i st0 g l v hq
  obtain ⟨hp, rfl⟩ := hp
  obtain ⟨us, hu, hR⟩ := res_list hty hz _ _ hq
  obtain ⟨u, r, rfl, h1, u2, r2, rfl, h2, h3⟩ := hR
  have h3 : r2 = [] := h3
  subst h3
  have h2 : u2 = .int .i64 0 := RL.one.1 h2
  subst h2
  exact ⟨_, hrun _ hu, ⟨u, rfl, glf_R hz hp (RL.one.1 h1)⟩⟩
 ·rename_i st0 z v v' hq
  obtain ⟨rfl, rfl⟩ := hp
  obtain ⟨us, hu, hR⟩ := res_list hty hz _ _ hq
  obtain ⟨u, r, rfl, h1, u2, r2, rfl, h2, h3⟩ := hR
  have h3 : r2 = [] := h3
  subst h3
  have h1 : u = .slice none 0 0 := RL.one.1 h1
  have h2 : u2 = .int .i64 z := RL.one.1 h2
  subst h1; subst h2
  exact ⟨_, hrun _ hu, rfl⟩
 ·exact hp.elim
theorem gdR_of (hty : ∀ t i, ty t = some i → TiOK P t i) (hO : ∀ F w, OrOK P O F w) {f : FuncId} {fn : Func} {c : Code} {args : List AV} {r : GR}
  (fuel : Nat) (rs : List ResultVar) (hf : P.funcs[f]? = some fn) (hb : fn.body = some c) (hN : fn.ntmps = N) (hr : fn.results.toList = rs) (hl : args.length ≤ N) (hc : args.all cbA = true)
  (h : smAs args → runR ty O N (rfL P ty O N) (fun st => grp r st (resB ty st rs)) (fun st => grp r st (resB ty st rs)) (fun _ => true) false fuel [.code c] (init 0 args)) : Gd P f args r := by
 intro ρ D w us ht hA
 replace h := h hA.sm
 refine call_R (ρ := ⟨fun n => n, w.heap.size, fun _ => undef, fun _ => 0, fun _ => false⟩) hty (fun F => hO F w) fuel hf hb hN hl ht (hA.closed hc fun g h => ⟨fun b hb => (by cases hb), fun b hb => (by cases hb)⟩) rfl rfl (fun ρ' st a w' hp hz => ?_) h
 rw [← hr] at hp
 obtain ⟨v, h1, h2⟩ := grp_R hty hp hz
 exact ⟨v, h1, v, rfl, h2, hz.bel.to⟩
theorem ctR_of (hty : ∀ t i, ty t = some i → TiOK P t i) (hO : ∀ F w, OrOK P O F w) {f : FuncId} {fn : Func} {c : Code} {args : List AV} {Pst : AV → Prop}
  (fuel : Nat) (rs : List ResultVar) (hf : P.funcs[f]? = some fn) (hb : fn.body = some c) (hN : fn.ntmps = N) (hr : fn.results.toList = rs) (hl : args.length ≤ N) (hc : args.all cbA = true)
  (h : smAs args → runR ty O N (rfL P ty O N) (fun st => postf Pst (resA ty st rs)) (fun st => postf Pst (resA ty st rs)) (fun _ => true) false fuel [.code c] (init 0 args)) : Ct P f args Pst := by
 intro ρ D w us ht hA
 replace h := h hA.sm
 refine (call_R (ρ := ⟨fun n => n, w.heap.size, fun _ => undef, fun _ => 0, fun _ => false⟩) hty (fun F => hO F w) (Φ := fun e w' => ∃ u r, e = .returned u ∧ Pst r ∧ clA r = true ∧ (∀ ρ' D', Old ρ' D' w → r.R ρ' D' w' u) ∧ Below w.heap.size w w') fuel hf hb hN hl ht (hA.closed hc fun g h => ⟨fun b hb => (by cases hb), fun b hb => (by cases hb)⟩) rfl rfl (fun ρ' st a w' hp hz => ?_) h).mono ?_
 ·unfold postf at hp
  split at hp
  ·rename_i ps hps
   obtain ⟨u, hu, hR⟩ := res_run hty hz (fn := fn) (by rw [hr]; exact hps) hp.1
   exact ⟨u, hu, u, _, rfl, hp.2, hp.1, hR, hz.bel.to⟩
  ·exact hp.elim
 ·rintro e w' ⟨u, r, he, hp, hcl, hR, hb⟩
  exact ⟨u, r, he, hp, hcl, hR, hb⟩
end
end Go.Proofs.YtobcbhppmgnioaaGreatDoor
