/- A drawn region whose operations each hand a value to a slot of their own: whatever order is drawn, each value is as its operation makes it out of those before it. -/
import Derived.Test.YtdmnohmjobofhaaDoorReg
namespace Go.Proofs.YtdmnohmjobofhaaDoor
open Go.RowKit Nx

def boolLists : Nat → List (List Bool)
  | 0 => [[]]
  | n + 1 => (boolLists n).flatMap fun l => [false :: l, true :: l]
theorem mem_boolLists {n : Nat} {l : List Bool} (h : l.length = n) : l ∈ boolLists n := by
  induction n generalizing l with
  | zero => simp [boolLists, List.eq_nil_of_length_eq_zero h]
  | succ n ih =>
    cases l with
    | nil => simp at h
    | cons b t =>
      rw [boolLists, List.mem_flatMap]
      refine ⟨t, ih (by simpa using h), ?_⟩
      cases b <;> simp
/-- What is done has what it needs. -/
def closedB (need : Nat → List Nat) (N : Nat) (l : List Bool) : Bool := (List.range N).all fun i => !(l.getD i false) || (need i).all fun j => l.getD j false
def stepB (need late : Nat → List Nat) (N : Nat) (l : List Bool) (i : Nat) : Bool := decide (i < N) && !(l.getD i true) && (need i).all (fun j => l.getD j false) && (late i).all (fun j => !(l.getD j true))
/-- Which operation may come up when, reckoned for all listings. -/
def chkB (ops : Array Oper) (need late : Nat → List Nat) (N : Nat) : Bool :=
  (boolLists N).all fun l => !(closedB need N l) || ((Region.ready .any ops l.toArray).all (stepB need late N l) && (!(Region.ready .any ops l.toArray).isEmpty || l.all id))
theorem chk_use {ops : Array Oper} {need late : Nat → List Nat} {N : Nat} (h : chkB ops need late N = true) {l : List Bool} (hl : l.length = N) (hc : closedB need N l = true) :
    (∀ i ∈ Region.ready .any ops l.toArray, i < N ∧ l[i]? = some false ∧ (∀ j ∈ need i, l.getD j false = true) ∧ (∀ j ∈ late i, l.getD j true = false)) ∧ (Region.ready .any ops l.toArray = [] → ∀ b ∈ l, b = true) := by
  have h0 := List.all_eq_true.1 h l (mem_boolLists hl)
  rw [hc, Bool.not_true, Bool.false_or, Bool.and_eq_true] at h0
  refine ⟨fun i hi => ?_, fun he b hb => ?_⟩
  · have h1 := List.all_eq_true.1 h0.1 i hi
    unfold stepB at h1
    simp only [Bool.and_eq_true, decide_eq_true_iff, Bool.not_eq_true', List.all_eq_true] at h1
    obtain ⟨⟨⟨a1, a2⟩, a3⟩, a4⟩ := h1
    refine ⟨a1, ?_, a3, a4⟩
    rw [List.getD_eq_getElem?_getD, List.getElem?_eq_getElem (by omega)] at a2
    rw [List.getElem?_eq_getElem (by omega)]
    simpa using a2
  · have h1 := h0.2
    rw [he] at h1
    simp only [List.isEmpty_nil, Bool.not_true, Bool.false_or, List.all_eq_true] at h1
    exact h1 b hb
/-- The slots, those of the operations put in. -/
def putAll (dst : Nat → Tmp) (vals : Nat → Value) (a : Act) (N : Nat) : Act := (List.range N).foldl (fun b j => b.put (some (dst j)) (vals j)) a
theorem putAll_succ (dst : Nat → Tmp) (vals : Nat → Value) (a : Act) (N : Nat) : putAll dst vals a (N + 1) = (putAll dst vals a N).put (some (dst N)) (vals N) := by
  unfold putAll; rw [List.range_succ, List.foldl_append]; rfl
theorem putAll_size (dst : Nat → Tmp) (vals : Nat → Value) (a : Act) (N : Nat) : (putAll dst vals a N).tmps.size = a.tmps.size ∧ (putAll dst vals a N).defers = a.defers := by
  induction N with
  | zero => exact ⟨rfl, rfl⟩
  | succ N ih => rw [putAll_succ]; exact ⟨(kn_size_put ..).trans ih.1, ih.2⟩
theorem putAll_get (dst : Nat → Tmp) (vals : Nat → Value) (a b : Act) (N : Nat) (hd : ∀ j, j < N → dst j < a.tmps.size) (t : Nat)
    (h1 : ∀ j, j < N → b.tmps[dst j]? = some (vals j)) (h2 : (∀ j, j < N → dst j ≠ t) → b.tmps[t]? = a.tmps[t]?) : (putAll dst vals a N).tmps[t]? = b.tmps[t]? := by
  induction N with
  | zero => exact (h2 (fun j hj => absurd hj (by omega))).symm
  | succ N ih =>
    rw [putAll_succ]
    by_cases e : dst N = t
    · subst e
      rw [kn_get_same (by rw [(putAll_size ..).1]; exact hd N (by omega)), h1 N (by omega)]
    · rw [kn_get_other e]
      refine ih (fun j hj => hd j (by omega)) (fun j hj => h1 j (by omega)) (fun hh => h2 (fun j hj => ?_))
      rcases Nat.lt_or_ge j N with hlt | hge
      · exact hh j hlt
      · rw [show j = N by omega]; exact e
/-- A drawn region: each operation hands on a value that is as F says. -/
theorem region_mono {ops : Array Oper} {Q : Exit → Act → World → Prop} {id N : Nat} {a0 : Act} {w0 : World} (dst : Nat → Tmp) (need late : Nat → List Nat) (F : Nat → World → Value → Prop) (hm : Tryd.prog.follows .mixedOrders = true) (hN : ops.size = N)
    (hchk : chkB ops need late N = true) (hdst : ∀ j, j < N → dst j < a0.tmps.size) (hinj : ∀ i j, i < N → j < N → dst i = dst j → i = j) (hmono : ∀ i w w' v, Below w.heap.size w w' → F i w v → F i w' v)
    (hstep : ∀ i, i < N → ∀ a w, Below w0.heap.size w0 w → a.defers = a0.defers → (∀ t, (∀ j, j < N → dst j = t → j ∈ late i) → a.tmps[t]? = a0.tmps[t]?) → (∀ j ∈ need i, F j w (a.eval (.tmp (dst j)))) →
      wpOp Tryd.prog ops Q i (fun a' w' => ∃ v, a' = a.put (some (dst i)) v ∧ Below w.heap.size w w' ∧ F i w' v) a w)
    (hneed : ∀ i, i < N → ∀ j ∈ need i, j < N)
    (hQ : ∀ (vals : Nat → Value) w, Below w0.heap.size w0 w → (∀ j, j < N → F j w (vals j)) → Q .normal (putAll dst vals a0 N) w) : (Code.region id ops true).wp Tryd.prog Q a0 w0 := by
  refine region_inv (N := N) hm hN (fun L a w => ∃ l : List Bool, L = l.toArray ∧ l.length = N ∧ closedB need N l = true ∧ Below w0.heap.size w0 w ∧ a.tmps.size = a0.tmps.size ∧ a.defers = a0.defers ∧
    (∀ t, (∀ j, j < N → l.getD j false = true → dst j ≠ t) → a.tmps[t]? = a0.tmps[t]?) ∧ (∀ j, j < N → l.getD j false = true → ∃ v, a.tmps[dst j]? = some v ∧ F j w v)) ?_ ?_ ?_ ?_
  · refine ⟨List.replicate N false, by simp, by simp, ?_, bdr (Below.refl _ _), rfl, rfl, fun _ _ => rfl, fun j _ h => ?_⟩
    · unfold closedB
      rw [List.all_eq_true]
      intro i hi
      rw [List.getD_eq_getElem?_getD, List.getElem?_replicate]
      split <;> rfl
    · rw [List.getD_eq_getElem?_getD, List.getElem?_replicate] at h
      split at h <;> cases h
  · rintro L a w - ⟨l, rfl, hl, hc, -⟩ i hi
    have := ((chk_use hchk hl hc).1 i hi).2.1
    simpa using this
  · rintro L a w - ⟨l, rfl, hl, hc, hb, hsz, hdf, hun, hF⟩ i hi
    obtain ⟨i1, i2, i3, i4⟩ := (chk_use hchk hl hc).1 i hi
    refine wpOp_mono ?_ (hstep i i1 a w hb hdf (fun t ht => hun t (fun j hj hd e => ?_)) (fun j hj => ?_))
    · rintro a' w' ⟨v, rfl, hb', hv⟩
      have hget : ∀ j, (l.set i true).getD j false = if j = i then true else l.getD j false := by
        intro j
        rw [List.getD_eq_getElem?_getD, List.getElem?_set]
        by_cases e : i = j
        · subst e; rw [if_pos rfl, if_pos rfl, if_pos (by omega)]; rfl
        · rw [if_neg e, if_neg (fun h => e h.symm), List.getD_eq_getElem?_getD]
      refine ⟨l.set i true, by simp, by simpa using hl, ?_, below_step hb hb', (kn_size_put ..).trans hsz, hdf, fun t ht => ?_, fun j hj hd => ?_⟩
      · unfold closedB at hc ⊢
        rw [List.all_eq_true] at hc ⊢
        intro k hk
        rw [hget k]
        by_cases e : k = i
        · subst e
          rw [if_pos rfl, Bool.not_true, Bool.false_or, List.all_eq_true]
          intro j hj
          rw [hget j]; split
          · rfl
          · exact i3 j hj
        · rw [if_neg e]
          have := hc k hk
          rw [Bool.or_eq_true] at this ⊢
          rcases this with h | h
          · exact .inl h
          · refine .inr ?_
            rw [List.all_eq_true] at h ⊢
            intro j hj
            rw [hget j]; split
            · rfl
            · exact h j hj
      · have hne : dst i ≠ t := ht i i1 (by rw [hget i, if_pos rfl])
        rw [kn_get_other hne]
        exact hun t (fun j hj hd => ht j hj (by rw [hget j]; split; rfl; exact hd))
      · by_cases e : j = i
        · subst e
          exact ⟨v, kn_get_same (by rw [hsz]; exact hdst j hj), hv⟩
        · rw [hget j, if_neg e] at hd
          obtain ⟨u, hu, hF'⟩ := hF j hj hd
          refine ⟨u, ?_, hmono j w w' u hb' hF'⟩
          rw [kn_get_other (fun h => e (hinj _ _ hj i1 h.symm)), hu]
    · have := i4 j (ht j hj e)
      rw [List.getD_eq_getElem?_getD] at hd this
      cases hh : l[j]? with
      | none => rw [hh] at hd; cases hd
      | some b => rw [hh] at hd this; simp at hd this; rw [hd] at this; cases this
    · obtain ⟨v, hv, hF'⟩ := hF j (hneed i i1 j hj) (i3 j hj)
      have : a.eval (.tmp (dst j)) = v := by
        simp only [Act.eval, Array.getD_eq_getD_getElem?]
        rw [hv]; rfl
      rw [this]; exact hF'
  · rintro L a w - ⟨l, rfl, hl, hc, hb, hsz, hdf, hun, hF⟩ hr
    have hall := (chk_use hchk hl hc).2 hr
    have hd : ∀ j, j < N → l.getD j false = true := fun j hj => by
      rw [List.getD_eq_getElem?_getD, List.getElem?_eq_getElem (by omega)]
      exact hall _ (List.getElem_mem _)
    have hv : ∀ j, j < N → a.tmps[dst j]? = some (a.tmps.getD (dst j) undef) := fun j hj => by
      obtain ⟨v, hv, _⟩ := hF j hj (hd j hj)
      rw [Array.getD_eq_getD_getElem?, hv]; rfl
    have e : a = putAll dst (fun j => a.tmps.getD (dst j) undef) a0 N := by
      have h1 : (putAll dst (fun j => a.tmps.getD (dst j) undef) a0 N).tmps = a.tmps := by
        refine Array.ext_getElem? (fun t => ?_)
        exact putAll_get dst _ a0 a N hdst t hv (fun hh => hun t (fun j hj _ => hh j hj))
      have h2 := (putAll_size dst (fun j => a.tmps.getD (dst j) undef) a0 N).2
      obtain ⟨t1, d1⟩ := a
      generalize putAll dst _ a0 N = b at *
      obtain ⟨t2, d2⟩ := b
      simp only at h1 h2 hdf
      rw [h1, h2, ← hdf]
    rw [e]
    refine hQ _ w hb (fun j hj => ?_)
    obtain ⟨v, hv', hF'⟩ := hF j hj (hd j hj)
    have : a.tmps.getD (dst j) undef = v := by rw [Array.getD_eq_getD_getElem?, hv']; rfl
    rw [this]; exact hF'
/-- A region in the text's order, in the same words. -/
theorem plain_mono {ops : Array Oper} {Q : Exit → Act → World → Prop} {id N : Nat} {a0 : Act} {w0 : World} (dst : Nat → Tmp) (F : Nat → World → Value → Prop) (hN : ops.size = N) (hdst : ∀ j, j < N → dst j < a0.tmps.size) (hinj : ∀ i j, i < N → j < N → dst i = dst j → i = j)
    (hmono : ∀ i w w' v, Below w.heap.size w w' → F i w v → F i w' v)
    (hstep : ∀ i, i < N → ∀ a w, Below w0.heap.size w0 w → (∀ t, (∀ j, j < N → dst j = t → i ≤ j) → a.tmps[t]? = a0.tmps[t]?) → (∀ j, j < i → F j w (a.eval (.tmp (dst j)))) →
      wpOp Tryd.prog ops Q i (fun a' w' => ∃ v, a' = a.put (some (dst i)) v ∧ Below w.heap.size w w' ∧ F i w' v) a w)
    (hQ : ∀ (vals : Nat → Value) w, Below w0.heap.size w0 w → (∀ j, j < N → F j w (vals j)) → Q .normal (putAll dst vals a0 N) w) : (Code.region id ops false).wp Tryd.prog Q a0 w0 := by
  refine wp_region ?_
  rw [hN, List.range_eq_range']
  have key : ∀ m i (a : Act) (w : World), i + m = N → Below w0.heap.size w0 w → a.tmps.size = a0.tmps.size → a.defers = a0.defers → (∀ t, (∀ j, j < i → dst j ≠ t) → a.tmps[t]? = a0.tmps[t]?) → (∀ j, j < i → ∃ v, a.tmps[dst j]? = some v ∧ F j w v) → wpOps Tryd.prog ops Q (List.range' i m) a w := by
    intro m
    induction m with
    | zero =>
      intro i a w hi hb hsz hdf hun hF
      have hi' : i = N := by omega
      subst hi'
      show Q .normal a w
      have hv : ∀ j, j < i → a.tmps[dst j]? = some (a.tmps.getD (dst j) undef) := fun j hj => by
        obtain ⟨v, hv, _⟩ := hF j hj
        rw [Array.getD_eq_getD_getElem?, hv]; rfl
      have e : a = putAll dst (fun j => a.tmps.getD (dst j) undef) a0 i := by
        have h1 : (putAll dst (fun j => a.tmps.getD (dst j) undef) a0 i).tmps = a.tmps := by
          refine Array.ext_getElem? (fun t => ?_)
          exact putAll_get dst _ a0 a i hdst t hv (fun hh => hun t (fun j hj => hh j hj))
        have h2 := (putAll_size dst (fun j => a.tmps.getD (dst j) undef) a0 i).2
        obtain ⟨t1, d1⟩ := a
        generalize putAll dst _ a0 i = b at *
        obtain ⟨t2, d2⟩ := b
        simp only at h1 h2 hdf
        rw [h1, h2, ← hdf]
      rw [e]
      refine hQ _ w hb (fun j hj => ?_)
      obtain ⟨v, hv', hF'⟩ := hF j hj
      have : a.tmps.getD (dst j) undef = v := by rw [Array.getD_eq_getD_getElem?, hv']; rfl
      rw [this]; exact hF'
    | succ m ih =>
      intro i a w hi hb hsz hdf hun hF
      rw [List.range'_succ, wpOps_cons]
      refine wpOp_mono ?_ (hstep i (by omega) a w hb (fun t ht => hun t (fun j hj e => by have := ht j (by omega) e; omega)) (fun j hj => ?_))
      · rintro a' w' ⟨v, rfl, hb', hv⟩
        refine ih (i + 1) _ w' (by omega) (below_step hb hb') ((kn_size_put ..).trans hsz) hdf (fun t ht => ?_) (fun j hj => ?_)
        · rw [kn_get_other (ht i (by omega))]
          exact hun t (fun j hj => ht j (by omega))
        · by_cases e : j = i
          · subst e
            exact ⟨v, kn_get_same (by rw [hsz]; exact hdst j (by omega)), hv⟩
          · obtain ⟨u, hu, hF'⟩ := hF j (by omega)
            refine ⟨u, ?_, hmono j w w' u hb' hF'⟩
            rw [kn_get_other (fun h => e (hinj _ _ (by omega) (by omega) h.symm)), hu]
      · obtain ⟨v, hv, hF'⟩ := hF j hj
        have : a.eval (.tmp (dst j)) = v := by
          simp only [Act.eval, Array.getD_eq_getD_getElem?]
          rw [hv]; rfl
        rw [this]; exact hF'
  exact key N 0 a0 w0 (by omega) (Below.refl _ _) rfl rfl (fun _ _ => rfl) (fun j hj => absurd hj (by omega))

theorem ev_of {a : Act} {t : Nat} {v : Value} (h : a.tmps[t]? = some v) : a.eval (.tmp t) = v := by
  simp only [Act.eval, Array.getD_eq_getD_getElem?]; rw [h]; rfl
theorem tmp_bool {a : Act} {t : Nat} {b : Bool} (h : a.eval (.tmp t) = .bool b) : a.tmps[t]? = some (.bool b) := by
  simp only [Act.eval, Array.getD_eq_getD_getElem?] at h
  cases e : a.tmps[t]? with
  | none => rw [e] at h; cases h
  | some v => rw [e] at h; exact congrArg some h
theorem want_ev {o : Oper} {ops : Array Oper} {a : Act} {j : Nat} {d : Tmp} (hg : o.guard = some (j, true)) (hj : (ops[j]?).bind (·.dst) = some d) (ht : a.eval (.tmp d) = .bool true) : Region.wanted o (yielded ops a.tmps) = true := want_if hg hj (tmp_bool ht)
theorem op_runs' {ops : Array Oper} {Q : Exit → Act → World → Prop} {i : Nat} {d : Tmp} {F : World → Value → Prop} {a : Act} {w w' : World} {v : Value} (hi : ops[i]? = some (theOp ops i)) (hw : Region.wanted (theOp ops i) (yielded ops a.tmps) = true) (hd : (theOp ops i).dst = some d) (hr : (execOp a.eval (theOp ops i)).run Tryd.prog w = .ok (.value v) w')
    (hb : Below w.heap.size w w') (h : F w' v) : wpOp Tryd.prog ops Q i (fun a' w' => ∃ v, a' = a.put (some d) v ∧ Below w.heap.size w w' ∧ F w' v) a w := by
  refine wpOp_step hi (fun K' hK => ?_)
  rw [if_pos hw]
  unfold Oper.wp
  rw [hr]
  exact hK _ _ ⟨v, by rw [hd], hb, h⟩
theorem op_calls' {ops : Array Oper} {Q : Exit → Act → World → Prop} {i : Nat} {d : Tmp} {F : World → Value → Prop} {a : Act} {w : World} {f : FuncId} {vals : Array Value} (hi : ops[i]? = some (theOp ops i)) (hw : Region.wanted (theOp ops i) (yielded ops a.tmps) = true) (hd : (theOp ops i).dst = some d) (hr : (execOp a.eval (theOp ops i)).run Tryd.prog w = .ok (.enter f vals) w)
    (h : Calls Tryd.prog f vals w fun e w' => ∃ v, e = .returned v ∧ Below w.heap.size w w' ∧ F w' v) : wpOp Tryd.prog ops Q i (fun a' w' => ∃ v, a' = a.put (some d) v ∧ Below w.heap.size w w' ∧ F w' v) a w := by
  refine wpOp_step hi (fun K' hK => ?_)
  rw [if_pos hw]
  unfold Oper.wp
  rw [hr, Oper.upon_enter]
  refine h.mono ?_
  rintro e w' ⟨v, rfl, hb, hf⟩
  exact hK _ _ ⟨v, by rw [hd], hb, hf⟩
end Go.Proofs.YtdmnohmjobofhaaDoor
