/- A drawn region, operation by operation, over a frame that is a letter; a condition on the world is held. -/
import Derived.Test.YtdmnohmjobofhaaDoorNumPR
import Derived.Test.YtdmnohmjobofhaaDoorFld
namespace Go.Proofs.YtdmnohmjobofhaaDoor
open Go.RowKit Nx

theorem kn_get_other {a : Act} {d d' : Tmp} {v : Value} (h : d ≠ d') : (a.put (some d) v).tmps[d']? = a.tmps[d']? := by
  simp only [Act.put, Array.getElem?_setIfInBounds_ne h]
theorem kn_get_same {a : Act} {d : Tmp} {v : Value} (h : d < a.tmps.size) : (a.put (some d) v).tmps[d]? = some v := by
  simp [Act.put, h]
theorem kn_size_put (a : Act) (d : Tmp) (v : Value) : (a.put (some d) v).tmps.size = a.tmps.size := by simp [Act.put]
theorem want_none {o : Oper} {f : Nat → Option Bool} (hg : o.guard = none) : Region.wanted o f = true := by simp [Region.wanted, hg]
theorem want_if {o : Oper} {ops : Array Oper} {a : Act} {j : Nat} {d : Tmp} (hg : o.guard = some (j, true)) (hj : (ops[j]?).bind (·.dst) = some d) (ht : a.tmps[d]? = some (.bool true)) : Region.wanted o (yielded ops a.tmps) = true := by
  simp [Region.wanted, hg, yielded, hj, ht]

/-- What is known of a frame's slots. -/
def Kno (s : Nat) (a : Act) (l : List (Nat × Value)) : Prop := a.tmps.size = s ∧ a.defers = [] ∧ ∀ t v, (t, v) ∈ l → a.tmps[t]? = some v
theorem Kno.put {s : Nat} {a : Act} {l : List (Nat × Value)} (h : Kno s a l) (d : Tmp) (v : Value) (hd : d < s) (hf : (l.all fun p => !(p.1 == d)) = true) : Kno s (a.put (some d) v) ((d, v) :: l) := by
  refine ⟨(kn_size_put ..).trans h.1, h.2.1, fun t u hm => ?_⟩
  rcases List.mem_cons.1 hm with e | e
  · injection e with e1 e2
    subst e1; subst e2
    exact kn_get_same (by rw [h.1]; exact hd)
  · have := List.all_eq_true.1 hf _ e
    have hne : t ≠ d := by simpa using this
    exact (kn_get_other (Ne.symm hne)).trans (h.2.2 t u e)
theorem Kno.ev {s : Nat} {a : Act} {l : List (Nat × Value)} (h : Kno s a l) {t : Nat} {v : Value} (hm : (t, v) ∈ l) : a.eval (.tmp t) = v := by
  simp only [Act.eval, Array.getD_eq_getD_getElem?]
  rw [h.2.2 t v hm]; rfl
theorem Kno.less {s : Nat} {a : Act} {l l' : List (Nat × Value)} (h : Kno s a l) (hs : ∀ p, p ∈ l' → p ∈ l) : Kno s a l' := ⟨h.1, h.2.1, fun t v hm => h.2.2 t v (hs _ hm)⟩

def theOp (ops : Array Oper) (i : Nat) : Oper := ops.getD i ⟨none, .move (.const (.bool false)), 0, "", #[], none⟩
def endRegion : Code → Array Oper
  | .seq (.region _ ops _) .ret => ops
  | .seq _ b => endRegion b
  | _ => #[]
/-- The operations of a function's last statement. -/
def endOf (f : Func) : Array Oper := endRegion (f.body.getD .skip)
/-- The first k of n are done. -/
def doneOf (n k : Nat) : Array Bool := (List.replicate k true ++ List.replicate (n - k) false).toArray

section
variable {ops : Array Oper} {Q : Exit → Act → World → Prop} {S : World → Prop} {fuel sz : Nat} {L L' : Array Bool} {a : Act} {w : World} {l : List (Nat × Value)}
theorem kh_take (i : Nat) (d : Tmp) (v : Value) (hk : Kno sz a l) (hS : Region.noSelect ops = true) (hi : ops[i]? = some (theOp ops i)) (hd : (theOp ops i).dst = some d)
    (hf : Region.free .any ops L i = true) (hr : (Region.ready .any ops L).contains i = true) (hL : L.setIfInBounds i true = L') (hQ : ∀ c a (d : Tmp) v w, Q (.panic c) (a.put (some d) v) w → Q (.panic c) a w)
    (hw : Region.wanted (theOp ops i) (yielded ops a.tmps) = true) (hy : ∀ w, S w → (execOp a.eval (theOp ops i)).run Tryd.prog w = .ok (.value v) w) (hs : S w) (hlt : d < sz) (hl : (l.all fun p => !(p.1 == d)) = true)
    (h : ∀ a', Kno sz a' ((d, v) :: l) → wpAnyH Tryd.prog .any ops Q S fuel L' a' w) : wpAnyH Tryd.prog .any ops Q S (fuel + 1) L a w := by
  refine wpAnyH_take hi hS hf hr (fun c a w hh => hQ c a d v w (by rw [hd] at hh; exact hh)) (.inl ⟨hw, hy⟩) hs ?_
  rw [hd, hL]
  exact h _ (hk.put d v hlt hl)
theorem kh_one (i : Nat) (d : Tmp) (hi : ops[i]? = some (theOp ops i)) (_hd : (theOp ops i).dst = some d) (hr : Region.ready .any ops L = [i]) (hL : L.setIfInBounds i true = L') (hw : Region.wanted (theOp ops i) (yielded ops a.tmps) = true)
    (h : Oper.wp Tryd.prog (theOp ops i) a w (fun a' w' => S w' ∧ wpAnyH Tryd.prog .any ops Q S fuel L' a' w') Q) : wpAnyH Tryd.prog .any ops Q S (fuel + 1) L a w := by
  refine wpAnyH_ready hr (by simp) (AllReadyH.cons hi (fun K hK => ?_) AllReadyH.nil)
  rw [if_pos hw]
  refine Oper.wp_mono (fun a' w' hh => ?_) h
  rw [← hL] at hh
  exact hK.out a' w' hh.1 (fun _ => hh.2)
theorem kh_call (i : Nat) (d : Tmp) {f : FuncId} (_args : Array Operand) (vals : Array Value) (hk : Kno sz a l) (hi : ops[i]? = some (theOp ops i)) (hd : (theOp ops i).dst = some d) (hr : Region.ready .any ops L = [i]) (hL : L.setIfInBounds i true = L')
    (hw : Region.wanted (theOp ops i) (yielded ops a.tmps) = true) (hrun : (execOp a.eval (theOp ops i)).run Tryd.prog w = .ok (.enter f vals) w) (hlt : d < sz) (hl : (l.all fun p => !(p.1 == d)) = true)
    (h : Calls Tryd.prog f vals w fun e w' => ∃ v, e = .returned v ∧ S w' ∧ ∀ a', Kno sz a' ((d, v) :: l) → wpAnyH Tryd.prog .any ops Q S fuel L' a' w') : wpAnyH Tryd.prog .any ops Q S (fuel + 1) L a w := by
  refine kh_one i d hi hd hr hL hw ?_
  unfold Oper.wp
  rw [hrun, Oper.upon_enter]
  refine h.mono ?_
  rintro e w' ⟨v, rfl, h1, h2⟩
  rw [hd]
  exact ⟨h1, h2 _ (hk.put d v hlt hl)⟩
theorem kh_build (i : Nat) (d : Tmp) (v : Value) (w' : World) (hk : Kno sz a l) (hi : ops[i]? = some (theOp ops i)) (hd : (theOp ops i).dst = some d) (hr : Region.ready .any ops L = [i]) (hL : L.setIfInBounds i true = L')
    (hw : Region.wanted (theOp ops i) (yielded ops a.tmps) = true) (hrun : (execOp a.eval (theOp ops i)).run Tryd.prog w = .ok (.value v) w') (hlt : d < sz) (hl : (l.all fun p => !(p.1 == d)) = true) (hs : S w')
    (h : ∀ a', Kno sz a' ((d, v) :: l) → wpAnyH Tryd.prog .any ops Q S fuel L' a' w') : wpAnyH Tryd.prog .any ops Q S (fuel + 1) L a w := by
  refine kh_one i d hi hd hr hL hw ?_
  unfold Oper.wp
  rw [hrun]
  show S w' ∧ _
  rw [hd]
  exact ⟨hs, h _ (hk.put d v hlt hl)⟩
end

section
variable {ρ : Operand → Value} {o : Oper} {w : World}
theorem z_move {x : Operand} {v : Value} (ho : o.op = .move x) (hx : ρ x = v) : (execOp ρ o).run Tryd.prog w = .ok (.value v) w := by
  subst hx; unfold execOp; rw [ho]; rfl
theorem z_assign {x : Operand} {v : Value} (ho : o.op = .assign x) (hx : ρ x = v) : (execOp ρ o).run Tryd.prog w = .ok (.value v) w := by
  subst hx; unfold execOp; rw [ho]; rfl
theorem z_pick {c x y : Operand} {v : Value} (ho : o.op = .pick c x y) (hc : ρ c = .bool true) (hx : ρ x = v) : (execOp ρ o).run Tryd.prog w = .ok (.value v) w := by
  subst hx; unfold execOp; rw [ho]; simp only [hc]; rfl
theorem z_len {s : Operand} {A : Option Addr} {n c : Nat} (ho : o.op = .call { callee := .builtin .len, args := #[s], argTypes := #[26] }) (hs : ρ s = .slice A n c) : (execOp ρ o).run Tryd.prog w = .ok (.value (.int .i64 (n : Int))) w := by
  unfold execOp; rw [ho]; go_simp
theorem z_addr {t : Operand} {g j : Nat} (hj : j ≤ 2) (ho : o.op = .fieldAddr 28 t j) (ht : ρ t = .pointer (some ⟨g, 0, none⟩)) : (execOp ρ o).run Tryd.prog w = .ok (.value (.pointer (some ⟨g, j, none⟩))) w := by
  unfold execOp; rw [ho]
  match j, hj with
  | 0, _ => go_simp
  | 1, _ => go_simp
  | 2, _ => go_simp
theorem z_load {T : TypeId} {t : Operand} {p : Addr} {v : Value} (hT : T = 2 ∨ T = 26) (ho : o.op = .load T t) (ht : ρ t = .pointer (some p)) (hc : w.cell? p = some v) : (execOp ρ o).run Tryd.prog w = .ok (.value v) w := by
  unfold execOp; rw [ho]
  rcases hT with rfl | rfl <;> go_simp
theorem z_load3 {t : Operand} {g : Nat} {s : Bool} {e : Int} {A : Option Addr} {n c : Nat} (ho : o.op = .load 28 t) (ht : ρ t = .pointer (some ⟨g, 0, none⟩)) (hk : Bx w g s e A n c) : (execOp ρ o).run Tryd.prog w = .ok (.value (.agg #[.bool s, .int .i64 e, .slice A n c])) w := by
  have h0 := hk.c0; have h1 := hk.c1; have h2 := hk.c2
  unfold execOp; rw [ho]
  go_simp
theorem z_eql {T : TypeId} {t : Operand} {k : Int} (hT : T = 2 ∨ T = 3 ∨ T = 29) (ho : o.op = .binOp .eql T t (.const (.int .i64 k)) T) (hc : ρ (.const (.int .i64 k)) = .int .i64 k) (ht : ρ t = .int .i64 k) : (execOp ρ o).run Tryd.prog w = .ok (.value (.bool true)) w := by
  unfold execOp; rw [ho]
  rcases hT with rfl | rfl | rfl <;> go_simp
theorem z_not {t : Operand} (ho : o.op = .unOp .not 4 t) (ht : ρ t = .bool false) : (execOp ρ o).run Tryd.prog w = .ok (.value (.bool true)) w := by
  unfold execOp; rw [ho]; go_simp
theorem z_field0 {t : Operand} {b : Bool} {e : Int} {A : Option Addr} {n c : Nat} (ho : o.op = .field 28 t 0) (ht : ρ t = .agg #[.bool b, .int .i64 e, .slice A n c]) : (execOp ρ o).run Tryd.prog w = .ok (.value (.bool b)) w := by
  have F := run_field0 b e A n c w
  unfold execOp; rw [ho]; go_simp
theorem z_field2 {t : Operand} {b : Bool} {e : Int} {A : Option Addr} {n c : Nat} (ho : o.op = .field 28 t 2) (ht : ρ t = .agg #[.bool b, .int .i64 e, .slice A n c]) : (execOp ρ o).run Tryd.prog w = .ok (.value (.slice A n c)) w := by
  have F := run_field2 b e A n c w
  unfold execOp; rw [ho]; go_simp
theorem z_build {k : Nat} (ho : o.op = .buildSlice 26 1 #[(0, .const (.int .u64 (k : Int)))]) (hc : ρ (.const (.int .u64 (k : Int))) = .int .u64 (k : Int)) : (execOp ρ o).run Tryd.prog w = .ok (.value (.slice (some ⟨w.heap.size, 0, none⟩) 1 1)) (w.alloc (.cells #[.int .u64 (k : Int)] 41)) := by
  unfold execOp; rw [ho]; go_simp
theorem z_call1 {f : FuncId} {x : Operand} {ty : Array TypeId} {v : Value} (hf : ∀ (args : Array Value) (w : World), (callFunc f args).run Tryd.prog w = .ok (.enter f args) w)
    (ho : o.op = .call { callee := .value (.func f), args := #[x], argTypes := ty }) (hfn : ρ (.func f) = .func (.func f) #[] #[]) (hx : ρ x = v) : (execOp ρ o).run Tryd.prog w = .ok (.enter f #[v]) w := by
  unfold execOp; rw [ho]; go_simp
theorem z_call2 {f : FuncId} {x y : Operand} {ty : Array TypeId} {v u : Value} (hf : ∀ (args : Array Value) (w : World), (callFunc f args).run Tryd.prog w = .ok (.enter f args) w)
    (ho : o.op = .call { callee := .value (.func f), args := #[x, y], argTypes := ty }) (hfn : ρ (.func f) = .func (.func f) #[] #[]) (hx : ρ x = v) (hy : ρ y = u) : (execOp ρ o).run Tryd.prog w = .ok (.enter f #[v, u]) w := by
  unfold execOp; rw [ho]; go_simp
theorem en_words (args : Array Value) (w : World) : (callFunc 14 args).run Tryd.prog w = .ok (.enter 14 args) w := by go_simp
theorem en_right (args : Array Value) (w : World) : (callFunc 25 args).run Tryd.prog w = .ok (.enter 25 args) w := by go_simp
theorem en_same (args : Array Value) (w : World) : (callFunc 13 args).run Tryd.prog w = .ok (.enter 13 args) w := by go_simp
end
end Go.Proofs.YtdmnohmjobofhaaDoor
