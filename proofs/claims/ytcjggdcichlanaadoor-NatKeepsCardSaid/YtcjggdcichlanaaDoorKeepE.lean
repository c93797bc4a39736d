/- Regions that draw their order: one operation at a time. -/
import Derived.Test.YtcjggdcichlanaaDoorKeepD
namespace Go.Proofs.YtcjggdcichlanaaDoor
open Go.RowKit Nx

theorem wanted_none {o : Oper} {f : Nat → Option Bool} (hg : o.guard = none) : Region.wanted o f = true := by simp [Region.wanted, hg]
theorem wanted_if {o : Oper} {ops : Array Oper} {a : Act} {j : Nat} {d : Tmp} (hg : o.guard = some (j, true)) (hj : (ops[j]?).bind (·.dst) = some d) (ht : a.tmps[d]? = some (.bool true)) : Region.wanted o (yielded ops a.tmps) = true := by
  simp [Region.wanted, hg, yielded, hj, ht]

theorem any_take {md : Region.Mode} {ops : Array Oper} {Q : Exit → Act → World → Prop} {fuel : Nat} {L : Array Bool} {a : Act} {w : World} (i : Nat) {o : Oper} (v : Value) {d : Tmp} (hi : ops[i]? = some o) (hd : o.dst = some d)
    (hs : Region.noSelect ops = true) (hf : Region.free md ops L i = true) (hr : (Region.ready md ops L).contains i = true) (hQ : ∀ c a w, Q (.panic c) (a.put o.dst v) w → Q (.panic c) a w)
    (hw : Region.wanted o (yielded ops a.tmps) = true) (hy : ∀ w, (execOp a.eval o).run Tryd.prog w = .ok (.value v) w)
    (h : wpAny Tryd.prog md ops Q fuel (L.setIfInBounds i true) (a.put (some d) v) w) : wpAny Tryd.prog md ops Q (fuel + 1) L a w :=
  wpAny_take hi hs hf hr hQ (.inl ⟨hw, hy⟩) (by rw [hd]; exact h)

theorem enter_words (args : Array Value) (w : World) : (callFunc 14 args).run Tryd.prog w = .ok (.enter 14 args) w := by go_simp
theorem enter_add (args : Array Value) (w : World) : (callFunc 24 args).run Tryd.prog w = .ok (.enter 24 args) w := by go_simp
theorem y_call {ρ : Operand → Value} {o : Oper} {f : FuncId} {s x : Operand} {ty : Array TypeId} {v1 v2 : Value} (hf : ∀ (args : Array Value) (w : World), (callFunc f args).run Tryd.prog w = .ok (.enter f args) w)
    (ho : o.op = .call { callee := .value (.func f), args := #[s, x], argTypes := ty }) (hfn : ρ (.func f) = .func (.func f) #[] #[]) (hs : ρ s = v1) (hx : ρ x = v2) (w : World) : (execOp ρ o).run Tryd.prog w = .ok (.enter f #[v1, v2]) w := by
  unfold execOp
  rw [ho]
  go_simp

theorem any_call {md : Region.Mode} {ops : Array Oper} {Q : Exit → Act → World → Prop} {fuel : Nat} {L : Array Bool} {a : Act} {w : World} (i : Nat) {o : Oper} {d : Tmp} {f : FuncId} {s x : Operand} {ty : Array TypeId} (v1 v2 : Value) (hf : ∀ (args : Array Value) (w : World), (callFunc f args).run Tryd.prog w = .ok (.enter f args) w) (hi : ops[i]? = some o) (hd : o.dst = some d)
    (ho : o.op = .call { callee := .value (.func f), args := #[s, x], argTypes := ty }) (hr : Region.ready md ops L = [i]) (hw : Region.wanted o (yielded ops a.tmps) = true) (hs : a.eval s = v1) (hx : a.eval x = v2)
    (h : Calls Tryd.prog f #[v1, v2] w fun e w' => ∃ v, e = .returned v ∧ wpAny Tryd.prog md ops Q fuel (L.setIfInBounds i true) (a.put (some d) v) w') : wpAny Tryd.prog md ops Q (fuel + 1) L a w := by
  refine wpAny_ready hr (by simp) (AllReady.cons hi (fun K hK => ?_) AllReady.nil)
  rw [if_pos hw]
  have hrun := y_call hf ho rfl hs hx w
  unfold Oper.wp
  rw [hrun, Oper.upon_enter]
  refine h.mono ?_
  rintro e w' ⟨v, rfl, hv⟩
  rw [hd]
  exact hK _ _ hv
end Go.Proofs.YtcjggdcichlanaaDoor
