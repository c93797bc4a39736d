/- The last statement of NatKeeps, operation by operation. -/
import Derived.Test.YtcjggdcichlanaaDoorKeepE
namespace Go.Proofs.YtcjggdcichlanaaDoor
open Go.RowKit Nx

/-- What is known of a frame's slots. -/
def Kn (s : Nat) (a : Act) (l : List (Nat × Value)) : Prop := a.tmps.size = s ∧ a.defers = [] ∧ ∀ t v, (t, v) ∈ l → a.tmps[t]? = some v
theorem Kn.put {s : Nat} {a : Act} {l : List (Nat × Value)} (h : Kn s a l) (d : Tmp) (v : Value) (hd : d < s) (hf : (l.all fun p => !(p.1 == d)) = true) : Kn s (a.put (some d) v) ((d, v) :: l) := by
  refine ⟨(size_put ..).trans h.1, h.2.1, fun t u hm => ?_⟩
  rcases List.mem_cons.1 hm with e | e
  · injection e with e1 e2
    subst e1; subst e2
    exact get_same (by rw [h.1]; exact hd)
  · have := List.all_eq_true.1 hf _ e
    have hne : t ≠ d := by simpa using this
    exact (get_other (Ne.symm hne)).trans (h.2.2 t u e)
theorem Kn.ev {s : Nat} {a : Act} {l : List (Nat × Value)} (h : Kn s a l) {t : Nat} {v : Value} (hm : (t, v) ∈ l) : a.eval (.tmp t) = v := by
  simp only [Act.eval, Array.getD_eq_getD_getElem?]
  rw [h.2.2 t v hm]; rfl

section
variable {s : Nat} {a : Act} {l : List (Nat × Value)} {o : Oper}
theorem kn_move (h : Kn s a l) {t : Nat} {v : Value} (ho : o.op = .move (.tmp t)) (hm : (t, v) ∈ l) (w : World) : (execOp a.eval o).run Tryd.prog w = .ok (.value v) w := by rw [y_move ho w, h.ev hm]
theorem kn_assign (h : Kn s a l) {t : Nat} {v : Value} (ho : o.op = .assign (.tmp t)) (hm : (t, v) ∈ l) (w : World) : (execOp a.eval o).run Tryd.prog w = .ok (.value v) w := by rw [y_assign ho w, h.ev hm]
theorem kn_pick (h : Kn s a l) {t u : Nat} {y : Operand} {v : Value} (ho : o.op = .pick (.tmp t) (.tmp u) y) (ht : (t, .bool true) ∈ l) (hm : (u, v) ∈ l) (w : World) : (execOp a.eval o).run Tryd.prog w = .ok (.value v) w := by rw [y_pick ho (h.ev ht) w, h.ev hm]
theorem kn_len (h : Kn s a l) {t : Nat} {A : Option Addr} {n c : Nat} (ho : o.op = .call { callee := .builtin .len, args := #[.tmp t], argTypes := #[22] }) (hm : (t, .slice A n c) ∈ l) (w : World) : (execOp a.eval o).run Tryd.prog w = .ok (.value (.int .i64 (n : Int))) w := y_len ho (h.ev hm) w
theorem kn_add (h : Kn s a l) {t n : Nat} (ho : o.op = .binOp .add 3 (.tmp t) (.const (.int .i64 2)) 3) (hm : (t, .int .i64 (n : Int)) ∈ l) (hn : n ≤ 1000) (w : World) : (execOp a.eval o).run Tryd.prog w = .ok (.value (.int .i64 ((n : Int) + 2))) w := y_add ho (h.ev hm) rfl hn w
theorem kn_slice (h : Kn s a l) {t u g n c : Nat} (ho : o.op = .slice 22 (.tmp t) none (some (.tmp u)) none) (hx : (t, .slice (some ⟨g, 0, none⟩) n c) ∈ l) (hm : (u, .int .i64 ((n : Int) + 2)) ∈ l) (hc : n + 2 ≤ c) (w : World) : (execOp a.eval o).run Tryd.prog w = .ok (.value (.slice (some ⟨g, 0, none⟩) (n + 2) c)) w := y_slice ho (h.ev hx) (h.ev hm) hc w
end

def lastRegion : Code → Array Oper
  | .seq (.region _ ops _) .ret => ops
  | .seq _ b => lastRegion b
  | _ => #[]
/-- The operations of a function's last statement. -/
def lastOf (f : Func) : Array Oper := lastRegion (f.body.getD .skip)
def opAt (ops : Array Oper) (i : Nat) : Oper := ops.getD i ⟨none, .move (.const (.bool false)), 0, "", #[], none⟩

/-- One operation that yields in whatever world; the frame behind it is a letter. -/
theorem kn_take {ops : Array Oper} {Q : Exit → Act → World → Prop} {fuel : Nat} {L : Array Bool} {a : Act} {w : World} {l : List (Nat × Value)} (i : Nat) (d : Tmp) (v : Value) (hk : Kn 107 a l) (hS : Region.noSelect ops = true) (hi : ops[i]? = some (opAt ops i)) (hd : (opAt ops i).dst = some d)
    (hf : Region.free .any ops L i = true) (hr : (Region.ready .any ops L).contains i = true) (hQ : ∀ c a (d : Tmp) v w, Q (.panic c) (a.put (some d) v) w → Q (.panic c) a w)
    (hw : Region.wanted (opAt ops i) (yielded ops a.tmps) = true) (hy : ∀ w, (execOp a.eval (opAt ops i)).run Tryd.prog w = .ok (.value v) w) (hlt : d < 107) (hl : (l.all fun p => !(p.1 == d)) = true)
    (h : ∀ a', Kn 107 a' ((d, v) :: l) → wpAny Tryd.prog .any ops Q fuel (L.setIfInBounds i true) a' w) : wpAny Tryd.prog .any ops Q (fuel + 1) L a w :=
  any_take i v hi hd hS hf hr (fun c a w hh => hQ c a d v w (by rw [hd] at hh; exact hh)) hw hy (h _ (hk.put d v hlt hl))

/-- A call whose contract gives one value. -/
theorem kn_call {ops : Array Oper} {Q : Exit → Act → World → Prop} {fuel : Nat} {L : Array Bool} {a : Act} {w : World} {l : List (Nat × Value)} (i : Nat) (d : Tmp) {f : FuncId} {s x : Nat} (v1 v2 : Value) (hk : Kn 107 a l) (hf : ∀ (args : Array Value) (w : World), (callFunc f args).run Tryd.prog w = .ok (.enter f args) w) (hi : ops[i]? = some (opAt ops i)) (hd : (opAt ops i).dst = some d)
    (ho : (opAt ops i).op = .call { callee := .value (.func f), args := #[.tmp s, .tmp x], argTypes := #[22, 22] }) (hr : Region.ready .any ops L = [i]) (hw : Region.wanted (opAt ops i) (yielded ops a.tmps) = true) (hs : (s, v1) ∈ l) (hx : (x, v2) ∈ l) (hlt : d < 107) (hl : (l.all fun p => !(p.1 == d)) = true)
    (h : Calls Tryd.prog f #[v1, v2] w fun e w' => ∃ v, e = .returned v ∧ ∀ a', Kn 107 a' ((d, v) :: l) → wpAny Tryd.prog .any ops Q fuel (L.setIfInBounds i true) a' w') : wpAny Tryd.prog .any ops Q (fuel + 1) L a w := by
  refine any_call i v1 v2 hf hi hd ho hr hw (hk.ev hs) (hk.ev hx) (h.mono ?_)
  rintro e w' ⟨v, rfl, hv⟩
  exact ⟨v, rfl, hv _ (hk.put d v hlt hl)⟩

/-- A copy with two words behind it. -/
theorem kn_group {ops : Array Oper} {Q : Exit → Act → World → Prop} {fuel : Nat} {L : Array Bool} {a : Act} {W W0 : World} {l : List (Nat × Value)} {i5 i7 i8 i9 : Nat} {d5 d7 d8 d9 sx : Tmp} {A : Option Addr} {n c : Nat} {xs : List Nat} (hk : Kn 107 a l)
    (F : Four .any ops L a i5 i7 i8 i9 (opAt ops i5) (opAt ops i7) (opAt ops i8) (opAt ops i9) d5 d7 d8 d9 sx) (hx : (sx, .slice A n c) ∈ l) (hr : Rd .u64 W0 0 W0.heap.size A n c xs) (hn : n ≤ 1000000) (hB : Below W0.heap.size W0 W)
    (l5 : d5 < 107) (l7 : d7 < 107) (l8 : d8 < 107) (l9 : d9 < 107) (f5 : (l.all fun p => !(p.1 == d5)) = true) (f7 : (l.all fun p => !(p.1 == d7)) = true) (f8 : (l.all fun p => !(p.1 == d8)) = true) (f9 : (l.all fun p => !(p.1 == d9)) = true) (hne : d5 ≠ d7 ∧ d5 ≠ d8 ∧ d7 ≠ d8 ∧ d5 ≠ d9 ∧ d7 ≠ d9 ∧ d8 ≠ d9)
    (h : ∀ a' A' c' W', Kn 107 a' ((d9, .slice A' (n + 2) c') :: l) → Rd .u64 W' 0 W'.heap.size A' (n + 2) c' (xs ++ [77, 77]) → Below W0.heap.size W0 W' →
      wpAny Tryd.prog .any ops Q fuel ((((L.setIfInBounds i5 true).setIfInBounds i7 true).setIfInBounds i8 true).setIfInBounds i9 true) a' W') : wpAny Tryd.prog .any ops Q (fuel + 4) L a W := by
  obtain ⟨n57, n58, n78, n59, n79, n89⟩ := hne
  refine group_law F (hk.ev hx) hr hn hB ?_
  intro v5 v7 v8 A' c' W' h1 h2
  refine h _ A' c' W' ?_ h1 h2
  have k5 := hk.put d5 v5 l5 f5
  have k7 := k5.put d7 v7 l7 (by simp only [List.all_cons, f7, Bool.and_true]; simpa using n57)
  have k8 := k7.put d8 v8 l8 (by simp only [List.all_cons, f8, Bool.and_true]; simp [n58, n78])
  have k9 := k8.put d9 (.slice A' (n + 2) c') l9 (by simp only [List.all_cons, f9, Bool.and_true]; simp [n59, n79, n89])
  refine ⟨k9.1, k9.2.1, fun t v hm => k9.2.2 t v ?_⟩
  rcases List.mem_cons.1 hm with e | e
  · exact e ▸ List.mem_cons_self
  · exact List.mem_cons_of_mem _ (List.mem_cons_of_mem _ (List.mem_cons_of_mem _ (List.mem_cons_of_mem _ e)))
end Go.Proofs.YtcjggdcichlanaaDoor
