/- Slices that a call builds by append. -/
import Derived.Test.YtimkifkikcohgaaDoorRefA
import Derived.Maps.AppendAt
namespace Go.Proofs.YtimkifkikcohgaaDoor
open Go.RowKit Nx

/-- The slice v is the call's own, from block 'base' on, and reads as the numbers xs. -/
def OutL (k : IntKind) (t : TypeId) (w : World) (base : Nat) (v : Value) (xs : List Nat) : Prop := w.ownsRow base t 1 v xs.length (ints k xs)

theorem OutL.nil (k : IntKind) (t : TypeId) (w : World) (base : Nat) : OutL k t w base (.slice none 0 0) [] := ⟨rfl, .inl ⟨rfl, rfl⟩⟩
theorem OutL.rd {k : IntKind} {t : TypeId} {w : World} {base : Nat} {v : Value} {xs : List Nat} (h : OutL k t w base v xs) : ∃ (A : Option Addr) (c : Nat), v = .slice A xs.length c ∧ Rd k w base w.heap.size A xs.length c xs := by
  rcases h.2 with ⟨hv, hx⟩ | ⟨g, cap, cur, hv, hg, hh, hn, hcap, hsz, htake⟩
  · have : xs = [] := List.eq_nil_of_length_eq_zero (by simpa [ints] using hx)
    subst this
    exact ⟨none, 0, hv, Rd.none_⟩
  · refine ⟨_, cap, hv, rfl, hn, fun _ => ⟨_, rfl, hg, ?_, fun j u hu => ?_⟩⟩
    · exact Blk.lt (t := t) (cs := cur) hh
    · exact h.cells (g := g) (by rw [hv]; rfl) j _ (by rw [ints_get, hu]; rfl)
theorem OutL.rdn {k : IntKind} {t : TypeId} {w : World} {base : Nat} {v : Value} {xs : List Nat} (h : OutL k t w base v xs) : ∃ (A : Option Addr) (n c : Nat), v = .slice A n c ∧ Hid (xs.length = n) ∧ Hid (Rd k w base w.heap.size A n c xs) := by
  obtain ⟨A, c, hv, hr⟩ := h.rd
  exact ⟨A, _, c, hv, Lib.hid rfl, Lib.hid hr⟩
theorem OutL.keep {k : IntKind} {t : TypeId} {w w' : World} {base : Nat} {v : Value} {xs : List Nat} (h : OutL k t w base v xs) (hb : Below w.heap.size w w') : OutL k t w' base v xs := by
  refine ⟨h.1, ?_⟩
  rcases h.2 with h1 | ⟨g, cap, cur, hv, hg, hh, r⟩
  · exact .inl h1
  · exact .inr ⟨g, cap, cur, hv, hg, (hb.block g (Blk.lt (t := t) (cs := cur) hh)).trans hh, r⟩
theorem OutL.drew_ {k : IntKind} {t : TypeId} {w : World} {base : Nat} {v : Value} {xs : List Nat} (h : OutL k t w base v xs) : OutL k t w.drew base v xs := h
theorem OutL.own {k : IntKind} {t : TypeId} {w : World} {base : Nat} {v : Value} {xs : List Nat} (h : OutL k t w base v xs) : ∀ g, v.ownBlock = some g → base ≤ g := by
  intro g hg
  rcases h.2 with ⟨hv, _⟩ | ⟨g', cap, cur, hv, hb, _⟩
  · rw [hv] at hg; simp [Value.ownBlock] at hg
  · rw [hv] at hg
    have : g' = g := by simpa [Value.ownBlock] using hg
    omega

/-- append of numbers that lie in a new block. -/
theorem out_append (k : IntKind) (T t : TypeId) (b : Nat) (z : Value) (hT : Tryd.prog.underlying T = some (.slice t)) (hi : (Tryd.prog.info? t).map (fun i => (i.zero, i.size, i.bytes)) = some (some z, 1, b)) (hz : z.cells.size = 1) (hb8 : b ≤ 8)
    (w : World) (base : Nat) (v : Value) (xs news : List Nat) (h : OutL k t w base v xs) (hbase : base ≤ w.heap.size) (hl : xs.length + news.length ≤ 1000000000) :
    ∃ v' w', (Builtin.append_ #[T, T] T #[v, .slice (some ⟨w.heap.size, 0, none⟩) news.length news.length]).run Tryd.prog (w.alloc (.cells (ints k news).toArray t)) = .ok v' w' ∧ OutL k t w' base v' (xs ++ news) ∧ Below base w w' := by
  obtain ⟨i, h1, h2, h3, h4⟩ := info_parts hi
  have hw : Row k (w.alloc (.cells (ints k news).toArray t)) w.heap.size t news := Blk.new w t _
  have hn : ∀ j u, (ints k news)[j]? = some u → (w.alloc (.cells (ints k news).toArray t)).cell? ((⟨w.heap.size, 0, none⟩ : Addr).add j) = some u := by
    intro j u hu
    rw [addr_add, Nat.zero_add, Blk.cell hw]
    simpa using hu
  obtain ⟨v', w', hr, hown, hg, _, hat⟩ := run_append_own_at (P := Tryd.prog) (w.alloc (.cells (ints k news).toArray t)) base T T t i z 1 b hT h1 h2 h3 h4 hz (by omega) v xs.length (ints k xs) (World.ownsRow.alloc h _) ⟨w.heap.size, 0, none⟩ news.length news.length (ints k news)
    (by rw [ints_length]; omega) hn (ints_one _ _) (by unfold maxLen; omega) (by have : (xs.length + news.length) * b ≤ (xs.length + news.length) * 8 := Nat.mul_le_mul_left _ hb8
                                                                                 omega) (by simp; omega)
  refine ⟨v', w', hr, ?_, ?_⟩
  · unfold OutL
    rw [List.length_append]
    have : ints k (xs ++ news) = ints k xs ++ ints k news := by simp [ints]
    rw [this]; exact hown
  · exact ((Below.refl base w).alloc hbase _).grown hg (by simp; omega) (fun g hgg => h.own g hgg)

/-! append by the equation of its run. -/
section
variable {P : Program} {w : World}
theorem wp_append_run {o : Oper} {a : Act} {K : Act → World → Prop} {Q : Exit → Act → World → Prop} (s x : Operand) (t : TypeId)
    (ho : o.op = .call { callee := .builtin .append, args := #[s, x], argTypes := #[t, t] }) (v u v' : Value) (w' : World) (hs : a.eval s = v) (hx : a.eval x = u)
    (hr : (Builtin.append_ #[t, t] o.type #[v, u]).run P w = .ok v' w') (h : K (a.put o.dst v') w') : o.wp P a w K Q := by
  unfold Oper.wp execOp
  simp only [ho, resolve, invoke, builtin, Sem.run_bind, Sem.run_pure, Result.andThen_ok, List.map_toArray, List.map_cons, List.map_nil, hs, hx, hr]
  exact h
theorem wpList_append_run {ops : Array Oper} {rest : List Oper} {o : Oper} {a : Act} {Q : Exit → Act → World → Prop} (hgd : o.guard = none) (s x : Operand) (t : TypeId)
    (ho : o.op = .call { callee := .builtin .append, args := #[s, x], argTypes := #[t, t] }) (v u v' : Value) (w' : World) (hs : a.eval s = v) (hx : a.eval x = u)
    (hr : (Builtin.append_ #[t, t] o.type #[v, u]).run P w = .ok v' w') (h : wpList P ops Q rest (a.put o.dst v') w') : wpList P ops Q (o :: rest) a w :=
  wpList_plain hgd fun _ hK => wp_append_run s x t ho v u v' w' hs hx hr (hK _ _ h)
theorem step_append_run {ops : Array Oper} {o : Oper} {a : Act} {K : Act → World → Prop} {Q : Exit → Act → World → Prop} {E : Prop} (hgd : o.guard = none) (s x : Operand) (t : TypeId)
    (ho : o.op = .call { callee := .builtin .append, args := #[s, x], argTypes := #[t, t] }) (v u v' : Value) (w' : World) (hs : a.eval s = v) (hx : a.eval x = u)
    (hr : (Builtin.append_ #[t, t] o.type #[v, u]).run P w = .ok v' w') (h : K (a.put o.dst v') w') : if Region.wanted o (yielded ops a.tmps) = true then Oper.wp P o a w K Q else E := by
  have hw : Region.wanted o (yielded ops a.tmps) = true := by simp [Region.wanted, hgd]
  rw [if_pos hw]
  exact wp_append_run s x t ho v u v' w' hs hx hr h
end
end Go.Proofs.YtimkifkikcohgaaDoor
