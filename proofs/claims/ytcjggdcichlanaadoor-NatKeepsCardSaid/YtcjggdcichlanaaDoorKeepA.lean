/- Copies by append; writes into what a call has made. -/
import Derived.Test.YtcjggdcichlanaaDoorOut
import Derived.Test.YtcjggdcichlanaaDoorRings
import Derived.Test.YtcjggdcichlanaaDoorPart
import Derived.ArgAppend
namespace Go.Proofs.YtcjggdcichlanaaDoor
open Go.RowKit Nx

theorem OutL.less {k : IntKind} {t : TypeId} {w : World} {base base' : Nat} {v : Value} {xs : List Nat} (h : OutL k t w base v xs) (hb : base' ≤ base) : OutL k t w base' v xs := by
  refine ⟨h.1, ?_⟩
  rcases h.2 with h1 | ⟨g, cap, cur, hv, hg, r⟩
  · exact .inl h1
  · exact .inr ⟨g, cap, cur, hv, by omega, r⟩
theorem below_of_none {W W' : World} (h : W.grownBy W' none) : Below W.heap.size W W' := ⟨h.os, h.tape, h.output, h.size, fun i hi => h.block i hi (by simp)⟩

/-- An empty block that the call has made. -/
def Emp (w : World) (g base : Nat) : Prop := Blk w g 27 #[] ∧ base ≤ g
theorem Emp.new {w W : World} {g base : Nat} (hW : W = w.alloc (.cells #[] 27)) (hg : g = w.heap.size) (hb : base ≤ w.heap.size) : Emp W g base := by
  subst hW; subst hg; exact ⟨Blk.new w _ _, hb⟩
theorem Emp.step {w w' : World} {g base : Nat} (h : Emp w g base) (hb : Below w.heap.size w w') : Emp w' g base := ⟨h.1.below hb h.1.lt, h.2⟩
theorem Emp.out {w : World} {g base : Nat} (h : Emp w g base) : OutL .u64 27 w base (.slice (some ⟨g, 0, none⟩) 0 0) [] :=
  ⟨rfl, .inr ⟨g, 0, #[], rfl, h.2, h.1, Nat.le_refl _, Nat.zero_le _, rfl, rfl⟩⟩

/-- append of a slice's numbers to an empty slice. -/
theorem run_app0 (w : World) (g base n c : Nat) (A : Option Addr) (xs : List Nat) (he : Emp w g base) (hr : Rd .u64 w 0 w.heap.size A n c xs) (hn : n ≤ 1000000) (hb : base ≤ w.heap.size) :
    ∃ v' w', (Builtin.append_ #[22, 22] 22 #[.slice (some ⟨g, 0, none⟩) 0 0, .slice A n c]).run Tryd.prog w = .ok v' w' ∧ OutL .u64 27 w' base v' xs ∧ Below w.heap.size w w' := by
  obtain ⟨i, h1, h2, h3, h4⟩ := info_parts info64
  have ht : Tryd.prog.underlying 22 = some (.slice 27) := Tryd.underlying22
  rcases Nat.eq_zero_or_pos n with e | e
  · subst e
    have hx : xs = [] := List.eq_nil_of_length_eq_zero hr.1
    subst hx
    refine ⟨_, w, ?_, he.out, Below.refl _ _⟩
    cases A <;> simp [Builtin.append_, run_underlying ht, sizeOf, typeInfo, h1, Builtin.lenOf, Builtin.firstCells, storeCells, loadCells, loadCellsFrom]
  · obtain ⟨ad, rfl, _, _, hc⟩ := hr.2.2 e
    obtain ⟨v', w', hrun, hown, hg⟩ := run_append_arg_grows (P := Tryd.prog) w 22 22 27 i (.int .u64 0) 1 8 ht h1 h2 h3 h4 rfl (by omega) ⟨g, 0, none⟩ 0 0 [] rfl (fun j u h => by cases h) ad n c (ints .u64 xs)
      (by rw [ints_length, hr.1]; omega) (fun j u hu => by
        rw [ints_get] at hu
        cases hx : xs[j]? with
        | none => rw [hx] at hu; cases hu
        | some z => rw [hx] at hu; injection hu with hu; rw [← hu]; exact hc j z hx) (by omega) (by unfold maxLen; omega) (by omega)
    refine ⟨v', w', hrun, ?_, below_of_none hg⟩
    have : OutL .u64 27 w' w.heap.size v' xs := by
      unfold OutL
      rw [hr.1]
      simpa using hown
    exact this.less hb

/-- A block of the two words 77. -/
def Two (w : World) (h : Nat) : Prop := Row .u64 w h 27 [77, 77]
theorem Two.new {w W : World} {h : Nat} (hW : W = w.alloc (.cells #[.int .u64 77, .int .u64 77] 27)) (hg : h = w.heap.size) : Two W h := by
  subst hW; subst hg; exact Blk.new w _ _
theorem Two.step {w w' : World} {h : Nat} (ht : Two w h) (hb : Below w.heap.size w w') : Two w' h := Blk.below (t := 27) ht hb (Blk.lt (t := 27) ht)

theorem run_app2 (w : World) (base h : Nat) (v : Value) (xs : List Nat) (ho : OutL .u64 27 w base v xs) (ht : Two w h) (hbase : base ≤ w.heap.size) (hl : xs.length ≤ 1000000) :
    ∃ v' w', (Builtin.append_ #[22, 22] 22 #[v, .slice (some ⟨h, 0, none⟩) 2 2]).run Tryd.prog w = .ok v' w' ∧ OutL .u64 27 w' base v' (xs ++ [77, 77]) ∧ Below base w w' := by
  obtain ⟨i, h1, h2, h3, h4⟩ := info_parts info64
  have hT : Tryd.prog.underlying 22 = some (.slice 27) := Tryd.underlying22
  have hn : ∀ j u, (ints .u64 [77, 77])[j]? = some u → w.cell? ((⟨h, 0, none⟩ : Addr).add j) = some u := by
    intro j u hu
    rw [addr_add, Nat.zero_add, Blk.cell (t := 27) ht]
    simpa using hu
  obtain ⟨v', w', hr, hown, hg, _, hat⟩ := run_append_own_at (P := Tryd.prog) w base 22 22 27 i (.int .u64 0) 1 8 hT h1 h2 h3 h4 rfl (by omega) v xs.length (ints .u64 xs) ho ⟨h, 0, none⟩ 2 2 (ints .u64 [77, 77])
    rfl hn (ints_one _ _) (by unfold maxLen; omega) (by omega) hbase
  refine ⟨v', w', hr, ?_, ?_⟩
  · unfold OutL
    rw [List.length_append]
    have : ints .u64 (xs ++ [77, 77]) = ints .u64 xs ++ ints .u64 [77, 77] := by simp [ints]
    rw [this]; exact hown
  · exact (Below.refl base w).grown hg hbase (fun g hgg => ho.own g hgg)

/-- The two laws at a step of a region that draws its order. -/
theorem step_of_run {P : Program} {w w' : World} {ops : Array Oper} {o : Oper} {a : Act} {K : Act → World → Prop} {Q : Exit → Act → World → Prop} {E : Prop} (hw : Region.wanted o (yielded ops a.tmps) = true) (s x : Operand) (t : TypeId)
    (ho : o.op = .call { callee := .builtin .append, args := #[s, x], argTypes := #[t, t] }) (v u v' : Value) (hs : a.eval s = v) (hx : a.eval x = u)
    (hr : (Builtin.append_ #[t, t] o.type #[v, u]).run P w = .ok v' w') (h : K (a.put o.dst v') w') : if Region.wanted o (yielded ops a.tmps) = true then Oper.wp P o a w K Q else E := by
  rw [if_pos hw]
  exact wp_append_run s x t ho v u v' w' hs hx hr h
theorem step_app0 {w : World} {ops : Array Oper} {o : Oper} {a : Act} {K : Act → World → Prop} {Q : Exit → Act → World → Prop} {E : Prop} (s x : Operand)
    (g base n c : Nat) (A : Option Addr) (xs : List Nat) (ho : o.op = .call { callee := .builtin .append, args := #[s, x], argTypes := #[22, 22] }) (hty : o.type = 22)
    (hs : a.eval s = .slice (some ⟨g, 0, none⟩) 0 0) (hx : a.eval x = .slice A n c) (hw : Region.wanted o (yielded ops a.tmps) = true)
    (he : Emp w g base) (hr : Rd .u64 w 0 w.heap.size A n c xs) (hn : n ≤ 1000000) (hb : base ≤ w.heap.size)
    (h : ∀ v' w', OutL .u64 27 w' base v' xs → Below w.heap.size w w' → K (a.put o.dst v') w') : if Region.wanted o (yielded ops a.tmps) = true then Oper.wp Tryd.prog o a w K Q else E := by
  obtain ⟨v', w', hrun, h1, h2⟩ := run_app0 w g base n c A xs he hr hn hb
  exact step_of_run hw s x _ ho _ _ v' hs hx (by rw [hty]; exact hrun) (h v' w' h1 h2)
theorem step_app2 {w : World} {ops : Array Oper} {o : Oper} {a : Act} {K : Act → World → Prop} {Q : Exit → Act → World → Prop} {E : Prop} (s x : Operand)
    (base hh : Nat) (v : Value) (xs : List Nat) (ho : o.op = .call { callee := .builtin .append, args := #[s, x], argTypes := #[22, 22] }) (hty : o.type = 22)
    (hs : a.eval s = v) (hx : a.eval x = .slice (some ⟨hh, 0, none⟩) 2 2) (hw : Region.wanted o (yielded ops a.tmps) = true)
    (hO : OutL .u64 27 w base v xs) (ht : Two w hh) (hb : base ≤ w.heap.size) (hl : xs.length ≤ 1000000)
    (h : ∀ A c w', Rd .u64 w' base w'.heap.size A (xs.length + 2) c (xs ++ [77, 77]) → Below base w w' → K (a.put o.dst (.slice A (xs.length + 2) c)) w') : if Region.wanted o (yielded ops a.tmps) = true then Oper.wp Tryd.prog o a w K Q else E := by
  obtain ⟨v', w', hrun, h1, h2⟩ := run_app2 w base hh v xs hO ht hb hl
  obtain ⟨A, c, rfl, hrd⟩ := h1.rd
  have hlen : List.length (xs ++ [77, 77] : List Nat) = xs.length + 2 := by simp
  rw [hlen] at hrun hrd
  exact step_of_run hw s x _ ho _ _ _ hs hx (by rw [hty]; exact hrun) (h A c w' hrd h2)

/-! Writes into blocks of a range. -/
/-- W' is W but for blocks from lo to hi. -/
structure Only (lo hi : Nat) (W W' : World) : Prop where
  os : W'.os = W.os
  tape : W'.tape = W.tape
  output : W'.output = W.output
  size : W'.heap.size = W.heap.size
  block : ∀ k, k < lo ∨ hi ≤ k → W'.heap[k]? = W.heap[k]?
theorem Only.refl (lo hi : Nat) (W : World) : Only lo hi W W := ⟨rfl, rfl, rfl, rfl, fun _ _ => rfl⟩
theorem Only.set {lo hi : Nat} {W W' : World} (h : Only lo hi W W') {p : Addr} (h1 : lo ≤ p.block) (h2 : p.block < hi) (u : Value) : Only lo hi W (W'.setCell p u) :=
  ⟨h.os, h.tape, h.output, (World.size_setCell ..).trans h.size, fun k hk => (Below.heap_setCell W' p u k (by omega)).trans (h.block k hk)⟩
theorem Only.below {lo hi B : Nat} {W W' : World} (h : Only lo hi W W') (hB : B ≤ lo) : Below B W W' := ⟨h.os, h.tape, h.output, by rw [h.size]; exact Nat.le_refl _, fun k hk => h.block k (by omega)⟩
theorem Rd.only {k : IntKind} {w w' : World} {lo hi lo' hi' n c : Nat} {A : Option Addr} {xs : List Nat} (h : Rd k w lo hi A n c xs) (ho : Only lo' hi' w w') (hd : hi ≤ lo' ∨ hi' ≤ lo) : Rd k w' lo hi A n c xs :=
  ⟨h.1, h.2.1, fun hn => by
    obtain ⟨ad, e, hl, hb, hc⟩ := h.2.2 hn
    exact ⟨ad, e, hl, hb, fun j u hu => (World.cell?_of_block (ho.block _ (by rw [block_of_add]; omega))).trans (hc j u hu)⟩⟩

/-- The cells of a slice may be written. -/
def Writ (w : World) (A : Option Addr) (n lo hi : Nat) : Prop := ∀ i, i < n → ∃ ad v, A = some ad ∧ lo ≤ ad.block ∧ ad.block < hi ∧ w.cell? (ad.add i) = some v ∧ w.frozen? (ad.add i) = false
theorem Writ.of {w : World} {lo hi n c : Nat} {A : Option Addr} {xs : List Nat} (h : Rd .u64 w lo hi A n c xs) (hf : Fr w A n) : Writ w A n lo hi := by
  intro i hi
  obtain ⟨ad, x, hA, h1, h2, _, hc⟩ := h.get_ hi
  exact ⟨ad, _, hA, h1, h2, hc, hf ad i hA hi⟩
theorem Writ.set {w : World} {A : Option Addr} {n lo hi : Nat} (h : Writ w A n lo hi) (p : Addr) (u : Value) : Writ (w.setCell p u) A n lo hi := by
  intro i hi
  obtain ⟨ad, v, hA, h1, h2, h3, h4⟩ := h i hi
  obtain ⟨v', hv'⟩ := cell?_setCell_some (p := p) (x := u) h3
  exact ⟨ad, v', hA, h1, h2, hv', (World.frozen?_setCell _ _ _ _).trans h4⟩
theorem Writ.only {w w' : World} {A : Option Addr} {n lo hi lo' hi' : Nat} (h : Writ w A n lo hi) (ho : Only lo' hi' w w') (hd : hi ≤ lo' ∨ hi' ≤ lo) : Writ w' A n lo hi := by
  intro i hi
  obtain ⟨ad, v, hA, h1, h2, h3, h4⟩ := h i hi
  exact ⟨ad, v, hA, h1, h2, (World.cell?_of_block (ho.block _ (by rw [block_of_add]; omega))).trans h3, (World.frozen?_of_block (ho.block _ (by rw [block_of_add]; omega))).trans h4⟩
theorem Writ.below {w w' : World} {A : Option Addr} {n lo hi : Nat} (h : Writ w A n lo hi) (hb : Below w.heap.size w w') (hh : hi ≤ w.heap.size) : Writ w' A n lo hi := by
  intro i hi
  obtain ⟨ad, v, hA, h1, h2, h3, h4⟩ := h i hi
  exact ⟨ad, v, hA, h1, h2, (World.cell?_of_block (hb.block _ (by rw [block_of_add]; omega))).trans h3, (World.frozen?_of_block (hb.block _ (by rw [block_of_add]; omega))).trans h4⟩

/-- The head of a slice, up to h. -/
theorem slice64h (A : Option Addr) (n c h : Nat) (h' : Int) (hh : h' = (h : Int)) (hhc : h ≤ c) (hA : ∃ g, A = some ⟨g, 0, none⟩) (w : World) :
    (Instr.slice 22 (.slice A n c) none (some (.int .i64 h')) none).run Tryd.prog w = .ok (.slice A h c) w := by
  obtain ⟨i, hi, hz, h1, h2⟩ := info_parts info64
  have he : Tryd.prog.elem 22 = 27 := by kernel_rfl
  subst hh
  obtain ⟨g, rfl⟩ := hA
  rw [run_slice_h (P := Tryd.prog) w 22 (some ⟨g, 0, none⟩) n c (by rw [he]; exact Tryd.underlying22) .i64 h (by omega) (by omega), he]
  have hs : (sizeOf 27).run Tryd.prog w = .ok 1 w := by simp [sizeOf, typeInfo, hi, h1]
  rw [hs]
  simp only [Result.andThen, sliced, Int.toNat_natCast, Nat.mul_one]
  have e : Option.map (fun x : Addr => x.add 0) (some ⟨g, 0, none⟩) = some ⟨g, 0, none⟩ := by rw [Option.map_some, addr_add]
  rw [e, ite_self, Nat.sub_zero, Nat.sub_zero]
end Go.Proofs.YtcjggdcichlanaaDoor
