/- A drawn region by an invariant; the statement 'x, y := f(a), g(b)' with variables in memory. -/
import Derived.Test.YtdmnohmjobofhaaDoorKn
import Derived.Test.YtdmnohmjobofhaaDoorNumPR
namespace Go.Proofs.YtdmnohmjobofhaaDoor
open Go.RowKit Nx

theorem count_set {l : List Bool} {i : Nat} (h : l[i]? = some false) : (l.set i true).count false + 1 = l.count false := by
  induction l generalizing i with
  | nil => simp at h
  | cons b t ih =>
    cases i with
    | zero => simp at h; subst h; simp
    | succ i =>
      simp at h
      have := ih h
      rw [List.set_cons_succ, List.count_cons, List.count_cons]
      omega
/-- A drawn region, by an invariant of what is done, the frame and the world. -/
theorem region_inv {P : Program} {ops : Array Oper} {Q : Exit → Act → World → Prop} {id N : Nat} {a : Act} {w : World} (hm : P.follows .mixedOrders = true) (hN : ops.size = N) (J : Array Bool → Act → World → Prop) (h0 : J (Array.replicate N false) a w.drew)
    (hcnt : ∀ L a w, L.size = N → J L a w → ∀ i ∈ Region.ready .any ops L, L[i]? = some false)
    (hstep : ∀ L a w, L.size = N → J L a w → ∀ i ∈ Region.ready .any ops L, wpOp P ops Q i (fun a' w' => J (L.setIfInBounds i true) a' w') a w)
    (hdone : ∀ L a w, L.size = N → J L a w → Region.ready .any ops L = [] → Q .normal a w) : (Code.region id ops true).wp P Q a w := by
  refine wp_region_any hm ?_
  rw [hN]
  have key : ∀ (n : Nat) (L : Array Bool) (a : Act) (w : World), L.size = N → L.toList.count false ≤ n → J L a w → wpAny P .any ops Q n L a w := by
    intro n
    induction n with
    | zero =>
      intro L a w hs hc hJ
      have hr : Region.ready .any ops L = [] := by
        cases hr : Region.ready .any ops L with
        | nil => rfl
        | cons i t =>
          have h1 := hcnt L a w hs hJ i (by rw [hr]; simp)
          have h2 : false ∈ L.toList := by rw [← Array.getElem?_toList] at h1; exact List.mem_of_getElem? h1
          have := List.count_pos_iff.2 h2
          omega
      exact ⟨hr, hdone L a w hs hJ hr⟩
    | succ n ih =>
      intro L a w hs hc hJ
      refine ⟨fun hr => hdone L a w hs hJ hr, fun i hi => ?_⟩
      have h1 := hcnt L a w hs hJ i hi
      refine wpOp_mono (fun a' w' h' => ih _ a' w' (by simp [hs]) ?_ h') (hstep L a w hs hJ i hi)
      rw [← Array.getElem?_toList] at h1
      have := count_set h1
      rw [Array.toList_setIfInBounds]
      omega
  refine key N _ a _ (by simp) ?_ h0
  simp [Array.toList_replicate]

/-- A pointer to a block. -/
def ptr (g : Nat) : Value := .pointer (some ⟨g, 0, none⟩)
theorem ptr_inj {g h : Nat} (e : ptr g = ptr h) : g = h := by simpa [ptr] using e
theorem Rd.put_ne {k : IntKind} {w : World} {lo hi g n c : Nat} {A : Option Addr} {xs : List Nat} (h : Rd k w lo hi A n c xs) (hg : ∀ ad, 0 < n → A = some ad → ad.block ≠ g) (x y z : Value) : Rd k (put3 w g x y z) lo hi A n c xs := by
  refine ⟨h.1, h.2.1, fun hn => ?_⟩
  obtain ⟨ad, e, hl, hb, hc⟩ := h.2.2 hn
  refine ⟨ad, e, hl, hb, fun j u hu => ?_⟩
  rw [← hc j u hu]
  have hx := hg ad hn e
  have hne : ∀ i, (⟨g, i, none⟩ : Addr) ≠ (ad.add j) := fun i e => by have := congrArg Addr.block e; rw [block_of_add] at this; simp at this; omega
  unfold put3
  rw [World.cell?_setCell_other _ _ _ _ (hne 2), World.cell?_setCell_other _ _ _ _ (hne 1), World.cell?_setCell_other _ _ _ _ (hne 0)]
/-- A value that is just there; its digits lie in neither of two variables. -/
def ValAt (w : World) (v : Value) (q : Q) (b : Bool) (x : Value) (b' : Bool) (y : Value) : Prop :=
  ∃ (A : Option Addr) (n c : Nat), v = .agg #[.bool q.s, .slice A n c, .int .i64 q.e] ∧ Dg w A n c q.m ∧ ∀ ad, 0 < n → A = some ad → (b = true → x ≠ ptr ad.block) ∧ (b' = true → y ≠ ptr ad.block)
/-- A variable of this kind; if b, it holds x. -/
def VarAt (w4 w : World) (v : Value) (b : Bool) (x : Value) : Prop :=
  ∃ g, v = ptr g ∧ w4.heap.size ≤ g ∧ ∃ (s : Bool) (A : Option Addr) (n c : Nat) (e : Int), Vx w g s A n c e ∧ (b = true → x = .agg #[.bool s, .slice A n c, .int .i64 e])
theorem ValAt.step {w w' : World} {v x y : Value} {q : Q} {b b' : Bool} (h : ValAt w v q b x b' y) (hb : Below w.heap.size w w') : ValAt w' v q b x b' y := by
  obtain ⟨A, n, c, e, h1, h2⟩ := h; exact ⟨A, n, c, e, h1.step hb, h2⟩
theorem VarAt.step {w4 w w' : World} {v x : Value} {b : Bool} (h : VarAt w4 w v b x) (hb : Below w.heap.size w w') : VarAt w4 w' v b x := by
  obtain ⟨g, e, hg, s, A, n, c, ee, k, hx⟩ := h; exact ⟨g, e, hg, s, A, n, c, ee, k.step hb, hx⟩
theorem dg_block {w : World} {A : Option Addr} {n c N : Nat} (h : Dg w A n c N) {ad : Addr} (h0 : 0 < n) (hA : A = some ad) : ad.block < w.heap.size := by
  obtain ⟨ad', hA', _, hlt, _⟩ := h.2.2 h0
  rw [hA] at hA'; injection hA' with hA'; rw [hA']; exact hlt
theorem ValAt.new1 {w : World} {v x y : Value} {q : Q} {b b' : Bool} (h : ValAt w v q b x b' y) (o : Obj) : ValAt (w.alloc o) v q true (ptr w.heap.size) b' y := by
  obtain ⟨A, n, c, e, h1, h2⟩ := h
  exact ⟨A, n, c, e, h1.step (one_below _ _), fun ad h0 hA => ⟨fun _ e => by have := ptr_inj e; have := dg_block h1 h0 hA; omega, (h2 ad h0 hA).2⟩⟩
theorem ValAt.new2 {w : World} {v x y : Value} {q : Q} {b b' : Bool} (h : ValAt w v q b x b' y) (o : Obj) : ValAt (w.alloc o) v q b x true (ptr w.heap.size) := by
  obtain ⟨A, n, c, e, h1, h2⟩ := h
  exact ⟨A, n, c, e, h1.step (one_below _ _), fun ad h0 hA => ⟨(h2 ad h0 hA).1, fun _ e => by have := ptr_inj e; have := dg_block h1 h0 hA; omega⟩⟩
theorem ValAt.put1 {w : World} {v y : Value} {q : Q} {b' : Bool} {g : Nat} (h : ValAt w v q true (ptr g) b' y) (a b c : Value) : ValAt (put3 w g a b c) v q true (ptr g) b' y := by
  obtain ⟨A, n, cc, e, h1, h2⟩ := h
  refine ⟨A, n, cc, e, ?_, h2⟩
  unfold Dg
  rw [size_put3]
  exact Rd.put_ne h1 (fun ad h0 hA e => (h2 ad h0 hA).1 rfl (by rw [e])) _ _ _
theorem ValAt.put2 {w : World} {v x : Value} {q : Q} {b : Bool} {g : Nat} (h : ValAt w v q b x true (ptr g)) (a b' c : Value) : ValAt (put3 w g a b' c) v q b x true (ptr g) := by
  obtain ⟨A, n, cc, e, h1, h2⟩ := h
  refine ⟨A, n, cc, e, ?_, h2⟩
  unfold Dg
  rw [size_put3]
  exact Rd.put_ne h1 (fun ad h0 hA e => (h2 ad h0 hA).2 rfl (by rw [e])) _ _ _
theorem VarAt.far {w4 w : World} {v x : Value} {b : Bool} {g : Nat} (h : VarAt w4 w v b x) (hv : v ≠ ptr g) (p q r : Value) : VarAt w4 (put3 w g p q r) v b x := by
  obtain ⟨g', e, hg, s, A, n, c, ee, k, hx⟩ := h
  have hne : g' ≠ g := fun h => hv (by rw [e, h])
  refine ⟨g', e, hg, s, A, n, c, ee, ?_, hx⟩
  unfold put3
  exact Blk.far (Blk.far (Blk.far k hne _) hne _) hne _
theorem VarAt.new (w4 w : World) (h : w4.heap.size ≤ w.heap.size) (x : Value) : VarAt w4 (w.alloc (.cells #[.bool false, .slice none 0 0, .int .i64 0] 34)) (ptr w.heap.size) false x := ⟨_, rfl, h, false, none, 0, 0, 0, Vx.new w false none 0 0 0, fun h => by cases h⟩
theorem VarAt.lt {w4 w : World} {v x : Value} {b : Bool} (h : VarAt w4 w v b x) : v ≠ ptr w.heap.size := by
  obtain ⟨g, e, _, s, A, n, c, ee, k, _⟩ := h
  rw [e]; intro h
  have := ptr_inj h; have := k.lt; omega
theorem ValPost.at_ {w w' : World} {q : Q} {e : Ending} {x y : Value} {b b' : Bool} (h : ValPost w 0 q e w') (hx : b = true → ∃ g, x = ptr g ∧ g < w.heap.size) (hy : b' = true → ∃ g, y = ptr g ∧ g < w.heap.size) : ∃ v, e = .returned v ∧ ValAt w' v q b x b' y ∧ Below w.heap.size w w' := by
  obtain ⟨v, he, ⟨A, n, c, rfl, h1, h2⟩, hb⟩ := h
  refine ⟨_, he, ⟨A, n, c, rfl, h1, fun ad h0 hA => ?_⟩, hb⟩
  have h3 := h2 ad h0 hA
  refine ⟨fun hbt e => ?_, fun hbt e => ?_⟩
  · obtain ⟨g, e1, hg⟩ := hx hbt
    rw [e1] at e
    have := ptr_inj e; omega
  · obtain ⟨g, e1, hg⟩ := hy hbt
    rw [e1] at e
    have := ptr_inj e; omega
theorem VarAt.old {w4 w : World} {v x : Value} {b : Bool} (h : VarAt w4 w v b x) : ∃ g, v = ptr g ∧ g < w.heap.size := by
  obtain ⟨g, e, _, s, A, n, c, ee, k, _⟩ := h
  exact ⟨g, e, k.lt⟩
theorem z_alloc {ρ : Operand → Value} {o : Oper} {w : World} (ho : o.op = .alloc 34) : (execOp ρ o).run Tryd.prog w = .ok (.value (ptr w.heap.size)) (w.alloc (.cells #[.bool false, .slice none 0 0, .int .i64 0] 34)) := by
  unfold execOp ptr; rw [ho]; go_simp
theorem z_store {ρ : Operand → Value} {o : Oper} {w : World} {t x : Operand} {g : Nat} {s s' : Bool} {e e' : Int} {A A' : Option Addr} {n c n' c' : Nat} (ho : o.op = .store 34 t x) (ht : ρ t = ptr g) (hx : ρ x = .agg #[.bool s, .slice A n c, .int .i64 e]) (hk : Vx w g s' A' n' c' e') :
    (execOp ρ o).run Tryd.prog w = .ok .skip (put3 w g (.bool s) (.slice A n c) (.int .i64 e)) := by
  have h0 := hk.c0; have h1 := hk.c1; have h2 := hk.c2
  have z0 := hk.fz 0; have z1 := hk.fz 1; have z2 := hk.fz 2
  unfold ptr at ht
  unfold execOp put3; rw [ho]; go_simp

/-- What holds while the statement is carried out. -/
def PJ (fr : Value → Value → Value → Value → Value → Value → Act) (w4 : World) (va vb : Value) (qa qb : Q) (b0 b1 b2 b3 b4 b5 b6 b7 : Bool) (a : Act) (w : World) : Prop :=
  ∃ v12 v13 v20 v21 v22 v23, a = fr v12 v13 v20 v21 v22 v23 ∧ Below w4.heap.size w4 w ∧ (b0 = true → v20 = va) ∧ (b2 = true → v22 = vb) ∧ (b1 = true → ValAt w v21 qa b4 v12 b5 v13) ∧ (b3 = true → ValAt w v23 qb b4 v12 b5 v13) ∧
    (b4 = true → VarAt w4 w v12 b6 v21) ∧ (b5 = true → VarAt w4 w v13 b7 v23) ∧ (b4 = true → b5 = true → v12 ≠ v13)
theorem eight {L : Array Bool} (h : L.size = 8) : ∃ b0 b1 b2 b3 b4 b5 b6 b7, L = #[b0, b1, b2, b3, b4, b5, b6, b7] := by
  obtain ⟨l⟩ := L
  match l, h with
  | [b0, b1, b2, b3, b4, b5, b6, b7], _ => exact ⟨b0, b1, b2, b3, b4, b5, b6, b7, rfl⟩
/-- Which operation may come up when. -/
def PairReady (ops : Array Oper) : Prop := ∀ b0 b1 b2 b3 b4 b5 b6 b7 : Bool, (b6 = true → b4 = true ∧ b1 = true) → (b7 = true → b5 = true ∧ b3 = true) →
  (∀ i ∈ Region.ready .any ops #[b0, b1, b2, b3, b4, b5, b6, b7], (i = 0 ∧ b0 = false) ∨ (i = 1 ∧ b1 = false ∧ b0 = true) ∨ (i = 2 ∧ b2 = false) ∨ (i = 3 ∧ b3 = false ∧ b2 = true) ∨ (i = 4 ∧ b4 = false) ∨ (i = 5 ∧ b5 = false) ∨ (i = 6 ∧ b6 = false ∧ b4 = true ∧ b1 = true) ∨ (i = 7 ∧ b7 = false ∧ b5 = true ∧ b3 = true)) ∧
  (Region.ready .any ops #[b0, b1, b2, b3, b4, b5, b6, b7] = [] → b1 = true ∧ b3 = true ∧ b4 = true ∧ b5 = true ∧ b6 = true ∧ b7 = true)
/-- The same, reckoned. -/
def okB (b0 b1 b2 b3 b4 b5 b6 b7 : Bool) (rs : List Nat) : Bool :=
  !((!b6 || (b4 && b1)) && (!b7 || (b5 && b3))) ||
    (rs.all (fun i => (i == 0 && !b0) || (i == 1 && (!b1 && b0)) || (i == 2 && !b2) || (i == 3 && (!b3 && b2)) || (i == 4 && !b4) || (i == 5 && !b5) || (i == 6 && (!b6 && (b4 && b1))) || (i == 7 && (!b7 && (b5 && b3)))) && (!rs.isEmpty || (b1 && (b3 && (b4 && (b5 && (b6 && b7)))))))
def bls : List Bool := [false, true]
theorem mem_bls (b : Bool) : b ∈ bls := by cases b <;> simp [bls]
def pairB (ops : Array Oper) : Bool := bls.all fun b0 => bls.all fun b1 => bls.all fun b2 => bls.all fun b3 => bls.all fun b4 => bls.all fun b5 => bls.all fun b6 => bls.all fun b7 => okB b0 b1 b2 b3 b4 b5 b6 b7 (Region.ready .any ops #[b0, b1, b2, b3, b4, b5, b6, b7])
theorem pair_ready {ops : Array Oper} (h : pairB ops = true) : PairReady ops := by
  intro b0 b1 b2 b3 b4 b5 b6 b7 h6 h7
  have h0 := List.all_eq_true.1 (List.all_eq_true.1 (List.all_eq_true.1 (List.all_eq_true.1 (List.all_eq_true.1 (List.all_eq_true.1 (List.all_eq_true.1 (List.all_eq_true.1 h b0 (mem_bls _)) b1 (mem_bls _)) b2 (mem_bls _)) b3 (mem_bls _)) b4 (mem_bls _)) b5 (mem_bls _)) b6 (mem_bls _)) b7 (mem_bls _)
  generalize Region.ready .any ops #[b0, b1, b2, b3, b4, b5, b6, b7] = rs at *
  unfold okB at h0
  have hpre : ((!b6 || (b4 && b1)) && (!b7 || (b5 && b3))) = true := by
    revert h6 h7
    cases b6 <;> cases b7 <;> simp <;> intros <;> simp_all
  rw [hpre, Bool.not_true, Bool.false_or, Bool.and_eq_true] at h0
  obtain ⟨ha, hb⟩ := h0
  constructor
  · intro i hi
    have := List.all_eq_true.1 ha i hi
    simp only [Bool.or_eq_true, Bool.and_eq_true, beq_iff_eq, Bool.not_eq_true', or_assoc] at this
    exact this
  · intro he
    subst he
    simp only [List.isEmpty_nil, Bool.not_true, Bool.false_or, Bool.and_eq_true] at hb
    exact hb
/-- The operation is carried out. -/
theorem op_runs {ops : Array Oper} {Q : Exit → Act → World → Prop} {i : Nat} {o : Oper} {K : Act → World → Prop} {a : Act} {w w' : World} {v : Value} (ho : ops[i]? = some o) (hg : o.guard = none) (hr : (execOp a.eval o).run Tryd.prog w = .ok (.value v) w') (h : K (a.put o.dst v) w') : wpOp Tryd.prog ops Q i K a w := by
  refine wpOp_step ho (fun K' hK => ?_)
  rw [if_pos (want_none hg)]
  unfold Oper.wp
  rw [hr]
  exact hK _ _ h
theorem op_skips {ops : Array Oper} {Q : Exit → Act → World → Prop} {i : Nat} {o : Oper} {K : Act → World → Prop} {a : Act} {w w' : World} (ho : ops[i]? = some o) (hg : o.guard = none) (hr : (execOp a.eval o).run Tryd.prog w = .ok .skip w') (h : K (a.put o.dst undef) w') : wpOp Tryd.prog ops Q i K a w := by
  refine wpOp_step ho (fun K' hK => ?_)
  rw [if_pos (want_none hg)]
  unfold Oper.wp
  rw [hr]
  exact hK _ _ h
theorem op_calls {ops : Array Oper} {Q : Exit → Act → World → Prop} {i : Nat} {o : Oper} {K : Act → World → Prop} {a : Act} {w : World} {f : FuncId} {vals : Array Value} (ho : ops[i]? = some o) (hg : o.guard = none) (hr : (execOp a.eval o).run Tryd.prog w = .ok (.enter f vals) w)
    (h : Calls Tryd.prog f vals w fun e w' => ∃ v, e = .returned v ∧ K (a.put o.dst v) w') : wpOp Tryd.prog ops Q i K a w := by
  refine wpOp_step ho (fun K' hK => ?_)
  rw [if_pos (want_none hg)]
  unfold Oper.wp
  rw [hr, Oper.upon_enter]
  refine h.mono ?_
  rintro e w' ⟨v, rfl, h1⟩
  exact hK _ _ h1

/-- The statement 'x, y := f(a), f(b)', whatever order is drawn: numbers in, values out. -/
theorem pair_stmt {ops : Array Oper} {QQ : Exit → Act → World → Prop} {id : Nat} {w4 : World} {fr : Value → Value → Value → Value → Value → Value → Act} {f g6 g7 : Nat} {s s' : Bool} {e e' : Int} {A B : Option Addr} {n c m d : Nat} {qa qb : Q} {d12 d13 d20 d21 d22 d23 t6 t7 : Tmp}
    {u12 u13 u20 u21 u22 u23 : Value} {o0 o1 o2 o3 o4 o5 o6 o7 : Oper} (hm : Tryd.prog.follows .mixedOrders = true) (hN : ops.size = 8) (hR : PairReady ops)
    (h0 : ops[0]? = some o0) (h1 : ops[1]? = some o1) (h2 : ops[2]? = some o2) (h3 : ops[3]? = some o3) (h4 : ops[4]? = some o4) (h5 : ops[5]? = some o5) (h6 : ops[6]? = some o6) (h7 : ops[7]? = some o7)
    (c0 : o0.guard = none ∧ o0.dst = some d20 ∧ o0.op = .load 28 (.tmp t6)) (c1 : o1.guard = none ∧ o1.dst = some d21 ∧ o1.op = .call { callee := .value (.func f), args := #[.tmp d20], argTypes := #[28] })
    (c2 : o2.guard = none ∧ o2.dst = some d22 ∧ o2.op = .load 28 (.tmp t7)) (c3 : o3.guard = none ∧ o3.dst = some d23 ∧ o3.op = .call { callee := .value (.func f), args := #[.tmp d22], argTypes := #[28] })
    (c4 : o4.guard = none ∧ o4.dst = some d12 ∧ o4.op = .alloc 34) (c5 : o5.guard = none ∧ o5.dst = some d13 ∧ o5.op = .alloc 34)
    (c6 : o6.guard = none ∧ o6.dst = none ∧ o6.op = .store 34 (.tmp d12) (.tmp d21)) (c7 : o7.guard = none ∧ o7.dst = none ∧ o7.op = .store 34 (.tmp d13) (.tmp d23))
    (hf : ∀ (args : Array Value) (w : World), (callFunc f args).run Tryd.prog w = .ok (.enter f args) w)
    (p12 : ∀ v12 v13 v20 v21 v22 v23 v, (fr v12 v13 v20 v21 v22 v23).put (some d12) v = fr v v13 v20 v21 v22 v23) (p13 : ∀ v12 v13 v20 v21 v22 v23 v, (fr v12 v13 v20 v21 v22 v23).put (some d13) v = fr v12 v v20 v21 v22 v23)
    (p20 : ∀ v12 v13 v20 v21 v22 v23 v, (fr v12 v13 v20 v21 v22 v23).put (some d20) v = fr v12 v13 v v21 v22 v23) (p21 : ∀ v12 v13 v20 v21 v22 v23 v, (fr v12 v13 v20 v21 v22 v23).put (some d21) v = fr v12 v13 v20 v v22 v23)
    (p22 : ∀ v12 v13 v20 v21 v22 v23 v, (fr v12 v13 v20 v21 v22 v23).put (some d22) v = fr v12 v13 v20 v21 v v23) (p23 : ∀ v12 v13 v20 v21 v22 v23 v, (fr v12 v13 v20 v21 v22 v23).put (some d23) v = fr v12 v13 v20 v21 v22 v)
    (e6 : ∀ v12 v13 v20 v21 v22 v23, (fr v12 v13 v20 v21 v22 v23).eval (.tmp t6) = .pointer (some ⟨g6, 0, none⟩)) (e7 : ∀ v12 v13 v20 v21 v22 v23, (fr v12 v13 v20 v21 v22 v23).eval (.tmp t7) = .pointer (some ⟨g7, 0, none⟩))
    (e12 : ∀ v12 v13 v20 v21 v22 v23, (fr v12 v13 v20 v21 v22 v23).eval (.tmp d12) = v12) (e13 : ∀ v12 v13 v20 v21 v22 v23, (fr v12 v13 v20 v21 v22 v23).eval (.tmp d13) = v13)
    (e20 : ∀ v12 v13 v20 v21 v22 v23, (fr v12 v13 v20 v21 v22 v23).eval (.tmp d20) = v20) (e21 : ∀ v12 v13 v20 v21 v22 v23, (fr v12 v13 v20 v21 v22 v23).eval (.tmp d21) = v21)
    (e22 : ∀ v12 v13 v20 v21 v22 v23, (fr v12 v13 v20 v21 v22 v23).eval (.tmp d22) = v22) (e23 : ∀ v12 v13 v20 v21 v22 v23, (fr v12 v13 v20 v21 v22 v23).eval (.tmp d23) = v23)
    (ef : ∀ v12 v13 v20 v21 v22 v23, (fr v12 v13 v20 v21 v22 v23).eval (.func f) = .func (.func f) #[] #[])
    (k6 : Bx w4 g6 s e A n c) (k7 : Bx w4 g7 s' e' B m d)
    (ca : ∀ W, Below w4.heap.size w4 W → Calls Tryd.prog f #[.agg #[.bool s, .int .i64 e, .slice A n c]] W (ValPost W 0 qa)) (cb : ∀ W, Below w4.heap.size w4 W → Calls Tryd.prog f #[.agg #[.bool s', .int .i64 e', .slice B m d]] W (ValPost W 0 qb))
    (hQ : ∀ (g h : Nat) (v20 v21 v22 v23 : Value) (W : World) (A' B' : Option Addr) (n' c' m' d' : Nat), Vx W g qa.s A' n' c' qa.e → Vx W h qb.s B' m' d' qb.e → Dg W A' n' c' qa.m → Dg W B' m' d' qb.m → Below w4.heap.size w4 W → QQ .normal (fr (.pointer (some ⟨g, 0, none⟩)) (.pointer (some ⟨h, 0, none⟩)) v20 v21 v22 v23) W) :
    (Code.region id ops true).wp Tryd.prog QQ (fr u12 u13 u20 u21 u22 u23) w4 := by
  refine region_inv (N := 8) hm hN (fun L a w => ∃ b0 b1 b2 b3 b4 b5 b6 b7, L = #[b0, b1, b2, b3, b4, b5, b6, b7] ∧ (b6 = true → b4 = true ∧ b1 = true) ∧ (b7 = true → b5 = true ∧ b3 = true) ∧
    PJ fr w4 (.agg #[.bool s, .int .i64 e, .slice A n c]) (.agg #[.bool s', .int .i64 e', .slice B m d]) qa qb b0 b1 b2 b3 b4 b5 b6 b7 a w) ?_ ?_ ?_ ?_
  · refine ⟨false, false, false, false, false, false, false, false, rfl, fun h => (by cases h), fun h => (by cases h), u12, u13, u20, u21, u22, u23, rfl, bdr (Below.refl _ _), ?_⟩
    refine ⟨?_, ?_, ?_, ?_, ?_, ?_, ?_⟩ <;> intro h <;> cases h
  · rintro L a w - ⟨b0, b1, b2, b3, b4, b5, b6, b7, rfl, r6, r7, -⟩ i hi
    rcases (hR b0 b1 b2 b3 b4 b5 b6 b7 r6 r7).1 i hi with ⟨rfl, rfl⟩ | ⟨rfl, rfl, -⟩ | ⟨rfl, rfl⟩ | ⟨rfl, rfl, -⟩ | ⟨rfl, rfl⟩ | ⟨rfl, rfl⟩ | ⟨rfl, rfl, -⟩ | ⟨rfl, rfl, -⟩ <;> rfl
  · rintro L a w - ⟨b0, b1, b2, b3, b4, b5, b6, b7, rfl, r6, r7, v12, v13, v20, v21, v22, v23, rfl, hB, j0, j2, j1, j3, j4, j5, jn⟩ i hi
    rcases (hR b0 b1 b2 b3 b4 b5 b6 b7 r6 r7).1 i hi with ⟨rfl, rfl⟩ | ⟨rfl, rfl, rfl⟩ | ⟨rfl, rfl⟩ | ⟨rfl, rfl, rfl⟩ | ⟨rfl, rfl⟩ | ⟨rfl, rfl⟩ | ⟨rfl, rfl, rfl, rfl⟩ | ⟨rfl, rfl, rfl, rfl⟩
    · refine op_runs h0 c0.1 (z_load3 c0.2.2 (e6 ..) (k6.step hB)) ?_
      rw [c0.2.1, p20]
      exact ⟨true, b1, b2, b3, b4, b5, b6, b7, rfl, r6, r7, _, _, _, _, _, _, rfl, hB, fun _ => rfl, j2, j1, j3, j4, j5, jn⟩
    · refine op_calls h1 c1.1 (z_call1 hf c1.2.2 (ef ..) (e20 ..)) ?_
      rw [j0 rfl]
      refine (ca w hB).mono ?_
      intro ee w' hp
      obtain ⟨v, he, hv, hb⟩ := hp.at_ (b := b4) (b' := b5) (x := v12) (y := v13) (fun h => (j4 h).old) (fun h => (j5 h).old)
      refine ⟨v, he, ?_⟩
      rw [c1.2.1, p21]
      have r6' : b6 = false := by cases b6 with | false => rfl | true => have := (r6 rfl).2; cases this
      subst r6'
      exact ⟨true, true, b2, b3, b4, b5, false, b7, rfl, fun h => (by cases h), r7, _, _, _, _, _, _, rfl, below_step hB hb, fun _ => rfl, j2, fun _ => hv, fun h => (j3 h).step hb, fun h => by
        obtain ⟨g, e1, e2, s1, A1, n1, c1', e3, k1, -⟩ := (j4 h).step hb
        exact ⟨g, e1, e2, s1, A1, n1, c1', e3, k1, fun h => by cases h⟩, fun h => (j5 h).step hb, jn⟩
    · refine op_runs h2 c2.1 (z_load3 c2.2.2 (e7 ..) (k7.step hB)) ?_
      rw [c2.2.1, p22]
      exact ⟨b0, b1, true, b3, b4, b5, b6, b7, rfl, r6, r7, _, _, _, _, _, _, rfl, hB, j0, fun _ => rfl, j1, j3, j4, j5, jn⟩
    · refine op_calls h3 c3.1 (z_call1 hf c3.2.2 (ef ..) (e22 ..)) ?_
      rw [j2 rfl]
      refine (cb w hB).mono ?_
      intro ee w' hp
      obtain ⟨v, he, hv, hb⟩ := hp.at_ (b := b4) (b' := b5) (x := v12) (y := v13) (fun h => (j4 h).old) (fun h => (j5 h).old)
      refine ⟨v, he, ?_⟩
      rw [c3.2.1, p23]
      have r7' : b7 = false := by cases b7 with | false => rfl | true => have := (r7 rfl).2; cases this
      subst r7'
      exact ⟨b0, b1, true, true, b4, b5, b6, false, rfl, r6, fun h => (by cases h), _, _, _, _, _, _, rfl, below_step hB hb, j0, fun _ => rfl, fun h => (j1 h).step hb, fun _ => hv, fun h => (j4 h).step hb, fun h => by
        obtain ⟨g, e1, e2, s1, A1, n1, c1', e3, k1, -⟩ := (j5 h).step hb
        exact ⟨g, e1, e2, s1, A1, n1, c1', e3, k1, fun h => by cases h⟩, jn⟩
    · refine op_runs h4 c4.1 (z_alloc c4.2.2) ?_
      rw [c4.2.1, p12]
      have r6' : b6 = false := by cases b6 with | false => rfl | true => have := (r6 rfl).1; cases this
      subst r6'
      have ob := one_below w (.cells #[.bool false, .slice none 0 0, .int .i64 0] 34)
      exact ⟨b0, b1, b2, b3, true, b5, false, b7, rfl, fun h => (by cases h), r7, _, _, _, _, _, _, rfl, below_step hB ob, j0, j2, fun h => (j1 h).new1 _, fun h => (j3 h).new1 _, fun _ => VarAt.new w4 w hB.size _, fun h => (j5 h).step ob, fun _ h e => (j5 h).lt e.symm⟩
    · refine op_runs h5 c5.1 (z_alloc c5.2.2) ?_
      rw [c5.2.1, p13]
      have r7' : b7 = false := by cases b7 with | false => rfl | true => have := (r7 rfl).1; cases this
      subst r7'
      have ob := one_below w (.cells #[.bool false, .slice none 0 0, .int .i64 0] 34)
      exact ⟨b0, b1, b2, b3, b4, true, b6, false, rfl, r6, fun h => (by cases h), _, _, _, _, _, _, rfl, below_step hB ob, j0, j2, fun h => (j1 h).new2 _, fun h => (j3 h).new2 _, fun h => (j4 h).step ob, fun _ => VarAt.new w4 w hB.size _, fun h _ e => (j4 h).lt e⟩
    · obtain ⟨g, rfl, hg, s1, A1, n1, c1', e3, k1, -⟩ := j4 rfl
      obtain ⟨A5, n5, c5', rfl, d5, pl⟩ := j1 rfl
      have J1 : ValAt w (.agg #[.bool qa.s, .slice A5 n5 c5', .int .i64 qa.e]) qa true (ptr g) b5 v13 := ⟨A5, n5, c5', rfl, d5, pl⟩
      refine op_skips h6 c6.1 (z_store c6.2.2 (e12 ..) (e21 ..) k1) ?_
      rw [c6.2.1]
      refine ⟨b0, true, b2, b3, true, b5, true, b7, rfl, fun _ => ⟨rfl, rfl⟩, r7, _, _, _, _, _, _, rfl, below_put3 hB hg _ _ _, j0, j2, fun _ => J1.put1 _ _ _, fun h => (j3 h).put1 _ _ _, fun _ => ⟨g, rfl, hg, _, _, _, _, _, Blk.putted k1 _ _ _, fun _ => rfl⟩, fun h => (j5 h).far (fun e => jn rfl h e.symm) _ _ _, jn⟩
    · obtain ⟨g, rfl, hg, s1, A1, n1, c1', e3, k1, -⟩ := j5 rfl
      obtain ⟨A5, n5, c5', rfl, d5, pl⟩ := j3 rfl
      have J3 : ValAt w (.agg #[.bool qb.s, .slice A5 n5 c5', .int .i64 qb.e]) qb b4 v12 true (ptr g) := ⟨A5, n5, c5', rfl, d5, pl⟩
      refine op_skips h7 c7.1 (z_store c7.2.2 (e13 ..) (e23 ..) k1) ?_
      rw [c7.2.1]
      refine ⟨b0, b1, b2, true, b4, true, b6, true, rfl, r6, fun _ => ⟨rfl, rfl⟩, _, _, _, _, _, _, rfl, below_put3 hB hg _ _ _, j0, j2, fun h => (j1 h).put2 _ _ _, fun _ => J3.put2 _ _ _, fun h => (j4 h).far (fun e => jn h rfl e) _ _ _, fun _ => ⟨g, rfl, hg, _, _, _, _, _, Blk.putted k1 _ _ _, fun _ => rfl⟩, jn⟩
  · rintro L a w - ⟨b0, b1, b2, b3, b4, b5, b6, b7, rfl, r6, r7, v12, v13, v20, v21, v22, v23, rfl, hB, j0, j2, j1, j3, j4, j5, jn⟩ hr
    obtain ⟨rfl, rfl, rfl, rfl, rfl, rfl⟩ := (hR b0 b1 b2 b3 b4 b5 b6 b7 r6 r7).2 hr
    obtain ⟨g, rfl, hg, s1, A1, n1, c1', e1, k1, x1⟩ := j4 rfl
    obtain ⟨h, rfl, hh, s2, A2, n2, c2', e2, k2, x2⟩ := j5 rfl
    obtain ⟨A5, n5, c5', y1, d5, -⟩ := j1 rfl
    obtain ⟨A6, n6, c6', y2, d6, -⟩ := j3 rfl
    have z1 := (x1 rfl).symm.trans y1
    have z2 := (x2 rfl).symm.trans y2
    simp at z1 z2
    obtain ⟨rfl, ⟨rfl, rfl, rfl⟩, rfl⟩ := z1
    obtain ⟨rfl, ⟨rfl, rfl, rfl⟩, rfl⟩ := z2
    exact hQ g h v20 v21 v22 v23 w _ _ _ _ _ _ k1 k2 d5 d6 hB
end Go.Proofs.YtdmnohmjobofhaaDoor
