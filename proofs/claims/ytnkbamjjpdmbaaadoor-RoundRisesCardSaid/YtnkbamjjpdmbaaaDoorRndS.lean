/- The statement 'z, e := num.Mul(d.Num(), x)', whatever order is drawn. -/
import Derived.Test.YtnkbamjjpdmbaaaDoorReg
import Derived.Test.YtnkbamjjpdmbaaaDoorSeatY
namespace Go.Proofs.YtnkbamjjpdmbaaaDoor
open Go.RowKit Nx

theorem ten {L : Array Bool} (h : L.size = 10) : ∃ b0 b1 b2 b3 b4 b5 b6 b7 b8 b9, L = #[b0, b1, b2, b3, b4, b5, b6, b7, b8, b9] := by
  obtain ⟨l⟩ := L
  match l, h with
  | [b0, b1, b2, b3, b4, b5, b6, b7, b8, b9], _ => exact ⟨b0, b1, b2, b3, b4, b5, b6, b7, b8, b9, rfl⟩
def Reach10 (_b0 b1 _b2 b3 b4 b5 b6 b7 b8 b9 : Bool) : Prop := (b3 = true → b1 = true) ∧ (b4 = true → b3 = true) ∧ (b5 = true → b4 = true) ∧ (b6 = true → b4 = true) ∧ (b8 = true → b7 = true ∧ b5 = true) ∧ (b9 = true → b6 = true)
def May10 (b0 b1 b2 b3 b4 b5 b6 b7 b8 b9 : Bool) (i : Nat) : Prop := (i = 0 ∧ b0 = false) ∨ (i = 1 ∧ b1 = false ∧ b0 = true) ∨ (i = 2 ∧ b2 = false) ∨ (i = 3 ∧ b3 = false ∧ b1 = true ∧ b2 = true) ∨ (i = 4 ∧ b4 = false ∧ b3 = true) ∨ (i = 5 ∧ b5 = false ∧ b4 = true) ∨ (i = 6 ∧ b6 = false ∧ b4 = true) ∨ (i = 7 ∧ b7 = false) ∨ (i = 8 ∧ b8 = false ∧ b7 = true ∧ b5 = true) ∨ (i = 9 ∧ b9 = false ∧ b6 = true)
def okT (b0 b1 b2 b3 b4 b5 b6 b7 b8 b9 : Bool) (rs : List Nat) : Bool := !((!b3 || (b1)) && (!b4 || (b3)) && (!b5 || (b4)) && (!b6 || (b4)) && (!b8 || (b7 && b5)) && (!b9 || (b6))) || (rs.all (fun i => (i == 0 && !b0) || (i == 1 && !b1 && b0) || (i == 2 && !b2) || (i == 3 && !b3 && b1 && b2) || (i == 4 && !b4 && b3) || (i == 5 && !b5 && b4) || (i == 6 && !b6 && b4) || (i == 7 && !b7) || (i == 8 && !b8 && b7 && b5) || (i == 9 && !b9 && b6)) && (!rs.isEmpty || (b1 && b2 && b3 && b4 && b5 && b6 && b7 && b8 && b9)))
def tenB (ops : Array Oper) : Bool := bls.all fun b0 => bls.all fun b1 => bls.all fun b2 => bls.all fun b3 => bls.all fun b4 => bls.all fun b5 => bls.all fun b6 => bls.all fun b7 => bls.all fun b8 => bls.all fun b9 => okT b0 b1 b2 b3 b4 b5 b6 b7 b8 b9 (Region.ready .any ops #[b0, b1, b2, b3, b4, b5, b6, b7, b8, b9])
theorem ten_ready {ops : Array Oper} (h : tenB ops = true) (b0 b1 b2 b3 b4 b5 b6 b7 b8 b9 : Bool) (hr : Reach10 b0 b1 b2 b3 b4 b5 b6 b7 b8 b9) :
    (∀ i ∈ Region.ready .any ops #[b0, b1, b2, b3, b4, b5, b6, b7, b8, b9], May10 b0 b1 b2 b3 b4 b5 b6 b7 b8 b9 i) ∧ (Region.ready .any ops #[b0, b1, b2, b3, b4, b5, b6, b7, b8, b9] = [] → b1 = true ∧ b2 = true ∧ b3 = true ∧ b4 = true ∧ b5 = true ∧ b6 = true ∧ b7 = true ∧ b8 = true ∧ b9 = true) := by
  have h0 := List.all_eq_true.1 (List.all_eq_true.1 (List.all_eq_true.1 (List.all_eq_true.1 (List.all_eq_true.1 (List.all_eq_true.1 (List.all_eq_true.1 (List.all_eq_true.1 (List.all_eq_true.1 (List.all_eq_true.1 (h) b0 (mem_bls _)) b1 (mem_bls _)) b2 (mem_bls _)) b3 (mem_bls _)) b4 (mem_bls _)) b5 (mem_bls _)) b6 (mem_bls _)) b7 (mem_bls _)) b8 (mem_bls _)) b9 (mem_bls _)
  generalize Region.ready .any ops #[b0, b1, b2, b3, b4, b5, b6, b7, b8, b9] = rs at *
  unfold okT at h0
  have hpre : ((!b3 || (b1)) && (!b4 || (b3)) && (!b5 || (b4)) && (!b6 || (b4)) && (!b8 || (b7 && b5)) && (!b9 || (b6))) = true := by
    unfold Reach10 at hr
    obtain ⟨q3, q4, q5, q6, q8, q9⟩ := hr
    simp only [Bool.and_eq_true, Bool.or_eq_true, Bool.not_eq_true']
    refine ⟨⟨⟨⟨⟨?_, ?_⟩, ?_⟩, ?_⟩, ?_⟩, ?_⟩
    · cases b3 <;> simp_all
    · cases b4 <;> simp_all
    · cases b5 <;> simp_all
    · cases b6 <;> simp_all
    · cases b8 <;> simp_all
    · cases b9 <;> simp_all
  rw [hpre, Bool.not_true, Bool.false_or, Bool.and_eq_true] at h0
  obtain ⟨ha, hb⟩ := h0
  constructor
  · intro i hi
    have := List.all_eq_true.1 ha i hi
    unfold May10
    simp only [Bool.or_eq_true, Bool.and_eq_true, beq_iff_eq, Bool.not_eq_true', or_assoc, and_assoc] at this
    exact this
  · intro he
    subst he
    simp only [List.isEmpty_nil, Bool.not_true, Bool.false_or, Bool.and_eq_true, and_assoc] at hb
    exact hb
theorem z_extract0 {ρ : Operand → Value} {o : Oper} {w : World} {t : Operand} {x y : Value} (ho : o.op = .extract t 0) (ht : ρ t = .tuple #[x, y]) : (execOp ρ o).run Tryd.prog w = .ok (.value x) w := by
  unfold execOp; rw [ho]; go_simp
theorem z_extract1 {ρ : Operand → Value} {o : Oper} {w : World} {t : Operand} {x y : Value} (ho : o.op = .extract t 1) (ht : ρ t = .tuple #[x, y]) : (execOp ρ o).run Tryd.prog w = .ok (.value y) w := by
  unfold execOp; rw [ho]; go_simp
theorem z_allocN {ρ : Operand → Value} {o : Oper} {w : World} (ho : o.op = .alloc 24) : (execOp ρ o).run Tryd.prog w = .ok (.value (ptr w.heap.size)) (w.alloc (.cells #[.bool false, .int .i64 0, .slice none 0 0] 24)) := by
  unfold execOp ptr; rw [ho]; go_simp
theorem z_storeN {ρ : Operand → Value} {o : Oper} {w : World} {t x : Operand} {g : Nat} {s s' : Bool} {e e' : Int} {A A' : Option Addr} {n c n' c' : Nat} (ho : o.op = .store 24 t x) (ht : ρ t = ptr g) (hx : ρ x = .agg #[.bool s, .int .i64 e, .slice A n c]) (hk : Bx w g s' e' A' n' c') :
    (execOp ρ o).run Tryd.prog w = .ok .skip (put3 w g (.bool s) (.int .i64 e) (.slice A n c)) := by
  have h0 := hk.c0; have h1 := hk.c1; have h2 := hk.c2
  have z0 := hk.fz 0; have z1 := hk.fz 1; have z2 := hk.fz 2
  unfold ptr at ht
  unfold execOp put3; rw [ho]; go_simp
theorem bx_mv {w w' : World} {g h : Nat} {s : Bool} {e : Int} {A : Option Addr} {n c : Nat} (k : Bx w h s e A n c) (m : Mv g w w') (hh : h ≠ g) : Bx w' h s e A n c := (m.block h k.lt hh).trans k
theorem is_block {w : World} {A : Option Addr} {n c N : Nat} (h : Is w A n c N) {ad : Addr} (h0 : 0 < n) (hA : A = some ad) : ad.block < w.heap.size := by
  obtain ⟨ad', hA', _, hlt, _⟩ := h.2.2 h0
  rw [hA] at hA'; injection hA' with hA'; rw [hA']; exact hlt
/-- A variable of a number; if b, it holds x. -/
def NVar (w0 w : World) (g : Nat) (v : Value) (b : Bool) (x : Value) : Prop :=
  ∃ h, v = ptr h ∧ w0.heap.size ≤ h ∧ h ≠ g ∧ ∃ (s : Bool) (e : Int) (A : Option Addr) (n c : Nat), Bx w h s e A n c ∧ (b = true → x = .agg #[.bool s, .int .i64 e, .slice A n c])
theorem NVar.mv {w0 w w' : World} {g : Nat} {v x : Value} {b : Bool} (h : NVar w0 w g v b x) (m : Mv g w w') : NVar w0 w' g v b x := by
  obtain ⟨h', e1, e2, e3, s, e, A, n, c, k, hx⟩ := h
  exact ⟨h', e1, e2, e3, s, e, A, n, c, bx_mv k m e3, hx⟩
/-- What holds while the statement is carried out. -/
def TJ (fr : Value → Value → Value → Value → Value → Value → Value → Value → Value → Act) (w0 : World) (g : Nat) (A : Option Addr) (n c k : Nat) (qx : Q) (Ax : Option Addr) (nx cx : Nat) (b0 b1 b2 b3 b4 b5 b6 b7 b8 b9 : Bool) (a : Act) (w : World) : Prop :=
  ∃ (v9 v10 v29 v30 v31 v32 v33 v34 v35 : Value) (qz : Q) (Az : Option Addr) (nz cz : Nat) (Ar : Option Addr) (nr cr : Nat), a = fr v9 v10 v29 v30 v31 v32 v33 v34 v35 ∧ Mv g w0 w ∧ (b1 = false → Dk w g A n c k) ∧ (b0 = true → v30 = ptr g) ∧ (b2 = true → v32 = .agg #[.bool qx.s, .int .i64 qx.e, .slice Ax nx cx]) ∧
    Valid qz ∧ (b1 = true → v31 = .agg #[.bool qz.s, .int .i64 qz.e, .slice Az nz cz]) ∧ (b1 = true → b3 = false → Is w Az nz cz qz.m) ∧
    (b3 = true → v33 = .tuple #[.agg #[.bool (res (times qz qx)).1.s, .int .i64 (res (times qz qx)).1.e, .slice Ar nr cr], .int .i64 (res (times qz qx)).2] ∧ Is w Ar nr cr (res (times qz qx)).1.m ∧ ∀ ad, 0 < nr → Ar = some ad → (b7 = true → v9 ≠ ptr ad.block) ∧ w0.heap.size ≤ ad.block) ∧
    (b4 = true → v29 = v33) ∧ (b5 = true → v34 = .agg #[.bool (res (times qz qx)).1.s, .int .i64 (res (times qz qx)).1.e, .slice Ar nr cr]) ∧ (b6 = true → v35 = .int .i64 (res (times qz qx)).2) ∧ (b7 = true → NVar w0 w g v9 b8 v34) ∧ (b9 = true → v10 = v35)
theorem is_step {w w' : World} {A : Option Addr} {n c N : Nat} (h : Is w A n c N) (hb : Below w.heap.size w w') : Is w' A n c N := h.step hb
theorem en_dnum (args : Array Value) (w : World) : (callFunc 16 args).run Tryd.prog w = .ok (.enter 16 args) w := by go_simp
theorem en_nmul (args : Array Value) (w : World) : (callFunc 23 args).run Tryd.prog w = .ok (.enter 23 args) w := by go_simp
theorem cant {b b' : Bool} (h : b = true → b' = true) (hb : b' = false) : b = false := by cases b with | false => rfl | true => have := h rfl; rw [hb] at this; cases this

set_option maxHeartbeats 2000000 in
theorem drawmul_stmt {ops : Array Oper} {QQ : Exit → Act → World → Prop} {id : Nat} {w0 : World} {fr : Value → Value → Value → Value → Value → Value → Value → Value → Value → Act} {g g6 : Nat} {A : Option Addr} {n c k lo hi : Nat} {xs : List Nat} {qx : Q} {Ax : Option Addr} {nx cx : Nat} {d9 d10 d29 d30 d31 d32 d33 d34 d35 t5 t6 : Tmp} {ty1 ty3 : Array TypeId}
    {u9 u10 u29 u30 u31 u32 u33 u34 u35 : Value} (hm : Tryd.prog.follows .mixedOrders = true) (hN : ops.size = 10) (hR : tenB ops = true) (h0 : ops[0]? = some (theOp ops 0)) (h1 : ops[1]? = some (theOp ops 1)) (h2 : ops[2]? = some (theOp ops 2)) (h3 : ops[3]? = some (theOp ops 3)) (h4 : ops[4]? = some (theOp ops 4)) (h5 : ops[5]? = some (theOp ops 5)) (h6 : ops[6]? = some (theOp ops 6)) (h7 : ops[7]? = some (theOp ops 7)) (h8 : ops[8]? = some (theOp ops 8)) (h9 : ops[9]? = some (theOp ops 9))
    (c0 : (theOp ops 0).guard = none ∧ (theOp ops 0).dst = some d30 ∧ (theOp ops 0).op = .move (.tmp t5))
    (c1 : (theOp ops 1).guard = none ∧ (theOp ops 1).dst = some d31 ∧ (theOp ops 1).op = .call { callee := .value (.func 16), args := #[.tmp d30], argTypes := ty1 })
    (c2 : (theOp ops 2).guard = none ∧ (theOp ops 2).dst = some d32 ∧ (theOp ops 2).op = .load 24 (.tmp t6))
    (c3 : (theOp ops 3).guard = none ∧ (theOp ops 3).dst = some d33 ∧ (theOp ops 3).op = .call { callee := .value (.func 23), args := #[.tmp d31, .tmp d32], argTypes := ty3 })
    (c4 : (theOp ops 4).guard = none ∧ (theOp ops 4).dst = some d29 ∧ (theOp ops 4).op = .move (.tmp d33))
    (c5 : (theOp ops 5).guard = none ∧ (theOp ops 5).dst = some d34 ∧ (theOp ops 5).op = .extract (.tmp d29) 0)
    (c6 : (theOp ops 6).guard = none ∧ (theOp ops 6).dst = some d35 ∧ (theOp ops 6).op = .extract (.tmp d29) 1)
    (c7 : (theOp ops 7).guard = none ∧ (theOp ops 7).dst = some d9 ∧ (theOp ops 7).op = .alloc 24)
    (c8 : (theOp ops 8).guard = none ∧ (theOp ops 8).dst = none ∧ (theOp ops 8).op = .store 24 (.tmp d9) (.tmp d34))
    (c9 : (theOp ops 9).guard = none ∧ (theOp ops 9).dst = some d10 ∧ (theOp ops 9).op = .assign (.tmp d35))
    (p9 : ∀ v9 v10 v29 v30 v31 v32 v33 v34 v35 v, (fr v9 v10 v29 v30 v31 v32 v33 v34 v35).put (some d9) v = fr v v10 v29 v30 v31 v32 v33 v34 v35)
    (p10 : ∀ v9 v10 v29 v30 v31 v32 v33 v34 v35 v, (fr v9 v10 v29 v30 v31 v32 v33 v34 v35).put (some d10) v = fr v9 v v29 v30 v31 v32 v33 v34 v35)
    (p29 : ∀ v9 v10 v29 v30 v31 v32 v33 v34 v35 v, (fr v9 v10 v29 v30 v31 v32 v33 v34 v35).put (some d29) v = fr v9 v10 v v30 v31 v32 v33 v34 v35)
    (p30 : ∀ v9 v10 v29 v30 v31 v32 v33 v34 v35 v, (fr v9 v10 v29 v30 v31 v32 v33 v34 v35).put (some d30) v = fr v9 v10 v29 v v31 v32 v33 v34 v35)
    (p31 : ∀ v9 v10 v29 v30 v31 v32 v33 v34 v35 v, (fr v9 v10 v29 v30 v31 v32 v33 v34 v35).put (some d31) v = fr v9 v10 v29 v30 v v32 v33 v34 v35)
    (p32 : ∀ v9 v10 v29 v30 v31 v32 v33 v34 v35 v, (fr v9 v10 v29 v30 v31 v32 v33 v34 v35).put (some d32) v = fr v9 v10 v29 v30 v31 v v33 v34 v35)
    (p33 : ∀ v9 v10 v29 v30 v31 v32 v33 v34 v35 v, (fr v9 v10 v29 v30 v31 v32 v33 v34 v35).put (some d33) v = fr v9 v10 v29 v30 v31 v32 v v34 v35)
    (p34 : ∀ v9 v10 v29 v30 v31 v32 v33 v34 v35 v, (fr v9 v10 v29 v30 v31 v32 v33 v34 v35).put (some d34) v = fr v9 v10 v29 v30 v31 v32 v33 v v35)
    (p35 : ∀ v9 v10 v29 v30 v31 v32 v33 v34 v35 v, (fr v9 v10 v29 v30 v31 v32 v33 v34 v35).put (some d35) v = fr v9 v10 v29 v30 v31 v32 v33 v34 v)
    (e9 : ∀ v9 v10 v29 v30 v31 v32 v33 v34 v35, (fr v9 v10 v29 v30 v31 v32 v33 v34 v35).eval (.tmp d9) = v9)
    (_e10 : ∀ v9 v10 v29 v30 v31 v32 v33 v34 v35, (fr v9 v10 v29 v30 v31 v32 v33 v34 v35).eval (.tmp d10) = v10)
    (e29 : ∀ v9 v10 v29 v30 v31 v32 v33 v34 v35, (fr v9 v10 v29 v30 v31 v32 v33 v34 v35).eval (.tmp d29) = v29)
    (e30 : ∀ v9 v10 v29 v30 v31 v32 v33 v34 v35, (fr v9 v10 v29 v30 v31 v32 v33 v34 v35).eval (.tmp d30) = v30)
    (e31 : ∀ v9 v10 v29 v30 v31 v32 v33 v34 v35, (fr v9 v10 v29 v30 v31 v32 v33 v34 v35).eval (.tmp d31) = v31)
    (e32 : ∀ v9 v10 v29 v30 v31 v32 v33 v34 v35, (fr v9 v10 v29 v30 v31 v32 v33 v34 v35).eval (.tmp d32) = v32)
    (e33 : ∀ v9 v10 v29 v30 v31 v32 v33 v34 v35, (fr v9 v10 v29 v30 v31 v32 v33 v34 v35).eval (.tmp d33) = v33)
    (e34 : ∀ v9 v10 v29 v30 v31 v32 v33 v34 v35, (fr v9 v10 v29 v30 v31 v32 v33 v34 v35).eval (.tmp d34) = v34)
    (e35 : ∀ v9 v10 v29 v30 v31 v32 v33 v34 v35, (fr v9 v10 v29 v30 v31 v32 v33 v34 v35).eval (.tmp d35) = v35)
    (et5 : ∀ v9 v10 v29 v30 v31 v32 v33 v34 v35, (fr v9 v10 v29 v30 v31 v32 v33 v34 v35).eval (.tmp t5) = ptr g) (et6 : ∀ v9 v10 v29 v30 v31 v32 v33 v34 v35, (fr v9 v10 v29 v30 v31 v32 v33 v34 v35).eval (.tmp t6) = .pointer (some ⟨g6, 0, none⟩))
    (ef1 : ∀ v9 v10 v29 v30 v31 v32 v33 v34 v35, (fr v9 v10 v29 v30 v31 v32 v33 v34 v35).eval (.func 16) = .func (.func 16) #[] #[]) (ef2 : ∀ v9 v10 v29 v30 v31 v32 v33 v34 v35, (fr v9 v10 v29 v30 v31 v32 v33 v34 v35).eval (.func 23) = .func (.func 23) #[] #[])
    (hd : Dk w0 g A n c k) (hk : k ≤ 100) (hr : Rd .u64 w0 0 hi A n c xs) (hs : Small B64 xs) (hh : hi ≤ w0.heap.size) (hhg : hi ≤ g)
    (k6 : Bx w0 g6 qx.s qx.e Ax nx cx) (hg6 : g6 ≠ g) (x0 : Rd .u64 w0 lo w0.heap.size Ax nx cx (digs B64 qx.m)) (hlo : g < lo) (vx : Valid qx) (hT : ∀ w, Mv g w0 w → Tab w)
    (hQ : ∀ (h : Nat) (qz : Q) (Ar : Option Addr) (nr cr : Nat) (v29 v30 v31 v32 v33 v34 v35 : Value) (W : World), Valid qz → Bx W h (res (times qz qx)).1.s (res (times qz qx)).1.e Ar nr cr → w0.heap.size ≤ h → Is W Ar nr cr (res (times qz qx)).1.m → (∀ ad, 0 < nr → Ar = some ad → w0.heap.size ≤ ad.block) → Mv g w0 W → QQ .normal (fr (.pointer (some ⟨h, 0, none⟩)) (.int .i64 (res (times qz qx)).2) v29 v30 v31 v32 v33 v34 v35) W) :
    (Code.region id ops true).wp Tryd.prog QQ (fr u9 u10 u29 u30 u31 u32 u33 u34 u35) w0 := by
  have hg0 : g < w0.heap.size := hd.lt
  refine region_inv (N := 10) hm hN (fun L a w => ∃ b0 b1 b2 b3 b4 b5 b6 b7 b8 b9, L = #[b0, b1, b2, b3, b4, b5, b6, b7, b8, b9] ∧ Reach10 b0 b1 b2 b3 b4 b5 b6 b7 b8 b9 ∧ TJ fr w0 g A n c k qx Ax nx cx b0 b1 b2 b3 b4 b5 b6 b7 b8 b9 a w) ?_ ?_ ?_ ?_
  · refine ⟨false, false, false, false, false, false, false, false, false, false, rfl, ?_, u9, u10, u29, u30, u31, u32, u33, u34, u35, q0, none, 0, 0, none, 0, 0, rfl, Mv.of (bdr (Below.refl _ _)), fun _ => hd.step (bdr (Below.refl _ _)), ?_⟩
    · unfold Reach10; simp
    · refine ⟨?_, ?_, valid0, ?_, ?_, ?_, ?_, ?_, ?_, ?_, ?_⟩ <;> intro h <;> cases h
  · rintro L a w - ⟨b0, b1, b2, b3, b4, b5, b6, b7, b8, b9, rfl, rc, -⟩ i hin
    rcases (ten_ready hR b0 b1 b2 b3 b4 b5 b6 b7 b8 b9 rc).1 i hin with ⟨rfl, rfl⟩ | ⟨rfl, rfl, -⟩ | ⟨rfl, rfl⟩ | ⟨rfl, rfl, -⟩ | ⟨rfl, rfl, -⟩ | ⟨rfl, rfl, -⟩ | ⟨rfl, rfl, -⟩ | ⟨rfl, rfl⟩ | ⟨rfl, rfl, -⟩ | ⟨rfl, rfl, -⟩ <;> rfl
  · rintro L a w - ⟨b0, b1, b2, b3, b4, b5, b6, b7, b8, b9, rfl, rc, v9, v10, v29, v30, v31, v32, v33, v34, v35, qz, Az, nz, cz, Ar, nr, cr, rfl, m, jd, j0, j2, vz, j1, j1', j3, j4, j5, j6, j7, j9⟩ i hin
    have hcur := (ten_ready hR b0 b1 b2 b3 b4 b5 b6 b7 b8 b9 rc).1 i hin
    obtain ⟨q3, q4, q5, q6, q8, q9⟩ := rc
    have q8a : b8 = true → b7 = true := fun h => (q8 h).1
    have q8b : b8 = true → b5 = true := fun h => (q8 h).2
    rcases hcur with ⟨rfl, rfl⟩ | ⟨rfl, rfl, rfl⟩ | ⟨rfl, rfl⟩ | ⟨rfl, rfl, rfl, rfl⟩ | ⟨rfl, rfl, rfl⟩ | ⟨rfl, rfl, rfl⟩ | ⟨rfl, rfl, rfl⟩ | ⟨rfl, rfl⟩ | ⟨rfl, rfl, rfl, rfl⟩ | ⟨rfl, rfl, rfl⟩
    · refine op_runs h0 c0.1 (z_move c0.2.2 (et5 ..)) ?_
      rw [c0.2.1, p30]
      exact ⟨true, b1, b2, b3, b4, b5, b6, b7, b8, b9, rfl, ⟨q3, q4, q5, q6, q8, q9⟩, _, _, _, _, _, _, _, _, _, qz, Az, nz, cz, Ar, nr, cr, rfl, m, jd, fun _ => rfl, j2, vz, j1, j1', j3, j4, j5, j6, j7, j9⟩
    · obtain rfl := cant q3 rfl
      obtain rfl := cant q4 rfl
      obtain rfl := cant q5 rfl
      obtain rfl := cant q6 rfl
      obtain rfl := cant q9 rfl
      obtain rfl := cant q8b rfl
      refine op_calls h1 c1.1 (z_call1 en_dnum c1.2.2 (ef1 ..) (e30 ..)) ?_
      rw [j0 rfl]
      refine (draw_any w g 0 hi A n c k xs (jd rfl) (m.rd hr (.inr hhg) hh) hs hk (Nat.le_trans hh m.size) hhg).mono ?_
      rintro ee w' ⟨q', v', k', vq, he, ⟨A', n', c', rfl, hrd⟩, -, -, m'⟩
      refine ⟨_, he, ?_⟩
      rw [c1.2.1, p31]
      exact ⟨true, true, b2, false, false, false, false, b7, false, false, rfl, ⟨fun h => (by cases h), fun h => (by cases h), fun h => (by cases h), fun h => (by cases h), fun h => (by cases h), fun h => (by cases h)⟩, _, _, _, _, _, _, _, _, _, q', A', n', c', none, 0, 0, rfl, m.trans m', fun h => (by cases h), fun _ => rfl, j2, vq, fun _ => rfl, fun _ _ => num_is hrd, fun h => (by cases h), fun h => (by cases h), fun h => (by cases h), fun h => (by cases h), fun h => by
        obtain ⟨h', e1, e2, e3, s1, ee1, A1, n1, c1', k1, -⟩ := (j7 h).mv m'
        exact ⟨h', e1, e2, e3, s1, ee1, A1, n1, c1', k1, fun h => (by cases h)⟩, fun h => (by cases h)⟩
    · refine op_runs h2 c2.1 (z_load3 c2.2.2 (et6 ..) (bx_mv k6 m hg6)) ?_
      rw [c2.2.1, p32]
      exact ⟨b0, b1, true, b3, b4, b5, b6, b7, b8, b9, rfl, ⟨q3, q4, q5, q6, q8, q9⟩, _, _, _, _, _, _, _, _, _, qz, Az, nz, cz, Ar, nr, cr, rfl, m, jd, j0, fun _ => rfl, vz, j1, j1', j3, j4, j5, j6, j7, j9⟩
    · obtain rfl := cant q4 rfl
      obtain rfl := cant q5 rfl
      obtain rfl := cant q6 rfl
      obtain rfl := cant q9 rfl
      obtain rfl := cant q8b rfl
      refine op_calls h3 c3.1 (z_call2 en_nmul c3.2.2 (ef2 ..) (e31 ..) (e32 ..)) ?_
      rw [j1 rfl, j2 rfl]
      refine (nmul_v (a := qz) (b := qx) (j1' rfl rfl) (num_is ((m.rd x0 (.inl hlo) (Nat.le_refl _)).more m.size)) vz vx (hT w m)).mono ?_
      rintro ee w' ⟨v', he, ⟨A', n', c', rfl, hrd⟩, hb⟩
      refine ⟨_, he, ?_⟩
      rw [c3.2.1, p33]
      exact ⟨b0, true, true, true, false, false, false, b7, false, false, rfl, ⟨fun _ => rfl, fun h => (by cases h), fun h => (by cases h), fun h => (by cases h), fun h => (by cases h), fun h => (by cases h)⟩, _, _, _, _, _, _, _, _, _, qz, Az, nz, cz, A', n', c', rfl, m.trans (Mv.of hb), fun h => (by cases h), j0, fun _ => rfl, vz, fun _ => rfl, fun _ h => (by cases h), fun _ => ⟨rfl, num_is hrd, fun ad h0 hA => by
        obtain ⟨ad', hA', hl', _, _⟩ := hrd.2.2 h0
        rw [hA] at hA'; injection hA' with hA'
        rw [← hA'] at hl'
        refine ⟨fun hb7 e => ?_, Nat.le_trans m.size hl'⟩
        obtain ⟨h', e1, e2, e3, s1, ee1, A1, n1, c1', k1, -⟩ := j7 hb7
        rw [e1] at e
        have := ptr_inj e; have := k1.lt
        omega⟩, fun h => (by cases h), fun h => (by cases h), fun h => (by cases h), fun h => by
        obtain ⟨h', e1, e2, e3, s1, ee1, A1, n1, c1', k1, -⟩ := (j7 h).mv (Mv.of hb)
        exact ⟨h', e1, e2, e3, s1, ee1, A1, n1, c1', k1, fun h => (by cases h)⟩, fun h => (by cases h)⟩
    · obtain rfl := cant q5 rfl
      obtain rfl := cant q6 rfl
      obtain rfl := cant q9 rfl
      obtain rfl := cant q8b rfl
      refine op_runs h4 c4.1 (z_move c4.2.2 (e33 ..)) ?_
      rw [c4.2.1, p29]
      exact ⟨b0, b1, b2, true, true, false, false, b7, false, false, rfl, ⟨q3, fun _ => rfl, fun h => (by cases h), fun h => (by cases h), fun h => (by cases h), fun h => (by cases h)⟩, _, _, _, _, _, _, _, _, _, qz, Az, nz, cz, Ar, nr, cr, rfl, m, jd, j0, j2, vz, j1, j1', j3, fun _ => rfl, fun h => (by cases h), fun h => (by cases h), j7, fun h => (by cases h)⟩
    · obtain rfl := cant q8b rfl
      have b3t : b3 = true := q4 rfl
      subst b3t
      refine op_runs h5 c5.1 (z_extract0 c5.2.2 ((e29 ..).trans ((j4 rfl).trans (j3 rfl).1))) ?_
      rw [c5.2.1, p34]
      exact ⟨b0, b1, b2, true, true, true, b6, b7, false, b9, rfl, ⟨q3, fun _ => rfl, fun _ => rfl, q6, fun h => (by cases h), q9⟩, _, _, _, _, _, _, _, _, _, qz, Az, nz, cz, Ar, nr, cr, rfl, m, jd, j0, j2, vz, j1, j1', j3, j4, fun _ => rfl, j6, fun h => by
        obtain ⟨h', e1, e2, e3, s1, ee1, A1, n1, c1', k1, -⟩ := j7 h
        exact ⟨h', e1, e2, e3, s1, ee1, A1, n1, c1', k1, fun h => (by cases h)⟩, j9⟩
    · obtain rfl := cant q9 rfl
      have b3t : b3 = true := q4 rfl
      subst b3t
      refine op_runs h6 c6.1 (z_extract1 c6.2.2 ((e29 ..).trans ((j4 rfl).trans (j3 rfl).1))) ?_
      rw [c6.2.1, p35]
      exact ⟨b0, b1, b2, true, true, b5, true, b7, b8, false, rfl, ⟨q3, fun _ => rfl, q5, fun _ => rfl, q8, fun h => (by cases h)⟩, _, _, _, _, _, _, _, _, _, qz, Az, nz, cz, Ar, nr, cr, rfl, m, jd, j0, j2, vz, j1, j1', j3, j4, j5, fun _ => rfl, j7, fun h => (by cases h)⟩
    · obtain rfl := cant q8a rfl
      refine op_runs h7 c7.1 (z_allocN c7.2.2) ?_
      rw [c7.2.1, p9]
      have ob := one_below w (.cells #[.bool false, .int .i64 0, .slice none 0 0] 24)
      exact ⟨b0, b1, b2, b3, b4, b5, b6, true, false, b9, rfl, ⟨q3, q4, q5, q6, fun h => (by cases h), q9⟩, _, _, _, _, _, _, _, _, _, qz, Az, nz, cz, Ar, nr, cr, rfl, m.trans (Mv.of ob), fun h => (jd h).step ob, j0, j2, vz, j1, fun h h' => is_step (j1' h h') ob, fun h => ⟨(j3 h).1, is_step (j3 h).2.1 ob, fun ad h0 hA => ⟨fun _ e => by
        have := ptr_inj e; have := is_block (j3 h).2.1 h0 hA; omega, ((j3 h).2.2 ad h0 hA).2⟩⟩, j4, j5, j6, fun _ => ⟨w.heap.size, rfl, m.size, by have := m.size; omega, _, _, _, _, _, Bx.new w false 0 none 0 0, fun h => (by cases h)⟩, j9⟩
    · obtain ⟨h', rfl, e2, e3, s1, ee1, A1, n1, c1', k1, -⟩ := j7 rfl
      have b4t : b4 = true := q5 rfl
      subst b4t
      have b3t : b3 = true := q4 rfl
      subst b3t
      obtain ⟨y1, y2, y3⟩ := j3 rfl
      have hv := j5 rfl
      subst hv
      refine op_skips h8 c8.1 (z_storeN c8.2.2 (e9 ..) (e34 ..) k1) ?_
      rw [c8.2.1]
      have mp : Mv g w0 (put3 w h' (.bool (res (times qz qx)).1.s) (.int .i64 (res (times qz qx)).1.e) (.slice Ar nr cr)) := m.put e2 _ _ _
      have b1t : b1 = true := q3 rfl
      subst b1t
      exact ⟨b0, true, b2, true, true, true, b6, true, true, b9, rfl, ⟨fun _ => rfl, fun _ => rfl, fun _ => rfl, fun _ => rfl, fun _ => ⟨rfl, rfl⟩, q9⟩, _, _, _, _, _, _, _, _, _, qz, Az, nz, cz, Ar, nr, cr, rfl, mp, fun h => (by cases h), j0, j2, vz, j1, fun _ h => (by cases h), fun _ => ⟨y1, by
        unfold Is; rw [size_put3]
        exact Rd.put_ne y2 (fun ad h0 hA e => (y3 ad h0 hA).1 rfl (by rw [e])) _ _ _, y3⟩, j4, fun _ => rfl, j6, fun _ => ⟨h', rfl, e2, e3, _, _, _, _, _, Blk.putted k1 _ _ _, fun _ => rfl⟩, j9⟩
    · refine op_runs h9 c9.1 (z_assign c9.2.2 (e35 ..)) ?_
      rw [c9.2.1, p10]
      exact ⟨b0, b1, b2, b3, b4, b5, true, b7, b8, true, rfl, ⟨q3, q4, q5, q6, q8, fun _ => rfl⟩, _, _, _, _, _, _, _, _, _, qz, Az, nz, cz, Ar, nr, cr, rfl, m, jd, j0, j2, vz, j1, j1', j3, j4, j5, j6, j7, fun _ => rfl⟩
  · rintro L a w - ⟨b0, b1, b2, b3, b4, b5, b6, b7, b8, b9, rfl, rc, v9, v10, v29, v30, v31, v32, v33, v34, v35, qz, Az, nz, cz, Ar, nr, cr, rfl, m, jd, j0, j2, vz, j1, j1', j3, j4, j5, j6, j7, j9⟩ hr
    obtain ⟨rfl, rfl, rfl, rfl, rfl, rfl, rfl, rfl, rfl⟩ := (ten_ready hR b0 b1 b2 b3 b4 b5 b6 b7 b8 b9 rc).2 hr
    obtain ⟨h', rfl, e2, e3, s1, ee1, A1, n1, c1', k1, x1⟩ := j7 rfl
    obtain ⟨y1, y2, y3⟩ := j3 rfl
    have z1 := (x1 rfl).symm.trans (j5 rfl)
    have z2 := (j9 rfl).trans (j6 rfl)
    subst z2
    simp at z1
    obtain ⟨rfl, rfl, rfl, rfl, rfl⟩ := z1
    exact hQ h' qz _ _ _ v29 v30 v31 v32 v33 v34 v35 w vz k1 e2 y2 (fun ad h0 hA => (y3 ad h0 hA).2) m
end Go.Proofs.YtnkbamjjpdmbaaaDoor
