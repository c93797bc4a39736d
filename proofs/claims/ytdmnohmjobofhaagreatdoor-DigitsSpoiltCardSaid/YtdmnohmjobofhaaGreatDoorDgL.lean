/- The statement 'm = Add(Mul(m, []uint32(10)), trim([]uint32(uint32(s[i] - '0'))))', whatever order is drawn. -/
import Derived.Test.YtdmnohmjobofhaaGreatDoorDgK
import Derived.Test.YtdmnohmjobofhaaGreatDoorRegM
namespace Go.Proofs.YtdmnohmjobofhaaGreatDoor
open Go.RowKit Nx

def DgV (w : World) (v : Value) (N : Nat) : Prop := ∃ (A : Option Addr) (n c : Nat), v = .slice A n c ∧ Dg w A n c N
def OneV (w : World) (v : Value) (d : Nat) : Prop := ∃ (A : Option Addr), v = .slice A 1 1 ∧ Rd .u32 w 0 w.heap.size A 1 1 [d]
theorem DgV.step {w w' : World} {v : Value} {N : Nat} (h : DgV w v N) (hb : Below w.heap.size w w') : DgV w' v N := by
  obtain ⟨A, n, c, e, h⟩ := h; exact ⟨A, n, c, e, h.step hb⟩
theorem OneV.step {w w' : World} {v : Value} {N : Nat} (h : OneV w v N) (hb : Below w.heap.size w w') : OneV w' v N := by
  obtain ⟨A, e, h⟩ := h; exact ⟨A, e, rd_step h hb⟩
def dgDst (i : Nat) : Tmp := [41, 42, 43, 44, 45, 46, 47, 48, 49, 50, 51, 7].getD i 0
def dgNeed (i : Nat) : List Nat := [[], [], [0, 1], [], [], [3, 4], [5], [6], [7], [8], [2, 9], [0, 1, 2, 3, 4, 5, 6, 7, 8, 9, 10]].getD i []
def dgLate (i : Nat) : List Nat := if i = 0 then [11] else []
def dgF (vm : Value) (M d x : Nat) (s : ByteArray) (k : Nat) (i : Nat) (w : World) (v : Value) : Prop :=
  match i with
  | 0 => v = vm
  | 1 => OneV w v 10
  | 2 => DgV w v (M * 10)
  | 3 => v = .string s
  | 4 => v = .int .i64 (k : Int)
  | 5 => v = .int .u8 (x : Int)
  | 6 => v = .int .u8 (d : Int)
  | 7 => v = .int .u32 (d : Int)
  | 8 => OneV w v d
  | 9 => DgV w v d
  | 10 => DgV w v (M * 10 + d)
  | _ => DgV w v (M * 10 + d)
section
variable {ρ : Operand → Value} {o : Oper} {w : World}
theorem z_build32 {x : Operand} {z : Int} (ho : o.op = .buildSlice 50 1 #[(0, x)]) (hx : ρ x = .int .u32 z) : (execOp ρ o).run Tryz.prog w = .ok (.value (.slice (some ⟨w.heap.size, 0, none⟩) 1 1)) (w.alloc (.cells #[.int .u32 z] 64)) := by
  unfold execOp; rw [ho]; go_simp
theorem z_index {x y : Operand} {s : ByteArray} {k : Int} {v : Value} (ho : o.op = .index 9 x y) (hx : ρ x = .string s) (hy : ρ y = .int .i64 k) (hi : (Instr.index 9 (.string s) (.int .i64 k)).run Tryz.prog w = .ok v w) : (execOp ρ o).run Tryz.prog w = .ok (.value v) w := by
  unfold execOp; rw [ho]; go_simp
theorem z_sub48 {t : Operand} {x d : Nat} (hd : x = 48 + d) (hl : d < 10) (ho : o.op = .binOp .sub 5 t (.const (.int .u8 48)) 5) (hc : ρ (.const (.int .u8 48)) = .int .u8 48) (ht : ρ t = .int .u8 (x : Int)) : (execOp ρ o).run Tryz.prog w = .ok (.value (.int .u8 (d : Int))) w := by
  have e : IntKind.u8.wrap ((x : Int) - 48) = (d : Int) := by rw [IntKind.wrap_u8]; omega
  clear hd
  unfold execOp; rw [ho]; go_simp
theorem z_conv32 {t : Operand} {d : Nat} (hl : d < 10) (ho : o.op = .convert 5 64 t) (ht : ρ t = .int .u8 (d : Int)) : (execOp ρ o).run Tryz.prog w = .ok (.value (.int .u32 (d : Int))) w := by
  have e : IntKind.u32.wrap (d : Int) = (d : Int) := by rw [IntKind.wrap_u32]; omega
  unfold execOp; rw [ho]; go_simp
end
theorem one_row32 (w : World) (d : Nat) (z : Int) (hz : z = (d : Int)) : OneV (w.alloc (.cells #[.int .u32 z] 64)) (.slice (some ⟨w.heap.size, 0, none⟩) 1 1) d := by
  subst hz
  refine ⟨_, rfl, rfl, Nat.le_refl _, fun _ => ⟨_, rfl, Nat.zero_le _, by simp, fun j u hu => ?_⟩⟩
  have h0 : j = 0 := by
    rcases Nat.eq_zero_or_pos j with e | e
    · exact e
    · rw [List.getElem?_eq_none (by simp; omega)] at hu; cases hu
  subst h0
  simp at hu
  subst hu
  rw [addr_add, World.cell?_alloc_new]
  rfl
theorem en_rmul : ∀ (args : Array Value) (w : World), (callFunc 41 args).run Tryz.prog w = .ok (.enter 41 args) w := enters_of Tryz.func41 (by kernel_rfl) rfl
theorem en_radd : ∀ (args : Array Value) (w : World), (callFunc 40 args).run Tryz.prog w = .ok (.enter 40 args) w := enters_of Tryz.func40 (by kernel_rfl) rfl
theorem en_rtrim : ∀ (args : Array Value) (w : World), (callFunc 38 args).run Tryz.prog w = .ok (.enter 38 args) w := enters_of Tryz.func38 (by kernel_rfl) rfl
theorem small10 {d : Nat} (h : d < B32) : Small B32 [d] := Small.cons h Small.nil
theorem trim_one {w : World} {v : Value} {d : Nat} (h : OneV w v d) (hd : d < 10) : Calls Tryz.prog 38 #[v] w fun e w' => ∃ v, e = .returned v ∧ Below w.heap.size w w' ∧ DgV w' v d := by
  obtain ⟨A, rfl, hr⟩ := h
  have hs : Small B32 [d] := small10 (by unfold B32; omega)
  refine (trim32_any w 0 _ A 1 1 [d] hr hs (by omega)).mono ?_
  rintro e w' ⟨A', c', rfl, rfl, h1, h2⟩
  refine ⟨_, rfl, Below.refl _ _, A', _, c', rfl, ?_⟩
  have := hr.trim hs h1 h2
  rwa [show nval B32 [d] = d by simp [nval]] at this
theorem mul_ten {w : World} {A : Option Addr} {n c M : Nat} {v : Value} (h : Dg w A n c M) (hM : M < B64 ^ 80) (ht : OneV w v 10) : Calls Tryz.prog 41 #[.slice A n c, v] w fun e w' => ∃ v, e = .returned v ∧ Below w.heap.size w w' ∧ DgV w' v (M * 10) := by
  obtain ⟨B, rfl, hr⟩ := ht
  have e10 : digs B32 10 = [10] := by rw [digs_pos B32_two (by omega), show 10 % B32 = 10 by rfl, show 10 / B32 = 0 by rfl, digs_zero]
  refine (rmul_is (Y := 10) (l := 1) h (by unfold Dg; rw [e10]; exact hr) hM (by unfold B64; omega) (by omega) (by omega)).mono ?_
  rintro e w' ⟨A', n', c', rfl, h1, hb⟩
  exact ⟨_, rfl, hb, A', n', c', rfl, h1⟩
theorem add_dig {w : World} {u v : Value} {X d : Nat} (hu : DgV w u X) (hv : DgV w v d) (hX : X < B64 ^ 90) (hd : d < 10) : Calls Tryz.prog 40 #[u, v] w fun e w' => ∃ v, e = .returned v ∧ Below w.heap.size w w' ∧ DgV w' v (X + d) := by
  obtain ⟨A, n, c, rfl, h⟩ := hu
  obtain ⟨B, m, e, rfl, k⟩ := hv
  refine (radd_is (l := 1) h k hX (by unfold B64; omega) (by omega) (by omega)).mono ?_
  rintro e w' ⟨A', n', c', rfl, h1, hb⟩
  exact ⟨_, rfl, hb, A', n', c', rfl, h1⟩

set_option maxRecDepth 100000 in
theorem digit_stmt {ops : Array Oper} {Q : Exit → Act → World → Prop} {id : Nat} {a0 : Act} {w0 : World} {A : Option Addr} {n c M d x k : Nat} {s : ByteArray} (hm : Tryz.prog.follows .mixedOrders = true) (hN : ops.size = 12) (hchk : chkB ops dgNeed dgLate 12 = true)
    (ho : ∀ i, i < 12 → ops[i]? = some (theOp ops i) ∧ (theOp ops i).guard = none ∧ (theOp ops i).dst = some (dgDst i)) (hsz : 51 < a0.tmps.size)
    (c0 : (theOp ops 0).op = .move (.tmp 7)) (c1 : (theOp ops 1).op = .buildSlice 50 1 #[(0, .const (.int .u32 10))]) (c2 : (theOp ops 2).op = .call { callee := .value (.func 41), args := #[.tmp 41, .tmp 42], argTypes := #[50, 50] })
    (c3 : (theOp ops 3).op = .move (.tmp 0)) (c4 : (theOp ops 4).op = .move (.tmp 8)) (c5 : (theOp ops 5).op = .index 9 (.tmp 44) (.tmp 45)) (c6 : (theOp ops 6).op = .binOp .sub 5 (.tmp 46) (.const (.int .u8 48)) 5)
    (c7 : (theOp ops 7).op = .convert 5 64 (.tmp 47)) (c8 : (theOp ops 8).op = .buildSlice 50 1 #[(0, .tmp 48)]) (c9 : (theOp ops 9).op = .call { callee := .value (.func 38), args := #[.tmp 49], argTypes := #[50] })
    (c10 : (theOp ops 10).op = .call { callee := .value (.func 40), args := #[.tmp 43, .tmp 50], argTypes := #[50, 50] }) (c11 : (theOp ops 11).op = .assign (.tmp 51))
    (e7 : a0.tmps[7]? = some (.slice A n c)) (e0 : a0.tmps[0]? = some (.string s)) (e8 : a0.tmps[8]? = some (.int .i64 (k : Int)))
    (hix : ∀ W, (Instr.index 9 (.string s) (.int .i64 (k : Int))).run Tryz.prog W = .ok (.int .u8 (x : Int)) W) (hx : x = 48 + d) (hd : d < 10) (hD : Dg w0 A n c M) (hM : M < B64 ^ 80)
    (hQ : ∀ (vals : Nat → Value) w, Below w0.heap.size w0 w → DgV w (vals 11) (M * 10 + d) → Q .normal (putAll dgDst vals a0 12) w) : (Code.region id ops true).wp Tryz.prog Q a0 w0 := by
  have hM90 : M * 10 < B64 ^ 90 := Nat.lt_of_lt_of_le (Nat.mul_lt_mul_of_pos_right hM (by omega)) (by unfold B64; decide +kernel)
  refine region_mono dgDst dgNeed dgLate (dgF (.slice A n c) M d x s k) hm hN hchk ?_ ?_ ?_ ?_ ?_ (fun vals w hb hF => hQ vals w hb (hF 11 (by omega)))
  · intro j hj
    have : ∀ j : Fin 12, dgDst j.val ≤ 51 := by decide
    exact Nat.lt_of_le_of_lt (this ⟨j, hj⟩) hsz
  · intro i j hi hj h
    have : ∀ i j : Fin 12, dgDst i.val = dgDst j.val → i.val = j.val := by decide
    exact this ⟨i, hi⟩ ⟨j, hj⟩ h
  · intro i w w' v hb hF
    unfold dgF at hF ⊢
    split at hF
    · exact hF
    · exact hF.step hb
    · exact hF.step hb
    · exact hF
    · exact hF
    · exact hF
    · exact hF
    · exact hF
    · exact hF.step hb
    · exact hF.step hb
    · exact hF.step hb
    · exact hF.step hb
  · intro i hi a w hb hdf hun hne
    obtain ⟨o1, o2, o3⟩ := ho i hi
    rcases (show i = 0 ∨ i = 1 ∨ i = 2 ∨ i = 3 ∨ i = 4 ∨ i = 5 ∨ i = 6 ∨ i = 7 ∨ i = 8 ∨ i = 9 ∨ i = 10 ∨ i = 11 by omega) with rfl | rfl | rfl | rfl | rfl | rfl | rfl | rfl | rfl | rfl | rfl | rfl
    · have h7 : a.tmps[7]? = some (.slice A n c) := by
        rw [hun 7 (fun j hj h => ?_)]; exact e7
        have : ∀ j : Fin 12, dgDst j.val = 7 → j.val = 11 := by decide
        have := this ⟨j, hj⟩ h
        simp only at this
        rw [this]; simp [dgLate]
      exact op_runs' o1 (want_none o2) o3 (z_move c0 (ev_of h7)) (Below.refl _ _) rfl
    · exact op_runs' o1 (want_none o2) o3 (z_build32 c1 rfl) (one_below _ _) (one_row32 w 10 10 rfl)
    · have f0 := hne 0 (by simp [dgNeed]); have f1 := hne 1 (by simp [dgNeed])
      refine op_calls' o1 (want_none o2) o3 (z_call2 en_rmul c2 rfl f0 rfl) ?_
      exact mul_ten (hD.step hb) hM f1
    · have h0 : a.tmps[0]? = some (.string s) := by
        rw [hun 0 (fun j hj h => ?_)]; exact e0
        have : ∀ j : Fin 12, dgDst j.val ≠ 0 := by decide
        exact absurd h (this ⟨j, hj⟩)
      exact op_runs' o1 (want_none o2) o3 (z_move c3 (ev_of h0)) (Below.refl _ _) rfl
    · have h8 : a.tmps[8]? = some (.int .i64 (k : Int)) := by
        rw [hun 8 (fun j hj h => ?_)]; exact e8
        have : ∀ j : Fin 12, dgDst j.val ≠ 8 := by decide
        exact absurd h (this ⟨j, hj⟩)
      exact op_runs' o1 (want_none o2) o3 (z_move c4 (ev_of h8)) (Below.refl _ _) rfl
    · have f0 := hne 3 (by simp [dgNeed]); have f1 := hne 4 (by simp [dgNeed])
      exact op_runs' o1 (want_none o2) o3 (z_index c5 f0 f1 (hix w)) (Below.refl _ _) rfl
    · have f0 := hne 5 (by simp [dgNeed])
      exact op_runs' o1 (want_none o2) o3 (z_sub48 hx hd c6 rfl f0) (Below.refl _ _) rfl
    · have f0 := hne 6 (by simp [dgNeed])
      exact op_runs' o1 (want_none o2) o3 (z_conv32 hd c7 f0) (Below.refl _ _) rfl
    · have f0 := hne 7 (by simp [dgNeed])
      exact op_runs' o1 (want_none o2) o3 (z_build32 c8 f0) (one_below _ _) (one_row32 w d _ rfl)
    · have f0 := hne 8 (by simp [dgNeed])
      refine op_calls' o1 (want_none o2) o3 (z_call1 en_rtrim c9 rfl rfl) ?_
      exact trim_one f0 hd
    · have f0 := hne 2 (by simp [dgNeed]); have f1 := hne 9 (by simp [dgNeed])
      refine op_calls' o1 (want_none o2) o3 (z_call2 en_radd c10 rfl rfl rfl) ?_
      exact add_dig f0 f1 hM90 hd
    · have f0 := hne 10 (by simp [dgNeed])
      exact op_runs' o1 (want_none o2) o3 (z_assign c11 rfl) (Below.refl _ _) f0
  · intro i hi j hj
    have : ∀ i : Fin 12, ∀ j ∈ dgNeed i.val, j < 12 := by decide
    exact this ⟨i, hi⟩ j hj
end Go.Proofs.YtdmnohmjobofhaaGreatDoor
