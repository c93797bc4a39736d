/- The types that the program's text uses; numbers and intervals as cells; contracts as tables. -/
import Derived.Test.YtobcbhppmgnioaaGreatDoorSAiG
import Derived.Test.YtobcbhppmgnioaaGreatDoorSLift
namespace Go.Proofs.YtobcbhppmgnioaaGreatDoor
set_option linter.unusedSimpArgs false
set_option linter.unusedVariables false
open Go.RowKit Nx
section
def tiB : TI := ⟨false, 1, [.lit (.bool false)], [.bool false], [], none⟩
def tiI : TI := ⟨false, 1, [.lit (.int .i64 0)], [.int .i64 0], [], none⟩
def tiW : TI := ⟨false, 1, [.ws []], [.slice none 0 0], [], some (66, true)⟩
def tiD : TI := ⟨false, 1, [.dg 0], [.slice none 0 0], [], some (122, true)⟩
def tiF : TI := ⟨false, 1, [.lit .nilFunc], [.nilFunc], [], none⟩
def tiNum : TI := ⟨true, 3, [.lit (.bool false), .lit (.int .i64 0), .ws []], [.bool false, .int .i64 0, .slice none 0 0], [(0, 1, false), (1, 1, false), (2, 1, false)], none⟩
def tiIv : TI := ⟨true, 6, [.lit (.bool false), .lit (.int .i64 0), .ws [], .lit (.bool false), .lit (.int .i64 0), .ws []], [.bool false, .int .i64 0, .slice none 0 0, .bool false, .int .i64 0, .slice none 0 0], [(0, 3, true), (3, 3, true)], none⟩
def tiVal : TI := ⟨true, 3, [.lit (.bool false), .dg 0, .lit (.int .i64 0)], [.bool false, .slice none 0 0, .int .i64 0], [(0, 1, false), (1, 1, false), (2, 1, false)], none⟩
def tiSc : TI := ⟨true, 4, [.lit (.bool false), .lit (.int .i64 0), .ws [], .lit (.int .i64 0)], [.bool false, .int .i64 0, .slice none 0 0, .int .i64 0], [(0, 3, true), (3, 1, false)], none⟩
def tiU : TI := ⟨false, 1, [.lit (.int .u64 0)], [.int .u64 0], [], none⟩
def tiR : TI := ⟨false, 1, [.lit (.slice none 0 0)], [.slice none 0 0], [], some (28, false)⟩
def tyT (t : TypeId) : Option TI :=
 if t = 26 then some tiNum else if t = 28 then some tiIv else if t = 4 then some tiB else if t = 3 then some tiI else if t = 2 then some tiI
 else if t = 49 then some tiI else if t = 24 then some tiW else if t = 56 then some tiVal else if t = 54 then some tiD else if t = 115 then some tiSc
 else if t = 23 then some tiR else if t = 118 then some tiF else if t = 111 then some tiF else if t = 66 then some tiU else none
theorem R_ws0 {ρ : Env} {D : Nat → Bool} {w : World} : Lf.R ρ D w (.ws []) (.slice none 0 0) := ⟨none, 0, 0, rfl, ⟨Rd.none_, Small.nil⟩, by omega⟩
theorem R_dg0 {ρ : Env} {D : Nat → Bool} {w : World} : Lf.R ρ D w (.dg 0) (.slice none 0 0) := ⟨none, 0, 0, rfl, by show Rd .u32 w 0 _ none 0 0 (digs B32 0); rw [digs_zero]; exact Rd.none_⟩
theorem flds_nil {P : Program} {t : TypeId} (k : Nat) (p : Nat × Nat × Bool) (h : ([] : List (Nat × Nat × Bool))[k]? = some p) : ∃ (fs : Array Field) (f : Field), P.underlying t = some (.struct fs) ∧ fs[k]? = some f ∧ f.offset = p.1 ∧ (P.info? f.type).map (·.size) = some p.2.1 ∧ p.2.1 ≠ 0 ∧ (P.underlying f.type).map (·.isRow) = some p.2.2 := by simp at h
def fldB (P : Program) (t : TypeId) (l : List (Nat × Nat × Bool)) : Bool := match P.underlying t with
 | some (.struct fs) => (List.range l.length).all fun k => (match fs[k]?, l[k]? with
  | some f, some p => f.offset == p.1 && ((P.info? f.type).map (·.size)) == some p.2.1 && p.2.1 != 0 && ((P.underlying f.type).map (·.isRow)) == some p.2.2
  | _, _ => false)
 | _ => false
theorem fld_of {P : Program} {t : TypeId} {l : List (Nat × Nat × Bool)} (h : fldB P t l = true) (k : Nat) (p : Nat × Nat × Bool) (hk : l[k]? = some p) : ∃ (fs : Array Field) (f : Field), P.underlying t = some (.struct fs) ∧ fs[k]? = some f ∧ f.offset = p.1 ∧ (P.info? f.type).map (·.size) = some p.2.1 ∧ p.2.1 ≠ 0 ∧ (P.underlying f.type).map (·.isRow) = some p.2.2 := by
 unfold fldB at h
 split at h
 ·rename_i fs hu
  have hkl : k < l.length := by
   rcases Nat.lt_or_ge k l.length with h | h
   ·exact h
   ·rw [List.getElem?_eq_none h] at hk; cases hk
  have h1 := List.all_eq_true.1 h k (by simpa using hkl)
  rw [hk] at h1
  cases hf : fs[k]? with
  | none => rw [hf] at h1; cases h1
  | some f =>
   rw [hf] at h1
   simp only [Bool.and_eq_true, beq_iff_eq, bne_iff_ne] at h1
   exact ⟨fs, f, hu, hf, h1.1.1.1, h1.1.1.2, h1.1.2, h1.2⟩
 ·cases h
def plB (P : Program) (t : TypeId) (l : List (Nat × Nat × Bool)) : Bool := match P.underlying t with
 | some (.struct fs) => fs.toList.mapM (fun f => (P.info? f.type).map fun i => (f.offset, i.size)) == some (l.map fun p => (p.1, p.2.1))
 | _ => false
theorem pl_of {P : Program} {t : TypeId} {l : List (Nat × Nat × Bool)} (h : plB P t l = true) : ∃ fs : Array Field, P.underlying t = some (.struct fs) ∧ fs.toList.mapM (fun f => (P.info? f.type).map fun i => (f.offset, i.size)) = some (l.map fun p => (p.1, p.2.1)) := by
 unfold plB at h
 split at h
 ·rename_i fs hu; exact ⟨fs, hu, by simpa using h⟩
 ·cases h
theorem leaf_ok {P : Program} {t : TypeId} {l : Lf} {u : Value} {el : Option (TypeId × Bool)} (hby : (P.info? t).any (fun i => decide (i.bytes ≤ 100000)) = true) (h1 : (P.info? t).map (·.size) = some 1) (h2 : (P.info? t).bind (·.zero) = some u) (h3 : (P.underlying t).map (·.isRow) = some false) (hr : ∀ ρ D w, l.R ρ D w u) (ho : okLf l = true) (hb : ∀ b, u = .bool b → P.underlying t = some .bool) (hi : ∀ k z, u = .int k z → P.underlying t = some (.int k)) (hs : ∀ e b, el = some (e, b) → P.underlying t = some (.slice e) ∧ (b = true → ∃ ie z, P.info? e = some ie ∧ ie.size = 1 ∧ ie.zero = some z ∧ ie.bytes ≤ 8)) : TiOK P t ⟨false, 1, [l], [u], [], el⟩ :=
 ⟨h1, h2, h3, flds_nil, (fun h => by cases h), fun ρ D w => RL.one.2 (hr ρ D w), .inl (by simp [ho]), rfl, fun _ => rfl, fun k z _ h => hi k z (by simpa using h), hs, fun b _ h => hb b (by simpa using h), hby⟩
theorem rz3 {ρ : Env} {D : Nat → Bool} {w : World} {a b c : Lf} {x y z : Value} (h1 : a.R ρ D w x) (h2 : b.R ρ D w y) (h3 : c.R ρ D w z) : RL ρ D w [a, b, c] [x, y, z] := ⟨x, _, rfl, h1, y, _, rfl, h2, z, _, rfl, h3, rfl⟩
theorem rz6 {ρ : Env} {D : Nat → Bool} {w : World} {a b c d e f : Lf} {x y z u v t : Value} (h1 : a.R ρ D w x) (h2 : b.R ρ D w y) (h3 : c.R ρ D w z) (h4 : d.R ρ D w u) (h5 : e.R ρ D w v) (h6 : f.R ρ D w t) : RL ρ D w [a, b, c, d, e, f] [x, y, z, u, v, t] := ⟨x, _, rfl, h1, y, _, rfl, h2, z, _, rfl, h3, u, _, rfl, h4, v, _, rfl, h5, t, _, rfl, h6, rfl⟩
theorem rz4 {ρ : Env} {D : Nat → Bool} {w : World} {a b c d : Lf} {x y z u : Value} (h1 : a.R ρ D w x) (h2 : b.R ρ D w y) (h3 : c.R ρ D w z) (h4 : d.R ρ D w u) : RL ρ D w [a, b, c, d] [x, y, z, u] := ⟨x, _, rfl, h1, y, _, rfl, h2, z, _, rfl, h3, u, _, rfl, h4, rfl⟩
theorem Rl {ρ : Env} {D : Nat → Bool} {w : World} (v : Value) : Lf.R ρ D w (.lit v) v := rfl
theorem row_ok {P : Program} {t : TypeId} {i : TI} (hby : (P.info? t).any (fun i => decide (i.bytes ≤ 100000)) = true) (he : i.el = none) (ha : i.agg = true) (h1 : (P.info? t).map (·.size) = some i.size) (h2 : (P.info? t).bind (·.zero) = some (.agg i.zv.toArray)) (h3 : (P.underlying t).map (·.isRow) = some true) (h4 : fldB P t i.flds = true) (h5 : plB P t i.flds = true) (hr : ∀ ρ D w, RL ρ D w i.zero i.zv) (ho : i.zero.all okLf = true) (hl : i.zv.length = i.size) : TiOK P t i :=
 ⟨h1, by rw [h2]; unfold zof; rw [ha], by rw [h3, ha], fld_of h4, fun _ => pl_of h5, hr, .inl ho, hl, (fun h => by rw [ha] at h; cases h), (fun k z h => by rw [ha] at h; cases h), (fun e b h => by rw [he] at h; cases h), (fun b h => by rw [ha] at h; cases h), hby⟩
theorem ok_num : TiOK Tryz.prog 26 tiNum := row_ok (by kernel_rfl) rfl rfl (by kernel_rfl) (by kernel_rfl) (by kernel_rfl) (by kernel_rfl) (by kernel_rfl) (fun _ _ _ => rz3 (Rl _) (Rl _) R_ws0) rfl rfl
theorem ok_val : TiOK Tryz.prog 56 tiVal := row_ok (by kernel_rfl) rfl rfl (by kernel_rfl) (by kernel_rfl) (by kernel_rfl) (by kernel_rfl) (by kernel_rfl) (fun _ _ _ => rz3 (Rl _) R_dg0 (Rl _)) rfl rfl
theorem ok_iv : TiOK Tryz.prog 28 tiIv := row_ok (by kernel_rfl) rfl rfl (by kernel_rfl) (by kernel_rfl) (by kernel_rfl) (by kernel_rfl) (by kernel_rfl) (fun _ _ _ => rz6 (Rl _) (Rl _) R_ws0 (Rl _) (Rl _) R_ws0) rfl rfl
theorem ok_sc : TiOK Tryz.prog 115 tiSc := row_ok (by kernel_rfl) rfl rfl (by kernel_rfl) (by kernel_rfl) (by kernel_rfl) (by kernel_rfl) (by kernel_rfl) (fun _ _ _ => rz4 (Rl _) (Rl _) R_ws0 (Rl _)) rfl rfl
theorem ik_of {P : Program} {t : TypeId} {k0 : IntKind} {z0 : Int} (h : P.underlying t = some (.int k0)) : ∀ k z, Value.int k0 z0 = .int k z → P.underlying t = some (.int k) := fun k z e => by
 injection e with e _; subst e; exact h
theorem sl_of {P : Program} {t e0 : TypeId} (h1 : P.underlying t = some (.slice e0)) (h2 : (match P.info? e0 with | some i => i.size == 1 && i.zero.isSome && decide (i.bytes ≤ 8) | none => false) = true) : ∀ e b, some (e0, true) = some (e, b) → P.underlying t = some (.slice e) ∧ (b = true → ∃ ie z, P.info? e = some ie ∧ ie.size = 1 ∧ ie.zero = some z ∧ ie.bytes ≤ 8) := by
 intro e b h
 injection h with h; injection h with h _; subst h
 refine ⟨h1, fun _ => ?_⟩
 split at h2
 ·rename_i i hi
  rw [Bool.and_eq_true, Bool.and_eq_true] at h2
  obtain ⟨z, hz⟩ := Option.isSome_iff_exists.1 h2.1.2
  exact ⟨i, z, hi, by simpa using h2.1.1, hz, by simpa using h2.2⟩
 ·cases h2
theorem sl_of' {P : Program} {t e0 : TypeId} (h1 : P.underlying t = some (.slice e0)) : ∀ e b, some (e0, false) = some (e, b) → P.underlying t = some (.slice e) ∧ (b = true → ∃ ie z, P.info? e = some ie ∧ ie.size = 1 ∧ ie.zero = some z ∧ ie.bytes ≤ 8) := by
 intro e b h
 injection h with h; injection h with h h'; subst h; subst h'
 exact ⟨h1, fun h => by cases h⟩
theorem ok_l0 : TiOK Tryz.prog 4 tiB := leaf_ok (by kernel_rfl) (by kernel_rfl) (by kernel_rfl) (by kernel_rfl) (fun _ _ _ => rfl) rfl (fun b h => by kernel_rfl) (fun k z h => by cases h) (fun e b h => by cases h)
theorem ok_l1 : TiOK Tryz.prog 3 tiI := leaf_ok (by kernel_rfl) (by kernel_rfl) (by kernel_rfl) (by kernel_rfl) (fun _ _ _ => rfl) rfl (fun b h => by cases h) (ik_of (by kernel_rfl)) (fun e b h => by cases h)
theorem ok_l2 : TiOK Tryz.prog 2 tiI := leaf_ok (by kernel_rfl) (by kernel_rfl) (by kernel_rfl) (by kernel_rfl) (fun _ _ _ => rfl) rfl (fun b h => by cases h) (ik_of (by kernel_rfl)) (fun e b h => by cases h)
theorem ok_l3 : TiOK Tryz.prog 49 tiI := leaf_ok (by kernel_rfl) (by kernel_rfl) (by kernel_rfl) (by kernel_rfl) (fun _ _ _ => rfl) rfl (fun b h => by cases h) (ik_of (by kernel_rfl)) (fun e b h => by cases h)
theorem ok_l4 : TiOK Tryz.prog 24 tiW := leaf_ok (by kernel_rfl) (by kernel_rfl) (by kernel_rfl) (by kernel_rfl) (fun _ _ _ => R_ws0) rfl (fun b h => by cases h) (fun k z h => by cases h) (sl_of (by kernel_rfl) (by kernel_rfl))
theorem ok_l5 : TiOK Tryz.prog 54 tiD := leaf_ok (by kernel_rfl) (by kernel_rfl) (by kernel_rfl) (by kernel_rfl) (fun _ _ _ => R_dg0) rfl (fun b h => by cases h) (fun k z h => by cases h) (sl_of (by kernel_rfl) (by kernel_rfl))
theorem ok_l6 : TiOK Tryz.prog 23 tiR := leaf_ok (by kernel_rfl) (by kernel_rfl) (by kernel_rfl) (by kernel_rfl) (fun _ _ _ => rfl) rfl (fun b h => by cases h) (fun k z h => by cases h) (sl_of' (by kernel_rfl))
theorem ok_l7 : TiOK Tryz.prog 118 tiF := leaf_ok (by kernel_rfl) (by kernel_rfl) (by kernel_rfl) (by kernel_rfl) (fun _ _ _ => rfl) rfl (fun b h => by cases h) (fun k z h => by cases h) (fun e b h => by cases h)
theorem ok_l8 : TiOK Tryz.prog 111 tiF := leaf_ok (by kernel_rfl) (by kernel_rfl) (by kernel_rfl) (by kernel_rfl) (fun _ _ _ => rfl) rfl (fun b h => by cases h) (fun k z h => by cases h) (fun e b h => by cases h)
theorem ok_l13 : TiOK Tryz.prog 66 tiU := ⟨by kernel_rfl, by kernel_rfl, by kernel_rfl, flds_nil, (fun h => by cases h), fun _ _ _ => RL.one.2 rfl, .inr ⟨rfl, 0, rfl⟩, rfl, fun _ => rfl, fun k z _ h => ik_of (by kernel_rfl) k z (by simpa [tiU] using h), (fun e b h => by cases h), (fun b _ h => by simp [tiU] at h), by kernel_rfl⟩
theorem tyT_ok (t : TypeId) (i : TI) (h : tyT t = some i) : TiOK Tryz.prog t i := by
 unfold tyT at h
 by_cases h0 : t = 26
 ·rw [if_pos h0] at h; injection h with h; subst h; subst h0; exact ok_num
 rw [if_neg h0] at h
 by_cases h1 : t = 28
 ·rw [if_pos h1] at h; injection h with h; subst h; subst h1; exact ok_iv
 rw [if_neg h1] at h
 by_cases h2 : t = 4
 ·rw [if_pos h2] at h; injection h with h; subst h; subst h2; exact ok_l0
 rw [if_neg h2] at h
 by_cases h3 : t = 3
 ·rw [if_pos h3] at h; injection h with h; subst h; subst h3; exact ok_l1
 rw [if_neg h3] at h
 by_cases h4 : t = 2
 ·rw [if_pos h4] at h; injection h with h; subst h; subst h4; exact ok_l2
 rw [if_neg h4] at h
 by_cases h5 : t = 49
 ·rw [if_pos h5] at h; injection h with h; subst h; subst h5; exact ok_l3
 rw [if_neg h5] at h
 by_cases h6 : t = 24
 ·rw [if_pos h6] at h; injection h with h; subst h; subst h6; exact ok_l4
 rw [if_neg h6] at h
 by_cases h7 : t = 56
 ·rw [if_pos h7] at h; injection h with h; subst h; subst h7; exact ok_val
 rw [if_neg h7] at h
 by_cases h8 : t = 54
 ·rw [if_pos h8] at h; injection h with h; subst h; subst h8; exact ok_l5
 rw [if_neg h8] at h
 by_cases h9 : t = 115
 ·rw [if_pos h9] at h; injection h with h; subst h; subst h9; exact ok_sc
 rw [if_neg h9] at h
 by_cases h10 : t = 23
 ·rw [if_pos h10] at h; injection h with h; subst h; subst h10; exact ok_l6
 rw [if_neg h10] at h
 by_cases h11 : t = 118
 ·rw [if_pos h11] at h; injection h with h; subst h; subst h11; exact ok_l7
 rw [if_neg h11] at h
 by_cases h12 : t = 111
 ·rw [if_pos h12] at h; injection h with h; subst h; subst h12; exact ok_l8
 rw [if_neg h12] at h
 by_cases h13 : t = 66
 ·rw [if_pos h13] at h; injection h with h; subst h; subst h13; exact ok_l13
 rw [if_neg h13] at h
 cases h
end
section
structure X where
 s : Bool
 e : Int
 xs : List Nat
def X.L (x : X) : List Lf := [.lit (.bool x.s), .lit (.int .i64 x.e), .ws x.xs]
def qx (q : Q) : X := ⟨q.s, q.e, digs B64 q.m⟩
def X.ok (x : X) : Bool := okb x.s x.e x.xs.length x.xs
def X.q (x : X) : Q := ⟨x.s, nval B64 x.xs, x.e⟩
def asNum : List Lf → Option X
 | [.lit (.bool s), .lit (.int .i64 e), .ws xs] => some ⟨s, e, xs⟩
 | _ => none
structure J where
 lo : X
 hi : X
def J.L (j : J) : List Lf := [.lit (.bool j.lo.s), .lit (.int .i64 j.lo.e), .ws j.lo.xs, .lit (.bool j.hi.s), .lit (.int .i64 j.hi.e), .ws j.hi.xs]
def asIv : List Lf → Option J
 | [.lit (.bool s), .lit (.int .i64 e), .ws xs, .lit (.bool t), .lit (.int .i64 f), .ws ys] => some ⟨⟨s, e, xs⟩, ⟨t, f, ys⟩⟩
 | _ => none
theorem asIv_eq {ls : List Lf} {x : J} (h : asIv ls = some x) : ls = x.L := by
 unfold asIv at h
 split at h
 ·injection h with h; subst h; rfl
 ·cases h
def vL (q : Q) : List Lf := [.lit (.bool q.s), .dg q.m, .lit (.int .i64 q.e)]
def asVal : List Lf → Option Q
 | [.lit (.bool s), .dg m, .lit (.int .i64 e)] => some ⟨s, m, e⟩
 | _ => none
theorem asVal_eq {ls : List Lf} {x : Q} (h : asVal ls = some x) : ls = vL x := by
 unfold asVal at h
 split at h
 ·injection h with h; subst h; rfl
 ·cases h
theorem asNum_eq {ls : List Lf} {x : X} (h : asNum ls = some x) : ls = x.L := by
 unfold asNum at h
 split at h
 ·injection h with h; subst h; rfl
 ·cases h
section
variable {ρ : Env} {D : Nat → Bool} {w : World}
theorem num_arg {x : X} {u : Value} (h : (AV.v true x.L).R ρ D w u) : ∃ (A : Option Addr) (c : Nat), u = .agg #[.bool x.s, .int .i64 x.e, .slice A x.xs.length c] ∧ Arg w A x.xs.length c x.xs ∧ x.xs.length ≤ 100000 := by
 obtain ⟨us, rfl, u1, r1, rfl, h1, u2, r2, rfl, h2, u3, r3, rfl, ⟨A, n, c, h3, h4, h5⟩, rfl⟩ := h
 have h1 : u1 = .bool x.s := h1
 have h2 : u2 = .int .i64 x.e := h2
 subst h1; subst h2; subst h3
 have hn : x.xs.length = n := h4.1.1
 subst hn
 exact ⟨A, c, rfl, h4, h5⟩
theorem val_arg {q : Q} {u : Value} (h : (AV.v true (vL q)).R ρ D w u) : ∃ (A : Option Addr) (n c : Nat), u = .agg #[.bool q.s, .slice A n c, .int .i64 q.e] ∧ Dg w A n c q.m := by
 obtain ⟨us, rfl, u1, r1, rfl, h1, u2, r2, rfl, ⟨A, n, c, h3, h4⟩, u3, r3, rfl, h2, rfl⟩ := h
 have h1 : u1 = .bool q.s := h1
 have h2 : u3 = .int .i64 q.e := h2
 subst h1; subst h2; subst h3
 exact ⟨A, n, c, rfl, h4⟩
theorem valv_R {H L : Nat} {v : Value} {q : Q} (h : ValV H L w v q) : (AV.v true (vL q)).R ρ D w v := by
 obtain ⟨A, n, c, rfl, hr, _⟩ := h
 exact ⟨_, rfl, rz3 rfl ⟨A, n, c, rfl, hr⟩ rfl⟩
theorem numv_R {lo : Nat} {v : Value} {q : Q} (h : NumV lo w v q) (hl : (digs B64 q.m).length ≤ 100000) : (AV.v true (qx q).L).R ρ D w v := by
 obtain ⟨A, n, c, rfl, hr⟩ := h
 have hn := hr.1
 exact ⟨_, rfl, rz3 rfl rfl ⟨A, n, c, rfl, ⟨hr.less (Nat.zero_le _), small_digs B64_two _⟩, by omega⟩⟩
theorem fits_len {q : Q} (h : Fits q) : (digs B64 q.m).length ≤ 100000 := by have := digs_len_le B64_two h.1; omega
end
abbrev Tbl := FuncId → List AV → Option (Prop × AV)
structure TbOK (P : Program) (T : Tbl) : Prop where
 enters : ∀ f args e, T f args = some e → ∀ (vs : Array Value) (w : World), (callFunc f vs).run P w = .ok (.enter f vs) w
 ct : ∀ f args e, T f args = some e → e.1 → Ct P f args (· = e.2)
def dnL : List Lf → Option (List Lc)
 | [] => some []
 | .lit v :: r => (match dnL r with
  | some k => some (.lit v :: k)
  | none => none)
 | .ws v :: r => (match dnL r with
  | some k => some (.ws v :: k)
  | none => none)
 | .dg v :: r => (match dnL r with
  | some k => some (.dg v :: k)
  | none => none)
 | .sl _ a b c :: r => (match dnL r with
  | some k => some (.sl a b c :: k)
  | none => none)
 | _ :: _ => none
def cvL (st : St) : Lf → Lf
 | .lit v => .lit v
 | .own b o => .own b o
 | .osl b n => (match look st (2 * b + 1) with
  | some (.v _ ls) => (match dnL ls with
   | some ls' => if ls.length = n * (ls.length / n) then .sl false (ls.length / n) n ls' else .osl b n
   | none => .osl b n)
  | _ => .osl b n)
 | .ws xs => .ws xs
 | .dg N => .dg N
 | .clo f cs => .clo f cs
 | .sl _ sz n ls => .sl false sz n ls
 | .im ls => .im ls
 | .ol b k => (match look st (2 * b + 1) with
  | some (.pre _ sz ls) => (match dnL ls with
   | some ls' => if ls.length = k * sz then .sl false sz k ls' else .ol b k
   | none => .ol b k)
  | _ => .ol b k)
 | .oe b k o => .oe b k o
 | .ov b k o n => .ov b k o n
def cvA (st : St) : AV → AV
 | .v g ls => .v g (ls.map (cvL st))
 | .tup ps => .tup ps
 | .pre e sz ls => .pre e sz ls
def olL : Lf → List Nat
 | .lit _ => []
 | .own _ _ => []
 | .osl b _ => [2 * b + 1]
 | .ws _ => []
 | .dg _ => []
 | .clo _ _ => []
 | .sl _ _ _ _ => []
 | .im _ => []
 | .ol b _ => [2 * b + 1]
 | .oe _ _ _ => []
 | .ov _ _ _ _ => []
def olA : AV → List Nat
 | .v _ ls => ls.flatMap olL
 | .tup _ => []
 | .pre _ _ _ => []
def noO : Lf → Bool
 | .lit _ => true
 | .own _ _ => false
 | .osl _ _ => false
 | .ws _ => true
 | .dg _ => true
 | .clo _ cs => cs.isEmpty
 | .sl _ _ _ _ => true
 | .im _ => true
 | .ol _ _ => false
 | .oe _ _ _ => false
 | .ov _ _ _ _ => false
def noA : AV → Bool
 | .v _ ls => ls.all noO
 | .tup _ => false
 | .pre _ _ _ => false
theorem dn_len : ∀ {ls : List Lf} {ks : List Lc}, dnL ls = some ks → ks.length = ls.length := by
 intro ls
 induction ls with
 | nil => intro ks h; injection h with h; subst h; rfl
 | cons l ls ih =>
  intro ks h
  cases l <;> simp only [dnL] at h <;> first | (cases h; done) | (split at h <;> first | (cases h; done) | (injection h with h; subst h; rename_i k hk; simp [ih hk]))
theorem dn_R {ρ : Env} {D : Nat → Bool} {w : World} {S : Nat → Prop} (hS : ∀ g, Sep ρ D g → S g) : ∀ {ls : List Lf} {ks : List Lc} {us : List Value}, dnL ls = some ks → RL ρ D w ls us → LcL S w ks us := by
 intro ls
 induction ls with
 | nil => intro ks us h hr; injection h with h; subst h; exact hr
 | cons l ls ih =>
  intro ks us h hr
  obtain ⟨u, r, e, h1, h2⟩ := hr
  cases l with
  | lit v =>
   simp only [dnL] at h
   split at h
   ·rename_i k hk; injection h with h; subst h; exact ⟨u, r, e, h1, ih hk h2⟩
   ·cases h
  | ws v =>
   simp only [dnL] at h
   split at h
   ·rename_i k hk; injection h with h; subst h; exact ⟨u, r, e, h1, ih hk h2⟩
   ·cases h
  | dg v =>
   simp only [dnL] at h
   split at h
   ·rename_i k hk; injection h with h; subst h; exact ⟨u, r, e, h1, ih hk h2⟩
   ·cases h
  | sl f a b c =>
   simp only [dnL] at h
   split at h
   ·rename_i k hk; injection h with h; subst h; exact ⟨u, r, e, Lc.R.mono (Keeps.refl _ _) (fun g _ _ _ h => hS g h.1) _ _ h1, ih hk h2⟩
   ·cases h
  | _ => simp [dnL] at h
section
variable {F : Fx} {w0 w : World} {N : Nat} {ρ : Env} {st : St} {a : Act}
abbrev Env.no (ρ : Env) : Env := { ρ with al := fun _ => false }
omit F w0 N st a in
theorem no_sep {ρ : Env} {g : Nat} : Sep ρ.no (fun _ => false) g := ⟨fun b hb => (by cases hb), fun b hb => (by cases hb)⟩
theorem cv_R (h : Cz F w0 N ρ st a w) {l : Lf} {u : Value} (hR : l.R ρ (dom st) w u) (hn : noO (cvL st l) = true) : (cvL st l).R ρ.no (fun _ => false) w u := by
 have hS : ∀ g, Sep ρ (dom st) g → SepF false ρ.no (fun _ => false) g := fun g _ => ⟨no_sep, fun e => (by cases e)⟩
 cases l with
 | sl f sz n ls => exact Lc.R.mono (Keeps.refl _ _) (fun g _ _ _ _ => ⟨no_sep, fun e => (by cases e)⟩) _ _ hR
 | im ls => exact ImR.mono hR (Keeps.refl _ _) fun g _ _ _ _ => no_sep
 | own b o => cases hn
 | oe b k o => cases hn
 | ov b k o n => cases hn
 | clo f cs => cases cs with
  | nil => exact ⟨(fun b hb => by cases hb), hR.2⟩
  | cons _ _ => cases hn
 | osl b n =>
  have hq : (∃ g ls ks, look st (2 * b + 1) = some (.v g ls) ∧ dnL ls = some ks ∧ ls.length = n * (ls.length / n) ∧ cvL st (.osl b n) = .sl false (ls.length / n) n ks) ∨ cvL st (.osl b n) = .osl b n := by
   simp only [cvL]
   split
   ·rename_i g ls hl
    split
    ·rename_i ks hk
     split
     ·rename_i hn; exact .inl ⟨g, ls, ks, hl, hk, hn, rfl⟩
     ·exact .inr rfl
    ·exact .inr rfl
   ·exact .inr rfl
  rcases hq with ⟨g, ls, ks, hl, hk, hn', e⟩ | e
  case inr => rw [e] at hn; cases hn
  rw [e]
  obtain ⟨hdb, hu⟩ := hR
  obtain ⟨g0, ls0, T, cs, e0, hB, hr0, ho0, hg⟩ := h.mv hl
  injection e0 with e1 e0; subst e0
  have hlen := hr0.len
  rw [Array.length_toList] at hlen
  have hkl := dn_len hk
  refine ⟨by rw [hkl]; exact hn', _, n, hu, Nat.le_refl _, .inr ⟨⟨ρ b, 0, none⟩, T, cs, rfl, rfl, ⟨no_sep, fun e => (by cases e)⟩, hB.wb, ?_, ?_⟩⟩
  ·show 0 + ks.length ≤ cs.size; omega
  ·show LcL _ w ks ((cs.toList.drop 0).take ks.length)
   rw [List.drop_zero, List.take_of_length_le (by rw [Array.length_toList]; omega)]
   exact dn_R hS hk hr0
 | ol b k =>
  have hq : (∃ e sz ls ks, look st (2 * b + 1) = some (.pre e sz ls) ∧ dnL ls = some ks ∧ ls.length = k * sz ∧ cvL st (.ol b k) = .sl false sz k ks) ∨ cvL st (.ol b k) = .ol b k := by
   simp only [cvL]
   split
   ·rename_i e sz ls hl
    split
    ·rename_i ks hk
     split
     ·rename_i hn; exact .inl ⟨e, sz, ls, ks, hl, hk, hn, rfl⟩
     ·exact .inr rfl
    ·exact .inr rfl
   ·exact .inr rfl
  rcases hq with ⟨e, sz, ls, ks, hl, hk, hn', e'⟩ | e
  case inr => rw [e] at hn; cases hn
  rw [e']
  obtain ⟨hal, hgk, hk0, hsz, hok, hdm, g, cap, cur, us, hgh, hob, hbg, ⟨T0, hB⟩, hkc, hcm, hcs, htk, hul, hcok, hRl⟩ := h.cur hl hn'
  obtain ⟨_, _, hu, _⟩ := hR
  have hu := (hu hgk.symm).trans hgh
  have hkl := dn_len hk
  have hcl : k * sz ≤ cur.size := by rw [hcs]; exact Nat.mul_le_mul_right _ hkc
  refine ⟨by rw [hkl]; exact hn', _, cap, hu, hkc, .inr ⟨⟨g, 0, none⟩, T0, cur, rfl, rfl, ⟨no_sep, fun e => (by cases e)⟩, hB.wb, ?_, ?_⟩⟩
  ·show 0 + ks.length ≤ cur.size; omega
  ·show LcL _ w ks ((cur.toList.drop 0).take ks.length)
   rw [List.drop_zero, hkl, hn', htk]
   exact dn_R hS hk hRl
 | _ => exact hR
theorem cv_RL (h : Cz F w0 N ρ st a w) : ∀ {ls : List Lf} {us : List Value}, RL ρ (dom st) w ls us → (ls.map (cvL st)).all noO = true → RL ρ.no (fun _ => false) w (ls.map (cvL st)) us := by
 intro ls
 induction ls with
 | nil => intro us hr _; exact hr
 | cons l ls ih =>
  intro us hr hn
  obtain ⟨u, r, e, h1, h2⟩ := hr
  rw [List.map_cons, List.all_cons, Bool.and_eq_true] at hn
  exact ⟨u, r, e, cv_R h h1 hn.1, ih h2 hn.2⟩
theorem cv_RA (h : Cz F w0 N ρ st a w) : ∀ {xs : List AV} {us : List Value}, RA ρ (dom st) w xs us → (xs.map (cvA st)).all noA = true → RA ρ.no (fun _ => false) w (xs.map (cvA st)) us := by
 intro xs
 induction xs with
 | nil => intro us hr _; exact hr
 | cons x xs ih =>
  intro us hr hn
  obtain ⟨u, r, e, h1, h2⟩ := hr
  rw [List.map_cons, List.all_cons, Bool.and_eq_true] at hn
  refine ⟨u, r, e, ?_, ih h2 hn.2⟩
  cases x with
  | v g ls =>
   cases g with
   | true => obtain ⟨vs, e', hr'⟩ := h1; exact ⟨vs, e', cv_RL h hr' hn.1⟩
   | false => exact cv_RL h (us := [u]) h1 hn.1
  | tup _ => cases hn.1
  | pre _ _ _ => cases hn.1
theorem cvL_congr {st' : St} {l : Lf} (h : ∀ k ∈ olL l, look st' k = look st k) : cvL st' l = cvL st l := by
 cases l with
 | ol b k => simp only [cvL, h (2 * b + 1) (by simp [olL])]
 | osl b n => simp only [cvL, h (2 * b + 1) (by simp [olL])]
 | _ => rfl
theorem cvA_congr {st' : St} {x : AV} (h : ∀ k ∈ olA x, look st' k = look st k) : cvA st' x = cvA st x := by
 cases x with
 | v g ls =>
  show AV.v g _ = AV.v g _
  congr 1
  exact List.map_congr_left fun l hl => cvL_congr fun k hk => h k (List.mem_flatMap.2 ⟨l, hl, hk⟩)
 | _ => rfl
end
def tblO (T : Tbl) : Orac := fun f d st args => match T f (args.map (cvA st)) with
 | some e => if (args.map (cvA st)).all noA = true then some (e.1, args.flatMap olA, [(2 * d, e.2)]) else none
 | none => none
theorem tblO_ok {P : Program} {T : Tbl} (h : TbOK P T) (F : Fx) (w0 : World) : OrOK P (tblO T) F w0 := by
 refine ⟨fun f d st args e he => ?_, fun f d st args e he hp N ρ a w us hz hd hA => ?_, fun f d st st' args e he hk => ?_⟩
 ·unfold tblO at he
  split at he
  ·rename_i q hq; exact h.enters f _ q hq
  ·cases he
 ·unfold tblO at he
  split at he
  ·rename_i q hq
   split at he
   ·rename_i hn
    injection he with he; subst he
    refine (h.ct f _ q hq hp _ (fun _ => false) w us (hz.tb.tab hz.bel) (cv_RA hz hA hn)).mono ?_
    rintro en w' ⟨u, r, rfl, rfl, _, hR, hb⟩
    exact ⟨u, ρ, rfl, hz.val hb hd (hR _ _ hz.old)⟩
   ·cases he
  ·cases he
 ·have h0 := he
  unfold tblO at he
  split at he
  ·split at he
   ·injection he with he; subst he
    have hm : args.map (cvA st') = args.map (cvA st) := List.map_congr_left fun x hx => cvA_congr fun k hk' => hk k (List.mem_flatMap.2 ⟨x, hx, hk'⟩)
    rw [← h0]
    unfold tblO
    rw [hm]
   ·cases he
  ·cases he
def orT (S T : Tbl) : Tbl := fun f args => match S f args with
 | some e => some e
 | none => T f args
theorem orT_ok {P : Program} {S T : Tbl} (hS : TbOK P S) (hT : TbOK P T) : TbOK P (orT S T) := by
 refine ⟨fun f args e he => ?_, fun f args e he => ?_⟩
 ·unfold orT at he
  split at he
  ·rename_i q hq; injection he with he; subst he; exact hS.enters f args _ hq
  ·exact hT.enters f args e he
 ·unfold orT at he
  split at he
  ·rename_i q hq; injection he with he; subst he; exact hS.ct f args _ hq
  ·exact hT.ct f args e he
def one (g : FuncId) (k : List AV → Option (Prop × AV)) : Tbl := fun f args => if f = g then k args else none
theorem one_ok {P : Program} {g : FuncId} {k : List AV → Option (Prop × AV)} (he : ∀ (vs : Array Value) (w : World), (callFunc g vs).run P w = .ok (.enter g vs) w) (hc : ∀ args e, k args = some e → e.1 → Ct P g args (· = e.2)) : TbOK P (one g k) := by
 refine ⟨fun f args e h => ?_, fun f args e h => ?_⟩
 ·unfold one at h
  split at h
  ·rename_i hf; subst hf; exact he
  ·cases h
 ·unfold one at h
  split at h
  ·rename_i hf; subst hf; exact hc args e h
  ·cases h
def noT : Tbl := fun _ _ => none
theorem noT_ok {P : Program} : TbOK P noT := ⟨(fun _ _ _ h => by cases h), (fun _ _ _ h => by cases h)⟩
section
abbrev bA (b : Bool) : AV := .s (.lit (.bool b))
abbrev iA (z : Int) : AV := .s (.lit (.int .i64 z))
abbrev nA (q : Q) : AV := .v true (qx q).L
abbrev vA (q : Q) : AV := .v true (vL q)
abbrev neA (r : Q × Int) : AV := .tup [(true, (qx r.1).L), (false, [.lit (.int .i64 r.2)])]
end
def gN (k : X → Prop × AV) : List AV → Option (Prop × AV)
 | [.v true mx] => (match asNum mx with
  | some x => some (k x)
  | _ => none)
 | _ => none
theorem gN_eq {k : X → Prop × AV} {args : List AV} {e : Prop × AV} (h : gN k args = some e) : ∃ x, args = [.v true x.L] ∧ e = k x := by
 unfold gN at h
 split at h
 ·split at h
  ·rename_i x hx
   injection h with h; subst h
   exact ⟨x, by rw [asNum_eq hx], rfl⟩
  ·cases h
 ·cases h
def gNN (k : X → X → Prop × AV) : List AV → Option (Prop × AV)
 | [.v true mx, .v true mx1] => (match asNum mx, asNum mx1 with
  | some x, some x1 => some (k x x1)
  | _, _ => none)
 | _ => none
theorem gNN_eq {k : X → X → Prop × AV} {args : List AV} {e : Prop × AV} (h : gNN k args = some e) : ∃ x x1, args = [.v true x.L, .v true x1.L] ∧ e = k x x1 := by
 unfold gNN at h
 split at h
 ·split at h
  ·rename_i x x1 hx hx1
   injection h with h; subst h
   exact ⟨x, x1, by rw [asNum_eq hx, asNum_eq hx1], rfl⟩
  ·cases h
 ·cases h
def gNI (k : X → Int → Prop × AV) : List AV → Option (Prop × AV)
 | [.v true mx, .v false [.lit (.int .i64 z)]] => (match asNum mx with
  | some x => some (k x z)
  | _ => none)
 | _ => none
theorem gNI_eq {k : X → Int → Prop × AV} {args : List AV} {e : Prop × AV} (h : gNI k args = some e) : ∃ x z, args = [.v true x.L, iA z] ∧ e = k x z := by
 unfold gNI at h
 split at h
 ·split at h
  ·rename_i x hx
   injection h with h; subst h
   exact ⟨x, _, by rw [asNum_eq hx], rfl⟩
  ·cases h
 ·cases h
def gI (k : Int → Prop × AV) : List AV → Option (Prop × AV)
 | [.v false [.lit (.int .i64 z)]] => some (k z)
 | _ => none
theorem gI_eq {k : Int → Prop × AV} {args : List AV} {e : Prop × AV} (h : gI k args = some e) : ∃ z, args = [iA z] ∧ e = k z := by
 unfold gI at h
 split at h
 ·injection h with h; subst h
  exact ⟨_, rfl, rfl⟩
 ·cases h
def gNNIB (k : X → X → Int → Bool → Prop × AV) : List AV → Option (Prop × AV)
 | [.v true mx, .v true mx1, .v false [.lit (.int .i64 z)], .v false [.lit (.bool b)]] => (match asNum mx, asNum mx1 with
  | some x, some x1 => some (k x x1 z b)
  | _, _ => none)
 | _ => none
theorem gNNIB_eq {k : X → X → Int → Bool → Prop × AV} {args : List AV} {e : Prop × AV} (h : gNNIB k args = some e) : ∃ x x1 z b, args = [.v true x.L, .v true x1.L, iA z, bA b] ∧ e = k x x1 z b := by
 unfold gNNIB at h
 split at h
 ·split at h
  ·rename_i x x1 hx hx1
   injection h with h; subst h
   exact ⟨x, x1, _, _, by rw [asNum_eq hx, asNum_eq hx1], rfl⟩
  ·cases h
 ·cases h
def gNIB (k : X → Int → Bool → Prop × AV) : List AV → Option (Prop × AV)
 | [.v true mx, .v false [.lit (.int .i64 z)], .v false [.lit (.bool b)]] => (match asNum mx with
  | some x => some (k x z b)
  | _ => none)
 | _ => none
def gV (k : Q → Prop × AV) : List AV → Option (Prop × AV)
 | [.v true mq] => (match asVal mq with
  | some q => some (k q)
  | _ => none)
 | _ => none
theorem gV_eq {k : Q → Prop × AV} {args : List AV} {e : Prop × AV} (h : gV k args = some e) : ∃ q, args = [.v true (vL q)] ∧ e = k q := by
 unfold gV at h
 split at h
 ·split at h
  ·rename_i q hq
   injection h with h; subst h
   exact ⟨q, by rw [asVal_eq hq], rfl⟩
  ·cases h
 ·cases h
def gVV (k : Q → Q → Prop × AV) : List AV → Option (Prop × AV)
 | [.v true mq, .v true mq1] => (match asVal mq, asVal mq1 with
  | some q, some q1 => some (k q q1)
  | _, _ => none)
 | _ => none
theorem gVV_eq {k : Q → Q → Prop × AV} {args : List AV} {e : Prop × AV} (h : gVV k args = some e) : ∃ q q1, args = [.v true (vL q), .v true (vL q1)] ∧ e = k q q1 := by
 unfold gVV at h
 split at h
 ·split at h
  ·rename_i q q1 hq hq1
   injection h with h; subst h
   exact ⟨q, q1, by rw [asVal_eq hq, asVal_eq hq1], rfl⟩
  ·cases h
 ·cases h
def gVIB (k : Q → Int → Bool → Prop × AV) : List AV → Option (Prop × AV)
 | [.v true mq, .v false [.lit (.int .i64 z)], .v false [.lit (.bool b)]] => (match asVal mq with
  | some q => some (k q z b)
  | _ => none)
 | _ => none
def gVVIB (k : Q → Q → Int → Bool → Prop × AV) : List AV → Option (Prop × AV)
 | [.v true mq, .v true mq1, .v false [.lit (.int .i64 z)], .v false [.lit (.bool b)]] => (match asVal mq, asVal mq1 with
  | some q, some q1 => some (k q q1 z b)
  | _, _ => none)
 | _ => none
def gWW (k : List Nat → List Nat → Prop × AV) : List AV → Option (Prop × AV)
 | [.v false [.ws l], .v false [.ws l1]] => some (k l l1)
 | _ => none
theorem gWW_eq {k : List Nat → List Nat → Prop × AV} {args : List AV} {e : Prop × AV} (h : gWW k args = some e) : ∃ l l1, args = [.s (.ws l), .s (.ws l1)] ∧ e = k l l1 := by
 unfold gWW at h
 split at h
 ·injection h with h; subst h
  exact ⟨_, _, rfl, rfl⟩
 ·cases h
def gJ (k : J → Prop × AV) : List AV → Option (Prop × AV)
 | [.v true mj] => (match asIv mj with
  | some j => some (k j)
  | _ => none)
 | _ => none
theorem gJ_eq {k : J → Prop × AV} {args : List AV} {e : Prop × AV} (h : gJ k args = some e) : ∃ j, args = [.v true j.L] ∧ e = k j := by
 unfold gJ at h
 split at h
 ·split at h
  ·rename_i j hj
   injection h with h; subst h
   exact ⟨j, by rw [asIv_eq hj], rfl⟩
  ·cases h
 ·cases h
def gJJ (k : J → J → Prop × AV) : List AV → Option (Prop × AV)
 | [.v true mj, .v true mj1] => (match asIv mj, asIv mj1 with
  | some j, some j1 => some (k j j1)
  | _, _ => none)
 | _ => none
def gJN (k : J → X → Prop × AV) : List AV → Option (Prop × AV)
 | [.v true mj, .v true mx] => (match asIv mj, asNum mx with
  | some j, some x => some (k j x)
  | _, _ => none)
 | _ => none
def gJJI (k : J → J → Int → Prop × AV) : List AV → Option (Prop × AV)
 | [.v true mj, .v true mj1, .v false [.lit (.int .i64 z)]] => (match asIv mj, asIv mj1 with
  | some j, some j1 => some (k j j1 z)
  | _, _ => none)
 | _ => none
theorem gJJI_eq {k : J → J → Int → Prop × AV} {args : List AV} {e : Prop × AV} (h : gJJI k args = some e) : ∃ j j1 z, args = [.v true j.L, .v true j1.L, iA z] ∧ e = k j j1 z := by
 unfold gJJI at h
 split at h
 ·split at h
  ·rename_i j j1 hj hj1
   injection h with h; subst h
   exact ⟨j, j1, _, by rw [asIv_eq hj, asIv_eq hj1], rfl⟩
  ·cases h
 ·cases h
def gJI (k : J → Int → Prop × AV) : List AV → Option (Prop × AV)
 | [.v true mj, .v false [.lit (.int .i64 z)]] => (match asIv mj with
  | some j => some (k j z)
  | _ => none)
 | _ => none
def gJII (k : J → Int → Int → Prop × AV) : List AV → Option (Prop × AV)
 | [.v true mj, .v false [.lit (.int .i64 z)], .v false [.lit (.int .i64 z1)]] => (match asIv mj with
  | some j => some (k j z z1)
  | _ => none)
 | _ => none
def gNNI (k : X → X → Int → Prop × AV) : List AV → Option (Prop × AV)
 | [.v true mx, .v true mx1, .v false [.lit (.int .i64 z)]] => (match asNum mx, asNum mx1 with
  | some x, some x1 => some (k x x1 z)
  | _, _ => none)
 | _ => none
def gBWI (k : Bool → List Nat → Int → Prop × AV) : List AV → Option (Prop × AV)
 | [.v false [.lit (.bool b)], .v false [.ws l], .v false [.lit (.int .i64 z)]] => some (k b l z)
 | _ => none
theorem gBWI_eq {k : Bool → List Nat → Int → Prop × AV} {args : List AV} {e : Prop × AV} (h : gBWI k args = some e) : ∃ b l z, args = [bA b, .s (.ws l), iA z] ∧ e = k b l z := by
 unfold gBWI at h
 split at h
 ·injection h with h; subst h
  exact ⟨_, _, _, rfl, rfl⟩
 ·cases h
def gVVVV (k : Q → Q → Q → Q → Prop × AV) : List AV → Option (Prop × AV)
 | [.v true mq, .v true mq1, .v true mq2, .v true mq3] => (match asVal mq, asVal mq1, asVal mq2, asVal mq3 with
  | some q, some q1, some q2, some q3 => some (k q q1 q2 q3)
  | _, _, _, _ => none)
 | _ => none
def gVVVVI (k : Q → Q → Q → Q → Int → Prop × AV) : List AV → Option (Prop × AV)
 | [.v true mq, .v true mq1, .v true mq2, .v true mq3, .v false [.lit (.int .i64 z)]] => (match asVal mq, asVal mq1, asVal mq2, asVal mq3 with
  | some q, some q1, some q2, some q3 => some (k q q1 q2 q3 z)
  | _, _, _, _ => none)
 | _ => none
def gVI (k : Q → Int → Prop × AV) : List AV → Option (Prop × AV)
 | [.v true mq, .v false [.lit (.int .i64 z)]] => (match asVal mq with
  | some q => some (k q z)
  | _ => none)
 | _ => none
theorem gVI_eq {k : Q → Int → Prop × AV} {args : List AV} {e : Prop × AV} (h : gVI k args = some e) : ∃ q z, args = [.v true (vL q), iA z] ∧ e = k q z := by
 unfold gVI at h
 split at h
 ·split at h
  ·rename_i q hq
   injection h with h; subst h
   exact ⟨q, _, by rw [asVal_eq hq], rfl⟩
  ·cases h
 ·cases h
theorem ctN {P : Program} {f : FuncId} {x : X} {r : AV} (hr : clA r = true) (h : ∀ (w : World) (Ax : Option Addr) (cx : Nat), Tab w → Arg w Ax x.xs.length cx x.xs → x.xs.length ≤ 100000 →
  Calls P f #[.agg #[.bool x.s, .int .i64 x.e, .slice Ax x.xs.length cx]] w fun e w' => ∃ u, e = .returned u ∧ (∀ ρ D, r.R ρ D w' u) ∧ Below w.heap.size w w') : Ct P f [.v true x.L] (· = r) := by
 rintro ρ D w us ht ⟨ux, _, rfl, hx, rfl⟩
 obtain ⟨Ax, cx, rfl, hax, hlx⟩ := num_arg hx
 refine (h w Ax cx ht hax hlx).mono ?_
 rintro e w' ⟨u, he, hR, hb⟩
 exact ⟨u, r, he, rfl, hr, fun ρ' D' _ => hR ρ' D', hb⟩
theorem ctNN {P : Program} {f : FuncId} {x : X} {x1 : X} {r : AV} (hr : clA r = true) (h : ∀ (w : World) (Ax : Option Addr) (cx : Nat) (Ax1 : Option Addr) (cx1 : Nat), Tab w → Arg w Ax x.xs.length cx x.xs → x.xs.length ≤ 100000 → Arg w Ax1 x1.xs.length cx1 x1.xs → x1.xs.length ≤ 100000 →
  Calls P f #[.agg #[.bool x.s, .int .i64 x.e, .slice Ax x.xs.length cx], .agg #[.bool x1.s, .int .i64 x1.e, .slice Ax1 x1.xs.length cx1]] w fun e w' => ∃ u, e = .returned u ∧ (∀ ρ D, r.R ρ D w' u) ∧ Below w.heap.size w w') : Ct P f [.v true x.L, .v true x1.L] (· = r) := by
 rintro ρ D w us ht ⟨ux, _, rfl, hx, ⟨ux1, _, rfl, hx1, rfl⟩⟩
 obtain ⟨Ax, cx, rfl, hax, hlx⟩ := num_arg hx
 obtain ⟨Ax1, cx1, rfl, hax1, hlx1⟩ := num_arg hx1
 refine (h w Ax cx Ax1 cx1 ht hax hlx hax1 hlx1).mono ?_
 rintro e w' ⟨u, he, hR, hb⟩
 exact ⟨u, r, he, rfl, hr, fun ρ' D' _ => hR ρ' D', hb⟩
theorem ctNI {P : Program} {f : FuncId} {x : X} {z : Int} {r : AV} (hr : clA r = true) (h : ∀ (w : World) (Ax : Option Addr) (cx : Nat), Tab w → Arg w Ax x.xs.length cx x.xs → x.xs.length ≤ 100000 →
  Calls P f #[.agg #[.bool x.s, .int .i64 x.e, .slice Ax x.xs.length cx], .int .i64 z] w fun e w' => ∃ u, e = .returned u ∧ (∀ ρ D, r.R ρ D w' u) ∧ Below w.heap.size w w') : Ct P f [.v true x.L, iA z] (· = r) := by
 rintro ρ D w us ht ⟨ux, _, rfl, hx, ⟨uz, _, rfl, hz, rfl⟩⟩
 obtain ⟨Ax, cx, rfl, hax, hlx⟩ := num_arg hx
 have hz : uz = .int .i64 z := RL.one.1 hz
 subst hz
 refine (h w Ax cx ht hax hlx).mono ?_
 rintro e w' ⟨u, he, hR, hb⟩
 exact ⟨u, r, he, rfl, hr, fun ρ' D' _ => hR ρ' D', hb⟩
theorem ctI {P : Program} {f : FuncId} {z : Int} {r : AV} (hr : clA r = true) (h : ∀ (w : World) , Tab w →
  Calls P f #[.int .i64 z] w fun e w' => ∃ u, e = .returned u ∧ (∀ ρ D, r.R ρ D w' u) ∧ Below w.heap.size w w') : Ct P f [iA z] (· = r) := by
 rintro ρ D w us ht ⟨uz, _, rfl, hz, rfl⟩
 have hz : uz = .int .i64 z := RL.one.1 hz
 subst hz
 refine (h w ht ).mono ?_
 rintro e w' ⟨u, he, hR, hb⟩
 exact ⟨u, r, he, rfl, hr, fun ρ' D' _ => hR ρ' D', hb⟩
theorem ctNNIB {P : Program} {f : FuncId} {x : X} {x1 : X} {z : Int} {b : Bool} {r : AV} (hr : clA r = true) (h : ∀ (w : World) (Ax : Option Addr) (cx : Nat) (Ax1 : Option Addr) (cx1 : Nat), Tab w → Arg w Ax x.xs.length cx x.xs → x.xs.length ≤ 100000 → Arg w Ax1 x1.xs.length cx1 x1.xs → x1.xs.length ≤ 100000 →
  Calls P f #[.agg #[.bool x.s, .int .i64 x.e, .slice Ax x.xs.length cx], .agg #[.bool x1.s, .int .i64 x1.e, .slice Ax1 x1.xs.length cx1], .int .i64 z, .bool b] w fun e w' => ∃ u, e = .returned u ∧ (∀ ρ D, r.R ρ D w' u) ∧ Below w.heap.size w w') : Ct P f [.v true x.L, .v true x1.L, iA z, bA b] (· = r) := by
 rintro ρ D w us ht ⟨ux, _, rfl, hx, ⟨ux1, _, rfl, hx1, ⟨uz, _, rfl, hz, ⟨ub, _, rfl, hb, rfl⟩⟩⟩⟩
 obtain ⟨Ax, cx, rfl, hax, hlx⟩ := num_arg hx
 obtain ⟨Ax1, cx1, rfl, hax1, hlx1⟩ := num_arg hx1
 have hz : uz = .int .i64 z := RL.one.1 hz
 subst hz
 have hb : ub = .bool b := RL.one.1 hb
 subst hb
 refine (h w Ax cx Ax1 cx1 ht hax hlx hax1 hlx1).mono ?_
 rintro e w' ⟨u, he, hR, hb⟩
 exact ⟨u, r, he, rfl, hr, fun ρ' D' _ => hR ρ' D', hb⟩
theorem ctV {P : Program} {f : FuncId} {q : Q} {r : AV} (hr : clA r = true) (h : ∀ (w : World) (Aq : Option Addr) (nq cq : Nat), Tab w → Dg w Aq nq cq q.m →
  Calls P f #[.agg #[.bool q.s, .slice Aq nq cq, .int .i64 q.e]] w fun e w' => ∃ u, e = .returned u ∧ (∀ ρ D, r.R ρ D w' u) ∧ Below w.heap.size w w') : Ct P f [.v true (vL q)] (· = r) := by
 rintro ρ D w us ht ⟨uq, _, rfl, hq, rfl⟩
 obtain ⟨Aq, nq, cq, rfl, haq⟩ := val_arg hq
 refine (h w Aq nq cq ht haq).mono ?_
 rintro e w' ⟨u, he, hR, hb⟩
 exact ⟨u, r, he, rfl, hr, fun ρ' D' _ => hR ρ' D', hb⟩
theorem ctVV {P : Program} {f : FuncId} {q : Q} {q1 : Q} {r : AV} (hr : clA r = true) (h : ∀ (w : World) (Aq : Option Addr) (nq cq : Nat) (Aq1 : Option Addr) (nq1 cq1 : Nat), Tab w → Dg w Aq nq cq q.m → Dg w Aq1 nq1 cq1 q1.m →
  Calls P f #[.agg #[.bool q.s, .slice Aq nq cq, .int .i64 q.e], .agg #[.bool q1.s, .slice Aq1 nq1 cq1, .int .i64 q1.e]] w fun e w' => ∃ u, e = .returned u ∧ (∀ ρ D, r.R ρ D w' u) ∧ Below w.heap.size w w') : Ct P f [.v true (vL q), .v true (vL q1)] (· = r) := by
 rintro ρ D w us ht ⟨uq, _, rfl, hq, ⟨uq1, _, rfl, hq1, rfl⟩⟩
 obtain ⟨Aq, nq, cq, rfl, haq⟩ := val_arg hq
 obtain ⟨Aq1, nq1, cq1, rfl, haq1⟩ := val_arg hq1
 refine (h w Aq nq cq Aq1 nq1 cq1 ht haq haq1).mono ?_
 rintro e w' ⟨u, he, hR, hb⟩
 exact ⟨u, r, he, rfl, hr, fun ρ' D' _ => hR ρ' D', hb⟩
theorem ctWW {P : Program} {f : FuncId} {l : List Nat} {l1 : List Nat} {r : AV} (hr : clA r = true) (h : ∀ (w : World) (Al : Option Addr) (nl cl : Nat) (Al1 : Option Addr) (nl1 cl1 : Nat), Tab w → Arg w Al nl cl l → nl ≤ 100000 → Arg w Al1 nl1 cl1 l1 → nl1 ≤ 100000 →
  Calls P f #[.slice Al nl cl, .slice Al1 nl1 cl1] w fun e w' => ∃ u, e = .returned u ∧ (∀ ρ D, r.R ρ D w' u) ∧ Below w.heap.size w w') : Ct P f [.s (.ws l), .s (.ws l1)] (· = r) := by
 rintro ρ D w us ht ⟨ul, _, rfl, hl, ⟨ul1, _, rfl, hl1, rfl⟩⟩
 obtain ⟨Al, nl, cl, rfl, hal, hll⟩ := RL.one.1 hl
 obtain ⟨Al1, nl1, cl1, rfl, hal1, hll1⟩ := RL.one.1 hl1
 refine (h w Al nl cl Al1 nl1 cl1 ht hal hll hal1 hll1).mono ?_
 rintro e w' ⟨u, he, hR, hb⟩
 exact ⟨u, r, he, rfl, hr, fun ρ' D' _ => hR ρ' D', hb⟩
theorem ctBWI {P : Program} {f : FuncId} {b : Bool} {l : List Nat} {z : Int} {r : AV} (hr : clA r = true) (h : ∀ (w : World) (Al : Option Addr) (nl cl : Nat), Tab w → Arg w Al nl cl l → nl ≤ 100000 →
  Calls P f #[.bool b, .slice Al nl cl, .int .i64 z] w fun e w' => ∃ u, e = .returned u ∧ (∀ ρ D, r.R ρ D w' u) ∧ Below w.heap.size w w') : Ct P f [bA b, .s (.ws l), iA z] (· = r) := by
 rintro ρ D w us ht ⟨ub, _, rfl, hb, ⟨ul, _, rfl, hl, ⟨uz, _, rfl, hz, rfl⟩⟩⟩
 have hb : ub = .bool b := RL.one.1 hb
 subst hb
 obtain ⟨Al, nl, cl, rfl, hal, hll⟩ := RL.one.1 hl
 have hz : uz = .int .i64 z := RL.one.1 hz
 subst hz
 refine (h w Al nl cl ht hal hll).mono ?_
 rintro e w' ⟨u, he, hR, hb⟩
 exact ⟨u, r, he, rfl, hr, fun ρ' D' _ => hR ρ' D', hb⟩
section
variable {w w' : World} {e : Ending}
theorem post_b {b : Bool} (h : BoolPost w b e w') : ∃ u, e = .returned u ∧ (∀ ρ D, (bA b).R ρ D w' u) ∧ Below w.heap.size w w' := ⟨_, h.1, fun _ _ => RL.one.2 rfl, h.2⟩
theorem post_i {z : Int} (h : IPost w z e w') : ∃ u, e = .returned u ∧ (∀ ρ D, (iA z).R ρ D w' u) ∧ Below w.heap.size w w' := ⟨_, h.1, fun _ _ => RL.one.2 rfl, h.2⟩
theorem post_n {q : Q} (hq : Fits q) (h : NumPost1 w q e w') : ∃ u, e = .returned u ∧ (∀ ρ D, (nA q).R ρ D w' u) ∧ Below w.heap.size w w' := by
 obtain ⟨v, he, hv, hb⟩ := h; exact ⟨v, he, fun _ _ => numv_R hv (fits_len hq), hb⟩
theorem post_ne {r : Q × Int} (hq : Fits r.1) (h : NumPost2 w r e w') : ∃ u, e = .returned u ∧ (∀ ρ D, (neA r).R ρ D w' u) ∧ Below w.heap.size w w' := by
 obtain ⟨v, he, hv, hb⟩ := h
 exact ⟨_, he, fun ρ D => ⟨[v, .int .i64 r.2], rfl, v, _, rfl, numv_R hv (fits_len hq), _, _, rfl, RL.one.2 rfl, rfl⟩, hb⟩
theorem post_v {H : Nat} {q : Q} (h : ValPost w H q e w') : ∃ u, e = .returned u ∧ (∀ ρ D, (vA q).R ρ D w' u) ∧ Below w.heap.size w w' := by
 obtain ⟨v, he, hv, hb⟩ := h; exact ⟨v, he, fun _ _ => valv_R hv, hb⟩
end
def cmpx (x y : X) : Int := anscmp x.s x.e x.xs.length x.xs y.s y.e y.xs.length y.xs
def signx (x : X) : Int := if x.ok then signq x.q else 0
def absx (x : X) : Q := anssign x.s x.e x.xs.length x.xs false
noncomputable def scalex (x : X) (k : Int) : Q × Int := ans1 x.s x.e x.xs.length x.xs k
noncomputable def rtwo (g : Q → Q → Q × Int) (p : Int) (x y : X) : Q × Int := ansr g p x.s x.e x.xs.length x.xs y.s y.e y.xs.length y.xs
def Vb (q : Q) : Prop := Canon q ∧ q.m < B64 ^ 3000 ∧ -550000 ≤ q.e ∧ q.e ≤ 550000
def Vw (q : Q) : Prop := Canon q ∧ q.m < B64 ^ 5000 ∧ -50000000 ≤ q.e ∧ q.e ≤ 50000000
theorem sgn_fits {s t : Bool} {e : Int} {xs : List Nat} {w : World} {A : Option Addr} {c : Nat} (ha : Arg w A xs.length c xs) : Fits (anssign s e xs.length xs t) := by
 unfold anssign
 split
 ·rename_i h
  have := (okb_true ha h).2.2
  split
  ·exact fits0
  ·exact this
 ·exact fits0
theorem res_fits (q : Q) : Fits (res q).1 := by
 unfold res; split
 ·assumption
 ·exact fits0
theorem ans1_fits {s : Bool} {e k : Int} {n : Nat} {xs : List Nat} : Fits (ans1 s e n xs k).1 := by
 unfold ans1; split
 ·exact res_fits _
 ·exact fits0
theorem ent {P : Program} {g : FuncId} {fn : Func} {c : Code} (hf : P.funcs[g]? = some fn) (hn : (fn.name == "runtime.NumGoroutine") = false) (hb : fn.body = some c) (vs : Array Value) (w : World) : (callFunc g vs).run P w = .ok (.enter g vs) w := by
 have h1 : fn.name ≠ "runtime.NumGoroutine" := by simpa using hn
 simp [callFunc, hf, h1, hb, mark]
noncomputable def Tnum_Right : Tbl := one 55 (gN fun x => (True, bA x.ok))
theorem Tnum_Right_ok : TbOK Tryz.prog Tnum_Right := one_ok (ent Tryz.func55 (by kernel_rfl) rfl) fun args e h hp => by obtain ⟨x, rfl, rfl⟩ := gN_eq h; exact ctN rfl (fun w Ax cx ht hx hl => (nright_any w x.s x.e Ax _ cx x.xs hx hl).mono fun _ _ h => post_b h)
noncomputable def Tnum_Cmp : Tbl := one 56 (gNN fun x x1 => (True, iA (cmpx x x1)))
theorem Tnum_Cmp_ok : TbOK Tryz.prog Tnum_Cmp := one_ok (ent Tryz.func56 (by kernel_rfl) rfl) fun args e h hp => by obtain ⟨x, x1, rfl, rfl⟩ := gNN_eq h; exact ctNN rfl (fun w Ax cx Ax1 cx1 ht hx hl hx1 hl1 => (ncmp_any w x.s x1.s x.e x1.e Ax Ax1 _ cx _ cx1 x.xs x1.xs hx hx1 hl hl1).mono fun _ _ h => post_i h)
noncomputable def Tnum_Sign : Tbl := one 98 (gN fun x => (True, iA (signx x)))
theorem Tnum_Sign_ok : TbOK Tryz.prog Tnum_Sign := one_ok (ent Tryz.func98 (by kernel_rfl) rfl) fun args e h hp => by obtain ⟨x, rfl, rfl⟩ := gN_eq h; exact ctN rfl (fun w Ax cx ht hx hl => (nsign_any w x.s x.e Ax _ cx x.xs hx hl).mono fun _ _ h => post_i h)
noncomputable def Tnum_Abs : Tbl := one 125 (gN fun x => (True, nA (absx x)))
theorem Tnum_Abs_ok : TbOK Tryz.prog Tnum_Abs := one_ok (ent Tryz.func125 (by kernel_rfl) rfl) fun args e h hp => by obtain ⟨x, rfl, rfl⟩ := gN_eq h; exact ctN rfl (fun w Ax cx ht hx hl => (nabs_any w x.s x.e Ax _ cx x.xs hx hl).mono fun _ _ h => post_n (sgn_fits hx) h)
noncomputable def Tnum_Scale : Tbl := one 124 (gNI fun x z => (True, neA (scalex x z)))
theorem Tnum_Scale_ok : TbOK Tryz.prog Tnum_Scale := one_ok (ent Tryz.func124 (by kernel_rfl) rfl) fun args e h hp => by obtain ⟨x, z, rfl, rfl⟩ := gNI_eq h; exact ctNI rfl (fun w Ax cx ht hx hl => (nscale_any w x.s x.e z Ax _ cx x.xs hx hl ht).mono fun _ _ h => post_ne ans1_fits h)
noncomputable def Tround_Add : Tbl := one 94 (gNNIB fun x x1 z b => (True, neA (rtwo (gadd z b) z x x1)))
theorem Tround_Add_ok : TbOK Tryz.prog Tround_Add := one_ok (ent Tryz.func94 (by kernel_rfl) rfl) fun args e h hp => by obtain ⟨x, x1, z, b, rfl, rfl⟩ := gNNIB_eq h; exact ctNNIB rfl (fun w Ax cx Ax1 cx1 ht hx hl hx1 hl1 => (xadd_any w x.s x1.s b x.e x1.e z Ax Ax1 _ cx _ cx1 x.xs x1.xs hx hx1 hl hl1 ht).mono fun _ _ h => post_ne (ansr_v1 (gadd_v z b) ..).2 h)
noncomputable def Tround_Mul : Tbl := one 89 (gNNIB fun x x1 z b => (True, neA (rtwo (gmul z b) z x x1)))
theorem Tround_Mul_ok : TbOK Tryz.prog Tround_Mul := one_ok (ent Tryz.func89 (by kernel_rfl) rfl) fun args e h hp => by obtain ⟨x, x1, z, b, rfl, rfl⟩ := gNNIB_eq h; exact ctNNIB rfl (fun w Ax cx Ax1 cx1 ht hx hl hx1 hl1 => (xmul_any w x.s x1.s b x.e x1.e z Ax Ax1 _ cx _ cx1 x.xs x1.xs hx hx1 hl hl1 ht).mono fun _ _ h => post_ne (ansr_v1 (gmul_v z b) ..).2 h)
noncomputable def Tref_CmpNum : Tbl := one 78 (gNN fun x x1 => (True, iA (cmpx x x1)))
theorem Tref_CmpNum_ok : TbOK Tryz.prog Tref_CmpNum := one_ok (ent Tryz.func78 (by kernel_rfl) rfl) fun args e h hp => by obtain ⟨x, x1, rfl, rfl⟩ := gNN_eq h; exact ctNN rfl (fun w Ax cx Ax1 cx1 ht hx hl hx1 hl1 => (rcmpnum_any w x.s x1.s x.e x1.e Ax Ax1 _ cx _ cx1 x.xs x1.xs hx hx1 hl hl1).mono fun _ _ h => post_i h)
noncomputable def Tref_Of : Tbl := one 25 (gN fun x => (x.ok = true, vA x.q))
theorem Tref_Of_ok : TbOK Tryz.prog Tref_Of := one_ok (ent Tryz.func25 (by kernel_rfl) rfl) fun args e h hp => by obtain ⟨x, rfl, rfl⟩ := gN_eq h; exact ctN rfl (fun w Ax cx ht hx hl => (of_any w x.q Ax _ cx (okb_true hx hp).1 hl).mono fun _ _ h => post_v h)
noncomputable def Tref_Whole : Tbl := one 28 (gI fun z => (-9223372036854775808 ≤ z ∧ z < 9223372036854775808, vA (ofz z 0)))
theorem Tref_Whole_ok : TbOK Tryz.prog Tref_Whole := one_ok (ent Tryz.func28 (by kernel_rfl) rfl) fun args e h hp => by obtain ⟨z, rfl, rfl⟩ := gI_eq h; exact ctI rfl (fun w _ => (whole_any w z hp.1 hp.2).mono fun _ _ h => post_v h)
noncomputable def Tref_Plus : Tbl := one 23 (gVV fun q q1 => (Vb q ∧ Vb q1, vA (plus q q1)))
theorem Tref_Plus_ok : TbOK Tryz.prog Tref_Plus := one_ok (ent Tryz.func23 (by kernel_rfl) rfl) fun args e h hp => by obtain ⟨q, q1, rfl, rfl⟩ := gVV_eq h; exact ctVV rfl (fun w Aq nq cq Aq1 nq1 cq1 ht hq hq1 => (plus_any w _ q q1 Aq Aq1 nq cq nq1 cq1 3000 hp.1.1 hp.2.1 hq hq1 (dg_all hq) (dg_all hq1) (Nat.le_refl _) hp.1.2.1 hp.2.2.1 (by omega) hp.1.2.2.1 hp.1.2.2.2 hp.2.2.2.1 hp.2.2.2.2).mono fun _ _ h => post_v h)
noncomputable def Tref_Order : Tbl := one 64 (gVV fun q q1 => (Vb q ∧ Vb q1, iA (cmpq q q1)))
theorem Tref_Order_ok : TbOK Tryz.prog Tref_Order := one_ok (ent Tryz.func64 (by kernel_rfl) rfl) fun args e h hp => by obtain ⟨q, q1, rfl, rfl⟩ := gVV_eq h; exact ctVV rfl (fun w Aq nq cq Aq1 nq1 cq1 ht hq hq1 => (order_any w _ q q1 Aq Aq1 nq cq nq1 cq1 3000 hp.1.1 hp.2.1 hq hq1 (dg_all hq) (dg_all hq1) (Nat.le_refl _) hp.1.2.1 hp.2.2.1 (by omega) hp.1.2.2.1 hp.1.2.2.2 hp.2.2.2.1 hp.2.2.2.2).mono fun _ _ h => post_i h)
noncomputable def Tref_By : Tbl := one 24 (gVV fun q q1 => (Vw q ∧ Vw q1, vA (times q q1)))
theorem Tref_By_ok : TbOK Tryz.prog Tref_By := one_ok (ent Tryz.func24 (by kernel_rfl) rfl) fun args e h hp => by obtain ⟨q, q1, rfl, rfl⟩ := gVV_eq h; exact ctVV rfl (fun w Aq nq cq Aq1 nq1 cq1 ht hq hq1 => (by_any w q q1 Aq Aq1 nq cq nq1 cq1 5000 5000 hp.1.1 hp.2.1 hq hq1 hp.1.2.1 hp.2.2.1 (by omega) (by omega) (by have := hp.1.2.2.1; omega) (by have := hp.1.2.2.2; omega) (by have := hp.2.2.2.1; omega) (by have := hp.2.2.2.2; omega)).mono fun _ _ h => post_v h)
noncomputable def Tref_Val_Sign : Tbl := one 45 (gV fun q => (True, iA (signq q)))
theorem Tref_Val_Sign_ok : TbOK Tryz.prog Tref_Val_Sign := one_ok (ent Tryz.func45 (by kernel_rfl) rfl) fun args e h hp => by obtain ⟨q, rfl, rfl⟩ := gV_eq h; exact ctV rfl (fun w Aq nq cq ht hq => (vsign_any w q Aq nq cq hq).mono fun _ _ h => post_i h)
noncomputable def Tref_Val_Num : Tbl := one 46 (gV fun q => (Vw q, neA (res q)))
theorem Tref_Val_Num_ok : TbOK Tryz.prog Tref_Val_Num := one_ok (ent Tryz.func46 (by kernel_rfl) rfl) fun args e h hp => by obtain ⟨q, rfl, rfl⟩ := gV_eq h; exact ctV rfl (fun w Aq nq cq ht hq => (vnum_any w q Aq nq cq 5000 hq hp.1 hp.2.1 (by omega)).mono fun _ _ h => post_ne (res_fits _) h)
end
end Go.Proofs.YtobcbhppmgnioaaGreatDoor
