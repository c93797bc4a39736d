/- fathomlineseat: the deck, Next. fathomlineseat: num, Small, Of. -/
import Derived.Test.YtobcbhppmgnioaaGreatDoorSAl1
import Derived.Test.YtobcbhppmgnioaaGreatDoorSAi4
import Derived.Test.YtobcbhppmgnioaaGreatDoorSAj1
import Derived.Test.YtobcbhppmgnioaaGreatDoorSAi2
import Derived.Test.YtobcbhppmgnioaaGreatDoorSAi7
import Derived.Test.YtobcbhppmgnioaaGreatDoorSNum1
import Derived.Test.YtobcbhppmgnioaaGreatDoorSNumJL
namespace Go.Proofs.YtobcbhppmgnioaaGreatDoor
section
section
section
section
set_option linter.unusedSimpArgs false
set_option linter.unusedVariables false
open Go.RowKit Nx
attribute [local irreducible] chk
section

end
section
def hpin (L : List (List Lf)) (c0 : FuncId) (A : List AV) (r : AV) : HK := fun ls c xs => some (ls = L ∧ c = c0 ∧ xs = A, r)
end
section
theorem tblO_none {T : Tbl} {g : FuncId} {d : Nat} {st : St} {args : List AV} (h : ∀ args, T g args = none) : tblO T g d st args = none := by unfold tblO; rw [h]
theorem one_none {f g : FuncId} {k : List AV → Option (Prop × AV)} {args : List AV} (h : f ≠ g) : one g k f args = none := if_neg h
end
end
section
open Go.RowKit Nx
set_option linter.unusedVariables false
set_option linter.unusedSimpArgs false
attribute [local irreducible] chk
def gINNIB (k : Int → X → X → Int → Bool → Prop × AV) : List AV → Option (Prop × AV)
 | [.v false [.lit (.int .i64 kd)], .v true mx, .v true mx1, .v false [.lit (.int .i64 z)], .v false [.lit (.bool b)]] => (match asNum mx, asNum mx1 with
  | some x, some x1 => some (k kd x x1 z b)
  | _, _ => none)
 | _ => none
end
end
section
section
set_option linter.unusedSimpArgs false
set_option linter.unusedVariables false
open Go.RowKit Nx
section
section
variable {E : Nat} {q a b : Q}
end
section
variable {j : J} {z : Int}
end
end
section

end
section
def pw (q : Q) : Nat → Q
 | 0 => ofz 1 0
 | k + 1 => times (pw q k) q
end
end
section
section
set_option linter.unusedSimpArgs false
set_option linter.unusedVariables false
open Go.RowKit Nx
attribute [local irreducible] chk
section

end
section

end
end
section
open Go.RowKit Nx
set_option linter.unusedVariables false
set_option linter.unusedSimpArgs false
attribute [local irreducible] chk
end
end
end
end
section
set_option linter.unusedSimpArgs false
set_option linter.unusedVariables false
open Go.RowKit Nx
section
theorem loop_ind {ty : TypeId → Option TI} {O : Orac} {N : Nat} {Post : St → Prop} {fg : List Nat} {c : Code} {k : List It} (B : Nat) (ST : Nat → St) (n : Nat) (I : Nat → Prop) (L : Nat)
  (hm : ∀ j, j ≤ n → ((ST j).all fun p => mentA (ST j) p.2) = true)
  (step : ∀ j m, L ≤ m → j ≤ n → I j → (j < n → I (j + 1) → ∀ r st, hdS fg st = ST (j + 1) → lpf (run ty O N Post fg (m + r)) (.code c :: .lp c :: k) (hdS fg st)) → run ty O N Post fg (m + B) (.code c :: .lp c :: k) (ST j))
  {M : Nat} {st : St} (hM : (n + 1) * B + L ≤ M) (hI : I 0) (h0 : hdS fg st = ST 0) : lpf (run ty O N Post fg M) (.code c :: .lp c :: k) (hdS fg st) := by
 have key : ∀ d j, j + d = n → I j → ∀ m, (d + 1) * B + L ≤ m → run ty O N Post fg m (.code c :: .lp c :: k) (ST j) := by
  intro d
  induction d with
  | zero =>
   intro j hj hi m hm'
   have hm' : B + L ≤ m := by simpa using hm'
   obtain ⟨m0, rfl⟩ : ∃ m0, m = m0 + B := ⟨m - B, by omega⟩
   exact step j m0 (by omega) (by omega) hi (fun h => by omega)
  | succ d ih =>
   intro j hj hi m hm'
   have hm' : (d + 1) * B + B + L ≤ m := by rw [← Nat.succ_mul]; exact hm'
   obtain ⟨m0, rfl⟩ : ∃ m0, m = m0 + B := ⟨m - B, by omega⟩
   refine step j m0 (by omega) (by omega) hi fun _ hi' r st' h' => ?_
   rw [h']
   exact ⟨hm (j + 1) (by omega), ih (j + 1) (by omega) hi' (m0 + r) (by omega)⟩
 rw [h0]
 exact ⟨hm 0 (Nat.zero_le _), key n 0 (by omega) hI M hM⟩
theorem wrap_nat {j : Nat} (h : j < 4611686018427387904) : IntKind.i64.wrap ((j : Int) + 1) = ((j + 1 : Nat) : Int) := by rw [IntKind.wrap_i64]; omega
end
section
attribute [local irreducible] chk
theorem pC_at : ∀ {l : List X} {j : Nat} {x : X}, l[j]? = some x → ((pC l).drop (j * 3)).take 3 = [.lit (.bool x.s), .lit (.int .i64 x.e), .ws x.xs] := by
 intro l
 induction l with
 | nil => intro j x h; simp at h
 | cons a l ih =>
  intro j x h
  cases j with
  | zero => simp at h; subst h; rfl
  | succ j =>
   rw [pC_cons, show (j + 1) * 3 = j * 3 + 3 by omega]
   exact ih (by simpa using h)
end
section
attribute [local irreducible] chk
theorem bC_at : ∀ {l : List J} {j : Nat} {x : J}, l[j]? = some x → ((bC l).drop (j * 6)).take 6 = [.lit (.bool x.lo.s), .lit (.int .i64 x.lo.e), .ws x.lo.xs, .lit (.bool x.hi.s), .lit (.int .i64 x.hi.e), .ws x.hi.xs] := by
 intro l
 induction l with
 | nil => intro j x h; simp at h
 | cons a l ih =>
  intro j x h
  cases j with
  | zero => simp at h; subst h; rfl
  | succ j =>
   rw [bC_cons, show (j + 1) * 6 = j * 6 + 6 by omega]
   exact ih (by simpa using h)
end
end
end
section
open Go.RowKit Nx
section
def Dk (w : World) (g : Nat) (A : Option Addr) (n c k : Nat) : Prop := Blk w g 69 #[.slice A n c, .int .i64 (k : Int)]
theorem Dk.c0 {w : World} {g : Nat} {A : Option Addr} {n c k : Nat} (h : Dk w g A n c k) : w.cell? ⟨g, 0, none⟩ = some (.slice A n c) := by have := Blk.cell h 0; simpa using this
theorem Dk.c1 {w : World} {g : Nat} {A : Option Addr} {n c k : Nat} (h : Dk w g A n c k) : w.cell? ⟨g, 1, none⟩ = some (.int .i64 (k : Int)) := by have := Blk.cell h 1; simpa using this
theorem Dk.fz {w : World} {g : Nat} {A : Option Addr} {n c k : Nat} (h : Dk w g A n c k) (i : Nat) : w.frozen? ⟨g, i, none⟩ = false := Blk.frozen h i
theorem Dk.step {w w' : World} {g : Nat} {A : Option Addr} {n c k : Nat} (h : Dk w g A n c k) (hb : Below w.heap.size w w') : Dk w' g A n c k := Blk.below h hb h.lt
structure Mv (g : Nat) (w w' : World) : Prop where
 os : w'.os = w.os
 tape : w'.tape = w.tape
 output : w'.output = w.output
 size : w.heap.size ≤ w'.heap.size
 block : ∀ i, i < w.heap.size → i ≠ g → w'.heap[i]? = w.heap[i]?
theorem Mv.of {g : Nat} {w w' : World} (h : Below w.heap.size w w') : Mv g w w' := ⟨h.os, h.tape, h.output, h.size, fun i hi _ => h.block i hi⟩
theorem Mv.trans {g : Nat} {a b c : World} (h : Mv g a b) (h' : Mv g b c) : Mv g a c :=
 ⟨h'.os.trans h.os, h'.tape.trans h.tape, h'.output.trans h.output, Nat.le_trans h.size h'.size, fun i hi hg => (h'.block i (Nat.lt_of_lt_of_le hi h.size) hg).trans (h.block i hi hg)⟩
theorem Mv.below {g B : Nat} {w0 w w' : World} (h : Below B w0 w) (h' : Mv g w w') (hg : B ≤ g) (hB : B ≤ w.heap.size) : Below B w0 w' :=
 ⟨h'.os.trans h.os, h'.tape.trans h.tape, h'.output.trans h.output, Nat.le_trans h.size h'.size, fun i hi => (h'.block i (by omega) (by omega)).trans (h.block i hi)⟩
theorem Mv.rd {k : IntKind} {g : Nat} {w w' : World} {lo hi n c : Nat} {A : Option Addr} {xs : List Nat} (h' : Mv g w w') (h : Rd k w lo hi A n c xs) (hg : g < lo ∨ hi ≤ g) (hh : hi ≤ w.heap.size) : Rd k w' lo hi A n c xs :=
 ⟨h.1, h.2.1, fun hn => by
  obtain ⟨ad, e, hl, hb, hc⟩ := h.2.2 hn
  refine ⟨ad, e, hl, hb, fun j u hu => ?_⟩
  rw [← hc j u hu]
  exact World.cell?_of_block (by rw [block_of_add]; exact h'.block _ (by omega) (by omega))⟩
end
section
set_option maxRecDepth 100000 in
set_option maxHeartbeats 2000000 in
theorem snum_any (w : World) (s : Bool) (e : Int) (A : Option Addr) (n c : Nat) (xs : List Nat) (ha : Arg w A n c xs) (hk : n ≤ 15000) :
  Calls Tryz.prog 77 #[.bool s, .slice A n c, .int .i64 e] w (NumPost1 w (res (nm s (nval B64 xs) e)).1) := by
 have K1 := Lib.hid (Bx.new w false 0 none 0 0); have B1 := Lib.hid (one_below w (.cells #[.bool false, .int .i64 0, .slice none 0 0] 26))
 have C := Lib.hid (rmake_any _ s e A n c xs (ha.step B1.out) hk)
 generalize res (nm s (nval B64 xs) e) = r at *
 clear ha
 go_enter Tryz.func77, Tryz.ntmps77
 go_wp2_with fail
 refine C.out.mono ?_
 clear C
 rintro _ w6 ⟨_, rfl, ⟨A6, n6, c6, rfl, h6⟩, b6⟩
 have K26 := Lib.hid (K1.out.step b6)
 have r0 := K26.out.c0; have r1 := K26.out.c1; have r2 := K26.out.c2
 have z0 := K26.out.fz 0; have z1 := K26.out.fz 1; have z2 := K26.out.fz 2
 have hs := K26.out.lt
 have RN := Lib.hid (ret_num B1.out (Nat.le_refl w.heap.size) K26.out K1.out.lt b6 h6)
 clear b6 h6
 go_wp2
 obtain ⟨kr, nr, br⟩ := RN.out
 have ob := one_below (put3 w6 w.heap.size (.bool r.1.s) (.int .i64 r.1.e) (.slice A6 n6 c6)) (.cells #[.bool r.1.s, .int .i64 r.1.e, .slice A6 n6 c6] 26)
 refine bodyPost_ret (v := .agg #[.bool r.1.s, .int .i64 r.1.e, .slice A6 n6 c6]) ?_ rfl ⟨_, rfl, nr.step ob, below_step br ob⟩
 have q0 := (kr.step ob).c0; have q1 := (kr.step ob).c1; have q2 := (kr.step ob).c2
 unfold put3 at q0 q1 q2
 simp [results, Tryz.results77, go_sem, q0, q1, q2]
def Few (q : Q) : Prop := Canon q ∧ q.m < 64 ∧ -6 ≤ q.e ∧ q.e ≤ 8
theorem few_nm {s : Bool} {M : Nat} {e : Int} (hM : M < 64) (h1 : -6 ≤ e) (h2 : e ≤ 2) : Few (nm s M e) := by
 refine ⟨nm_canon _ _ _, ?_⟩
 by_cases h0 : M = 0
 ·rw [h0, nm_zero]; exact ⟨by decide, by decide, by decide⟩
 ·have hz : ntz M < 6 := ntz_lt h0 (by simpa using hM)
  have e1 : nm s M e = ⟨s, M / 2 ^ ntz M, e + ntz M⟩ := by unfold nm; rw [if_neg h0]
  rw [e1]
  exact ⟨Nat.lt_of_le_of_lt (Nat.div_le_self _ _) hM, by show -6 ≤ e + ntz M; omega, by show e + ntz M ≤ 8; omega⟩
theorem Few.valid {q : Q} (h : Few q) : Valid q := ⟨h.1, Nat.lt_of_lt_of_le h.2.1 (Nat.le_trans (by unfold B64; omega) b64_le), by have := h.2.2.1; omega, by have := h.2.2.2; omega⟩
theorem bits63 (v : Nat) (h : v < B64) : bits .and .u64 (v : Int) 63 = ((v % 64 : Nat) : Int) := by
 have := u64_and_nat v 63 h (by omega)
 rw [Nat.and_two_pow_sub_one_eq_mod v 6] at this
 exact this
theorem Mv.put {g h : Nat} {w w' : World} (m : Mv g w w') (hh : w.heap.size ≤ h) (x y z : Value) : Mv g w (put3 w' h x y z) := by
 have b := below_put3 (Below.refl h w') (Nat.le_refl h) x y z
 exact ⟨b.os.trans m.os, b.tape.trans m.tape, b.output.trans m.output, Nat.le_trans m.size b.size, fun i hi hg => (b.block i (by omega)).trans (m.block i hi hg)⟩
theorem Dk.put {w : World} {g h : Nat} {A : Option Addr} {n c k : Nat} (d : Dk w g A n c k) (hh : g ≠ h) (x y z : Value) : Dk (put3 w h x y z) g A n c k := by
 unfold put3
 exact Blk.far (Blk.far (Blk.far d hh _) hh _) hh _
theorem Bx.mv {w w' : World} {g h : Nat} {s : Bool} {e : Int} {A : Option Addr} {n c : Nat} (k : Bx w h s e A n c) (m : Mv g w w') (hh : h ≠ g) : Bx w' h s e A n c := (m.block h k.lt hh).trans k
end
section

end
section

end
end
end Go.Proofs.YtobcbhppmgnioaaGreatDoor
