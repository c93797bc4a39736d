/- slices.Backward: the iterator's word. -/
import Derived.Test.YtobcbhppmgnioaaGreatDoorSArF
namespace Go.Proofs.YtobcbhppmgnioaaGreatDoor
set_option maxHeartbeats 4000000
set_option maxRecDepth 100000
open Go.RowKit Go.Shelf Nx
attribute [local irreducible] chk
theorem back_any (w : World) (v : Value) (h1 : v.oneCell' = true) : Calls Tryz.prog 51 #[v] w fun e w' =>
  e = .returned (.func (.func 83) #[] #[.pointer (some ⟨w.heap.size, 0, none⟩)]) ∧ w' = w.alloc (.cells #[v] 23) := by
 refine calls_of_wp Tryz.func51 rfl ?_
 simp only [Tryz.ntmps51, List.size_toArray, List.length_cons, List.length_nil, Nat.reduceAdd, Nat.reduceSub, Array.replicate_succ, Array.replicate_zero, List.push_toArray, List.append_toArray, List.nil_append, List.cons_append]
 go_wp2
 exact bodyPost_ret (results_tmp rfl _ _ _) rfl ⟨rfl, rfl⟩
def backO : Orac := fun f d st args => if f = 51 then (match args with
 | [.v false [la]] => if (okLf la && (look st 83).isNone) = true then some (True, [83], [(2 * d, .s (.clo 83 [41])), (83, .v false [la])]) else none
 | _ => none) else none
theorem backO_ok (F : Fx) (w0 : World) : OrOK Tryz.prog backO F w0 := by
 have inv : ∀ f d st args q, backO f d st args = some q → f = 51 ∧ ∃ la, args = [.v false [la]] ∧ okLf la = true ∧ look st 83 = none ∧
   q = (True, [83], [(2 * d, .s (.clo 83 [41])), (83, .v false [la])]) := by
  intro f d st args q h
  unfold backO at h
  split at h
  case isFalse => cases h
  rename_i hf
  split at h
  case h_2 => cases h
  rename_i la
  split at h
  case isFalse => cases h
  rename_i hc
  injection h with h
  simp only [Bool.and_eq_true, Option.isNone_iff_eq_none] at hc
  exact ⟨hf, la, rfl, hc.1, hc.2, h.symm⟩
 refine ⟨fun f d st args e he => ?_, fun f d st args q he hp N ρ a w us hz hd hA => ?_, fun f d st st' args q he hkk => ?_⟩
 ·obtain ⟨rfl, _⟩ := inv _ _ _ _ _ he; exact ent Tryz.func51 (by kernel_rfl) rfl
 ·obtain ⟨rfl, la, rfl, o1, n1, rfl⟩ := inv _ _ _ _ _ he
  obtain ⟨va, r1, rfl, ha, hr⟩ := hA
  have hr : r1 = [] := hr
  subst hr
  replace ha := RL.one.1 ha
  refine (back_any w va (okLf_one o1 ha).1).mono ?_
  rintro en w' ⟨rfl, rfl⟩
  obtain ⟨z1, e1, k1⟩ := hz.newB (d := 41) (T := 23) (cs := [va]) n1 (RL.one.2 ha) (by simp [o1])
  exact ⟨_, _, rfl, z1.val (v := .s (.clo 83 [41])) (Below.refl _ _) hd (RL.one.2 ⟨fun b hb => by
   simp only [List.mem_cons, List.not_mem_nil, or_false] at hb
   subst hb; rfl, by simp⟩)⟩
 ·obtain ⟨rfl, la, rfl, o1, n1, rfl⟩ := inv _ _ _ _ _ he
  unfold backO
  rw [if_pos rfl]
  have h1 := hkk 83 (by simp)
  rw [n1] at h1
  simp only [o1, h1, Option.isNone_none, Bool.and_self, if_true]
def CapB (l : List J) (B : Nat) (W : World) : Prop := Tab W ∧ ∃ v, W.cell? ⟨B, 0, none⟩ = some v ∧ (bA_ l).R envA nD W v
theorem bA_at {w : World} {l : List J} {v : Value} {j : Nat} {x : J} (h : (bA_ l).R envA nD w v) (hj : l[j]? = some x) : ∃ g o c u0 u1 u2 u3 u4 u5, v = .slice (some ⟨g, o, none⟩) l.length c ∧ (w.cell? ⟨g, o + j * 6, none⟩ = some u0 ∧ w.cell? ⟨g, o + j * 6 + 1, none⟩ = some u1 ∧ w.cell? ⟨g, o + j * 6 + 2, none⟩ = some u2 ∧ w.cell? ⟨g, o + j * 6 + 3, none⟩ = some u3 ∧ w.cell? ⟨g, o + j * 6 + 4, none⟩ = some u4 ∧ w.cell? ⟨g, o + j * 6 + 5, none⟩ = some u5) ∧ ∀ ρ D, (AV.v true x.L).R ρ D w (.agg #[u0, u1, u2, u3, u4, u5]) := by
 obtain ⟨hl, A, c, rfl, hc, h⟩ := RL.one.1 h
 have hjl : j < l.length := by
  rcases Nat.lt_or_ge j l.length with h | h
  ·exact h
  ·rw [List.getElem?_eq_none h] at hj; cases hj
 rcases h with h | ⟨⟨g, o, s⟩, T, cs, rfl, hs, hS, hB, hle, hR⟩
 ·rw [h] at hl
  simp at hl
  omega
 ·have hs : s = none := hs
  subst hs
  have hlen : (bC l).length = l.length * 6 := hl
  have h1 : j * 6 + 6 ≤ l.length * 6 := by omega
  have h2 := (hR.drop (j * 6)).take 6
  rw [bC_at hj, List.drop_take, List.drop_drop, List.take_take] at h2
  have e : min 6 ((bC l).length - j * 6) = 6 := by omega
  rw [e] at h2
  have h3 := (LcL.mono (Keeps.refl _ _) (fun _ _ _ _ h => h.1) _ _ h2).up (ρ := envA) (D := nD)
  obtain ⟨u0, r0, e0, q0, u1, r1, e1, q1, u2, r2, e2, q2, u3, r3, e3, q3, u4, r4, e4, q4, u5, r5, e5, q5, q6⟩ := h3
  have q6 : r5 = [] := q6
  subst q6; subst e5; subst e4; subst e3; subst e2; subst e1
  have hc : ∀ i u, [u0, u1, u2, u3, u4, u5][i]? = some u → w.cell? ⟨g, o + j * 6 + i, none⟩ = some u := fun i u hu => by
   rw [← e0, List.getElem?_take] at hu
   split at hu
   ·rw [List.getElem?_drop] at hu
    rw [hB.cell, ← Array.getElem?_toList]; exact hu
   ·cases hu
  exact ⟨g, o, c, u0, u1, u2, u3, u4, u5, rfl, ⟨hc 0 _ rfl, hc 1 _ rfl, hc 2 _ rfl, hc 3 _ rfl, hc 4 _ rfl, hc 5 _ rfl⟩, fun ρ D => ⟨_, rfl, RL.plain (D := nD) (ρ := envA) rfl ⟨u0, _, rfl, q0, u1, _, rfl, q1, u2, _, rfl, q2, u3, _, rfl, q3, u4, _, rfl, q4, u5, _, rfl, q5, rfl⟩⟩⟩
theorem back_seq {l : List J} (hn : l.length ≤ 1000) (B : Nat) :
  SeqI Tryz.prog 83 #[.pointer (some ⟨B, 0, none⟩)] l.length (fun j => iA ((l.length : Int) - 1 - j)) (fun j => .v true (l.getD (l.length - 1 - j) zJ).L) (CapB l B) := by
 intro lp m Q Qx W hJ hC hY h0
 refine callsIn_of_wp Tryz.func83 rfl trivial ?_
 simp only [Tryz.ntmps83, List.size_toArray, List.length_cons, List.length_nil, Nat.reduceAdd, Nat.reduceSub, Array.replicate_succ, Array.replicate_zero, List.push_toArray, List.append_toArray, List.nil_append, List.cons_append]
 obtain ⟨ht0, v0, c0, r0⟩ := hC 0 W h0
 obtain ⟨_, A0, C0, rfl, _, _⟩ := RL.one.1 r0
 have hw1 : IntKind.i64.wrap ((l.length : Int) - 1) = (l.length : Int) - 1 := by rw [IntKind.wrap_i64]; omega
 gi_wp2
 gi_loopw [3] (fun i wr => ∃ j : Nat, j ≤ l.length ∧ i = .int .i64 ((l.length : Int) - 1 - j) ∧ Q j wr) (fun i _ => (intOf i + 1).toNat)
 case atStart => exact ⟨0, Nat.zero_le _, by simp, h0⟩
 case round =>
  obtain ⟨j, hj, rfl, hJs⟩ := hrel
  obtain ⟨ht, v, c1, r1⟩ := hC j wr hJs
  by_cases hlt : j < l.length
  ·obtain ⟨g, o, c, u0, u1, u2, u3, u4, u5, rfl, ⟨d0, d1, d2, d3, d4, d5⟩, hc⟩ := bA_at r1 (at_get zJ (show l.length - 1 - j < l.length by omega))
   obtain ⟨fn, tmps, assign, body, hy, hRd⟩ := hY j _ _ wr hlt hJs (fun ρ D => RL.one.2 rfl) hc (m - 1)
   have hwj : IntKind.i64.wrap ((l.length : Int) - 1 - j - 1) = (l.length : Int) - 1 - j - 1 := by rw [IntKind.wrap_i64]; omega
   gi_wp2
   refine ⟨(fun e => by cases e), hRd.mono ?_⟩
   rintro e W3 (⟨rfl, hJ3⟩ | ⟨rfl, hJx3⟩)
   ·gi_wp2
    go_roundw
    case rel => exact ⟨j + 1, by omega, by congr 1; omega, hJ3⟩
    case measure => simp [intOf]; omega
   ·gi_wp2
    refine bodyPost_ret (results_none rfl _ _ _) rfl ?_
    exact ⟨⟨_, rfl⟩, .inr ⟨j, hlt, hJx3⟩⟩
  ·obtain rfl : j = l.length := by omega
   gi_wp2
   go_end0
   exact ⟨⟨_, rfl⟩, .inl hJs⟩
end Go.Proofs.YtobcbhppmgnioaaGreatDoor
