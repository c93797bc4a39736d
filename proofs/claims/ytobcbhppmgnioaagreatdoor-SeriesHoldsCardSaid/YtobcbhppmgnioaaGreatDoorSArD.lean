/- Package series: the coefficients of a product, one by one: the iterator's word. -/
import Derived.Test.YtobcbhppmgnioaaGreatDoorSArB
import Derived.Test.YtobcbhppmgnioaaGreatDoorSArC
import Derived.RangeFuncBound
import Derived.RangeFuncCalls
import Derived.Shelf.Abstract
import Derived.Shelf.RegionOpen
import Derived.WalkKit
import Derived.OwnWalkIn
import Derived.TacticsInMore
import Derived.LoopNIn
import Derived.LoopIn
namespace Go.Proofs.YtobcbhppmgnioaaGreatDoor
open Go.RowKit Go.Shelf Nx
abbrev nD : Nat → Bool := fun _ => false
theorem old_nD (w : World) : Old envA nD w := ⟨(fun b h => by cases h), (fun b g h => by cases h), Nat.zero_le _⟩
theorem jeA_parts {r : J × Int} {w : World} {u : Value} (h : (jeA r).R envA nD w u) : ∃ c, u = .tuple #[c, .int .i64 r.2] ∧ (∃ us : List Value, c = .agg us.toArray) ∧ ∀ ρ D, (AV.v true r.1.L).R ρ D w c := by
 obtain ⟨us, rfl, c, r1, rfl, h1, e, r2, rfl, h2, h3⟩ := h
 have h3 : r2 = [] := h3
 subst h3
 have h2 : e = .int .i64 r.2 := RL.one.1 h2
 subst h2
 obtain ⟨vs, rfl, hv⟩ := h1
 exact ⟨_, rfl, ⟨vs, rfl⟩, fun ρ D => ⟨vs, rfl, RL.plain rfl hv⟩⟩
def CapC (a b : List J) (k : Nat) (z : Int) (B4 B5 B6 B7 : Nat) (W : World) : Prop := Tab W ∧ ∃ va vb, W.cell? ⟨B6, 0, none⟩ = some (.int .i64 k) ∧ W.cell? ⟨B4, 0, none⟩ = some va ∧ W.cell? ⟨B5, 0, none⟩ = some vb ∧ W.cell? ⟨B7, 0, none⟩ = some (.int .i64 z) ∧ (bA_ a).R envA nD W va ∧ (bA_ b).R envA nD W vb
set_option maxRecDepth 100000 in
set_option maxHeartbeats 4000000 in
theorem coefs_seq {a b : List J} {k : Nat} {z : Int} (ha : k < a.length) (hb : k < b.length) (h2 : k ≤ 1000) (B4 B5 B6 B7 : Nat) :
  SeqI Tryz.prog 147 #[.pointer (some ⟨B6, 0, none⟩), .pointer (some ⟨B4, 0, none⟩), .pointer (some ⟨B5, 0, none⟩), .pointer (some ⟨B7, 0, none⟩)] (k + 1) (fun j => .v true (coN z a b j j).1.L) (fun j => iA (coN z a b j j).2) (CapC a b k z B4 B5 B6 B7) := by
 intro l m J Jx W hJ hC hY h0
 refine callsIn_of_wp Tryz.func147 rfl trivial ?_
 simp only [Tryz.ntmps147, List.size_toArray, List.length_cons, List.length_nil, Nat.reduceAdd, Nat.reduceSub, Array.replicate_succ, Array.replicate_zero, List.push_toArray, List.append_toArray, List.nil_append, List.cons_append]
 obtain ⟨ht0, va0, vb0, c60, c40, c50, c70, ra0, rb0⟩ := hC 0 W h0
 have hwk := wrap_nat (j := k) (by omega)
 gi_wp2
 gi_loopw [9] (fun i wr => ∃ j : Nat, j ≤ k + 1 ∧ i = .int .i64 j ∧ J j wr) (fun i _ => k + 1 - (intOf i).toNat)
 case atStart => exact ⟨0, Nat.zero_le _, rfl, h0⟩
 case round =>
  obtain ⟨j, hj, rfl, hJs⟩ := hrel
  obtain ⟨ht, va, vb, c6, c4, c5, c7, ra, rb⟩ := hC j wr hJs
  by_cases hlt : j < k + 1
  ·have hcoef := (callsIn_wide (n := m - 1)).2 (se_coef a b j z (by omega) (by omega) (by omega) envA nD wr [va, vb, .int .i64 j, .int .i64 z] ht ⟨va, _, rfl, ra, vb, _, rfl, rb, _, _, rfl, RL.one.2 rfl, _, _, rfl, RL.one.2 rfl, rfl⟩)
   have hwj := wrap_nat (j := j) (by omega)
   gi_wp2
   refine ⟨trivial, (fun e => by cases e), hcoef.mono ?_⟩
   rintro e w1 ⟨u, r, rfl, hr, _, hR, hb1⟩
   subst hr
   obtain ⟨c, rfl, ⟨cs, rfl⟩, hc⟩ := jeA_parts (hR envA nD (old_nD _))
   obtain ⟨fn, tmps, assign, body, hy, hRd⟩ := hY j _ _ w1 hlt (hJ j wr w1 hJs hb1) hc (fun ρ D => RL.one.2 rfl) (m - 1)
   gi_wp2
   trace_state
   refine ⟨(fun e => by cases e), hRd.mono ?_⟩
   rintro e W3 (⟨rfl, hJ3⟩ | ⟨rfl, hJx3⟩)
   ·gi_wp2
    go_roundw
    case rel => exact ⟨j + 1, by omega, by simp, hJ3⟩
    case measure => simp [intOf]; omega
   ·gi_wp2
    refine bodyPost_ret (results_none rfl _ _ _) rfl ?_
    exact ⟨⟨_, rfl⟩, .inr ⟨j, hlt, hJx3⟩⟩
  ·obtain rfl : j = k + 1 := by omega
   gi_wp2
   go_end0
   exact ⟨⟨_, rfl⟩, .inl hJs⟩
end Go.Proofs.YtobcbhppmgnioaaGreatDoor
