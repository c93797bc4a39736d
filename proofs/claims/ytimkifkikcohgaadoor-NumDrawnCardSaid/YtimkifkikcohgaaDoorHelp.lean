/- The helps of the statements: fathomlinehelp.Words; slices that are written out. -/
import Derived.Test.YtimkifkikcohgaaDoorMulB
import Derived.Test.YtimkifkikcohgaaDoorSubB
import Derived.Test.YtimkifkikcohgaaDoorShiftB
import Derived.Test.YtimkifkikcohgaaDoorAddB
import Derived.Test.YtimkifkikcohgaaDoorSmall
import Derived.Test.YtimkifkikcohgaaDoorCmp
namespace Go.Proofs.YtimkifkikcohgaaDoor
open Go.RowKit Nx

/-- True is returned; only draws were made. -/
def TruePost (w : World) (e : Ending) (w' : World) : Prop := ∃ m : Nat, e = .returned (.bool true) ∧ w' = w.drewN m
theorem TruePost.of {w w' : World} {e : Ending} (he : e = .returned (.bool true)) (h : ∃ m, w' = w.drewN m) : TruePost w e w' := by
  obtain ⟨m, hm⟩ := h; exact ⟨m, he, hm⟩
def SameRel (w : World) (n : Nat) (u : Value) (wr : World) : Prop := ∃ k m : Nat, k ≤ n ∧ u = .int .i64 (k : Int) ∧ wr = w.drewN m
theorem SameRel.of {w wr : World} {n : Nat} {u : Value} (k : Nat) (hk : k ≤ n) (hu : u = .int .i64 (k : Int)) (h : ∃ m, wr = w.drewN m) : SameRel w n u wr := by
  obtain ⟨m, hm⟩ := h; exact ⟨k, m, hk, hu, hm⟩

set_option maxRecDepth 100000 in
set_option maxHeartbeats 1000000 in
theorem words_same (w : World) (lo hi lo' hi' : Nat) (A B : Option Addr) (n c m cb : Nat) (xs : List Nat) (ha : Rd .u64 w lo hi A n c xs) (hb : Rd .u64 w lo' hi' B m cb xs) (hn : n ≤ 1000000000) :
    Calls Tryd.prog 41 #[.slice A n c, .slice B m cb] w (TruePost w) := by
  obtain rfl : n = m := ha.1.symm.trans hb.1
  have HA := Lib.hid ha; have HB := Lib.hid hb
  clear ha hb
  have f1 : ((n : Int) != (n : Int)) = false := by simp
  go_enter Tryd.func41, Tryd.ntmps41
  go_wp2
  go_loopw [5] (fun u wr => SameRel w n u wr) (fun u _ => n - (intOf u).toNat)
  case atStart => exact ⟨0, 0, Nat.zero_le _, rfl, rfl⟩
  case round =>
    obtain ⟨k, dn, hk, rfl, rfl⟩ := hrel
    by_cases hlt : k < n
    · obtain ⟨ad, x, hA, _, _, hx, hcx⟩ := HA.out.get_ (j := k) hlt
      subst hA
      obtain ⟨bd, y, hA, _, _, hy, hcy⟩ := HB.out.get_ (j := k) hlt
      subst hA
      obtain rfl : x = y := by have := hx.out; rw [hy.out] at this; injection this with this; exact this.symm
      have i1 : (0 : Int) ≤ (k : Int) := by omega
      have i2 : (k : Int) < (n : Int) := by omega
      have f2 : ((x : Int) != (x : Int)) = false := by simp
      go_wp2
      go_quiet (fail)
      go_wp2
      go_roundw
      case rel => exact SameRel.of (k + 1) (by omega) (by go_num) (by first | exact ⟨_, rfl⟩ | exact dr1 _ _ _)
      case measure => simp [intOf]; omega
    · go_wp2
      go_ret
      exact ⟨dn, rfl, rfl⟩

/-- A slice of slices that is written out: its lengths. -/
def Lens (w : World) (g : Nat) (ls : List Nat) : Prop := ∀ (i l : Nat), ls[i]? = some l → ∃ (A : Option Addr) (c : Nat), w.cell? ⟨g, i, none⟩ = some (.slice A l c)

/-- A slice of one word that is written out. -/
theorem built1 (w : World) (v : Nat) (lo hi g : Nat) (hg : g = w.heap.size) (hl : lo ≤ g) (hh : g < hi) : Rd .u64 (w.alloc (.cells #[.int .u64 (v : Int)] 54)) lo hi (some ⟨g, 0, none⟩) 1 1 [v] := by
  subst hg
  have : Row .u64 (w.alloc (.cells #[.int .u64 (v : Int)] 54)) w.heap.size 54 [v] := Blk.new w _ _
  exact this.rd0 hl hh (by simp)
theorem built2 (w : World) (v u : Nat) (lo hi g : Nat) (hg : g = w.heap.size) (hl : lo ≤ g) (hh : g < hi) : Rd .u64 (w.alloc (.cells #[.int .u64 (v : Int), .int .u64 (u : Int)] 54)) lo hi (some ⟨g, 0, none⟩) 2 2 [v, u] := by
  subst hg
  have : Row .u64 (w.alloc (.cells #[.int .u64 (v : Int), .int .u64 (u : Int)] 54)) w.heap.size 54 [v, u] := Blk.new w _ _
  exact this.rd0 hl hh (by simp)
theorem Rd.wide {k : IntKind} {w : World} {lo hi H n c : Nat} {A : Option Addr} {xs : List Nat} (h : Rd k w lo hi A n c xs) (hH : hi ≤ H) : Rd k w 0 H A n c xs := (h.more hH).less (Nat.zero_le _)
theorem small1 {v : Nat} (h : v < B64) : Small B64 [v] := Small.cons h Small.nil
theorem digs1 {v : Nat} (h : v < B64) (h0 : v ≠ 0) : digs B64 v = [v] := by
  rw [digs_pos B64_two h0, Nat.div_eq_of_lt h, digs_zero, Nat.mod_eq_of_lt h]
theorem nval1 (v : Nat) : nval B64 [v] = v := by simp [nval]
end Go.Proofs.YtimkifkikcohgaaDoor
