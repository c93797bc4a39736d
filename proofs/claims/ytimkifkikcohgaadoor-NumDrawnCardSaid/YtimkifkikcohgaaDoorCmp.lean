/- nat.Cmp, nat.Right, nat.Trim, nat.Bits, nat.Zeros. -/
import Derived.Test.YtimkifkikcohgaaDoorMake
import Derived.Test.YtimkifkikcohgaaDoorBitsB
import Derived.Deep.QuietTactic
import Derived.BigQuiet
import Derived.RegionTactic
namespace Go.Proofs.YtimkifkikcohgaaDoor
open Go.RowKit Nx

theorem B64_two : 2 ≤ B64 := by unfold B64; omega
theorem B64_pow : B64 = 2 ^ 64 := rfl

/-- -1, 0, 1. -/
def cmpv (x y : Nat) : Int := if x < y then -1 else if y < x then 1 else 0
theorem cmpv_lt {x y : Nat} (h : x < y) : cmpv x y = -1 := by unfold cmpv; rw [if_pos h]
theorem cmpv_gt {x y : Nat} (h : y < x) : cmpv x y = 1 := by unfold cmpv; rw [if_neg (by omega), if_pos h]
theorem cmpv_eq {x y : Nat} (h : x = y) : cmpv x y = 0 := by unfold cmpv; rw [if_neg (by omega), if_neg (by omega)]

/-- An int is returned; only draws were made. -/
def IntPost (w : World) (v : Int) (e : Ending) (w' : World) : Prop := ∃ m : Nat, e = .returned (.int .i64 v) ∧ w' = w.drewN m

theorem dr1 (w : World) (a b : Nat) : ∃ m, (w.drewN a).drewN b = w.drewN m := ⟨a + b, World.drewN_drewN ..⟩
theorem dr2 (w : World) (a b c : Nat) : ∃ m, ((w.drewN a).drewN b).drewN c = w.drewN m := ⟨a + (b + c), by rw [World.drewN_drewN, World.drewN_drewN]⟩
theorem IntPost.of {w w' : World} {v : Int} {e : Ending} (he : e = .returned (.int .i64 v)) (h : ∃ m, w' = w.drewN m) : IntPost w v e w' := by
  obtain ⟨m, hm⟩ := h; exact ⟨m, he, hm⟩

/-- The loop of Cmp: the highest k words are the same. -/
def CmpRel (w : World) (n : Nat) (p q : List Nat) (u : Value) (wr : World) : Prop :=
  ∃ k m : Nat, k ≤ n ∧ u = .int .i64 (k : Int) ∧ wr = w.drewN m ∧ Hid (p.drop (n - k) = q.drop (n - k))

theorem CmpRel.of {w wr : World} {n : Nat} {p q : List Nat} {u : Value} (k : Nat) (hk : k ≤ n) (hu : u = .int .i64 (k : Int)) (h : ∃ m, wr = w.drewN m) (hI : Hid (p.drop (n - k) = q.drop (n - k))) : CmpRel w n p q u wr := by
  obtain ⟨m, hm⟩ := h; exact ⟨k, m, hk, hu, hm, hI⟩

theorem top_lt {B X Y n k x y : Nat} (hB : 2 ≤ B) (h1 : (digs B X).length = n) (h2 : (digs B Y).length = n) (hk : k < n) (he : (digs B X).drop (n - k) = (digs B Y).drop (n - k))
    (hx : (digs B X)[n - 1 - k]? = some x) (hy : (digs B Y)[n - 1 - k]? = some y) (h : x < y) : X < Y := by
  have := lt_of_top (B := B) (xs := digs B X) (ys := digs B Y) (small_digs hB X) (n - 1 - k) (by omega) (by omega) (by rw [show n - 1 - k + 1 = n - k by omega]; exact he) (by rw [getD_of hx, getD_of hy]; exact h)
  rwa [nval_digs hB, nval_digs hB] at this
theorem top_next {p q : List Nat} {n k x : Nat} (h1 : p.length = n) (h2 : q.length = n) (hk : k < n) (he : p.drop (n - k) = q.drop (n - k)) (hx : p[n - 1 - k]? = some x) (hy : q[n - 1 - k]? = some x) :
    p.drop (n - (k + 1)) = q.drop (n - (k + 1)) := by
  rw [show n - (k + 1) = n - 1 - k by omega, List.drop_eq_getElem_cons (by omega), List.drop_eq_getElem_cons (l := q) (by omega), show n - 1 - k + 1 = n - k by omega, he]
  rw [List.getElem?_eq_getElem (by omega)] at hx hy
  injection hx with hx; injection hy with hy
  rw [hx, hy]

set_option maxHeartbeats 1000000 in
theorem cmp_any (w : World) (lo hi : Nat) (A B : Option Addr) (n c m cb : Nat) (xs ys : List Nat) (ha : Rd .u64 w lo hi A n c xs) (hb : Rd .u64 w lo hi B m cb ys) (hxs : Small B64 xs) (hys : Small B64 ys)
    (hn : n ≤ 100000000) (hm : m ≤ 100000000) :
    Calls Tryd.prog 70 #[.slice A n c, .slice B m cb] w (IntPost w (cmpv (nval B64 xs) (nval B64 ys))) := by
  have ux := ulen_le hxs
  have uy := ulen_le hys
  rw [ha.1] at ux
  rw [hb.1] at uy
  have HA := Lib.hid ha; have HB := Lib.hid hb; have HX := Lib.hid hxs; have HY := Lib.hid hys
  clear ha hb hxs hys
  obtain ⟨X, hX⟩ : ∃ X, X = nval B64 xs := ⟨_, rfl⟩
  obtain ⟨Y, hY⟩ : ∃ Y, Y = nval B64 ys := ⟨_, rfl⟩
  rw [← hX, ← hY]
  have HXv := Lib.hid hX; have HYv := Lib.hid hY
  clear hX hY
  go_enter Tryd.func70, Tryd.ntmps70
  go_wp2_with fail
  refine (used_any w lo hi A n c xs HA.out HX.out (by omega)).mono ?_
  rintro e w' ⟨A1, c1, rfl, rfl, hA1, hc1⟩
  have H1 := Lib.hid (HA.out.used HX.out hA1 hc1)
  clear hA1 hc1
  go_wp2_with fail
  refine (used_any w lo hi B m cb ys HB.out HY.out (by omega)).mono ?_
  rintro e w' ⟨A2, c2, rfl, rfl, hA2, hc2⟩
  have H2 := Lib.hid (HB.out.used HY.out hA2 hc2)
  clear hA2 hc2 HA HB HX HY
  generalize ulen xs = n1 at *
  generalize ulen ys = n2 at *
  rw [← HXv.out] at H1
  rw [← HYv.out] at H2
  rcases Nat.lt_or_ge n1 n2 with hlt | hge
  · have hv := Lib.hid (nval_le_of_len B64_two (m := X) (n := Y) (by rw [H1.out.1, H2.out.1]; exact hlt))
    go_wp2
    go_ret
    rw [cmpv_lt hv.out]
    exact ⟨0, rfl, rfl⟩
  · rcases Nat.lt_or_ge n2 n1 with hlt | hge2
    · have hv := Lib.hid (nval_le_of_len B64_two (m := Y) (n := X) (by rw [H1.out.1, H2.out.1]; exact hlt))
      go_wp2
      go_ret
      rw [cmpv_gt hv.out]
      exact ⟨0, rfl, rfl⟩
    · obtain rfl : n1 = n2 := by omega
      have f1 : decide (n1 < n1) = false := by simp
      go_wp2
      go_loopw [25] (fun u wr => CmpRel w n1 (digs B64 X) (digs B64 Y) u wr) (fun u _ => n1 - (intOf u).toNat)
      case atStart => exact ⟨0, 0, Nat.zero_le _, rfl, rfl, Lib.hid (by
        rw [List.drop_of_length_le (by have := H1.out.1; omega), List.drop_of_length_le (by have := H2.out.1; omega)])⟩
      case round =>
        obtain ⟨k, dn, hk, rfl, rfl, hI⟩ := hrel
        by_cases hlt : k < n1
        · obtain ⟨ad, x, hA, _, _, hx, hcx⟩ := H1.out.get_ (j := n1 - 1 - k) (by omega)
          subst hA
          obtain ⟨bd, y, hA, _, _, hy, hcy⟩ := H2.out.get_ (j := n1 - 1 - k) (by omega)
          subst hA
          have i1 : (0 : Int) ≤ (n1 : Int) - 1 - (k : Int) := by omega
          have i2 : (n1 : Int) - 1 - (k : Int) < (n1 : Int) := by omega
          have i3 : ((n1 : Int) - 1 - (k : Int)).toNat = n1 - 1 - k := by omega
          go_wp2
          go_quiet (fail)
          rcases Nat.lt_or_ge x y with hxy | hxy
          · go_wp2
            go_ret
            rw [cmpv_lt (top_lt B64_two H1.out.1 H2.out.1 hlt hI.out hx.out hy.out hxy)]
            exact IntPost.of rfl (by first | exact ⟨_, rfl⟩ | exact dr1 _ _ _ | exact dr2 _ _ _ _)
          · have f2 : decide (x < y) = false := by simp; omega
            go_wp2
            go_quiet (fail)
            rcases Nat.lt_or_ge y x with hyx | hyx
            · go_wp2
              go_ret
              rw [cmpv_gt (top_lt B64_two H2.out.1 H1.out.1 hlt hI.out.symm hy.out hx.out hyx)]
              exact IntPost.of rfl (by first | exact ⟨_, rfl⟩ | exact dr1 _ _ _ | exact dr2 _ _ _ _)
            · have f3 : decide (y < x) = false := by simp; omega
              obtain rfl : x = y := by omega
              go_wp2
              go_roundw
              case rel => exact CmpRel.of (k + 1) (by omega) (by go_num) (by first | exact ⟨_, rfl⟩ | exact dr1 _ _ _ | exact dr2 _ _ _ _) (Lib.hid (top_next H1.out.1 H2.out.1 hlt hI.out hx.out hy.out))
              case measure => simp [intOf]; omega
        · go_wp2
          go_ret
          have hkn : n1 - k = 0 := by omega
          have he := hI.out
          rw [hkn, List.drop_zero, List.drop_zero] at he
          have hXY : X = Y := by
            have h1 := nval_digs B64_two X
            rw [he, nval_digs B64_two] at h1
            exact h1.symm
          rw [cmpv_eq hXY]
          exact ⟨dn, rfl, rfl⟩

set_option maxHeartbeats 400000 in
theorem right_any (w : World) (lo hi : Nat) (A : Option Addr) (n c : Nat) (xs : List Nat) (ha : Rd .u64 w lo hi A n c xs) (hn : n ≤ 100000000) :
    Calls Tryd.prog 43 #[.slice A n c] w fun e w' => e = .returned (.bool (decide (n = 0 ∨ xs.getD (n - 1) 0 ≠ 0))) ∧ w = w' := by
  rcases Nat.eq_zero_or_pos n with e | e
  · subst e
    go_enter Tryd.func43, Tryd.ntmps43
    go_wp2
    go_ret
    exact ⟨by simp, rfl⟩
  · obtain ⟨ad, x, hA, _, _, hx, hcx⟩ := ha.get_ (j := n - 1) (by omega)
    subst hA
    have hg := getD_of hx.out
    rw [hg]
    have f0 : ((n : Int) == 0) = false := by simp; omega
    have HA := Lib.hid ha
    have HG := Lib.hid hg
    clear ha hg
    go_enter Tryd.func43, Tryd.ntmps43
    go_wp2
    go_ret
    refine ⟨congrArg (fun b => Ending.returned (Value.bool b)) ?_, rfl⟩
    rw [Bool.eq_iff_iff]
    simp
    omega
end Go.Proofs.YtimkifkikcohgaaDoor
