/- nat.Div. -/
import Derived.Test.YtnkbamjjpdmbaaaDoorDivide
namespace Go.Proofs.YtnkbamjjpdmbaaaDoor
open Go.RowKit Nx

/-- What Div leaves. -/
def DivOut (w : World) (X Y : Nat) (e : Ending) (w' : World) : Prop :=
  ∃ (Aq Ar : Option Addr) (nq cq nr cr : Nat) (qs rs : List Nat), e = .returned (.tuple #[.slice Aq nq cq, .slice Ar nr cr, .bool (decide (Y ≠ 0))]) ∧ Rd .u64 w' w.heap.size w'.heap.size Aq nq cq qs ∧
    Rd .u64 w' w.heap.size w'.heap.size Ar nr cr rs ∧ Below w.heap.size w w' ∧ (Y ≠ 0 → qs = digs B64 (X / Y) ∧ rs = digs B64 (X % Y)) ∧ (Y = 0 → qs = [] ∧ rs = [])

set_option maxRecDepth 100000 in
set_option maxHeartbeats 1000000 in
theorem div_any (w : World) (lo hi : Nat) (A B : Option Addr) (n c m cb : Nat) (xs ys : List Nat) (ha : Rd .u64 w lo hi A n c xs) (hb : Rd .u64 w lo hi B m cb ys) (hxs : Small B64 xs) (hys : Small B64 ys)
    (hn : n ≤ 90000000) (hm : m ≤ 90000000) (hhi : hi ≤ w.heap.size) :
    Calls Tryd.prog 78 #[.slice A n c, .slice B m cb] w (DivOut w (nval B64 xs) (nval B64 ys)) := by
  have ux := ulen_le hxs
  have uy := ulen_le hys
  rw [ha.1] at ux
  rw [hb.1] at uy
  have HA := Lib.hid ha; have HB := Lib.hid hb; have HX := Lib.hid hxs; have HY := Lib.hid hys
  clear ha hb hxs hys
  obtain ⟨X, hX⟩ : ∃ X, X = nval B64 xs := ⟨_, rfl⟩
  obtain ⟨Y, hY⟩ : ∃ Y, Y = nval B64 ys := ⟨_, rfl⟩
  rw [← hX, ← hY]
  have HXv := Lib.hid hX; have HYv := Lib.hid hY
  clear hX hY
  go_enter Tryd.func78, Tryd.ntmps78
  go_wp2_with fail
  refine (used_any w lo hi A n c xs HA.out HX.out (by omega)).mono ?_
  rintro e w' ⟨A1, c1, rfl, rfl, hA1, hc1⟩
  have H1 := Lib.hid (HA.out.used HX.out hA1 hc1)
  clear hA1 hc1
  go_wp2_with fail
  refine (used_any w lo hi B m cb ys HB.out HY.out (by omega)).mono ?_
  rintro e w' ⟨A2, c2, rfl, rfl, hA2, hc2⟩
  have H2 := Lib.hid (HB.out.used HY.out hA2 hc2)
  clear hA2 hc2 HA HB HX HY
  generalize ulen xs = n1 at *
  generalize ulen ys = n2 at *
  rw [← HXv.out] at H1
  rw [← HYv.out] at H2
  rcases Nat.eq_zero_or_pos n2 with e2 | e2
  · have hY0 : Y = 0 := (digs_eq_nil B64_two).1 (List.eq_nil_of_length_eq_zero (H2.out.1.trans e2))
    have HY0 := Lib.hid hY0
    clear hY0
    subst e2
    go_wp2
    go_ret3
    refine ⟨none, none, 0, 0, 0, 0, [], [], ?_, Rd.none_, Rd.none_, Below.refl _ _, fun h => absurd HY0.out h, fun _ => ⟨rfl, rfl⟩⟩
    exact congrArg (fun b => Ending.returned (.tuple #[.slice none 0 0, .slice none 0 0, .bool b])) (by rw [HY0.out]; simp)
  · have hY0 : Y ≠ 0 := by rintro rfl; have := H2.out.1; rw [digs_zero] at this; simp at this; omega
    have f2 : ((n2 : Int) == 0) = false := by simp; omega
    have HY0 := Lib.hid hY0
    clear hY0
    rcases Nat.lt_or_ge n1 n2 with hlt | hge
    · have hXY : X < Y := nval_le_of_len B64_two (m := X) (n := Y) (by rw [H1.out.1, H2.out.1]; exact hlt)
      have HXY := Lib.hid hXY
      clear hXY
      go_wp2_with fail
      refine (trim_any w lo hi A1 n1 c1 _ H1.out (small_digs B64_two _) (by omega) hhi).mono ?_
      rintro e w1 ⟨A3, n3, c3, rfl, h1, h2, _⟩
      rw [nval_digs B64_two] at h1
      have K1 := Lib.hid h1; have K2 := Lib.hid h2
      clear h1 h2
      go_wp2
      go_ret3
      refine ⟨none, A3, 0, 0, n3, c3, [], digs B64 X, ?_, Rd.none_, K1.out, K2.out, fun _ => ⟨?_, ?_⟩, fun h => absurd h HY0.out⟩
      · exact congrArg (fun b => Ending.returned (.tuple #[.slice none 0 0, .slice A3 n3 c3, .bool b])) (by have := HY0.out; simp [this])
      · rw [Nat.div_eq_of_lt HXY.out, digs_zero]
      · rw [Nat.mod_eq_of_lt HXY.out]
    · have f3 : decide (n1 < n2) = false := by simp; omega
      go_wp2_with fail
      refine (divide_any w lo hi A1 A2 n1 c1 n2 c2 X Y H1.out H2.out (by omega) hge e2 hhi).mono ?_
      rintro e w1 ⟨Aq, Ar, nq, cq, nr, cr, rfl, h1, h2, h3⟩
      have K1 := Lib.hid h1; have K2 := Lib.hid h2; have K3 := Lib.hid h3
      clear h1 h2 h3
      go_wp2
      go_ret3
      refine ⟨Aq, Ar, nq, cq, nr, cr, _, _, ?_, K1.out, K2.out, K3.out, fun _ => ⟨rfl, rfl⟩, fun h => absurd h HY0.out⟩
      exact congrArg (fun b => Ending.returned (.tuple #[.slice Aq nq cq, .slice Ar nr cr, .bool b])) (by have := HY0.out; simp [this])
end Go.Proofs.YtnkbamjjpdmbaaaDoor
