/- nat.Sub. -/
import Derived.Test.YtimkifkikcohgaaDoorSub
namespace Go.Proofs.YtimkifkikcohgaaDoor
open Go.RowKit Nx

theorem below_drewN {B : Nat} {a w : World} (h : Below B a w) (n : Nat) : Below B a (w.drewN n) := ⟨h.os, h.tape, h.output, h.size, h.block⟩

/-- What Sub leaves: the difference, if there is one. -/
def SubOut (w : World) (X Y : Nat) (e : Ending) (w' : World) : Prop :=
  ∃ (A : Option Addr) (n c : Nat), e = .returned (.tuple #[.slice A n c, .bool (decide (Y ≤ X))]) ∧ Rd .u64 w' w.heap.size w'.heap.size A n c (digs B64 (X - Y)) ∧ Below w.heap.size w w' ∧ Fr w' A n

set_option maxRecDepth 100000 in
set_option maxHeartbeats 1000000 in
theorem sub_any (w : World) (lo hi : Nat) (A B : Option Addr) (n c m cb : Nat) (xs ys : List Nat) (ha : Rd .u64 w lo hi A n c xs) (hb : Rd .u64 w lo hi B m cb ys) (hxs : Small B64 xs) (hys : Small B64 ys)
    (hn : n ≤ 100000000) (hm : m ≤ 100000000) (hhi : hi ≤ w.heap.size) :
    Calls Tryd.prog 74 #[.slice A n c, .slice B m cb] w (SubOut w (nval B64 xs) (nval B64 ys)) := by
  have ux := ulen_le hxs
  have uy := ulen_le hys
  rw [ha.1] at ux
  rw [hb.1] at uy
  have HA := Lib.hid ha; have HB := Lib.hid hb; have HX := Lib.hid hxs; have HY := Lib.hid hys
  clear ha hb hxs hys
  obtain ⟨X, hX⟩ : ∃ X, X = nval B64 xs := ⟨_, rfl⟩
  obtain ⟨Y, hY⟩ : ∃ Y, Y = nval B64 ys := ⟨_, rfl⟩
  rw [← hX, ← hY]
  have HXv := Lib.hid hX; have HYv := Lib.hid hY
  clear hX hY
  go_enter Tryd.func74, Tryd.ntmps74
  go_wp2_with fail
  refine (used_any w lo hi A n c xs HA.out HX.out (by omega)).mono ?_
  rintro e w' ⟨A1, c1, rfl, rfl, hA1, hc1⟩
  have H1 := Lib.hid (HA.out.used HX.out hA1 hc1)
  clear hA1 hc1
  go_wp2_with fail
  refine (used_any w lo hi B m cb ys HB.out HY.out (by omega)).mono ?_
  rintro e w' ⟨A2, c2, rfl, rfl, hA2, hc2⟩
  have H2 := Lib.hid (HB.out.used HY.out hA2 hc2)
  clear hA2 hc2 HA HB HX HY
  generalize ulen xs = n1 at *
  generalize ulen ys = n2 at *
  rw [← HXv.out] at H1
  rw [← HYv.out] at H2
  go_wp2_with fail
  refine (cmp_any w lo hi A1 A2 n1 c1 n2 c2 _ _ H1.out H2.out (small_digs B64_two _) (small_digs B64_two _) (by omega) (by omega)).mono ?_
  rintro e w' ⟨dn, rfl, rfl⟩
  rw [nval_digs B64_two, nval_digs B64_two]
  rcases Nat.lt_or_ge X Y with hlt | hge
  · rw [cmpv_lt hlt]
    have HLT := Lib.hid hlt
    clear hlt
    go_wp2
    go_ret2
    refine ⟨none, 0, 0, ?_, ?_, below_drewN (Below.refl _ _) _, fun _ j _ hj => absurd hj (by omega)⟩
    · exact congrArg (fun b => Ending.returned (.tuple #[.slice none 0 0, .bool b])) (by have := HLT.out; simp; omega)
    · rw [show X - Y = 0 by have := HLT.out; omega, digs_zero]; exact Rd.none_
  · have hc0 : 0 ≤ cmpv X Y := by
      rcases Nat.lt_or_ge Y X with h | h
      · rw [cmpv_gt h]; omega
      · rw [cmpv_eq (by omega)]; omega
    generalize cmpv X Y = cv at *
    have HGE := Lib.hid hge
    clear hge
    have hl12 : n2 ≤ n1 := by
      rcases Nat.lt_or_ge n1 n2 with h | h
      · have := nval_le_of_len B64_two (m := X) (n := Y) (by rw [H1.out.1, H2.out.1]; exact h)
        have := HGE.out; omega
      · exact h
    have hmk := fun W => make64 (n1 : Int) n1 rfl (by omega) W
    obtain ⟨w2, hcp, hrow, honly⟩ := copy64 ((w.drewN dn).alloc (zrow .u64 54 n1)) lo hi w.heap.size n1 n1 c1 A1 _ _ (zrow_row _ _ _ (w.drewN dn)) ((H1.out.drewN dn).alloc hhi _) (by simp)
    rw [List.length_replicate] at hcp
    have hrow2 : Row .u64 w2 w.heap.size 54 (digs B64 X) := by
      have e : List.drop n1 (List.replicate n1 0) = [] := by rw [List.drop_replicate, Nat.sub_self]; rfl
      rw [e, List.append_nil] at hrow; exact hrow
    have hb2 : Below w.heap.size w w2 := ((below_drewN (Below.refl w.heap.size w) dn).alloc (Nat.le_refl _) _).trans (only_below honly (by simp) (Nat.le_refl _))
    have HRow := Lib.hid hrow2
    have HB2 := Lib.hid hb2
    have hq2 := Lib.hid (H2.out.below (hb2.mono hhi))
    clear hrow hrow2 honly hb2
    go_wp2_with fail
    refine (subFrom_any w2 lo hi w.heap.size 0 n1 n1 n2 c2 A2 [] (digs B64 X) [] (digs B64 Y) (Row.toSeg HRow.out (by simp)) rfl H1.out.1 (by omega) hq2.out hhi hl12 (small_digs B64_two _) (small_digs B64_two _) (by omega)).mono ?_
    rintro e w3 ⟨cy, out, rfl, hol, hos, hov, hseg, hon3⟩
    have hr3 : Row .u64 w3 w.heap.size 54 out := by
      have : ([] ++ out ++ [] : List Nat) = out := by simp
      unfold Seg at hseg; rw [this] at hseg; exact hseg
    have hb3 : Below w.heap.size w w3 := HB2.out.trans (only_below hon3 (by have := HRow.out.lt; omega) (Nat.le_refl _))
    have hN : nval B64 out = X - Y := by
      rw [nval_digs B64_two, nval_digs B64_two] at hov
      have h1 := nval_lt hos
      rw [hol] at h1
      have := HGE.out
      rcases Nat.eq_zero_or_pos cy with e | e
      · subst e; omega
      · have h8 : B64 ^ (digs B64 X).length * 1 ≤ B64 ^ (digs B64 X).length * cy := Nat.mul_le_mul_left _ e
        omega
    have hol2 : out.length = n1 := by rw [hol]; exact H1.out.1
    have HR3 := Lib.hid hr3
    have HB3 := Lib.hid hb3
    have HN := Lib.hid hN
    have HOS := Lib.hid hos
    have HOL := Lib.hid hol2
    clear hr3 hb3 hN hos hol2 hol hov hseg hon3
    go_wp2_with fail
    have hrd : Rd .u64 w3 w.heap.size w3.heap.size (some ⟨w.heap.size, 0, none⟩) n1 n1 out := by
      have := HR3.out.rd0 (lo := w.heap.size) (hi := w3.heap.size) (c := n1) (Nat.le_refl _) HR3.out.lt (by rw [HOL.out]; omega)
      rw [HOL.out] at this; exact this
    refine (used_any w3 w.heap.size w3.heap.size (some ⟨w.heap.size, 0, none⟩) n1 n1 out hrd HOS.out (by omega)).mono ?_
    rintro e w' ⟨A3, c3, rfl, rfl, hA3, hc3⟩
    have hfin := hrd.used HOS.out hA3 hc3
    rw [HN.out] at hfin
    have HF := Lib.hid hfin
    clear hfin
    go_wp2
    go_ret2
    refine ⟨_, _, _, ?_, HF.out, HB3.out, HR3.out.fr hA3⟩
    exact congrArg (fun b => Ending.returned (.tuple #[.slice A3 (ulen out) c3, .bool b])) (by have := HGE.out; simp; omega)
end Go.Proofs.YtimkifkikcohgaaDoor
