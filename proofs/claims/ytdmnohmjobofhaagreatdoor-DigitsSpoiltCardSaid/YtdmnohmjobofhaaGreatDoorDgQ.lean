/- The laws DigitsBack and DigitsSpoilt: their walks. -/
import Derived.Test.YtdmnohmjobofhaaGreatDoorDgP
namespace Go.Proofs.YtdmnohmjobofhaaGreatDoor
open Go.RowKit Nx

theorem txt_len {q : Q} (h : Valid q) : (txt q).length ≤ 1310 ∧ (txt q).length ≠ 0 := by
  have h1 := dec_len_le (Nat.lt_of_lt_of_le h.2.1 b64_ten) (by omega)
  have h2 : (Lib.itoa q.e).length ≤ 7 := by
    have := h.2.2.1; have := h.2.2.2
    unfold Lib.itoa
    split
    · rw [List.length_cons]; have := dec_len_le (u := q.e.natAbs) (k := 6) (by omega) (by omega); omega
    · have := dec_len_le (u := q.e.toNat) (k := 6) (by omega) (by omega); omega
  have h3 : (Lib.decDigits q.m).length ≠ 0 := fun h => dec_ne _ (List.eq_nil_of_length_eq_zero h)
  have h4 : (if q.s then [45] else ([] : List UInt8)).length ≤ 1 := by split <;> simp
  have h5 : (if q.e = 0 then ([] : List UInt8) else 112 :: Lib.itoa q.e).length ≤ 8 := by
    split
    · simp
    · rw [List.length_cons]; omega
  unfold txt
  rw [List.length_append, List.length_append]
  omega
/-- A drawn number. -/
theorem drawn_any (w : World) (A : Option Addr) (n c : Nat) (xs : List Nat) (ha : Arg w A n c xs) :
    Calls Tryz.prog 8 #[.slice A n c] w fun e w' => ∃ g, e = .returned (.pointer (some ⟨g, 0, none⟩)) ∧ Below w.heap.size w w' ∧
      Calls Tryz.prog 9 #[.pointer (some ⟨g, 0, none⟩)] w' fun e2 w2 => ∃ (q : Q) (v : Value), Valid q ∧ e2 = .returned v ∧ NumV 0 w2 v q ∧ Below w.heap.size w w2 := by
  refine (sof_any w A n c).mono ?_
  rintro e w1 ⟨rfl, hd, b1⟩
  refine ⟨w.heap.size, rfl, b1, ?_⟩
  refine (draw_any w1 w.heap.size 0 w.heap.size A n c 0 xs hd (ha.1.below b1) ha.2 (by omega) b1.size (Nat.le_refl _)).mono ?_
  rintro e2 w2 ⟨q, v, k', hv, he, hn, _, _, m⟩
  exact ⟨q, v, hv, he, hn.low (Nat.zero_le _), Mv.below b1 m (Nat.le_refl _) b1.size⟩

set_option maxRecDepth 100000 in
set_option maxHeartbeats 2000000 in
theorem back_walk (w : World) (A : Option Addr) (n c : Nat) (xs : List Nat) (ha : Arg w A n c xs) (ht : Tab w) (hp : Pw w) : Calls Tryz.prog 5 #[.slice A n c] w (LawPost w) := by
  have C1 := Lib.hid (dknown_any w ht hp)
  have HT := Lib.hid ht; have HP := Lib.hid hp; have HA := Lib.hid ha
  clear ht hp ha
  go_enter Tryz.func5, Tryz.ntmps5
  go_wp2_with fail
  refine C1.out.mono ?_
  rintro _ w1 ⟨rfl, b1⟩
  have B1 := Lib.hid b1
  have C2 := Lib.hid (drawn_any w1 A n c xs (HA.out.step b1))
  clear b1 C1
  go_wp2_with fail
  refine C2.out.mono ?_
  rintro _ w2 ⟨g, rfl, b2, c3⟩
  have C3 := Lib.hid c3
  clear b2 c3 C2
  go_wp2_with fail
  refine C3.out.mono ?_
  rintro _ w3 ⟨⟨s, M, e⟩, _, hv, rfl, ⟨A3, n3, c3, rfl, h3⟩, b3⟩
  simp only at h3
  have o3 := one_below w3 (.cells #[.bool s, .int .i64 e, .slice A3 n3 c3] 24)
  have K3 := Lib.hid (Bx.new w3 s e A3 n3 c3); have I3 := Lib.hid (show Is _ A3 n3 c3 M from (show Is w3 A3 n3 c3 M from h3).step o3); have HV := Lib.hid hv
  have B3 := Lib.hid (below_step (below_step B1.out b3) o3)
  clear h3 hv b3 o3 C3 B1
  have C4 := Lib.hid (text_v (q := ⟨s, M, e⟩) I3.out HV.out (HP.out.below B3.out))
  simp only at C4
  have r0 := K3.out.c0; have r1 := K3.out.c1; have r2 := K3.out.c2
  simp only
  go_wp2_with fail
  refine C4.out.mono ?_
  rintro _ w4 ⟨t, rfl, h4, b4⟩
  have hlt := (txt_len HV.out).1
  have C5 := Lib.hid (parse_any w4 t (by rw [size_of, h4]; omega) (HT.out.below (below_step B3.out b4)))
  rw [h4, prs_txt HV.out] at C5
  replace K3 := Lib.hid (K3.out.step b4); replace I3 := Lib.hid (I3.out.step b4); replace B3 := Lib.hid (below_step B3.out b4)
  have q0 : w3.heap.size < w4.heap.size := by have := b4.size; simp at this; omega
  clear h4 b4 hlt C4 r0 r1 r2
  go_wp2_with fail
  refine C5.out.mono ?_
  clear C5
  rintro _ w5 ⟨_, rfl, ⟨A5, n5, c5, rfl, h5⟩, b5⟩
  simp only
  simp only at h5
  have K5 := Lib.hid (Bx.new w5 s e A5 n5 c5)
  have o5 := one_below w5 (.cells #[.bool s, .int .i64 e, .slice A5 n5 c5] 24)
  have I5 := Lib.hid (show Is _ A5 n5 c5 M from (rd_nextlo h5 o5).less (Nat.zero_le _))
  have b5' := below_step b5 o5
  replace K3 := Lib.hid (K3.out.step b5'); replace I3 := Lib.hid (I3.out.step b5'); replace B3 := Lib.hid (below_step B3.out b5')
  have q1 : w3.heap.size < w5.heap.size := by have := b5.size; omega
  clear h5 b5 o5 b5' q0
  have C6 := Lib.hid (nsame_any _ s s e e A3 A5 n3 c3 n5 c5 _ _ (is_arg I3.out) (is_arg I5.out) (by have := is_len I3.out HV.out.2.1; omega) (by have := is_len I5.out HV.out.2.1; omega))
  have hsm : sameb s e (digs B64 M) s e (digs B64 M) = true := by simp [sameb]
  rw [hsm] at C6
  have r0 := K3.out.c0; have r1 := K3.out.c1; have r2 := K3.out.c2
  go_wp2_with fail
  refine C6.out.mono ?_
  rintro _ w6 ⟨rfl, b6⟩
  go_wp2
  go_ret
  exact ⟨rfl, below_step B3.out b6⟩
end Go.Proofs.YtdmnohmjobofhaaGreatDoor
