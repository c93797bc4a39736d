/- The laws reads, DigitsRead, DigitsBack: their walks. -/
import Derived.Test.YtdmnohmjobofhaaGreatDoorDgO
import Derived.Test.YtdmnohmjobofhaaGreatDoorDgN
import Derived.Test.YtdmnohmjobofhaaGreatDoorSeatY
namespace Go.Proofs.YtdmnohmjobofhaaGreatDoor
open Go.RowKit Nx

set_option maxRecDepth 100000 in
set_option maxHeartbeats 2000000 in
theorem reads_any (w : World) (s : ByteArray) (hs : s.size ≤ 10000) (ht : Tab w) : Calls Tryz.prog 12 #[.string s] w (LawPost w) := by
  have C1 := Lib.hid (parse_any w s hs ht)
  clear ht
  obtain ⟨r, hr⟩ : ∃ r, r = prs s.toList := ⟨_, rfl⟩
  have HR := Lib.hid hr
  rw [← hr] at C1
  clear hr
  have HF := Lib.hid (prs_fits s.toList)
  rw [← HR.out] at HF
  obtain ⟨⟨q, M, e⟩, err⟩ := r
  go_enter Tryz.func12, Tryz.ntmps12
  go_wp2_with fail
  refine C1.out.mono ?_
  clear C1
  rintro _ w1 ⟨_, rfl, ⟨A1, n1, c1, rfl, h1⟩, b1⟩
  simp only
  simp only at h1
  have K1 := Lib.hid (Bx.new w1 q e A1 n1 c1)
  have o1 := one_below w1 (.cells #[.bool q, .int .i64 e, .slice A1 n1 c1] 24)
  have I1 := Lib.hid (show Is _ A1 n1 c1 M from (rd_nextlo h1 o1).less (Nat.zero_le _))
  have B1 := Lib.hid (below_step b1 o1)
  clear h1 b1 o1
  have C2 := Lib.hid (rparse_any (w1.alloc (.cells #[.bool q, .int .i64 e, .slice A1 n1 c1] 24)) s hs)
  rw [← HR.out] at C2
  go_wp2_with fail
  refine C2.out.mono ?_
  clear C2
  rintro _ w2 ⟨_, rfl, ⟨A2, n2, c2, rfl, h2⟩, b2⟩
  simp only
  simp only at h2
  have K2 := Lib.hid (Bx.new w2 q e A2 n2 c2)
  have o2 := one_below w2 (.cells #[.bool q, .int .i64 e, .slice A2 n2 c2] 24)
  have I2 := Lib.hid (show Is _ A2 n2 c2 M from (rd_nextlo h2 o2).less (Nat.zero_le _))
  have b2' := below_step b2 o2
  replace K1 := Lib.hid (K1.out.step b2'); replace I1 := Lib.hid (I1.out.step b2'); replace B1 := Lib.hid (below_step B1.out b2')
  have q1 : w1.heap.size < w2.heap.size := by have := b2.size; simp at this; omega
  clear h2 b2 o2 b2'
  have C3 := Lib.hid (rsame_any _ q q e e A1 A2 n1 c1 n2 c2 _ _ (is_arg I1.out) (is_arg I2.out) (by have := is_len I1.out HF.out; omega) (by have := is_len I2.out HF.out; omega))
  have hsm : sameb q e (digs B64 M) q e (digs B64 M) = true := by simp [sameb]
  rw [hsm] at C3
  have r0 := K1.out.c0; have r1 := K1.out.c1; have r2 := K1.out.c2
  go_wp2_with fail
  refine C3.out.mono ?_
  rintro _ w3 ⟨rfl, b3⟩
  go_wp2
  go_ret
  exact ⟨rfl, below_step B1.out b3⟩

set_option maxRecDepth 100000 in
set_option maxHeartbeats 2000000 in
theorem read_walk (w : World) (s : ByteArray) (ht : Tab w) (hp : Pw w) : Calls Tryz.prog 4 #[.string s] w (LawPost w) := by
  have C1 := Lib.hid (dknown_any w ht hp)
  have HT := Lib.hid ht
  clear ht hp
  go_enter Tryz.func4, Tryz.ntmps4
  go_wp2_with fail
  refine C1.out.mono ?_
  rintro _ w1 ⟨rfl, b1⟩
  by_cases hl : 1400 < s.size
  · go_wp2
    go_ret
    exact ⟨rfl, b1⟩
  · have C2 := Lib.hid (reads_any w1 s (by omega) (HT.out.below b1))
    go_wp2_with fail
    refine C2.out.mono ?_
    rintro _ w2 ⟨rfl, b2⟩
    go_wp2
    go_ret
    exact ⟨rfl, below_step b1 b2⟩
end Go.Proofs.YtdmnohmjobofhaaGreatDoor
