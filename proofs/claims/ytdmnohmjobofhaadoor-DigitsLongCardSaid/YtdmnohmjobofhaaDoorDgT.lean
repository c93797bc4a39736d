/- The law DigitsEven: its walk. -/
import Derived.Test.YtdmnohmjobofhaaDoorDgO
import Derived.Test.YtdmnohmjobofhaaDoorDgF
namespace Go.Proofs.YtdmnohmjobofhaaDoor
open Go.RowKit Nx

theorem nm_fits {v : Nat} {z : Int} (hv : v < B64) (h1 : -60000 ≤ z) (h2 : z ≤ 60000) : Fits (nm false v z) := by
  unfold nm
  split
  · exact fits0
  · rename_i h0
    have hz := ntz_lt h0 (show v < 2 ^ 64 from hv)
    refine ⟨Nat.lt_of_le_of_lt (Nat.div_le_self v _) (lt_b64 hv), ?_, ?_⟩
    · show -65536 ≤ z + (ntz v : Int); omega
    · show z + (ntz v : Int) ≤ 65536; omega
theorem prs_even {v : Nat} {z : Int} (hv : v < B64) (h0 : z ≠ 0) (h1 : -60000 ≤ z) (h2 : z ≤ 60000) : prs (Lib.decDigits v ++ 112 :: Lib.itoa z) = if v = 0 then (q0, 5) else (nm false v z, 0) := by
  by_cases hv0 : v = 0
  · subst hv0
    rw [if_pos rfl]
    have hun := un_dec 0 (112 :: Lib.itoa z)
    obtain ⟨d1, d2⟩ := dsp_append (dec_all 0) (b := 112 :: Lib.itoa z) (fun c hc => by simp at hc; subst hc; rfl)
    refine prs_zero ?_ ?_
    · rw [hun, d1, dec_zero]; rfl
    · rw [hun, d2]; simp
  · rw [if_neg hv0]
    have h := prs_dec (s := false) (M := v) (r := 112 :: Lib.itoa z) (e := z) (Nat.lt_of_lt_of_le (lt_b64 hv) b64_ten) (fun h => by cases h) (fun c hc => by simp at hc; subst hc; rfl) (fun h => absurd h hv0) (exs_itoa (by omega) (by omega) h0)
    simp only [Bool.false_eq_true, if_false, List.nil_append] at h
    rw [h, res_ok (nm_fits hv h1 h2)]

set_option maxRecDepth 100000 in
set_option maxHeartbeats 4000000 in
theorem even_walk (w : World) (v e : Nat) (low : Bool) (hv : v < 18446744073709551616) (he : e ≤ 65535) (ht : Tab w) (hp : Pw w) :
    Calls Tryd.prog 4 #[.int .u64 (v : Int), .int .u16 (e : Int), .bool low] w (LawPost w) := by
  have C1 := Lib.hid (dknown_any w ht hp)
  have HT := Lib.hid ht
  clear ht hp
  obtain ⟨k, hk⟩ : ∃ k, k = e % 900 + 1 := ⟨_, rfl⟩
  have hk1 : 1 ≤ k := by omega
  have hk2 : k ≤ 900 := by omega
  have m1 : (e : Int) % 900 + 1 = (k : Int) := by omega
  have m2 : IntKind.i64.wrap ((e : Int) % 900) = (e : Int) % 900 := by rw [IntKind.wrap_i64]; omega
  have m3 : IntKind.u64.wrap ((e : Int) % 900) = (e : Int) % 900 := by rw [IntKind.wrap_u64]; omega
  have HE := Lib.hid he
  clear hk he
  go_enter Tryd.func4, Tryd.ntmps4
  go_wp2_with fail
  refine C1.out.mono ?_
  rintro _ w1 ⟨rfl, b1⟩
  have B1 := Lib.hid (below_step b1 (one_below w1 (.cells #[.int .u64 (v : Int)] 41)))
  have C2 := Lib.hid (part_is (has_one w1 v hv _ rfl) (by omega))
  clear b1 C1
  go_wp2_with fail
  refine C2.out.mono ?_
  rintro _ w2 ⟨A2, n2, c2, rfl, h2, b2⟩
  have B2 := Lib.hid (below_step B1.out b2)
  have C3 := Lib.hid (rdecimal_any w2 A2 n2 c2 v h2 (lt_b64 hv))
  clear h2 b2 C2 B1
  go_wp2_with fail
  refine C3.out.mono ?_
  rintro _ w3 ⟨t3, rfl, h3, b3⟩
  have hs3 : t3.size ≤ 20 := by rw [size_of, h3]; exact dec_len_le (Nat.lt_trans hv (by decide)) (by omega)
  have H3 := Lib.hid h3; have B3 := Lib.hid (below_step B2.out b3)
  clear h3 b3 C3 B2
  have B4 := Lib.hid (below_step B3.out (one_below w3 (.cells #[.int .u64 (k : Int)] 41)))
  have hkB : k < B64 := by unfold B64; omega
  have C4 := Lib.hid (part_is (has_one w3 k hkB _ rfl) (by omega))
  clear B3
  cases low
  · go_wp2_with fail
    refine C4.out.mono ?_
    rintro _ w4 ⟨A4, n4, c4, rfl, h4, b4⟩
    have B5 := Lib.hid (below_step B4.out b4)
    have C5 := Lib.hid (rdecimal_any w4 A4 n4 c4 k h4 (lt_b64 hkB))
    clear h4 b4 C4 B4
    go_wp2_with fail
    refine C5.out.mono ?_
    rintro _ w5 ⟨t5, rfl, h5, b5⟩
    have hs5 : t5.size ≤ 6 := by rw [size_of, h5]; exact dec_len_le (by omega) (by omega)
    have hl : (t3 ++ ⟨#[112]⟩ ++ t5).toList = Lib.decDigits v ++ 112 :: Lib.itoa (k : Int) := by
      rw [Lib.itoa_nonneg]
      rw [cat_list, cat_list, H3.out, h5]; simp
    have hsl : (t3 ++ ⟨#[112]⟩ ++ t5).size ≤ 10000 := by rw [size_of, hl, List.length_append, List.length_cons, ← H3.out, ← size_of]; rw [Lib.itoa_nonneg]; rw [← h5, ← size_of]; omega
    have B6 := Lib.hid (below_step B5.out b5)
    have C6 := Lib.hid (parse_any w5 (t3 ++ ⟨#[112]⟩ ++ t5) hsl (HT.out.below B6.out))
    rw [hl, prs_even hv (z := (k : Int)) (by omega) (by omega) (by omega)] at C6
    clear h5 b5 C5 B5 hl hsl H3
    by_cases hv0 : v = 0
    · rw [if_pos hv0] at C6
      have f0 : ((v : Int) == 0) = true := by simp; omega
      go_wp2_with fail
      refine C6.out.mono ?_
      rintro _ w6 ⟨_, rfl, ⟨A6, n6, c6, rfl, h6⟩, b6⟩
      simp only [show q0.s = false from rfl, show q0.e = 0 from rfl]
      have B7 := Lib.hid (below_step (below_step B6.out b6) (one_below w6 (.cells #[.bool false, .int .i64 0, .slice A6 n6 c6] 28)))
      clear h6 b6 C6 hv0
      go_wp2
      go_ret
      exact ⟨rfl, B7.out⟩
    · rw [if_neg hv0] at C6
      have f0 : ((v : Int) == 0) = false := by simp; omega
      have hfit := nm_fits hv (z := (k : Int)) (by omega) (by omega)
      have CM := Lib.hid (fun (W : World) (hT : Tab W) => make_any (W.alloc (.cells #[.int .u64 (v : Int)] 41)) false (k : Int) (some ⟨W.heap.size, 0, none⟩) 1 1 [v] ⟨one_rd W v, small1 hv⟩ (by omega) (hT.below (one_below W _)))
      rw [nval1, res_ok hfit] at CM
      obtain ⟨q, hq⟩ : ∃ q, q = nm false v (k : Int) := ⟨_, rfl⟩
      rw [← hq] at C6 CM hfit
      have HF := Lib.hid hfit
      clear hq hfit hv0
      obtain ⟨s, M, ee⟩ := q
      go_wp2_with fail
      refine C6.out.mono ?_
      rintro _ w6 ⟨_, rfl, ⟨A6, n6, c6, rfl, h6⟩, b6⟩
      simp only
      simp only at h6
      have K6 := Lib.hid (Bx.new w6 s ee A6 n6 c6)
      have o6 := one_below w6 (.cells #[.bool s, .int .i64 ee, .slice A6 n6 c6] 28)
      have I6 := Lib.hid (show Is _ A6 n6 c6 M from (rd_nextlo h6 o6).less (Nat.zero_le _))
      have B7 := Lib.hid (below_step (below_step B6.out b6) o6)
      have C7 := Lib.hid (CM.out (w6.alloc (.cells #[.bool s, .int .i64 ee, .slice A6 n6 c6] 28)) (HT.out.below B7.out))
      have o7 := one_below (w6.alloc (.cells #[.bool s, .int .i64 ee, .slice A6 n6 c6] 28)) (.cells #[.int .u64 (v : Int)] 41)
      rw [show (w6.alloc (.cells #[.bool s, .int .i64 ee, .slice A6 n6 c6] 28)).heap.size = w6.heap.size + 1 by simp] at C7
      clear h6 b6 C6 o6 CM B6
      go_wp2_with fail
      refine C7.out.mono ?_
      rintro _ w8 ⟨_, rfl, ⟨A8, n8, c8, rfl, h8⟩, b8⟩
      simp only
      simp only at h8
      have K8 := Lib.hid (Bx.new w8 s ee A8 n8 c8)
      have o8 := one_below w8 (.cells #[.bool s, .int .i64 ee, .slice A8 n8 c8] 28)
      have I8 := Lib.hid (show Is _ A8 n8 c8 M from (rd_nextlo h8 o8).less (Nat.zero_le _))
      have b8' := below_step o7 (below_step b8 o8)
      have q1 : w6.heap.size < w8.heap.size := by have := b8.size; simp at this; omega
      replace K6 := Lib.hid (K6.out.step b8'); replace I6 := Lib.hid (I6.out.step b8'); replace B7 := Lib.hid (below_step B7.out b8')
      clear h8 b8 o8 b8' o7 C7
      have C9 := Lib.hid (nsame_any _ s s ee ee A6 A8 n6 c6 n8 c8 _ _ (is_arg I6.out) (is_arg I8.out) (by have := is_len I6.out HF.out.1; omega) (by have := is_len I8.out HF.out.1; omega))
      have hsm : sameb s ee (digs B64 M) s ee (digs B64 M) = true := by simp [sameb]
      rw [hsm] at C9
      have r0 := K6.out.c0; have r1 := K6.out.c1; have r2 := K6.out.c2
      go_wp2_with fail
      refine C9.out.mono ?_
      rintro _ w9 ⟨rfl, b9⟩
      go_wp2
      go_ret
      exact ⟨rfl, below_step B7.out b9⟩
  · go_wp2_with fail
    refine C4.out.mono ?_
    rintro _ w4 ⟨A4, n4, c4, rfl, h4, b4⟩
    have B5 := Lib.hid (below_step B4.out b4)
    have C5 := Lib.hid (rdecimal_any w4 A4 n4 c4 k h4 (lt_b64 hkB))
    clear h4 b4 C4 B4
    go_wp2_with fail
    refine C5.out.mono ?_
    rintro _ w5 ⟨t5, rfl, h5, b5⟩
    have hs5 : t5.size ≤ 6 := by rw [size_of, h5]; exact dec_len_le (by omega) (by omega)
    have hl : (t3 ++ ⟨#[112]⟩ ++ ⟨#[45]⟩ ++ t5).toList = Lib.decDigits v ++ 112 :: Lib.itoa (-(k : Int)) := by
      rw [Lib.itoa_neg k hk1]
      rw [cat_list, cat_list, cat_list, H3.out, h5]; simp
    have hsl : (t3 ++ ⟨#[112]⟩ ++ ⟨#[45]⟩ ++ t5).size ≤ 10000 := by rw [size_of, hl, List.length_append, List.length_cons, ← H3.out, ← size_of]; rw [Lib.itoa_neg k hk1]; rw [List.length_cons, ← h5, ← size_of]; omega
    have B6 := Lib.hid (below_step B5.out b5)
    have C6 := Lib.hid (parse_any w5 (t3 ++ ⟨#[112]⟩ ++ ⟨#[45]⟩ ++ t5) hsl (HT.out.below B6.out))
    rw [hl, prs_even hv (z := (-(k : Int))) (by omega) (by omega) (by omega)] at C6
    clear h5 b5 C5 B5 hl hsl H3
    by_cases hv0 : v = 0
    · rw [if_pos hv0] at C6
      have f0 : ((v : Int) == 0) = true := by simp; omega
      go_wp2_with fail
      refine C6.out.mono ?_
      rintro _ w6 ⟨_, rfl, ⟨A6, n6, c6, rfl, h6⟩, b6⟩
      simp only [show q0.s = false from rfl, show q0.e = 0 from rfl]
      have B7 := Lib.hid (below_step (below_step B6.out b6) (one_below w6 (.cells #[.bool false, .int .i64 0, .slice A6 n6 c6] 28)))
      clear h6 b6 C6 hv0
      go_wp2
      go_ret
      exact ⟨rfl, B7.out⟩
    · rw [if_neg hv0] at C6
      have f0 : ((v : Int) == 0) = false := by simp; omega
      have hfit := nm_fits hv (z := (-(k : Int))) (by omega) (by omega)
      have CM := Lib.hid (fun (W : World) (hT : Tab W) => make_any (W.alloc (.cells #[.int .u64 (v : Int)] 41)) false (-(k : Int)) (some ⟨W.heap.size, 0, none⟩) 1 1 [v] ⟨one_rd W v, small1 hv⟩ (by omega) (hT.below (one_below W _)))
      rw [nval1, res_ok hfit] at CM
      obtain ⟨q, hq⟩ : ∃ q, q = nm false v (-(k : Int)) := ⟨_, rfl⟩
      rw [← hq] at C6 CM hfit
      have HF := Lib.hid hfit
      clear hq hfit hv0
      obtain ⟨s, M, ee⟩ := q
      go_wp2_with fail
      refine C6.out.mono ?_
      rintro _ w6 ⟨_, rfl, ⟨A6, n6, c6, rfl, h6⟩, b6⟩
      simp only
      simp only at h6
      have K6 := Lib.hid (Bx.new w6 s ee A6 n6 c6)
      have o6 := one_below w6 (.cells #[.bool s, .int .i64 ee, .slice A6 n6 c6] 28)
      have I6 := Lib.hid (show Is _ A6 n6 c6 M from (rd_nextlo h6 o6).less (Nat.zero_le _))
      have B7 := Lib.hid (below_step (below_step B6.out b6) o6)
      have C7 := Lib.hid (CM.out (w6.alloc (.cells #[.bool s, .int .i64 ee, .slice A6 n6 c6] 28)) (HT.out.below B7.out))
      have o7 := one_below (w6.alloc (.cells #[.bool s, .int .i64 ee, .slice A6 n6 c6] 28)) (.cells #[.int .u64 (v : Int)] 41)
      rw [show (w6.alloc (.cells #[.bool s, .int .i64 ee, .slice A6 n6 c6] 28)).heap.size = w6.heap.size + 1 by simp] at C7
      clear h6 b6 C6 o6 CM B6
      go_wp2_with fail
      refine C7.out.mono ?_
      rintro _ w8 ⟨_, rfl, ⟨A8, n8, c8, rfl, h8⟩, b8⟩
      simp only
      simp only at h8
      have K8 := Lib.hid (Bx.new w8 s ee A8 n8 c8)
      have o8 := one_below w8 (.cells #[.bool s, .int .i64 ee, .slice A8 n8 c8] 28)
      have I8 := Lib.hid (show Is _ A8 n8 c8 M from (rd_nextlo h8 o8).less (Nat.zero_le _))
      have b8' := below_step o7 (below_step b8 o8)
      have q1 : w6.heap.size < w8.heap.size := by have := b8.size; simp at this; omega
      replace K6 := Lib.hid (K6.out.step b8'); replace I6 := Lib.hid (I6.out.step b8'); replace B7 := Lib.hid (below_step B7.out b8')
      clear h8 b8 o8 b8' o7 C7
      have C9 := Lib.hid (nsame_any _ s s ee ee A6 A8 n6 c6 n8 c8 _ _ (is_arg I6.out) (is_arg I8.out) (by have := is_len I6.out HF.out.1; omega) (by have := is_len I8.out HF.out.1; omega))
      have hsm : sameb s ee (digs B64 M) s ee (digs B64 M) = true := by simp [sameb]
      rw [hsm] at C9
      have r0 := K6.out.c0; have r1 := K6.out.c1; have r2 := K6.out.c2
      go_wp2_with fail
      refine C9.out.mono ?_
      rintro _ w9 ⟨rfl, b9⟩
      go_wp2
      go_ret
      exact ⟨rfl, below_step B7.out b9⟩
end Go.Proofs.YtdmnohmjobofhaaDoor
