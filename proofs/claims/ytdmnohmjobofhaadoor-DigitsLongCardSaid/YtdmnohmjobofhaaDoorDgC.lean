/- digits.decimal and digits.Text: a number's text. -/
import Derived.Test.YtdmnohmjobofhaaDoorDgB
import Derived.Test.YtdmnohmjobofhaaDoorDivZ
namespace Go.Proofs.YtdmnohmjobofhaaDoor
open Go.RowKit Nx

theorem repeat_int (w : World) (z : Int) (h0 : 0 ≤ z) (hc : z ≤ 1000000) : Calls Tryd.prog 45 #[.string ⟨#[48]⟩, .int .i64 z] w (StrPost w (List.replicate z.toNat 48)) := by
  obtain ⟨c, rfl⟩ : ∃ c : Nat, z = (c : Int) := ⟨z.toNat, by omega⟩
  exact repeat_any w c (by omega)
def slen : Value → Nat
  | .string t => t.size
  | _ => 0
/-- Of decimal's loop: what is left to be shown, and what is shown. -/
def DecRel (w : World) (N : Nat) (u v : Value) (wr : World) : Prop :=
  ∃ (A : Option Addr) (n c M : Nat) (t : ByteArray), u = .slice A n c ∧ v = .string t ∧ t.size ≤ 1300 ∧ Hid (Is wr A n c M ∧ M ≤ N) ∧ Hid (Lib.decDigits N = Lib.decDigits M ++ t.toList) ∧ Hid (Below w.heap.size w wr)
theorem cat_list (a b : ByteArray) : (a ++ b).toList = a.toList ++ b.toList := by
  rw [Lib.toList_data, Lib.toList_data, Lib.toList_data, ByteArray.data_append]; simp
theorem cat_size (a b : ByteArray) : (a ++ b).size = a.size + b.size := ByteArray.size_append' a b
theorem ten_pow : (10 : Nat) ^ 19 = 10000000000000000000 := rfl

set_option maxRecDepth 100000 in
set_option maxHeartbeats 2000000 in
theorem decimal_any (w : World) (A : Option Addr) (n c N : Nat) (h : Is w A n c N) (hN : N < B64 ^ 64) (hp : Pw w) :
    Calls Tryd.prog 26 #[.slice A n c] w (StrPost w (Lib.decDigits N)) := by
  have H := Lib.hid h; have HN := Lib.hid hN; have HP := Lib.hid hp
  have hD := Lib.hid (dec_len_le (Nat.lt_of_lt_of_le hN b64_ten) (by omega))
  clear h hN hp
  go_enter Tryd.func26, Tryd.ntmps26
  go_wp2
  go_loopw [0, 3] (fun u v wr => DecRel w N u v wr) (fun _ v _ => 2000 - slen v)
  case atStart => exact ⟨A, n, c, N, _, rfl, rfl, by decide, Lib.hid ⟨H.out, Nat.le_refl _⟩, Lib.hid (by simp), Lib.hid (Below.refl _ _)⟩
  case round =>
    obtain ⟨A1, n1, c1, M, t, rfl, rfl, ht, hM, hT, hB⟩ := hrel
    rename World => W
    have HM : Hid (M < B64 ^ 64) := Lib.hid (Nat.lt_of_le_of_lt hM.out.2 HN.out)
    have b1 := Lib.hid (one_below W (.cells #[.int .u64 10000000000000000000] 41))
    have I1 := Lib.hid (hM.out.1.step b1.out)
    have G1 : Hid (Has (W.alloc (.cells #[.int .u64 10000000000000000000] 41)) (some ⟨W.heap.size, 0, none⟩) 1 1 10000000000000000000 1) :=
      Lib.hid ⟨[10000000000000000000], one_rd W 10000000000000000000, small1 (by unfold B64; omega), nval1 _, by omega⟩
    have C1 := Lib.hid (cmp_is (I1.out.has HM.out) G1.out (by omega) (by omega))
    by_cases hlt : M < 10000000000000000000
    · have hcv := cmpv_lt hlt
      rw [hcv] at C1
      have HL := Lib.hid hlt
      clear hlt hcv
      go_wp2_with fail
      refine C1.out.mono ?_
      rintro _ w1 ⟨rfl, b2⟩
      have B1 := Lib.hid (below_step b1.out b2); have I2 := Lib.hid (I1.out.step b2)
      clear b2 C1 G1 I1 b1
      go_wp2_with fail
      refine (lowest_any w1 A1 n1 c1 M I2.out (Nat.lt_trans HL.out (by unfold B64; omega))).mono ?_
      rintro _ w2 ⟨rfl, rfl⟩
      go_wp2_with fail
      refine (fmtuint_any w1 M (Nat.lt_trans HL.out (by unfold B64; omega)) (HP.out.below (below_step hB.out B1.out))).mono ?_
      rintro _ w3 ⟨t3, rfl, h3, b3⟩
      have H3 := Lib.hid h3
      have hs3 : t3.size ≤ 1300 := by
        have := hD.out; rw [hT.out, List.length_append] at this
        rw [size_of, h3]; omega
      have B3 := Lib.hid (below_step (below_step hB.out B1.out) b3)
      clear h3 b3
      go_wp2
      go_ret
      exact ⟨_, rfl, by rw [cat_list, H3.out]; exact hT.out.symm, B3.out⟩
    · have hM0 : M / 10000000000000000000 ≠ 0 := by omega
      have hcv : 0 ≤ cmpv M 10000000000000000000 := by unfold cmpv; split <;> (try split) <;> omega
      have hr : M % 10000000000000000000 < 10 ^ 19 := by rw [ten_pow]; omega
      have hdec := dec_group hM0 (by omega) hr
      rw [ten_pow, show M / 10000000000000000000 * 10000000000000000000 + M % 10000000000000000000 = M by omega] at hdec
      have HDc := Lib.hid hdec
      have hr19 := dec_len_le hr (by omega)
      have HM0 := Lib.hid (show M / 10000000000000000000 ≤ M by omega)
      generalize cmpv M 10000000000000000000 = cv at *
      have hrB : M % 10000000000000000000 < B64 := by unfold B64; omega
      have HR := Lib.hid hr19; have HRB := Lib.hid hrB
      clear hlt hr hM0 hdec hr19 hrB
      generalize hq : M / 10000000000000000000 = q at *
      generalize hrr : M % 10000000000000000000 = r at *
      have HQ := Lib.hid hq; have HRR := Lib.hid hrr
      clear hq hrr
      go_wp2_with fail
      refine C1.out.mono ?_
      rintro _ w1 ⟨rfl, b2⟩
      have B1 := Lib.hid (below_step b1.out b2); have I2 := Lib.hid (I1.out.step b2)
      clear b2 C1 G1 I1 b1
      have b3 := Lib.hid (one_below w1 (.cells #[.int .u64 10000000000000000000] 41))
      have I3 := Lib.hid (I2.out.step b3.out)
      have G3 : Hid (Has (w1.alloc (.cells #[.int .u64 10000000000000000000] 41)) (some ⟨w1.heap.size, 0, none⟩) 1 1 10000000000000000000 1) :=
        Lib.hid ⟨[10000000000000000000], one_rd w1 10000000000000000000, small1 (by unfold B64; omega), nval1 _, by omega⟩
      have C2 := Lib.hid (div_is (I3.out.has HM.out) G3.out (by omega) (by omega) (by omega))
      rw [HQ.out, HRR.out] at C2
      go_wp2_with fail
      refine C2.out.mono ?_
      rintro _ w2 ⟨Aq, Ar, nq, cq, nr, cr, rfl, hq, hr, b4⟩
      have B2 := Lib.hid (below_step B1.out (below_step b3.out b4))
      have Q2 := Lib.hid hq; have R2 := Lib.hid hr
      clear hq hr b4 C2 G3 I3 b3 I2 B1
      go_wp2_with fail
      refine (lowest_any w2 Ar nr cr r R2.out HRB.out).mono ?_
      rintro _ w3 ⟨rfl, rfl⟩
      go_wp2_with fail
      refine (fmtuint_any w2 r HRB.out (HP.out.below (below_step hB.out B2.out))).mono ?_
      rintro _ w3 ⟨t3, rfl, h3, b3⟩
      have hs3 : t3.size ≤ 19 := by rw [size_of, h3]; exact HR.out
      have e3 : ((19 : Int) - (t3.size : Int)).toNat = 19 - (Lib.decDigits r).length := by rw [← h3, ← size_of]; omega
      have H3 := Lib.hid h3; have E3 := Lib.hid e3
      have B3 := Lib.hid (below_step B2.out b3); have Q3 := Lib.hid (Q2.out.step b3)
      clear h3 b3 Q2 R2 B2 e3
      go_wp2_with fail
      refine (repeat_int w3 _ (by omega) (by omega)).mono ?_
      rintro _ w4 ⟨t4, rfl, h4, b4⟩
      rw [E3.out] at h4
      have hs4 : t4.size + t3.size = 19 := by
        have h3 := HR.out
        rw [size_of, size_of, h4, H3.out, List.length_replicate]; omega
      have H4 := Lib.hid h4
      have B4 := Lib.hid (below_step B3.out b4); have Q4 := Lib.hid (Q3.out.step b4)
      clear h4 b4 Q3 B3
      have hT2 : Lib.decDigits N = Lib.decDigits q ++ ((t4 ++ t3) ++ t).toList := by
        rw [cat_list, cat_list, H4.out, H3.out, hT.out, HDc.out]; simp
      have hs5 : ((t4 ++ t3) ++ t).size ≤ 1300 := by
        have := hD.out; rw [hT2, List.length_append] at this
        rw [size_of]; omega
      have HT2 := Lib.hid hT2
      have HS5 := Lib.hid hs5
      clear hT2 hs5
      go_wp2
      go_roundw
      case rel => exact ⟨Aq, nq, cq, q, _, rfl, rfl, HS5.out, Lib.hid ⟨Q4.out, Nat.le_trans HM0.out hM.out.2⟩, HT2, Lib.hid (below_step hB.out B4.out)⟩
      case measure =>
        have := HS5.out
        rw [cat_size, cat_size] at this
        simp only [slen]
        rw [cat_size, cat_size]
        omega
end Go.Proofs.YtdmnohmjobofhaaDoor
