/- The law DigitsSpoilt: its walk. -/
import Derived.Test.YtdmnohmjobofhaaGreatDoorDgQ
namespace Go.Proofs.YtdmnohmjobofhaaGreatDoor
open Go.RowKit Nx

theorem idx_u8 (s : ByteArray) (k : Nat) (c : UInt8) (h : s.toList[k]? = some c) (W : World) :
    (Instr.index 9 (.string s) (.int .u8 (k : Int))).run Tryz.prog W = .ok (.int .u8 (c.toNat : Int)) W := by
  obtain ⟨hk, hg⟩ := getB h
  rw [run_index_string W 9 s .u8 (k : Int) Tryz.underlying9, dif_pos ⟨by omega, by omega⟩]
  simp [hg]
theorem ext_le (t : ByteArray) (a b : Nat) : (t.extract a b).size ≤ t.size := by rw [size_of, extr, size_of, List.length_take, List.length_drop]; omega
set_option maxRecDepth 100000 in
set_option maxHeartbeats 4000000 in
theorem spoilt_walk (w : World) (A : Option Addr) (n c : Nat) (xs : List Nat) (at_ by_ how : Nat) (ha : Arg w A n c xs) (ht : Tab w) (hp : Pw w) (h1 : at_ ≤ 255) (h2 : by_ ≤ 255) (h3 : how ≤ 255) :
    Calls Tryz.prog 6 #[.slice A n c, .int .u8 (at_ : Int), .int .u8 (by_ : Int), .int .u8 (how : Int)] w (LawPost w) := by
  have C1 := Lib.hid (dknown_any w ht hp)
  have HT := Lib.hid ht; have HP := Lib.hid hp; have HA := Lib.hid ha
  clear ht hp ha
  go_enter Tryz.func6, Tryz.ntmps6
  go_wp2_with fail
  refine C1.out.mono ?_
  rintro _ w1 ⟨rfl, b1⟩
  have B1 := Lib.hid b1
  have C2 := Lib.hid (drawn_any w1 A n c xs (HA.out.step b1))
  clear b1 C1
  go_wp2_with fail
  refine C2.out.mono ?_
  rintro _ w2 ⟨g, rfl, b2, c3⟩
  have C3 := Lib.hid c3
  clear b2 c3 C2
  go_wp2_with fail
  refine C3.out.mono ?_
  rintro _ w3 ⟨q, _, hv, rfl, ⟨A3, n3, c3, rfl, h3'⟩, b3⟩
  have C4 := Lib.hid (text_v (q := q) (show Is w3 A3 n3 c3 q.m from h3') hv (HP.out.below (below_step B1.out b3)))
  have B3 := Lib.hid (below_step B1.out b3)
  obtain ⟨l1, l2⟩ := txt_len hv
  clear b3 h3' C3 hv B1
  go_wp2_with fail
  refine C4.out.mono ?_
  rintro _ w4 ⟨t, rfl, h4, b4⟩
  rw [← h4, ← size_of] at l1 l2
  have B4 := Lib.hid (below_step B3.out b4)
  have f0 : ((t.size : Int) == 0) = false := beq_eq_false_iff_ne.2 (by omega)
  obtain ⟨k, hk⟩ : ∃ k, k = at_ % t.size := ⟨_, rfl⟩
  have hkl : k < t.size := by rw [hk]; exact Nat.mod_lt _ (by omega)
  have m1 : (at_ : Int) % (t.size : Int) = (k : Int) := by rw [hk]; rfl
  have m0 : IntKind.i64.wrap (at_ : Int) = (at_ : Int) := by rw [IntKind.wrap_i64]; omega
  obtain ⟨j, hj⟩ : ∃ j, j = by_ % 16 := ⟨_, rfl⟩
  have m2 : (by_ : Int) % 16 = (j : Int) := by omega
  have hj16 : j < 16 := by omega
  obtain ⟨bb, hbb⟩ : ∃ b, ([48, 49, 50, 51, 52, 53, 54, 55, 56, 57, 112, 45, 43, 46, 32, 120] : List UInt8)[j]? = some b := ⟨_, List.getElem?_eq_getElem (by simpa using hj16)⟩
  have hix := idx_u8 ⟨#[48, 49, 50, 51, 52, 53, 54, 55, 56, 57, 112, 45, 43, 46, 32, 120]⟩ j bb (by rw [ByteArray.toList_mk [48, 49, 50, 51, 52, 53, 54, 55, 56, 57, 112, 45, 43, 46, 32, 120]]; exact hbb)
  have hcv := one_byte w4 bb
  have ob := one_below w4 (.cells #[.int .u8 (bb.toNat : Int)] 5)
  have B5 := Lib.hid (below_step B4.out ob)
  obtain ⟨cc, hcc⟩ : ∃ cc : ByteArray, cc = ⟨#[bb]⟩ := ⟨_, rfl⟩
  rw [← hcc] at hcv
  have hcs : cc.size = 1 := by rw [hcc]; rfl
  have CR := Lib.hid (fun (W : World) (hW : Below (w4.alloc (.cells #[.int .u8 (bb.toNat : Int)] 5)).heap.size (w4.alloc (.cells #[.int .u8 (bb.toNat : Int)] 5)) W) (s : ByteArray) (hs : s.size ≤ 10000) => reads_any W s hs (HT.out.below (below_step B5.out hW)))
  obtain ⟨xb, hxb⟩ : ∃ x, x = bb.toNat := ⟨_, rfl⟩
  rw [← hxb] at hix hcv CR B5
  have x1 := ext_le t 0 k; have x2 := ext_le t k t.size; have x3 := ext_le t (k + 1) t.size
  have HK := Lib.hid hk
  clear hk hj hbb hcc hxb ob b4 h4 C4 B4 B3 HK
  rcases (show how % 3 = 0 ∨ how % 3 = 1 ∨ how % 3 = 2 by omega) with h0 | h0 | h0
  · have m3 : (how : Int) % 3 = 0 := by omega
    clear h0
    go_wp2
    go_quiet (fail)
    go_wp2_with fail
    refine (CR.out _ (below_drewN (Below.refl _ _) _) _ ?_).mono ?_
    · rw [cat_size, cat_size]; omega
    rintro _ w6 ⟨rfl, b6⟩
    have B6 := Lib.hid (below_step (below_drewN B5.out _) b6)
    clear b6
    go_wp2
    go_ret
    exact ⟨rfl, B6.out⟩
  · have m3 : (how : Int) % 3 = 1 := by omega
    clear h0
    go_wp2
    go_quiet (fail)
    go_wp2_with fail
    refine (CR.out _ (below_drewN (Below.refl _ _) _) _ ?_).mono ?_
    · rw [cat_size]; omega
    rintro _ w6 ⟨rfl, b6⟩
    have B6 := Lib.hid (below_step (below_drewN B5.out _) b6)
    clear b6
    go_wp2
    go_ret
    exact ⟨rfl, B6.out⟩
  · have m3 : (how : Int) % 3 = 2 := by omega
    clear h0
    go_wp2
    go_quiet (fail)
    go_wp2_with fail
    refine (CR.out _ (below_drewN (Below.refl _ _) _) _ ?_).mono ?_
    · rw [cat_size, cat_size]; omega
    rintro _ w6 ⟨rfl, b6⟩
    have B6 := Lib.hid (below_step (below_drewN B5.out _) b6)
    clear b6
    go_wp2
    go_ret
    exact ⟨rfl, B6.out⟩
end Go.Proofs.YtdmnohmjobofhaaGreatDoor
