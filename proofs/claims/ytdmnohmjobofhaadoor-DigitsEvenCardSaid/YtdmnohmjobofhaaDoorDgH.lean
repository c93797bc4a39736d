/- digits.natural, exponent, Parse: the number that a text is. -/
import Derived.Test.YtdmnohmjobofhaaDoorDgG
import Derived.Test.YtdmnohmjobofhaaDoorDgF
namespace Go.Proofs.YtdmnohmjobofhaaDoor
open Go.RowKit Nx

def NatRel (w : World) (l : List UInt8) (u v : Value) (wr : World) : Prop :=
  ∃ (t : ByteArray) (A : Option Addr) (n c : Nat) (P : List UInt8), u = .string t ∧ v = .slice A n c ∧ t.size ≤ 1300 ∧ Hid (P ++ t.toList = l ∧ (P = [] ∨ t.size % 19 = 0)) ∧ Hid (Is wr A n c (dval P)) ∧ Hid (Below w.heap.size w wr)
theorem is_nil0 (w : World) : Is w none 0 0 0 := by unfold Is; rw [digs_zero]; exact Rd.none_
theorem ten_b64 : 10 ^ 1300 < B64 ^ 80 := by unfold B64; decide +kernel
theorem dval_b64 {l : List UInt8} (h : AllD l) (hl : l.length ≤ 1300) : dval l < B64 ^ 80 :=
  Nat.lt_of_lt_of_le (dval_lt h) (Nat.le_of_lt (Nat.lt_of_le_of_lt (Nat.pow_le_pow_right (by omega) hl) ten_b64))
set_option maxRecDepth 100000 in
set_option maxHeartbeats 2000000 in
theorem natural_any (w : World) (s : ByteArray) (hd : AllD s.toList) (hs : s.size ≤ 1300) : Calls Tryd.prog 18 #[.string s] w (NewIs w (dval s.toList)) := by
  have HD := Lib.hid hd
  have HLn : Hid (s.toList.length ≤ 1300) := Lib.hid (by rw [← size_of]; exact hs)
  have HE : Hid (∃ l, l = s.toList) := Lib.hid ⟨_, rfl⟩
  clear hd
  obtain ⟨l, hl⟩ := HE.out
  rw [← hl] at HD HLn
  have HL := Lib.hid hl
  clear hl HE
  go_enter Tryd.func18, Tryd.ntmps18
  go_wp2
  go_loopw [0, 3] (fun u v wr => NatRel w l u v wr) (fun u _ _ => slen u)
  case atStart => exact ⟨s, none, 0, 0, [], rfl, rfl, hs, Lib.hid ⟨HL.out.symm, .inl rfl⟩, Lib.hid (is_nil0 w), Lib.hid (Below.refl _ _)⟩
  case round =>
    obtain ⟨t, A, n, c, P, rfl, rfl, ht, hP, hI, hB⟩ := hrel
    cases htl : t.toList with
    | nil =>
      have HPl : Hid (P = l) := Lib.hid (by have := hP.out.1; rw [htl, List.append_nil] at this; exact this)
      go_wp2
      go_ret
      rw [← HL.out, ← HPl.out]
      exact ⟨_, _, _, rfl, hI.out, hB.out⟩
    | cons b r =>
      have hne : 0 < t.size := by rw [size_of, htl]; simp
      have f0 : (t.toList == []) = false := by rw [htl]; rfl
      have f1 : t.toList.isEmpty = false := by rw [htl]; rfl
      obtain ⟨m, hm⟩ : ∃ m, m = (t.size - 1) % 19 + 1 := ⟨_, rfl⟩
      have hmt : m ≤ t.size := by have := Nat.mod_le (t.size - 1) 19; omega
      have hm19 : m ≤ 19 := by omega
      clear htl
      have hPl := hP.out.1
      have hAll : AllD P ∧ AllD t.toList := by
        have := HD.out; rw [← hPl] at this
        exact ⟨fun x hx => this x (List.mem_append_left _ hx), fun x hx => this x (List.mem_append_right _ hx)⟩
      have hlen : P.length + t.size ≤ 1300 := by have := HLn.out; rw [← hPl, List.length_append, ← size_of] at this; exact this
      have hg : (t.extract 0 m).toList = t.toList.take m := by rw [extr]; simp
      have hgl : (t.toList.take m).length = m := by rw [List.length_take, ← size_of]; omega
      have hgd := hAll.2.take m
      have hgv : dval (t.toList.take m) < B64 := by
        have h1 := dval_lt hgd
        rw [hgl] at h1
        have h2 : 10 ^ m ≤ 10 ^ 19 := Nat.pow_le_pow_right (by omega) hm19
        rw [ten_pow] at h2
        unfold B64; omega
      have C1 := Lib.hid (fun W => parseuint_any W (t.extract 0 m) (dval (t.toList.take m)) (by rw [size_of, hg, hgl]; omega) (by rw [hg]; exact parseU_digits hgd (by intro h; rw [h] at hgl; simp at hgl; omega) (by unfold B64 at hgv; exact hgv)))
      have hnx : dval (P ++ t.toList.take m) = dval P * 10000000000000000000 + dval (t.toList.take m) := by
        rcases hP.out.2 with h | h
        · subst h; simp [dval_nil]
        · rw [dval_append, hgl, show m = 19 by omega, ten_pow]
      have hrl : (t.extract m t.size).toList = t.toList.drop m := by rw [extr, size_of, List.take_of_length_le (by simp)]
      have hrs : (t.extract m t.size).size = t.size - m := by rw [size_of, hrl, List.length_drop, ← size_of]
      have HN := Lib.hid (show (P ++ t.toList.take m) ++ (t.extract m t.size).toList = l ∧ ((P ++ t.toList.take m) = [] ∨ (t.extract m t.size).size % 19 = 0) by
        refine ⟨by rw [hrl, List.append_assoc, List.take_append_drop]; exact hPl, .inr ?_⟩
        rw [hrs]
        omega)
      have HPB := Lib.hid (dval_b64 hAll.1 (by omega))
      have HGV := Lib.hid hgv
      have HNX := Lib.hid hnx
      have HRS := Lib.hid hrs
      obtain ⟨g, hgg⟩ : ∃ g, g = dval (t.toList.take m) := ⟨_, rfl⟩
      rw [← hgg] at C1 HGV HNX
      obtain ⟨k, hk⟩ : ∃ k, t.size = k + 1 := ⟨t.size - 1, by omega⟩
      have m1 : ((t.size : Int) - 1) = (k : Int) := by omega
      have m3 : (k : Int) % 19 + 1 = (m : Int) := by rw [hm]; omega
      have HM := Lib.hid hm; have HK := Lib.hid hk; have H1 := Lib.hid hmt
      clear hPl hAll hg hgl hgd hgv hnx hrl hrs hgg hlen hm hk
      go_wp2_with fail
      refine (C1.out wr).mono ?_
      rintro _ w1 ⟨rfl, b1⟩
      have B1 := Lib.hid b1
      have I1 := Lib.hid (hI.out.step b1)
      clear b1 C1
      have o1 := Lib.hid (one_below w1 (.cells #[.int .u64 10000000000000000000] 41))
      have G1 : Hid (Has (w1.alloc (.cells #[.int .u64 10000000000000000000] 41)) (some ⟨w1.heap.size, 0, none⟩) 1 1 10000000000000000000 1) :=
        Lib.hid ⟨[10000000000000000000], one_rd w1 10000000000000000000, small1 (by unfold B64; omega), nval1 _, by omega⟩
      have C2 := Lib.hid (mul_is ((I1.out.step o1.out).has HPB.out) G1.out (by omega) (by omega))
      go_wp2_with fail
      refine C2.out.mono ?_
      rintro _ w2 ⟨A2, n2, c2, rfl, h2, b2⟩
      have B2 := Lib.hid (below_step B1.out (below_step o1.out b2))
      have I2 := Lib.hid h2
      clear h2 b2 C2 G1 o1 B1
      have o2 := Lib.hid (one_below w2 (.cells #[.int .u64 (g : Int)] 41))
      have C3 := Lib.hid (add_is ((I2.out.step o2.out).has (lt_mul HPB.out (show 10000000000000000000 < B64 ^ 1 by unfold B64; omega))) (has_one w2 g HGV.out (g : Int) rfl) (by omega) (by omega))
      rw [← HNX.out] at C3
      go_wp2_with fail
      refine C3.out.mono ?_
      rintro _ w3 ⟨A3, n3, c3, rfl, h3, b3⟩
      have B3 := Lib.hid (below_step B2.out (below_step o2.out b3))
      have I3 := Lib.hid h3
      clear h3 b3 C3 o2 B2
      go_wp2
      go_roundw
      case rel => exact ⟨_, A3, n3, c3, _, rfl, rfl, by rw [HRS.out]; omega, HN, I3, Lib.hid (below_step hB.out B3.out)⟩
      case measure =>
        simp only [slen]
        have := HRS.out; have := HM.out
        omega
end Go.Proofs.YtdmnohmjobofhaaDoor
