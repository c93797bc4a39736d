/- digits.cutDigits, cutInteger: how a text is cut. -/
import Derived.Test.YtdmnohmjobofhaaDoorDgC
import Derived.Deep.QuietTactic
import Derived.BigQuiet
import Derived.WalkMore
namespace Go.Proofs.YtdmnohmjobofhaaDoor
open Go.RowKit Nx

theorem getB {s : ByteArray} {k : Nat} {c : UInt8} (h : s.toList[k]? = some c) : ∃ hk : k < s.size, s[k] = c := by
  rw [Lib.toList_data] at h
  obtain ⟨hl, hg⟩ := List.getElem?_eq_some_iff.1 h
  have hk : k < s.size := by rw [Lib.size_eq]; exact hl
  exact ⟨hk, by rw [← hg]; rfl⟩
theorem idx_str (s : ByteArray) (k : Nat) (c : UInt8) (z : Int) (hz : z = (k : Int)) (h : s.toList[k]? = some c) (W : World) :
    (Instr.index 9 (.string s) (.int .i64 z)).run Tryd.prog W = .ok (.int .u8 (c.toNat : Int)) W := by
  subst hz
  obtain ⟨hk, hg⟩ := getB h
  rw [run_index_string W 9 s .i64 (k : Int) Tryd.underlying9, dif_pos ⟨by omega, by omega⟩]
  simp [hg]
theorem byte_at {s : ByteArray} {k : Nat} (h : k < s.size) : ∃ c, s.toList[k]? = some c := ⟨_, List.getElem?_eq_getElem (by rw [← size_of]; exact h)⟩
def CutDPost (w : World) (l : List UInt8) (e : Ending) (w' : World) : Prop :=
  ∃ t r : ByteArray, e = .returned (.tuple #[.string t, .string r]) ∧ t.toList = dsp l ∧ r.toList = rsp l ∧ Below w.heap.size w w'
theorem extr (s : ByteArray) (a b : Nat) : (s.extract a b).toList = (s.toList.drop a).take (b - a) := by rw [Lib.extract_toList, Lib.toList_data]
theorem cutd_end {w : World} {s : ByteArray} {k m : Nat} (hk : k ≤ s.size) (hd : AllD (s.toList.take k)) (he : ∀ c, s.toList[k]? = some c → isD c = false) :
    CutDPost w s.toList (.returned (.tuple #[.string (s.extract 0 k), .string (s.extract k s.size)])) (w.drewN m) := by
  obtain ⟨h1, h2⟩ := dsp_is (l := s.toList) (n := k) (by rw [← size_of]; exact hk) hd he
  refine ⟨_, _, rfl, ?_, ?_, ⟨rfl, rfl, rfl, Nat.le_refl _, fun _ _ => rfl⟩⟩
  · rw [extr, h1]; simp
  · rw [extr, h2, size_of, List.take_of_length_le (by simp)]
theorem alld_next {l : List UInt8} {k : Nat} {c : UInt8} (h : AllD (l.take k)) (hc : l[k]? = some c) (hd : isD c = true) : AllD (l.take (k + 1)) := by
  rw [List.take_add_one, hc]
  exact h.append (AllD.one hd)
set_option maxRecDepth 100000 in
set_option maxHeartbeats 2000000 in
theorem cutdigits_any (w : World) (s : ByteArray) (hs : s.size ≤ 1000000) : Calls Tryd.prog 29 #[.string s] w (CutDPost w s.toList) := by
  go_enter Tryd.func29, Tryd.ntmps29
  go_wp2
  go_step3
  go_wp2
  go_step3
  go_wp2
  go_loop [4] (fun u => ∃ k : Nat, k ≤ s.size ∧ u = .int .i64 (k : Int) ∧ Hid (AllD (s.toList.take k))) (fun u => s.size - (intOf u).toNat)
  case atStart => exact ⟨0, Nat.zero_le _, rfl, Lib.hid (by simpa using AllD.nil)⟩
  case round =>
    obtain ⟨k, hk, rfl, hA⟩ := hrel
    by_cases hlt : k < s.size
    · obtain ⟨c, hc⟩ := byte_at hlt
      have hix := idx_str s k c (k : Int) rfl hc
      have HC := Lib.hid hc
      clear hc
      cases hd : isD c
      · have hx : ¬ (48 ≤ c.toNat ∧ c.toNat ≤ 57) := by unfold isD at hd; simpa using hd
        have HD := Lib.hid hd
        obtain ⟨x, hx'⟩ : ∃ x, x = c.toNat := ⟨_, rfl⟩
        rw [← hx'] at hix hx
        have f0 : ((x : Int) == 48) = false := by simp; omega
        have f1 : ((x : Int) == 49) = false := by simp; omega
        have f2 : ((x : Int) == 50) = false := by simp; omega
        have f3 : ((x : Int) == 51) = false := by simp; omega
        have f4 : ((x : Int) == 52) = false := by simp; omega
        have f5 : ((x : Int) == 53) = false := by simp; omega
        have f6 : ((x : Int) == 54) = false := by simp; omega
        have f7 : ((x : Int) == 55) = false := by simp; omega
        have f8 : ((x : Int) == 56) = false := by simp; omega
        have f9 : ((x : Int) == 57) = false := by simp; omega
        clear hd hx hx'
        go_wp2
        go_quiet (fail)
        go_wp2
        rw [Exit.noGoto_ret]
        go_ret2
        exact cutd_end hk hA.out (fun c' hc' => by rw [HC.out] at hc'; injection hc' with hc'; rw [← hc']; exact HD.out)
      · have hx : 48 ≤ c.toNat ∧ c.toNat ≤ 57 := by unfold isD at hd; simpa using hd
        have HN := Lib.hid (alld_next hA.out HC.out hd)
        obtain ⟨x, hx'⟩ : ∃ x, x = c.toNat := ⟨_, rfl⟩
        rw [← hx'] at hix hx
        clear hd hx'
        rcases (show x = 48 ∨ x = 49 ∨ x = 50 ∨ x = 51 ∨ x = 52 ∨ x = 53 ∨ x = 54 ∨ x = 55 ∨ x = 56 ∨ x = 57 by omega) with rfl | rfl | rfl | rfl | rfl | rfl | rfl | rfl | rfl | rfl
        all_goals
          clear hx
          go_wp2
          go_round
          case rel => exact ⟨k + 1, by omega, by go_num, HN⟩
          case measure => simp [intOf]; omega
    · go_wp2
      go_quiet (fail)
      go_wp2
      try rw [Exit.noGoto_ret]
      go_ret2
      exact cutd_end hk hA.out (fun c' hc' => by rw [List.getElem?_eq_none (by rw [← size_of]; omega)] at hc'; cases hc')

/-- What cutInteger leaves. -/
def CutIPost (w : World) (most : Nat) (l : List UInt8) (e : Ending) (w' : World) : Prop :=
  Below w.heap.size w w' ∧ (gd most (sg l) (dsp (un l)) = true → ∃ t r : ByteArray, e = .returned (.tuple #[.string t, .bool (sg l), .string r, .bool true]) ∧ t.toList = dsp (un l) ∧ r.toList = rsp (un l)) ∧
    (gd most (sg l) (dsp (un l)) = false → e = .returned (.tuple #[.string ⟨#[]⟩, .bool false, .string ⟨#[]⟩, .bool false]))
theorem gd_nil (most : Nat) (neg : Bool) : gd most neg [] = false := rfl
theorem gd_cons (most : Nat) (neg : Bool) (c : UInt8) (r : List UInt8) : gd most neg (c :: r) = (decide (r.length + 1 ≤ most) && !(decide (c = 48) && (neg || decide (1 < r.length + 1)))) := by
  unfold gd
  have : (c == 48) = decide (c = 48) := by by_cases h : c = 48 <;> simp [h]
  simp [this]
set_option maxRecDepth 100000 in
set_option maxHeartbeats 2000000 in
theorem cutint_any (w : World) (s : ByteArray) (most : Nat) (hs : s.size ≤ 1000000) : Calls Tryd.prog 16 #[.string s, .int .i64 (most : Int)] w (CutIPost w most s.toList) := by
  have C1 := Lib.hid (cutprefix_any w s 45)
  have hun : Hid (un s.toList = if (s.toList.head? == some 45) = true then s.toList.tail else s.toList) := Lib.hid rfl
  have hsg : Hid ((s.toList.head? == some 45) = sg s.toList) := Lib.hid rfl
  have hl : (un s.toList).length ≤ 1000000 := by
    rw [size_of] at hs; unfold un; split
    · simp; omega
    · exact hs
  have HL := Lib.hid hl
  generalize s.toList = l at *
  clear hl
  unfold CutPost at C1
  rw [← hun.out, hsg.out] at C1
  clear hun hsg
  obtain ⟨v, hv⟩ : ∃ v, v = un l := ⟨_, rfl⟩
  obtain ⟨neg, hneg⟩ : ∃ b, b = sg l := ⟨_, rfl⟩
  rw [← hv] at C1 HL
  rw [← hneg] at C1
  have HV := Lib.hid hv; have HG := Lib.hid hneg
  clear hv hneg
  have fin0 : Hid (∀ w', Below w.heap.size w w' → gd most neg (dsp v) = false → CutIPost w most l (.returned (.tuple #[.string ⟨#[]⟩, .bool false, .string ⟨#[]⟩, .bool false])) w') := Lib.hid (fun w' hb hg => by
    unfold CutIPost
    rw [← HV.out, ← HG.out]
    exact ⟨hb, fun h => by rw [hg] at h; (cases h), fun _ => rfl⟩)
  have fin1 : Hid (∀ w' (t r : ByteArray), Below w.heap.size w w' → gd most neg (dsp v) = true → t.toList = dsp v → r.toList = rsp v → CutIPost w most l (.returned (.tuple #[.string t, .bool neg, .string r, .bool true])) w') := Lib.hid (fun w' t r hb hg h1 h2 => by
    unfold CutIPost
    rw [← HV.out, ← HG.out]
    exact ⟨hb, fun _ => ⟨t, r, rfl, h1, h2⟩, fun h => by rw [hg] at h; cases h⟩)
  clear HV HG
  go_enter Tryd.func16, Tryd.ntmps16
  go_wp2_with fail
  refine C1.out.mono ?_
  rintro _ w1 ⟨t1, rfl, h1, rfl⟩
  have hs1 : t1.size ≤ 1000000 := by rw [size_of, h1]; exact HL.out
  have C2 := Lib.hid (cutdigits_any w t1 hs1)
  rw [h1] at C2
  clear h1 hs1 C1
  go_wp2_with fail
  refine C2.out.mono ?_
  rintro _ w2 ⟨t, r, rfl, ht, hr, b2⟩
  have HT := Lib.hid ht; have HR := Lib.hid hr; have HB := Lib.hid b2
  have hlen : (dsp v).length ≤ 1000000 := Nat.le_trans (dsp_len_le v) HL.out
  have hsz := size_of t
  rw [ht] at hsz
  clear ht hr b2 C2 HL hs
  cases hds : dsp v with
  | nil =>
    rw [hds] at HT hsz fin0 fin1
    have e0 : t.toList = [] := HT.out
    have hsz0 : t.size = 0 := hsz
    clear hds hlen hsz
    go_wp2
    refine bodyPost_ret (v := .tuple #[.string ⟨#[]⟩, .bool false, .string ⟨#[]⟩, .bool false]) (by simp [results, Tryd.results16, go_sem]) rfl (fin0.out _ HB.out (gd_nil _ _))
  | cons c rr =>
    rw [hds, List.length_cons] at hsz hlen
    rw [hds] at HT fin0 fin1
    have e0 : t.toList = c :: rr := HT.out
    rw [gd_cons] at fin0 fin1
    obtain ⟨m, hmm⟩ : ∃ m, m = rr.length + 1 := ⟨_, rfl⟩
    rw [← hmm] at hsz hlen fin0 fin1
    have hm0 : 0 < m := by omega
    clear hds hmm
    by_cases hle : m ≤ most
    · by_cases hc : c = 48
      · subst hc
        have hix := idx_str t 0 48 0 rfl (by rw [e0]; rfl)
        have hix' : ∀ W, (Instr.index 9 (.string t) (.int .i64 0)).run Tryd.prog W = .ok (.int .u8 48) W := hix
        clear hix
        cases neg
        · by_cases h1 : 1 < m
          · have G := fin0.out w2 HB.out (by simp [h1])
            clear fin0 fin1
            have HG := Lib.hid G
            clear G
            go_wp2
            refine bodyPost_ret (v := .tuple #[.string ⟨#[]⟩, .bool false, .string ⟨#[]⟩, .bool false]) (by simp [results, Tryd.results16, go_sem]) rfl HG.out
          · have HG := Lib.hid (fin1.out w2 t r HB.out (by simp [h1, hle]) HT.out HR.out)
            clear fin0 fin1
            go_wp2
            refine bodyPost_ret (v := .tuple #[.string t, .bool false, .string r, .bool true]) (by simp [results, Tryd.results16, go_sem]) rfl HG.out
        · have HG := Lib.hid (fin0.out w2 HB.out (by simp))
          clear fin0 fin1
          go_wp2
          refine bodyPost_ret (v := .tuple #[.string ⟨#[]⟩, .bool false, .string ⟨#[]⟩, .bool false]) (by simp [results, Tryd.results16, go_sem]) rfl HG.out
      · have hix := idx_str t 0 c 0 rfl (by rw [e0]; rfl)
        have hx : c.toNat ≠ 48 := fun h => hc (UInt8.toNat_inj.1 h)
        have HG := Lib.hid (fin1.out w2 t r HB.out (by simp [hc, hle]) HT.out HR.out)
        obtain ⟨x, hx'⟩ : ∃ x, x = c.toNat := ⟨_, rfl⟩
        rw [← hx'] at hix hx
        have f0 : ((x : Int) == 48) = false := by simp; omega
        clear fin0 fin1 hx hx' hc
        go_wp2
        refine bodyPost_ret (v := .tuple #[.string t, .bool neg, .string r, .bool true]) (by simp [results, Tryd.results16, go_sem]) rfl HG.out
    · have HG := Lib.hid (fin0.out w2 HB.out (by simp [hle]))
      clear fin0 fin1
      go_wp2
      refine bodyPost_ret (v := .tuple #[.string ⟨#[]⟩, .bool false, .string ⟨#[]⟩, .bool false]) (by simp [results, Tryd.results16, go_sem]) rfl HG.out
end Go.Proofs.YtdmnohmjobofhaaDoor
