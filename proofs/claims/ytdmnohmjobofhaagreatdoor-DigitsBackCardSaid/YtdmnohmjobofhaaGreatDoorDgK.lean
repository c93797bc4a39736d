/- fathomlineref1.count: how far decimal digits go. -/
import Derived.Test.YtdmnohmjobofhaaGreatDoorDgJ
namespace Go.Proofs.YtdmnohmjobofhaaGreatDoor
open Go.RowKit Nx

/-- What count answers of the bytes from a place on. -/
def cnt (most at_ : Nat) (v : List UInt8) : Int := if gd most false (dsp v) = true then ((at_ + (dsp v).length : Nat) : Int) else -1
set_option maxRecDepth 100000 in
set_option maxHeartbeats 4000000 in
theorem count_any (w : World) (s : ByteArray) (at_ most : Nat) (hs : s.size ≤ 10000) (hat : at_ ≤ s.size) (hm : most ≤ 10000) :
    Calls Tryz.prog 39 #[.string s, .int .i64 (at_ : Int), .int .i64 (most : Int)] w fun e w' => e = .returned (.int .i64 (cnt most at_ (s.toList.drop at_))) ∧ w = w' := by
  obtain ⟨r, hr⟩ : ∃ r, r = cnt most at_ (s.toList.drop at_) := ⟨_, rfl⟩
  rw [← hr]
  have HR := Lib.hid hr
  clear hr
  go_enter Tryz.func39, Tryz.ntmps39
  go_wp2
  go_loop [7] (fun u => ∃ k : Nat, at_ ≤ k ∧ k ≤ s.size ∧ u = .int .i64 (k : Int) ∧ Hid (AllD ((s.toList.drop at_).take (k - at_)))) (fun u => s.size - (intOf u).toNat)
  case atStart => exact ⟨at_, Nat.le_refl _, hat, rfl, Lib.hid (by rw [Nat.sub_self]; exact AllD.nil)⟩
  case round =>
    obtain ⟨k, hka, hk, rfl, hA⟩ := hrel
    have hstop : (∃ c, s.toList[k]? = some c ∧ isD c = true) ∨ (∀ c, s.toList[k]? = some c → isD c = false) := by
      cases hc : s.toList[k]? with
      | none => exact .inr (fun c h => by cases h)
      | some c =>
        cases hd : isD c
        · exact .inr (fun c' h => by injection h with h; rw [← h]; exact hd)
        · exact .inl ⟨c, rfl, hd⟩
    rcases hstop with ⟨c, hc, hd⟩ | hend
    · obtain ⟨hlt, _⟩ := getB hc
      have hix := idx_str s k c (k : Int) rfl hc
      have hx : 48 ≤ c.toNat ∧ c.toNat ≤ 57 := by unfold isD at hd; simpa using hd
      have HN := Lib.hid (show AllD ((s.toList.drop at_).take (k + 1 - at_)) by
        rw [show k + 1 - at_ = (k - at_) + 1 by omega]
        exact alld_next hA.out (by rw [List.getElem?_drop, show at_ + (k - at_) = k by omega]; exact hc) hd)
      obtain ⟨x, hx'⟩ : ∃ x, x = c.toNat := ⟨_, rfl⟩
      rw [← hx'] at hix hx
      have f0 : decide ((48 : Int) ≤ (x : Int)) = true := by simp; omega
      have f1 : decide ((x : Int) ≤ 57) = true := by simp; omega
      clear hd hx' hx hc hA
      go_wp2
      go_round
      case rel => exact ⟨k + 1, by omega, by omega, by go_num, HN⟩
      case measure => simp [intOf]; omega
    · obtain ⟨d1, d2⟩ := dsp_is (l := s.toList.drop at_) (n := k - at_) (by rw [List.length_drop, ← size_of]; omega) hA.out (fun c hc => by
        rw [List.getElem?_drop, show at_ + (k - at_) = k by omega] at hc; exact hend c hc)
      have hl : (dsp (s.toList.drop at_)).length = k - at_ := by rw [d1, List.length_take, List.length_drop, ← size_of]; omega
      have hcn : cnt most at_ (s.toList.drop at_) = if gd most false (dsp (s.toList.drop at_)) = true then (k : Int) else -1 := by
        unfold cnt; rw [hl, show at_ + (k - at_) = k by omega]
      rw [← HR.out] at hcn
      obtain ⟨m, hmm⟩ : ∃ m, m = k - at_ := ⟨_, rfl⟩
      have hkm : (k : Int) - (at_ : Int) = (m : Int) := by omega
      rw [← hmm] at hl
      clear HR
      have hhead : 0 < m → ∃ c, s.toList[at_]? = some c ∧ (dsp (s.toList.drop at_)).head? = some c := fun h0 => by
        obtain ⟨c, hc⟩ := byte_at (s := s) (k := at_) (by omega)
        refine ⟨c, hc, ?_⟩
        rw [d1, List.head?_take, if_neg (by omega), List.head?_drop, hc]
      -- the answer, by cases of the digits
      have hans : (m = 0 ∧ r = -1) ∨ (0 < m ∧ most < m ∧ r = -1) ∨ (0 < m ∧ m ≤ most ∧ ∃ x : Nat, (∀ W, (Instr.index 9 (.string s) (.int .i64 (at_ : Int))).run Tryz.prog W = .ok (.int .u8 (x : Int)) W) ∧
          ((x ≠ 48 ∧ r = (k : Int)) ∨ (x = 48 ∧ 1 < m ∧ r = -1) ∨ (x = 48 ∧ m = 1 ∧ r = (k : Int)))) := by
        rcases Nat.eq_zero_or_pos m with h0 | h0
        · refine .inl ⟨h0, ?_⟩
          rw [hcn, if_neg (fun h => (gd_iff.1 h).1 (List.eq_nil_of_length_eq_zero (by omega)))]
        · rcases Nat.lt_or_ge most m with h1 | h1
          · refine .inr (.inl ⟨h0, h1, ?_⟩)
            rw [hcn, if_neg (fun h => by have := (gd_iff.1 h).2.1; omega)]
          · obtain ⟨c, hc1, hc2⟩ := hhead h0
            refine .inr (.inr ⟨h0, h1, c.toNat, idx_str s at_ c (at_ : Int) rfl hc1, ?_⟩)
            have hne : dsp (s.toList.drop at_) ≠ [] := fun h => by rw [h] at hl; simp at hl; omega
            by_cases h48 : c = 48
            · rcases Nat.lt_or_ge 1 m with h2 | h2
              · refine .inr (.inl ⟨by rw [h48]; rfl, h2, ?_⟩)
                rw [hcn, if_neg (fun h => by have := ((gd_iff.1 h).2.2 (by rw [hc2, h48])).2; omega)]
              · refine .inr (.inr ⟨by rw [h48]; rfl, by omega, ?_⟩)
                rw [hcn, if_pos (gd_iff.2 ⟨hne, by omega, fun _ => ⟨rfl, by omega⟩⟩)]
            · refine .inl ⟨fun h => h48 (UInt8.toNat_inj.1 h), ?_⟩
              rw [hcn, if_pos (gd_iff.2 ⟨hne, by omega, fun h => by rw [hc2] at h; injection h with h; exact absurd h h48⟩)]
      have hloop : (k = s.size) ∨ (k < s.size ∧ ∃ x : Nat, (∀ W, (Instr.index 9 (.string s) (.int .i64 (k : Int))).run Tryz.prog W = .ok (.int .u8 (x : Int)) W) ∧ ¬ (48 ≤ x ∧ x ≤ 57)) := by
        rcases Nat.lt_or_ge k s.size with h | h
        · obtain ⟨c, hc⟩ := byte_at h
          have := hend c hc
          exact .inr ⟨h, c.toNat, idx_str s k c (k : Int) rfl hc, by unfold isD at this; simpa using this⟩
        · exact .inl (by omega)
      clear hend d1 d2 hl hcn hhead hA hmm
      have hme : m = 0 ↔ k = at_ := by omega
      rcases hloop with hks | ⟨hks, y, hiy, hy⟩
      · have g0 : ¬ k < s.size := by omega
        clear hks
        rcases hans with ⟨h0, rfl⟩ | ⟨h0, h1, rfl⟩ | ⟨h0, h1, x, hix, hh⟩
        · have e1 : ((k : Int) == (at_ : Int)) = true := by simp; omega
          clear hme hkm
          go_wp2
          go_ret
          exact ⟨rfl, rfl⟩
        · have e1 : ((k : Int) == (at_ : Int)) = false := by simp; omega
          clear hme
          go_wp2
          go_ret
          exact ⟨rfl, rfl⟩
        · have e1 : ((k : Int) == (at_ : Int)) = false := by simp; omega
          clear hme
          rcases hh with ⟨hx, rfl⟩ | ⟨rfl, h2, rfl⟩ | ⟨rfl, rfl, rfl⟩
          · have e2 : ((x : Int) == 48) = false := by simp; omega
            clear hx
            go_wp2
            go_ret
            exact ⟨rfl, rfl⟩
          · go_wp2
            go_ret
            exact ⟨rfl, rfl⟩
          · go_wp2
            go_ret
            exact ⟨rfl, rfl⟩
      · rcases (show y < 48 ∨ (48 ≤ y ∧ 57 < y) by omega) with hy1 | ⟨hy1, hy2⟩
        all_goals
          clear hy
          rcases hans with ⟨h0, rfl⟩ | ⟨h0, h1, rfl⟩ | ⟨h0, h1, x, hix, hh⟩
          · have e1 : ((k : Int) == (at_ : Int)) = true := by simp; omega
            clear hme hkm
            go_wp2
            go_ret
            exact ⟨rfl, rfl⟩
          · have e1 : ((k : Int) == (at_ : Int)) = false := by simp; omega
            clear hme
            go_wp2
            go_ret
            exact ⟨rfl, rfl⟩
          · have e1 : ((k : Int) == (at_ : Int)) = false := by simp; omega
            clear hme
            rcases hh with ⟨hx, rfl⟩ | ⟨rfl, h2, rfl⟩ | ⟨rfl, rfl, rfl⟩
            · have e2 : ((x : Int) == 48) = false := by simp; omega
              clear hx
              go_wp2
              go_ret
              exact ⟨rfl, rfl⟩
            · go_wp2
              go_ret
              exact ⟨rfl, rfl⟩
            · go_wp2
              go_ret
              exact ⟨rfl, rfl⟩
end Go.Proofs.YtdmnohmjobofhaaGreatDoor
