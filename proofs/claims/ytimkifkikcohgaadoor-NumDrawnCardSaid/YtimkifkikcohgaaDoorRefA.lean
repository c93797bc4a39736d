/- fathomlineref1: trim, digit, Bits, Zeros. -/
import Derived.Test.YtimkifkikcohgaaDoorHas
import Derived.Laws.BitsAllLaws
namespace Go.Proofs.YtimkifkikcohgaaDoor
open Go.RowKit Nx

theorem B32_two : 2 ≤ B32 := by unfold B32; omega

/-- How many digits are used. -/
def tlen (xs : List Nat) : Nat := (digs B32 (nval B32 xs)).length
theorem tlen_of {xs : List Nat} (hs : Small B32 xs) (m : Nat) (hz : ∀ j u, m ≤ j → xs[j]? = some u → u = 0)
    (hl : ∀ u, 0 < m → xs[m - 1]? = some u → u ≠ 0) (hm : m ≤ xs.length) : tlen xs = m := by
  unfold tlen
  rw [digs_nval_take B32_two hs m hz hl hm, List.length_take]; omega
theorem tlen_le {xs : List Nat} (hs : Small B32 xs) : tlen xs ≤ xs.length := digs_len_le B32_two (nval_lt hs)
theorem digs_take32 {xs : List Nat} (hs : Small B32 xs) : digs B32 (nval B32 xs) = xs.take (tlen xs) := by
  have : ∀ m, m ≤ xs.length → (∀ j u, m ≤ j → xs[j]? = some u → u = 0) → digs B32 (nval B32 xs) = xs.take (tlen xs) := by
    intro m
    induction m with
    | zero =>
      intro hm hz
      have e := tlen_of hs 0 hz (fun u h => absurd h (by omega)) hm
      rw [digs_nval_take B32_two hs 0 hz (fun u h => absurd h (by omega)) hm, e]
    | succ m ih =>
      intro hm hz
      by_cases h0 : xs[m]? = some 0
      · refine ih (by omega) (fun j u hj hu => ?_)
        rcases Nat.eq_or_lt_of_le hj with e | e
        · subst e; rw [h0] at hu; injection hu with hu; exact hu.symm
        · exact hz j u e hu
      · have hl : ∀ u, 0 < m + 1 → xs[m + 1 - 1]? = some u → u ≠ 0 := by
          rintro u _ hu rfl; exact h0 hu
        rw [digs_nval_take B32_two hs (m + 1) hz hl hm, tlen_of hs (m + 1) hz hl hm]
  exact this xs.length (Nat.le_refl _) (fun j u hj hu => by rw [List.getElem?_eq_none hj] at hu; cases hu)
theorem Rd.trim {w : World} {lo hi n c c' : Nat} {A A' : Option Addr} {xs : List Nat} (h : Rd .u32 w lo hi A n c xs) (hs : Small B32 xs) (hA : 0 < tlen xs → A' = A) (hc : tlen xs ≤ c') :
    Rd .u32 w lo hi A' (tlen xs) c' (digs B32 (nval B32 xs)) := by
  rw [digs_take32 hs]
  exact (h.take_ (by have := tlen_le hs; have := h.1; omega)).addr hA hc

theorem add_zero_addr (A : Option Addr) : A.map (fun a => a.add 0) = A := by cases A <;> simp [Addr.add]

set_option maxRecDepth 100000 in
set_option maxHeartbeats 400000 in
theorem trim32_any (w : World) (lo hi : Nat) (A : Option Addr) (n c : Nat) (xs : List Nat) (h : Rd .u32 w lo hi A n c xs) (hs : Small B32 xs) (hn : n ≤ 1000000000) :
    Calls Tryd.prog 64 #[.slice A n c] w (UsedPost w A (tlen xs)) := by
  have H := Lib.hid h
  have hnc := h.2.1
  have HL := Lib.hid h.1
  have HS := Lib.hid hs
  clear h hs
  go_enter Tryd.func64, Tryd.ntmps64
  go_wp2
  go_loop [3] (fun i => ∃ k : Nat, k ≤ n ∧ i = .int .i64 k ∧ Hid (∀ j u, k ≤ j → xs[j]? = some u → u = 0)) (fun i => (intOf i).toNat)
  case atStart => exact ⟨n, Nat.le_refl _, rfl, Lib.hid (fun j u hj hu => by have := HL.out; rw [List.getElem?_eq_none (by omega)] at hu; cases hu)⟩
  case round =>
    obtain ⟨k, hk, rfl, hz⟩ := hrel
    by_cases hlt : 0 < k
    · obtain ⟨ad, v, hA, _, _, hv, hc⟩ := H.out.get_ (j := k - 1) (by omega)
      subst hA
      have i1 : ((k : Int) - 1).toNat = k - 1 := by omega
      have f0 : decide ((0 : Int) < (k : Int)) = true := by simp; omega
      by_cases hv0 : v = 0
      · have f1 : ((v : Int) == 0) = true := by simp; omega
        go_wp2
        go_round
        case rel => exact ⟨k - 1, by omega, by go_num, Lib.hid (fun j u hj hu => by
          rcases Nat.lt_or_ge j k with h1 | h1
          · have h2 : j = k - 1 := by omega
            subst h2
            have := hv.out; rw [hu] at this; injection this with this; omega
          · exact hz.out j u h1 hu)⟩
        case measure => simp [intOf]; omega
      · have f1 : ((v : Int) == 0) = false := by simp; omega
        have e : tlen xs = k := tlen_of HS.out k hz.out (fun u _ hu => by
          have := hv.out; rw [hu] at this; injection this with this; omega) (by have := HL.out; omega)
        have HE := Lib.hid e
        clear e
        go_wp2
        go_ret
        rw [HE.out]
        exact ⟨_, _, rfl, rfl, fun _ => rfl, Nat.le_refl _⟩
    · have f0 : decide ((0 : Int) < (k : Int)) = false := by simp; omega
      have e : tlen xs = 0 := tlen_of HS.out 0 (fun j u hj hu => hz.out j u (by omega) hu) (fun u h => absurd h (by omega)) (Nat.zero_le _)
      have HE := Lib.hid e
      clear e
      obtain rfl : k = 0 := by omega
      go_wp2
      go_ret
      rw [HE.out]
      exact ⟨_, _, rfl, rfl, fun h => absurd h (by omega), Nat.le_refl _⟩

theorem u64_of32 (x : Nat) (h : x < B32) : IntKind.u64.wrap (x : Int) = (x : Int) := u64_fits x (by unfold B32 at h; omega)

set_option maxRecDepth 100000 in
set_option maxHeartbeats 400000 in
theorem digit_any (w : World) (lo hi : Nat) (A : Option Addr) (n c k : Nat) (xs : List Nat) (h : Rd .u32 w lo hi A n c xs) (hs : Small B32 xs) :
    Calls Tryd.prog 80 #[.slice A n c, .int .i64 (k : Int)] w fun e w' => e = .returned (.int .u64 ((xs.getD k 0 : Nat) : Int)) ∧ w = w' := by
  have hl := h.1
  rcases Nat.lt_or_ge k n with hlt | hge
  · obtain ⟨ad, x, hA, _, _, hx, hcx⟩ := h.get_ hlt
    subst hA
    rw [getD_of hx.out]
    have e1 := u64_of32 x (hs.get hx.out)
    clear h hs hl
    go_enter Tryd.func80, Tryd.ntmps80
    go_wp2
    go_ret
    exact ⟨rfl, rfl⟩
  · rw [getD_out (by omega)]
    clear h hs hl
    go_enter Tryd.func80, Tryd.ntmps80
    go_wp2
    go_ret
    exact ⟨rfl, rfl⟩

/-- The outer loop of Zeros: the first k digits are 0. -/
def ZerRel (xs : List Nat) (n : Nat) (u v : Value) : Prop := ∃ k : Nat, k ≤ n ∧ u = .int .i64 (k : Int) ∧ v = .int .i64 ((32 * k : Nat) : Int) ∧ Hid (∀ (j u : Nat), j < k → xs[j]? = some u → u = 0)
/-- The inner loop: c bits are counted, y is left. -/
def ZinRel (N b : Nat) (u v : Value) : Prop := ∃ y c : Nat, u = .int .u32 (y : Int) ∧ v = .int .i64 (c : Int) ∧ Hid (N = c + ntz y) ∧ c ≤ b ∧ Hid (y ≠ 0 ∧ y < B32)

theorem low_bit (y : Nat) (h : y < B32) : bits .and .u32 (y : Int) 1 = ((y % 2 : Nat) : Int) := by
  have := u32_and_nat y 1 h (by omega)
  rw [Nat.and_one_is_mod] at this
  exact this

set_option maxRecDepth 100000 in
set_option maxHeartbeats 1000000 in
theorem zeros32_any (w : World) (lo hi : Nat) (A : Option Addr) (n c : Nat) (xs : List Nat) (h : Rd .u32 w lo hi A n c xs) (hs : Small B32 xs) (hn : n ≤ 100000000) :
    Calls Tryd.prog 48 #[.slice A n c] w fun e w' => e = .returned (.int .i64 (ntz (nval B32 xs) : Int)) ∧ w = w' := by
  have H := Lib.hid h; have HS := Lib.hid hs; have HL := Lib.hid h.1
  clear h hs
  obtain ⟨M, hM⟩ : ∃ M, M = ntz (nval B32 xs) := ⟨_, rfl⟩
  rw [← hM]
  have HM := Lib.hid hM
  clear hM
  go_enter Tryd.func48, Tryd.ntmps48
  go_wp2
  go_loop [4, 3] (fun u v => ZerRel xs n u v) (fun u _ => n - (intOf u).toNat)
  case atStart => exact ⟨0, Nat.zero_le _, rfl, rfl, Lib.hid (fun j u hj => absurd hj (by omega))⟩
  case round =>
    obtain ⟨k, hk, rfl, rfl, hz⟩ := hrel
    by_cases hlt : k < n
    · obtain ⟨ad, x, hA, _, _, hx, hcx⟩ := H.out.get_ (j := k) hlt
      subst hA
      by_cases hx0 : x = 0
      · have f0 : ((x : Int) == 0) = true := by simp; omega
        go_wp2
        go_round
        case rel => exact ⟨k + 1, by omega, by go_num, by go_num, Lib.hid (fun j u hj hu => by
          rcases Nat.lt_or_ge j k with h1 | h1
          · exact hz.out j u h1 hu
          · obtain rfl : j = k := by omega
            have := hx.out; rw [hu] at this; injection this with this; omega)⟩
        case measure => simp [intOf]; omega
      · have f0 : ((x : Int) == 0) = false := by simp; omega
        have hxB := HS.out.get hx.out
        have hMv := Lib.hid (HM.out.trans (ntz_digs pow32 HS.out hz.out hx.out hx0))
        have hlt32 : ntz x < 32 := ntz_lt hx0 (show x < 2 ^ 32 from hxB)
        have hM32 : M ≤ 32 * k + 32 := by have := hMv.out; omega
        have HX0 := Lib.hid (And.intro hx0 hxB)
        clear hx0 hxB hlt32
        go_wp2
        go_loop [5, 3] (fun u v => ZinRel M (32 * k + 32) u v) (fun u _ => (intOf u).toNat)
        case atStart => exact ⟨x, 32 * k, rfl, by go_num, hMv, by omega, HX0⟩
        case round =>
          obtain ⟨y, cc, rfl, rfl, hI, hcc, hy⟩ := hrel
          have e1 := low_bit y hy.out.2
          rcases (show y % 2 = 0 ∨ y % 2 = 1 by omega) with h2 | h2
          · rw [h2] at e1
            have hI2 := hI.out
            rw [ntz_even hy.out.1 h2] at hI2
            have hI3 := Lib.hid (show M = cc + 1 + ntz (y / 2) by omega)
            have hcM : cc + 1 ≤ 32 * k + 32 := by omega
            have hy2 := Lib.hid (show y / 2 ≠ 0 ∧ y / 2 < B32 by have := hy.out; omega)
            have hm2 : y / 2 < y := by have := hy.out.1; omega
            clear hI2 h2
            go_wp2
            go_round
            case rel => exact ⟨y / 2, cc + 1, by go_num, by go_num, hI3, by omega, hy2⟩
            case measure => simp [intOf]; omega
          · have hMc : M = cc := by have := hI.out; rw [ntz_odd h2] at this; omega
            rw [h2] at e1
            have HMc := Lib.hid hMc
            clear hMc h2
            go_wp2
            go_ret
            exact ⟨by rw [HMc.out]; rfl, rfl⟩
    · go_wp2
      go_ret
      have : M = 0 := by
        rw [HM.out, nval_all_zero (fun j u hu => hz.out j u (by have := lt_of_get hu; have := HL.out; omega) hu), ntz_zero]
      exact ⟨by rw [this]; rfl, rfl⟩
end Go.Proofs.YtimkifkikcohgaaDoor
