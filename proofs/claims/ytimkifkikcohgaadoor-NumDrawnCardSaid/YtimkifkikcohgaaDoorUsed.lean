/- nat.used: the part of a slice below its zero words. -/
import Derived.Test.YtimkifkikcohgaaDoorBase
import Derived.LoopTactic
namespace Go.Proofs.YtimkifkikcohgaaDoor
open Go.RowKit Nx

/-- What used leaves: m words of the same memory, or none. -/
def UsedPost (w : World) (A : Option Addr) (m : Nat) (e : Ending) (w' : World) : Prop :=
  ∃ (A' : Option Addr) (c' : Nat), e = .returned (.slice A' m c') ∧ w = w' ∧ (0 < m → A' = A) ∧ m ≤ c'

/-- How many words are used. -/
def ulen (xs : List Nat) : Nat := (digs B64 (nval B64 xs)).length

theorem ulen_of {xs : List Nat} (hs : Small B64 xs) (m : Nat) (hz : ∀ j u, m ≤ j → xs[j]? = some u → u = 0)
    (hl : ∀ u, 0 < m → xs[m - 1]? = some u → u ≠ 0) (hm : m ≤ xs.length) : ulen xs = m := by
  unfold ulen
  rw [digs_nval_take (by unfold B64; omega) hs m hz hl hm, List.length_take]; omega
theorem ulen_le {xs : List Nat} (hs : Small B64 xs) : ulen xs ≤ xs.length := digs_len_le (by unfold B64; omega) (nval_lt hs)
theorem digs_take {xs : List Nat} (hs : Small B64 xs) : digs B64 (nval B64 xs) = xs.take (ulen xs) := by
  have hB : 2 ≤ B64 := by unfold B64; omega
  -- the least bound above which all are zero
  have : ∀ m, m ≤ xs.length → (∀ j u, m ≤ j → xs[j]? = some u → u = 0) → digs B64 (nval B64 xs) = xs.take (ulen xs) := by
    intro m
    induction m with
    | zero =>
      intro hm hz
      have e := ulen_of hs 0 hz (fun u h => absurd h (by omega)) hm
      rw [digs_nval_take hB hs 0 hz (fun u h => absurd h (by omega)) hm, e]
    | succ m ih =>
      intro hm hz
      by_cases h0 : xs[m]? = some 0
      · refine ih (by omega) (fun j u hj hu => ?_)
        rcases Nat.eq_or_lt_of_le hj with e | e
        · subst e; rw [h0] at hu; injection hu with hu; exact hu.symm
        · exact hz j u e hu
      · have hl : ∀ u, 0 < m + 1 → xs[m + 1 - 1]? = some u → u ≠ 0 := by
          rintro u _ hu rfl; exact h0 hu
        rw [digs_nval_take hB hs (m + 1) hz hl hm, ulen_of hs (m + 1) hz hl hm]
  exact this xs.length (Nat.le_refl _) (fun j u hj hu => by rw [List.getElem?_eq_none hj] at hu; cases hu)

theorem Rd.used {w : World} {lo hi n c c' : Nat} {A A' : Option Addr} {xs : List Nat} (h : Rd .u64 w lo hi A n c xs) (hs : Small B64 xs) (hA : 0 < ulen xs → A' = A) (hc : ulen xs ≤ c') :
    Rd .u64 w lo hi A' (ulen xs) c' (digs B64 (nval B64 xs)) := by
  rw [digs_take hs]
  exact (h.take_ (by have := ulen_le hs; have := h.1; omega)).addr hA hc

set_option maxHeartbeats 400000 in
theorem used_any (w : World) (lo hi : Nat) (A : Option Addr) (n c : Nat) (xs : List Nat) (h : Rd .u64 w lo hi A n c xs) (hs : Small B64 xs) (hn : n ≤ 1000000000) :
    Calls Tryd.prog 60 #[.slice A n c] w (UsedPost w A (ulen xs)) := by
  have H := Lib.hid h
  have hnc := h.2.1
  have HL := Lib.hid h.1
  clear h
  have HS := Lib.hid hs
  clear hs
  go_enter Tryd.func60, Tryd.ntmps60
  go_wp2
  go_loop [7] (fun i => ∃ k : Nat, k ≤ n ∧ i = .int .i64 k ∧ Hid (∀ j u, n - k ≤ j → xs[j]? = some u → u = 0)) (fun i => n - (intOf i).toNat)
  case atStart => exact ⟨0, Nat.zero_le _, rfl, Lib.hid (fun j u hj hu => by have := HL.out; rw [List.getElem?_eq_none (by omega)] at hu; cases hu)⟩
  case round =>
    obtain ⟨k, hk, rfl, hz⟩ := hrel
    by_cases hlt : k < n
    · obtain ⟨ad, v, hA, _, _, hv, hc⟩ := H.out.get_ (j := n - k - 1) (by omega)
      subst hA
      go_wp2
      · rename_i hne _
        go_ret
        have hne' : v ≠ 0 := by simpa using hne
        have e : ulen xs = n - k := ulen_of HS.out (n - k) hz.out (fun u _ hu => by
          have := hv.out; rw [hu] at this; injection this with this; omega) (by have := HL.out; omega)
        rw [e]
        exact ⟨_, _, rfl, rfl, fun _ => rfl, by omega⟩
      · rename_i hne
        have hv0 : v = 0 := by simpa using hne
        go_round
        case rel => exact ⟨k + 1, by omega, by go_num, Lib.hid (fun j u hj hu => by
          rcases Nat.lt_or_ge j (n - k) with h1 | h1
          · have h2 : j = n - k - 1 := by omega
            subst h2
            have := hv.out; rw [hu] at this; injection this with this; omega
          · exact hz.out j u h1 hu)⟩
        case measure => simp [intOf]; omega
    · go_wp2
      go_ret
      have e : ulen xs = 0 := ulen_of HS.out 0 (fun j u hj hu => hz.out j u (by omega) hu) (fun u h => absurd h (by omega)) (Nat.zero_le _)
      rw [e]
      exact ⟨_, _, rfl, rfl, fun h => absurd h (by omega), Nat.le_refl _⟩
end Go.Proofs.YtimkifkikcohgaaDoor
