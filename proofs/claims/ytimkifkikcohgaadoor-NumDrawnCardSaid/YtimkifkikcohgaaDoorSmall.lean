/- nat.Trim, nat.Bits, nat.Zeros. -/
import Derived.Test.YtimkifkikcohgaaDoorCmp
import Derived.LoopTactic
namespace Go.Proofs.YtimkifkikcohgaaDoor
open Go.RowKit Nx

theorem pow64 (k : Nat) : B64 ^ k = 2 ^ (64 * k) := by rw [B64_pow, ← Nat.pow_mul]
theorem pow32 (k : Nat) : B32 ^ k = 2 ^ (32 * k) := by rw [show B32 = 2 ^ 32 from rfl, ← Nat.pow_mul]

/-- The bits of a number by its highest digit. -/
theorem nbits_digs {B q N m t : Nat} (hB : 2 ≤ B) (hp : ∀ k, B ^ k = 2 ^ (q * k)) (hm : (digs B N).length = m) (h0 : 0 < m) (ht : (digs B N)[m - 1]? = some t) : nbits N = q * (m - 1) + nbits t := by
  have ht0 : t ≠ 0 := digs_last hB N t (by rw [List.getLast?_eq_getElem?, hm]; exact ht)
  have hs := nval_split B (digs B N) (m - 1) (by omega)
  have hd : (digs B N).drop (m - 1) = [t] := by
    rw [List.drop_eq_getElem_cons (by omega), show m - 1 + 1 = m by omega, List.drop_of_length_le (by omega)]
    rw [List.getElem?_eq_getElem (by omega)] at ht; injection ht with ht; rw [ht]
  have hl := nval_lt ((small_digs hB N).take (m - 1))
  rw [List.length_take, Nat.min_eq_left (by omega), hp] at hl
  rw [nval_digs hB, hd, hp] at hs
  rw [hs]
  have := nbits_top (q := q) (m := m - 1) (lowv := nval B ((digs B N).take (m - 1))) (top := t) hl ht0
  simpa [nval] using this

/-- The lowest zero bits of a number by its first digit that is not 0. -/
theorem ntz_digs {B q k x : Nat} {xs : List Nat} (hp : ∀ k, B ^ k = 2 ^ (q * k)) (hs : Small B xs) (hz : ∀ (j u : Nat), j < k → xs[j]? = some u → u = 0) (hx : xs[k]? = some x) (h0 : x ≠ 0) : ntz (nval B xs) = q * k + ntz x := by
  have hk := lt_of_get hx
  have hs1 := nval_split B xs k (by omega)
  have ht : nval B (xs.take k) = 0 := by
    have : ∀ ys : List Nat, (∀ (j u : Nat), ys[j]? = some u → u = 0) → nval B ys = 0 := by
      intro ys
      induction ys with
      | nil => intro _; rfl
      | cons y ys ih =>
        intro hh
        have h0 := hh 0 y (by simp)
        have := ih (fun j u hj => hh (j + 1) u (by simpa using hj))
        simp [nval, h0, this]
    refine this _ (fun j u hu => ?_)
    rw [List.getElem?_take] at hu
    split at hu
    · exact hz j u (by assumption) hu
    · cases hu
  have hd : xs.drop k = x :: xs.drop (k + 1) := by
    rw [List.drop_eq_getElem_cons hk]; rw [List.getElem?_eq_getElem hk] at hx; injection hx with hx; rw [hx]
  have hxB := hs.get hx
  have hB1 : B = 2 ^ q := by have := hp 1; simpa using this
  rw [hs1, ht, hd, Nat.zero_add, hp, nval, ntz_shift (by omega)]
  congr 1
  have := ntz_add (k := q) (b := nval B (xs.drop (k + 1))) h0 (by rw [← hB1]; exact hxB)
  rw [← hB1] at this
  exact this
theorem nval_all_zero {B : Nat} {xs : List Nat} (h : ∀ (j u : Nat), xs[j]? = some u → u = 0) : nval B xs = 0 := by
  induction xs with
  | nil => rfl
  | cons y ys ih =>
    have h0 := h 0 y (by simp)
    have := ih (fun j u hj => h (j + 1) u (by simpa using hj))
    simp [nval, h0, this]

set_option maxHeartbeats 400000 in
theorem trim_any (w : World) (lo hi : Nat) (A : Option Addr) (n c : Nat) (xs : List Nat) (ha : Rd .u64 w lo hi A n c xs) (hxs : Small B64 xs) (hn : n ≤ 100000000) (hhi : hi ≤ w.heap.size) :
    Calls Tryd.prog 71 #[.slice A n c] w (NumPost w (nval B64 xs)) := by
  have ux := ulen_le hxs
  rw [ha.1] at ux
  have HA := Lib.hid ha; have HX := Lib.hid hxs
  clear ha hxs
  go_enter Tryd.func71, Tryd.ntmps71
  go_wp2_with fail
  refine (used_any w lo hi A n c xs HA.out HX.out (by omega)).mono ?_
  rintro e w' ⟨A1, c1, rfl, rfl, hA1, hc1⟩
  have h1 := HA.out.used HX.out hA1 hc1
  clear hA1 hc1
  generalize ulen xs = n1 at *
  have hmk := fun W => make64 (n1 : Int) n1 rfl (by omega) W
  obtain ⟨w2, hcp, hrow, honly⟩ := copy64 (w.alloc (zrow .u64 54 n1)) lo hi w.heap.size n1 n1 c1 A1 _ _ (zrow_row _ _ _ w) (h1.alloc hhi _) (by simp)
  rw [List.length_replicate] at hcp
  have hpl := h1.1
  have hrow2 : Row .u64 w2 w.heap.size 54 (digs B64 (nval B64 xs)) := by
    have e : List.drop n1 (List.replicate n1 0) = [] := by rw [List.drop_replicate, Nat.sub_self]; rfl
    rw [e, List.append_nil] at hrow; exact hrow
  have hb2 : Below w.heap.size w w2 := ((Below.refl _ _).alloc (Nat.le_refl _) _).trans (only_below honly (by simp) (Nat.le_refl _))
  have HRow := Lib.hid hrow2
  have HB2 := Lib.hid hb2
  have HL := Lib.hid hpl
  clear hrow hrow2 honly hb2 hpl h1
  go_wp2
  go_ret
  refine ⟨_, _, _, rfl, ?_, HB2.out, HRow.out.fr (fun _ => rfl)⟩
  have := HRow.out.rd0 (lo := w.heap.size) (hi := w2.heap.size) (c := n1) (Nat.le_refl _) HRow.out.lt (by have := HL.out; omega)
  rw [HL.out] at this
  exact this

set_option maxHeartbeats 400000 in
theorem bits_any (w : World) (lo hi : Nat) (A : Option Addr) (n c : Nat) (xs : List Nat) (ha : Rd .u64 w lo hi A n c xs) (hxs : Small B64 xs) (hn : n ≤ 100000000) :
    Calls Tryd.prog 44 #[.slice A n c] w fun e w' => e = .returned (.int .i64 (nbits (nval B64 xs) : Int)) ∧ w = w' := by
  have ux := ulen_le hxs
  rw [ha.1] at ux
  have HA := Lib.hid ha; have HX := Lib.hid hxs
  clear ha hxs
  obtain ⟨N, hN⟩ : ∃ N, N = nbits (nval B64 xs) := ⟨_, rfl⟩
  rw [← hN]
  have HN := Lib.hid hN
  clear hN
  go_enter Tryd.func44, Tryd.ntmps44
  go_wp2_with fail
  refine (used_any w lo hi A n c xs HA.out HX.out (by omega)).mono ?_
  rintro e w' ⟨A1, c1, rfl, rfl, hA1, hc1⟩
  have h1 := Lib.hid (HA.out.used HX.out hA1 hc1)
  clear hA1 hc1
  generalize ulen xs = n1 at *
  rcases Nat.eq_zero_or_pos n1 with e | e
  · subst e
    have hz : N = 0 := by
      have := (digs_eq_nil B64_two).1 (List.eq_nil_of_length_eq_zero h1.out.1)
      rw [HN.out, this]; rfl
    have HZ := Lib.hid hz
    clear hz
    go_wp2
    go_ret
    exact ⟨by rw [HZ.out]; rfl, rfl⟩
  · obtain ⟨ad, x, hA, _, _, hx, hcx⟩ := h1.out.get_ (j := n1 - 1) (by omega)
    subst hA
    have f0 : ((n1 : Int) == 0) = false := by simp; omega
    have hxB : x < B64 := (small_digs B64_two _).get hx.out
    have hb : nbits x ≤ 64 := nbits_le (show x < 2 ^ 64 from hxB)
    have hNv := Lib.hid (HN.out.trans (nbits_digs B64_two pow64 h1.out.1 e hx.out))
    have i3 : ((n1 : Int) - 1).toNat = n1 - 1 := by omega
    go_wp2_with (go_at_call 61; refine (len64_any _ _ hxB).mono ?_; rintro e w' ⟨rfl, rfl⟩)
    go_ret
    refine ⟨congrArg (fun z => Ending.returned (Value.int IntKind.i64 z)) ?_, rfl⟩
    have := hNv.out
    omega

set_option maxHeartbeats 400000 in
theorem zeros_any (w : World) (lo hi : Nat) (A : Option Addr) (n c : Nat) (xs : List Nat) (ha : Rd .u64 w lo hi A n c xs) (hxs : Small B64 xs) (hn : n ≤ 100000000) (ht : Tab w) :
    Calls Tryd.prog 45 #[.slice A n c] w fun e w' => e = .returned (.int .i64 (ntz (nval B64 xs) : Int)) ∧ w = w' := by
  have HA := Lib.hid ha; have HX := Lib.hid hxs; have HT := Lib.hid ht
  have HL := Lib.hid ha.1
  clear ha hxs ht
  obtain ⟨N, hN⟩ : ∃ N, N = ntz (nval B64 xs) := ⟨_, rfl⟩
  rw [← hN]
  have HN := Lib.hid hN
  clear hN
  go_enter Tryd.func45, Tryd.ntmps45
  go_wp2
  go_loop [6] (fun i => ∃ k : Nat, k ≤ n ∧ i = .int .i64 k ∧ Hid (∀ j u, j < k → xs[j]? = some u → u = 0)) (fun i => n - (intOf i).toNat)
  case atStart => exact ⟨0, Nat.zero_le _, rfl, Lib.hid (fun j u hj => absurd hj (by omega))⟩
  case round =>
    obtain ⟨k, hk, rfl, hz⟩ := hrel
    by_cases hlt : k < n
    · obtain ⟨ad, x, hA, _, _, hx, hcx⟩ := HA.out.get_ (j := k) hlt
      subst hA
      have hxB : x < B64 := HX.out.get hx.out
      by_cases hx0 : x = 0
      · have f0 : ((x : Int) != 0) = false := by simp; omega
        go_wp2
        go_round
        case rel => exact ⟨k + 1, by omega, by go_num, Lib.hid (fun j u hj hu => by
          rcases Nat.lt_or_ge j k with h1 | h1
          · exact hz.out j u h1 hu
          · obtain rfl : j = k := by omega
            have := hx.out; rw [hu] at this; injection this with this; omega)⟩
        case measure => simp [intOf]; omega
      · have f0 : ((x : Int) != 0) = true := by simp; omega
        have hb : ntz x < 64 := ntz_lt hx0 (show x < 2 ^ 64 from hxB)
        have hNv := Lib.hid (HN.out.trans (ntz_digs pow64 HX.out hz.out hx.out hx0))
        go_wp2_with (go_at_call 62; refine (trail64_any _ hx0 hxB _ HT.out).mono ?_; rintro e w' ⟨rfl, rfl⟩)
        go_ret
        refine ⟨congrArg (fun z => Ending.returned (Value.int IntKind.i64 z)) ?_, rfl⟩
        have := hNv.out
        omega
    · go_wp2
      go_ret
      have : N = 0 := by
        rw [HN.out, nval_all_zero (fun j u hu => hz.out j u (by have := lt_of_get hu; have := HL.out; omega) hu), ntz_zero]
      exact ⟨by rw [this]; rfl, rfl⟩
end Go.Proofs.YtimkifkikcohgaaDoor
