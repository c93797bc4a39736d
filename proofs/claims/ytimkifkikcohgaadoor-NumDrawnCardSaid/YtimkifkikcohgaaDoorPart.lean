/- fathomlineref1: Part, Words. -/
import Derived.Test.YtimkifkikcohgaaDoorOut
namespace Go.Proofs.YtimkifkikcohgaaDoor
open Go.RowKit Nx

theorem out32 (w : World) (base : Nat) (v : Value) (xs news : List Nat) (h : OutL .u32 75 w base v xs) (hbase : base ≤ w.heap.size) (hl : xs.length + news.length ≤ 1000000000) :
    ∃ v' w', (Builtin.append_ #[34, 34] 34 #[v, .slice (some ⟨w.heap.size, 0, none⟩) news.length news.length]).run Tryd.prog (w.alloc (.cells (ints .u32 news).toArray 75)) = .ok v' w' ∧ OutL .u32 75 w' base v' (xs ++ news) ∧ Below base w w' :=
  out_append .u32 34 75 4 (.int .u32 0) Tryd.underlying34 info32 rfl (by omega) w base v xs news h hbase hl
theorem out64 (w : World) (base : Nat) (v : Value) (xs news : List Nat) (h : OutL .u64 54 w base v xs) (hbase : base ≤ w.heap.size) (hl : xs.length + news.length ≤ 1000000000) :
    ∃ v' w', (Builtin.append_ #[22, 22] 22 #[v, .slice (some ⟨w.heap.size, 0, none⟩) news.length news.length]).run Tryd.prog (w.alloc (.cells (ints .u64 news).toArray 54)) = .ok v' w' ∧ OutL .u64 54 w' base v' (xs ++ news) ∧ Below base w w' :=
  out_append .u64 22 54 8 (.int .u64 0) Tryd.underlying22 info64 rfl (by omega) w base v xs news h hbase hl

/-- A new slice of digits of N. -/
def DigPost (w : World) (N : Nat) (e : Ending) (w' : World) : Prop :=
  ∃ (A : Option Addr) (n c : Nat), e = .returned (.slice A n c) ∧ Rd .u32 w' w.heap.size w'.heap.size A n c (digs B32 N) ∧ Below w.heap.size w w'

/-- The loop of Part. -/
def PartRel (w : World) (xs : List Nat) (n : Nat) (u v : Value) (wr : World) : Prop :=
  ∃ k : Nat, k ≤ n ∧ u = .int .i64 (k : Int) ∧ Hid (OutL .u32 75 wr w.heap.size v (halves (xs.take k))) ∧ Hid (Below w.heap.size w wr)

theorem halves_small {xs : List Nat} (h : Small B64 xs) : Small B32 (halves xs) := small_halves h
theorem halves_val (xs : List Nat) : nval B32 (halves xs) = nval B64 xs := nval_halves xs

set_option maxRecDepth 100000 in
set_option maxHeartbeats 1000000 in
theorem part_any (w : World) (lo hi : Nat) (A : Option Addr) (n c : Nat) (xs : List Nat) (h : Rd .u64 w lo hi A n c xs) (hs : Small B64 xs) (hn : n ≤ 100000000) (hhi : hi ≤ w.heap.size) :
    Calls Tryd.prog 47 #[.slice A n c] w (DigPost w (nval B64 xs)) := by
  have H := Lib.hid h; have HS := Lib.hid hs; have HL := Lib.hid h.1
  clear h hs
  go_enter Tryd.func47, Tryd.ntmps47
  go_wp2
  go_loopw [4, 3] (fun u v wr => PartRel w xs n u v wr) (fun u _ _ => n - (intOf u).toNat)
  case atStart => exact ⟨0, Nat.zero_le _, rfl, Lib.hid (OutL.nil _ _ _ _), Lib.hid (Below.refl _ _)⟩
  case round =>
    obtain ⟨k, hk, rfl, hO, hB⟩ := hrel
    obtain ⟨A0, n0, c0, rfl, hn0, hrd0⟩ := hO.out.rdn
    by_cases hlt : k < n
    · obtain ⟨ad, x, hA, _, hbl, hx, hcx0⟩ := H.out.get_ (j := k) hlt
      subst hA
      have hcx : wr.cell? (ad.add k) = some (.int .u64 (x : Int)) := by rw [← hcx0]; exact hB.out.cell (by rw [block_of_add]; omega)
      have hxB : x < 18446744073709551616 := HS.out.get hx.out
      have e1 := mask32 x hxB
      have hlen : (halves (xs.take k)).length = 2 * k := by rw [halves_length, List.length_take]; have := HL.out; omega
      obtain ⟨v', w', hrun, hO', hB'⟩ := out32 wr.drew w.heap.size _ _ [x % 4294967296, x / 4294967296] hO.out.drew_ hB.out.size (by rw [hlen]; simp; omega)
      have hO2 : OutL .u32 75 w' w.heap.size v' (halves (xs.take (k + 1))) := by
        rw [List.take_succ_eq_append_getElem (by have := HL.out; omega), halves_snoc]
        have := hx.out
        rw [List.getElem?_eq_getElem (by have := HL.out; omega)] at this
        injection this with this
        rw [this]; exact hO'
      obtain ⟨a, ha⟩ : ∃ a, a = x % 4294967296 := ⟨_, rfl⟩
      obtain ⟨b, hb⟩ : ∃ b, b = x / 4294967296 := ⟨_, rfl⟩
      rw [← ha] at e1 hrun
      rw [← hb] at hrun
      have e2 : IntKind.u32.wrap (a : Int) = (a : Int) := by rw [IntKind.wrap_u32]; omega
      have e3 : (x : Int) / 4294967296 = (b : Int) := by omega
      have e4 : IntKind.u32.wrap (b : Int) = (b : Int) := by rw [IntKind.wrap_u32]; omega
      have HR' := Lib.hid (show (Builtin.append_ #[34, 34] 34 #[.slice A0 n0 c0, .slice (some ⟨wr.heap.size, 0, none⟩) 2 2]).run Tryd.prog ((wr.alloc (.cells #[.int .u32 (a : Int), .int .u32 (b : Int)] 75)).drew) = .ok v' w' from hrun)
      have hB2 := Lib.hid (hB.out.trans (show Below w.heap.size wr w' from ⟨hB'.os, hB'.tape, hB'.output, hB'.size, hB'.block⟩))
      have HO2 := Lib.hid hO2
      have i1 : (0 : Int) ≤ (k : Int) := by omega
      have i2 : (k : Int) < (n : Int) := by omega
      clear hcx0 hxB hlen hrun hO' hB' hO2 ha hb
      go_wp2
      go_region_law ((refine step_append_run (by rfl) (.tmp 11) (.tmp 24) _ (by rfl) _ _ _ _ (by rfl) (by rfl) HR'.out ?_))
      all_goals
        go_wp2
        go_roundw
        case rel => exact ⟨k + 1, by omega, by go_num, HO2, hB2⟩
        case measure => simp [intOf]; omega
    · have hkn : k = n := by omega
      subst hkn
      have htk : xs.take k = xs := List.take_of_length_le (by have := HL.out; omega)
      have hlen : n0 ≤ 2 * k := by rw [← hn0.out, halves_length, List.length_take]; omega
      have hrd := hrd0.out
      rw [htk] at hrd
      have HRD := Lib.hid hrd
      clear htk hrd
      go_wp2_with fail
      refine (trim32_any wr w.heap.size wr.heap.size A0 n0 c0 (halves xs) HRD.out (halves_small HS.out) (by omega)).mono ?_
      rintro e w' ⟨A3, c3, rfl, rfl, hA3, hc3⟩
      have hfin := HRD.out.trim (halves_small HS.out) hA3 hc3
      rw [halves_val] at hfin
      have HF := Lib.hid hfin
      clear hfin hA3 hc3
      go_wp2
      go_ret
      exact ⟨_, _, _, rfl, HF.out, hB.out⟩

/-- The loop of Words: two digits a round. -/
def WrdRel (w : World) (ds : List Nat) (n : Nat) (u v : Value) (wr : World) : Prop :=
  ∃ j : Nat, 2 * j ≤ n + 1 ∧ u = .int .i64 ((2 * j : Nat) : Int) ∧ Hid (OutL .u64 54 wr w.heap.size v (pairs (ds.take (2 * j)))) ∧ Hid (Below w.heap.size w wr)

theorem pair_word (x y : Nat) (hx : x < B32) (hy : y < B32) : IntKind.u64.wrap ((y : Int) * 4294967296) = ((y * 4294967296 : Nat) : Int) ∧ bits .or .u64 (x : Int) ((y * 4294967296 : Nat) : Int) = ((x + 4294967296 * y : Nat) : Int) := by
  unfold B32 at hx hy
  constructor
  · rw [show (y : Int) * 4294967296 = ((y * 4294967296 : Nat) : Int) by omega, u64_fits _ (by omega)]
  · rw [bits_or_u64_nat _ _ (by omega) (by omega)]
    congr 1
    have := Nat.two_pow_add_eq_or_of_lt (show x < 2 ^ 32 from hx) y
    rw [Nat.or_comm, Nat.mul_comm y, show (4294967296 : Nat) = 2 ^ 32 from rfl, ← this, Nat.add_comm]

set_option maxRecDepth 100000 in
set_option maxHeartbeats 1000000 in
theorem words32_any (w : World) (lo hi : Nat) (A : Option Addr) (n c N : Nat) (h : Rd .u32 w lo hi A n c (digs B32 N)) (hn : n ≤ 100000000) (hhi : hi ≤ w.heap.size) :
    Calls Tryd.prog 50 #[.slice A n c] w (NumPost w N) := by
  have H := Lib.hid h; have HS := Lib.hid (small_digs B32_two N); have HL := Lib.hid h.1
  clear h
  have hpd := Lib.hid (show pairs (digs B32 N) = digs B64 N from pairs_digs N)
  obtain ⟨ds, hds⟩ : ∃ ds, ds = digs B32 N := ⟨_, rfl⟩
  rw [← hds] at H HS HL hpd
  clear hds
  go_enter Tryd.func50, Tryd.ntmps50
  go_wp2
  go_loopw [4, 3] (fun u v wr => WrdRel w ds n u v wr) (fun u _ _ => n + 2 - (intOf u).toNat)
  case atStart => exact ⟨0, by omega, rfl, Lib.hid (OutL.nil _ _ _ _), Lib.hid (Below.refl _ _)⟩
  case round =>
    obtain ⟨j, hj, rfl, hO, hB⟩ := hrel
    obtain ⟨A0, n0, c0, rfl, hn0, hrd0⟩ := hO.out.rdn
    obtain ⟨k, hk⟩ : ∃ k, k = 2 * j := ⟨_, rfl⟩
    rw [← hk] at hj hO hn0 hrd0 ⊢
    by_cases hlt : k < n
    · obtain ⟨ad, x, hA, _, hbl, hx, hcx0⟩ := H.out.get_ (j := k) hlt
      subst hA
      have hcx : wr.cell? (ad.add k) = some (.int .u32 (x : Int)) := by rw [← hcx0]; exact hB.out.cell (by rw [block_of_add]; omega)
      have hxB := HS.out.get hx.out
      have e1 := u64_of32 x hxB
      have hstep := pairs_take_two ds k (by have := HL.out; omega) ⟨j, hk⟩
      rw [getD_of hx.out] at hstep
      have hlen : (pairs (ds.take k)).length ≤ k := by rw [pairs_length, List.length_take]; omega
      rcases Nat.lt_or_ge (k + 1) n with hlt2 | hge2
      · obtain ⟨ad', y, hA, _, hbl', hy, hcy0⟩ := H.out.get_ (j := k + 1) hlt2
        obtain rfl : ad = ad' := by injection hA
        have hcy : wr.cell? (ad.add (k + 1)) = some (.int .u32 (y : Int)) := by rw [← hcy0]; exact hB.out.cell (by rw [block_of_add]; omega)
        have hcy' : wr.cell? ⟨ad.block, ad.off + (k + 1), none⟩ = some (.int .u32 (y : Int)) := by rw [← hcy]; rfl
        have hyB := HS.out.get hy.out
        have e2 := u64_of32 y hyB
        obtain ⟨e3, e4⟩ := pair_word x y hxB hyB
        rw [getD_of hy.out] at hstep
        obtain ⟨v', w', hrun, hO', hB'⟩ := out64 wr w.heap.size _ _ [x + 4294967296 * y] hO.out hB.out.size (by simp; omega)
        rw [← hstep] at hO'
        obtain ⟨q, hq⟩ : ∃ q, q = y * 4294967296 := ⟨_, rfl⟩
        obtain ⟨z, hz⟩ : ∃ z, z = x + 4294967296 * y := ⟨_, rfl⟩
        rw [← hq] at e3 e4
        rw [← hz] at e4 hrun
        have HR := Lib.hid (show (Builtin.append_ #[22, 22] 22 #[.slice A0 n0 c0, .slice (some ⟨wr.heap.size, 0, none⟩) 1 1]).run Tryd.prog (wr.alloc (.cells #[.int .u64 (z : Int)] 54)) = .ok v' w' from hrun)
        have HO2 : Hid (OutL .u64 54 w' w.heap.size v' (pairs (ds.take (2 * (j + 1))))) := by
          rw [show 2 * (j + 1) = k + 2 by omega]; exact Lib.hid hO'
        have hB2 := Lib.hid (hB.out.trans hB')
        have HK := Lib.hid hk
        clear hcx0 hcy0 hxB hyB hstep hlen hrun hO' hB' hq hz hk hA
        go_wp2_with (at_builtin; refine wpList_append_run rfl (.tmp 31) (.tmp 33) _ rfl _ _ _ _ rfl rfl HR.out ?_)
        go_roundw
        case rel => exact ⟨j + 1, by have := HK.out; omega, by have := HK.out; go_num, HO2, hB2⟩
        case measure => simp [intOf]; omega
      · rw [getD_out (xs := ds) (k := k + 1) (by have := HL.out; omega)] at hstep
        simp only [Nat.mul_zero, Nat.add_zero] at hstep
        obtain ⟨v', w', hrun, hO', hB'⟩ := out64 wr w.heap.size _ _ [x] hO.out hB.out.size (by simp; omega)
        rw [← hstep] at hO'
        have HR := Lib.hid (show (Builtin.append_ #[22, 22] 22 #[.slice A0 n0 c0, .slice (some ⟨wr.heap.size, 0, none⟩) 1 1]).run Tryd.prog (wr.alloc (.cells #[.int .u64 (x : Int)] 54)) = .ok v' w' from hrun)
        have HO2 : Hid (OutL .u64 54 w' w.heap.size v' (pairs (ds.take (2 * (j + 1))))) := by
          rw [show 2 * (j + 1) = k + 2 by omega]; exact Lib.hid hO'
        have hB2 := Lib.hid (hB.out.trans hB')
        have HK := Lib.hid hk
        clear hcx0 hxB hstep hlen hrun hO' hB' hk
        go_wp2_with (at_builtin; refine wpList_append_run rfl (.tmp 31) (.tmp 33) _ rfl _ _ _ _ rfl rfl HR.out ?_)
        go_roundw
        case rel => exact ⟨j + 1, by have := HK.out; omega, by have := HK.out; go_num, HO2, hB2⟩
        case measure => simp [intOf]; omega
    · have htk : ds.take k = ds := List.take_of_length_le (by have := HL.out; omega)
      have hrd := hrd0.out
      have hOut := hO.out
      rw [htk, hpd.out] at hrd hOut
      have HRD := Lib.hid hrd
      have HOut := Lib.hid hOut
      clear htk hrd hOut hk
      go_wp2
      go_ret
      refine ⟨_, _, _, rfl, HRD.out, hB.out, ?_⟩
      rcases HOut.out.2 with ⟨hv, _⟩ | ⟨g, cap, cur, hv, hg, hh, _⟩
      · injection hv with h1 h2 h3
        subst h2
        exact fun _ i _ hi => absurd hi (by omega)
      · injection hv with h1 h2 h3
        intro ad i hA hi
        rw [h1] at hA
        injection hA with hA
        subst hA
        rw [addr_add]
        exact Blk.frozen (t := 54) (cs := cur) hh _
end Go.Proofs.YtimkifkikcohgaaDoor
