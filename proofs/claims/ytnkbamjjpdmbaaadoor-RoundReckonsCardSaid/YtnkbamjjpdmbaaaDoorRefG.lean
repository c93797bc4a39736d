/- fathomlineref1: Div. -/
import Derived.Test.YtnkbamjjpdmbaaaDoorRefF
namespace Go.Proofs.YtnkbamjjpdmbaaaDoor
open Go.RowKit Nx

/-- The relation of Div's loop. -/
def DvRel (w0 : World) (g n m X Y : Nat) (u r : Value) (wr : World) : Prop :=
  ∃ (k : Nat) (cur : List Nat) (R : Nat) (A : Option Addr) (nr c : Nat), k ≤ 32 * n ∧ u = .int .i64 ((k : Int) - 1) ∧ r = .slice A nr c ∧ nr ≤ m ∧ Hid (DvI n k X Y cur R) ∧
    Hid (Rd .u32 wr w0.heap.size wr.heap.size A nr c (digs B32 R)) ∧ Hid (Row .u32 wr g 79 cur) ∧ Hid (w0.grownBy wr (some g))

/-- New digits of the quotient and of the rest are returned. -/
def DvPost (w : World) (X Y : Nat) (e : Ending) (w' : World) : Prop :=
  ∃ (Aq Ar : Option Addr) (nq cq nr cr : Nat), e = .returned (.tuple #[.slice Aq nq cq, .slice Ar nr cr]) ∧ Rd .u32 w' w.heap.size w'.heap.size Aq nq cq (digs B32 (X / Y)) ∧ Rd .u32 w' w.heap.size w'.heap.size Ar nr cr (digs B32 (X % Y)) ∧ Below w.heap.size w w'

theorem rd_next {k : IntKind} {W W' : World} {lo n c : Nat} {A : Option Addr} {xs : List Nat} (h : Rd k W lo W.heap.size A n c xs) (h' : Below W.heap.size W W') : Rd k W' lo W'.heap.size A n c xs := (h.below h').more h'.size
theorem one_row (w : World) : Rd .u32 (w.alloc (.cells #[.int .u32 1] 79)) 0 (w.alloc (.cells #[.int .u32 1] 79)).heap.size (some ⟨w.heap.size, 0, none⟩) 1 1 [1] := by
  have h : Row .u32 (w.alloc (.cells #[.int .u32 1] 79)) w.heap.size 79 [1] := Blk.new w _ _
  exact h.rd0 (lo := 0) (hi := _) (c := 1) (Nat.zero_le _) h.lt (by simp)

set_option maxRecDepth 100000 in
set_option maxHeartbeats 4000000 in
theorem div32_any (w : World) (lo hi lo' hi' : Nat) (A B : Option Addr) (n c m cb X Y : Nat) (ha : Rd .u32 w lo hi A n c (digs B32 X)) (hb : Rd .u32 w lo' hi' B m cb (digs B32 Y))
    (hn : n ≤ 1000000) (hm : m ≤ 1000000) (hhi : hi ≤ w.heap.size) (hhi' : hi' ≤ w.heap.size) (hY : Y ≠ 0) :
    Calls Tryd.prog 86 #[.slice A n c, .slice B m cb] w (DvPost w X Y) := by
  have HA := Lib.hid ha; have HB := Lib.hid hb; have HLx := Lib.hid ha.1; have HLy := Lib.hid hb.1; have HY0 := Lib.hid hY
  have HYm := Lib.hid (show Y < B32 ^ m by have := nval_lt (small_digs B32_two Y); rwa [nval_digs B32_two, hb.1] at this)
  have HXn := Lib.hid (show X < B32 ^ n by have := nval_lt (small_digs B32_two X); rwa [nval_digs B32_two, ha.1] at this)
  have hbx : nbits X ≤ 32 * n := nbits_le (by rw [← pow32]; exact HXn.out)
  clear ha hb hY
  have hmk := fun W => make32 (n : Int) n (by omega) (by omega) W
  have HRow := Lib.hid (zrow_row .u32 79 n w)
  have HB0 := Lib.hid ((Below.refl w.heap.size w).alloc (Nat.le_refl _) (zrow .u32 79 n))
  have HSz := Lib.hid (show (w.alloc (zrow .u32 79 n)).heap.size = w.heap.size + 1 by simp)
  go_enter Tryd.func86, Tryd.ntmps86
  go_wp2_with fail
  generalize hw0 : w.alloc (zrow .u32 79 n) = w0 at *
  clear hw0
  refine (bits32_any w0 lo hi A n c X (HA.out.below (HB0.out.mono hhi)) (by omega)).mono ?_
  rintro _ w' ⟨rfl, rfl⟩
  obtain ⟨M, hM⟩ : ∃ M, M = nbits X := ⟨_, rfl⟩
  rw [← hM] at hbx ⊢
  have HM := Lib.hid hM
  clear hM
  go_wp2
  go_loopw [8, 7] (fun u r wr => DvRel w0 w.heap.size n m X Y u r wr) (fun u _ _ => (intOf u + 1).toNat)
  case atStart => exact ⟨M, _, 0, none, 0, 0, hbx, rfl, rfl, Nat.zero_le _, Lib.hid (by rw [HM.out]; exact DvI.start HY0.out), Lib.hid (by rw [digs_zero]; exact Rd.none_), HRow, Lib.hid (only_refl _ _)⟩
  case round =>
    obtain ⟨k, cur, R, A0, n0, c0, hk, rfl, rfl, hn0, hI, hRd, hR, hG⟩ := hrel
    have hbw : Below w.heap.size w wr := HB0.out.trans (only_below hG.out (by have := HSz.out; omega) (Nat.le_refl _))
    by_cases hlt : 0 < k
    · obtain ⟨j, rfl⟩ : ∃ j, k = j + 1 := ⟨k - 1, by omega⟩
      obtain ⟨s, hs⟩ : ∃ s, s = j / 32 := ⟨_, rfl⟩
      obtain ⟨q, hq⟩ : ∃ q, q = j % 32 := ⟨_, rfl⟩
      have hjs : j = 32 * s + q := by omega
      have hq32 : q < 32 := by omega
      have hsn : s < n := by omega
      have e1 : (j : Int) / 32 = (s : Int) := by omega
      have e2 : (j : Int) % 32 = (q : Int) := by omega
      have ej : ((j + 1 : Nat) : Int) - 1 = (j : Int) := by omega
      rw [ej]
      obtain ⟨ad, x, hA, _, hbl, hx, hcx0⟩ := HA.out.get_ (j := s) hsn
      subst hA
      obtain ⟨h0, hh0⟩ : ∃ h0, cur[s]? = some h0 := ⟨cur[s]'(by have := hI.out.1; omega), List.getElem?_eq_getElem _⟩
      have hxB := (small_digs B32_two X).get hx.out
      have hbit := bit_of (small_digs B32_two X) (nval_digs B32_two X) hx.out hq32
      rw [← hjs] at hbit
      obtain ⟨y, hy⟩ : ∃ y, y = x / 2 ^ q := ⟨_, rfl⟩
      have hyB : y < B32 := by have := Nat.div_le_self x (2 ^ q); omega
      have p0 : (x : Int) / 2 ^ q = (y : Int) := by rw [hy]; simp
      have p1 := low_bit y hyB
      rw [← hy] at hbit
      have HH0 := Lib.hid hh0; have HBt := Lib.hid hbit; have HJ := Lib.hid hjs; have HBW := Lib.hid hbw; have HCx := Lib.hid hcx0
      have hRY := hI.out.2.2.1
      have hT2 : ∀ b, b ≤ 1 → R * 2 + b < B32 ^ (m + 1) := by
        intro b hb
        have h1 := HYm.out
        have h2 : B32 ^ m * 2 ≤ B32 ^ m * B32 := Nat.mul_le_mul_left _ B32_two
        rw [Nat.pow_succ]; omega
      have HT2 := Lib.hid hT2
      have i1 : (0 : Int) ≤ (s : Int) := by omega
      have i2 : (s : Int) < (n : Int) := by omega
      have i3 : (0 : Int) ≤ (j : Int) := by omega
      clear hs hq hjs hbw hcx0 hh0 hbit hxB hyB hy hRY hT2 ej
      rcases (show y % 2 = 1 ∨ y % 2 = 0 by omega) with hb1 | hb1
      focus
        rw [hb1] at p1 HBt
        clear hb1
        go_wp2_with fail
        refine (left32_any wr w0.heap.size wr.heap.size A0 n0 c0 0 1 1 _ hRd.out (small_digs B32_two R) (by omega) (Nat.le_refl _) (by omega) rfl rfl).mono ?_
        rintro _ w2 ⟨A2, n2, c2, rfl, h2, b2⟩
        rw [nval_digs B32_two] at h2
        have hn2 : n2 ≤ m + 1 := by rw [← h2.1]; exact digs_len_le B32_two (by have := HT2.out 0 (by omega); omega)
        have G2 := Lib.hid (only_trans hG.out (grown_of_below b2)); have R2 := Lib.hid (Blk.below (t := 79) hR.out b2 hR.out.lt)
        have BW2 := Lib.hid (below_step HBW.out b2); have H2 := Lib.hid (h2.less (lo' := w0.heap.size) hG.out.size)
        have hcx : w2.cell? (ad.add s) = some (.int .u32 (x : Int)) := by rw [← HCx.out]; exact BW2.out.cell (by rw [block_of_add]; omega)
        clear h2 b2 hG hR HBW hRd
        go_wp2_with fail
        have b3 := one_below w2 (.cells #[.int .u32 1] 79)
        refine (add32_any _ w0.heap.size w2.heap.size 0 _ A2 _ n2 c2 1 1 _ [1] (H2.out.below b3) (one_row w2) (small_digs B32_two _) (Small.cons (by unfold B32; omega) Small.nil) (by omega) (by omega) b3.size (Nat.le_refl _)).mono ?_
        rintro _ w3 ⟨A3, n3, c3, rfl, h3, b4⟩
        have b5 : Below w2.heap.size w2 w3 := b3.trans (b4.mono b3.size)
        rw [nval_digs B32_two, show R * 2 ^ 1 + nval B32 [1] = R * 2 + 1 by simp [nval]] at h3
        have hn3 : n3 ≤ m + 1 := by rw [← h3.1]; exact digs_len_le B32_two (HT2.out 1 (by omega))
        have G3 := Lib.hid (only_trans G2.out (grown_of_below b5)); have R3 := Lib.hid (Blk.below (t := 79) R2.out b5 (Blk.lt (t := 79) R2.out))
        have BW3 := Lib.hid (below_step BW2.out b5); have H3 := Lib.hid (h3.less (lo' := w0.heap.size) (Nat.le_trans G2.out.size b3.size))
        clear h3 b3 b4 b5 G2 R2 BW2 H2 hcx
        obtain ⟨b, hb⟩ : ∃ b, b = 1 := ⟨_, rfl⟩
        rw [← hb] at HBt H3
      rotate_left
      focus
        rw [hb1] at p1 HBt
        clear hb1
        go_wp2_with fail
        refine (left32_any wr w0.heap.size wr.heap.size A0 n0 c0 0 1 1 _ hRd.out (small_digs B32_two R) (by omega) (Nat.le_refl _) (by omega) rfl rfl).mono ?_
        rintro _ w3 ⟨A3, n3, c3, rfl, h3, b3⟩
        rw [nval_digs B32_two, show R * 2 ^ 1 = R * 2 + 0 by omega] at h3
        have hn3 : n3 ≤ m + 1 := by rw [← h3.1]; exact digs_len_le B32_two (HT2.out 0 (by omega))
        have G3 := Lib.hid (only_trans hG.out (grown_of_below b3)); have R3 := Lib.hid (Blk.below (t := 79) hR.out b3 hR.out.lt)
        have BW3 := Lib.hid (below_step HBW.out b3); have H3 := Lib.hid (h3.less (lo' := w0.heap.size) hG.out.size)
        clear h3 b3 hG hR HBW hRd
        obtain ⟨b, hb⟩ : ∃ b, b = 0 := ⟨_, rfl⟩
        rw [← hb] at HBt H3
      all_goals
        clear hb
        obtain ⟨T, hT⟩ : ∃ T, T = R * 2 + b := ⟨_, rfl⟩
        rw [← hT] at H3
        have hcx : w3.cell? (ad.add s) = some (.int .u32 (x : Int)) := by rw [← HCx.out]; exact BW3.out.cell (by rw [block_of_add]; omega)
        have HB3 := Lib.hid (HB.out.below (BW3.out.mono hhi'))
        have R3' : Hid (Row .u32 w3 w.heap.size 79 cur) := Lib.hid R3.out
        clear R3
        rcases Nat.lt_or_ge T Y with hTY | hTY
        · have hcmp := Lib.hid (cmp32_any w3 w0.heap.size w3.heap.size lo' hi' A3 B n3 c3 m cb T Y H3.out HB3.out (by omega) (by omega))
          have HTY := Lib.hid hTY
          have hn3' : n3 ≤ m := by rw [← H3.out.1]; exact digs_len_le B32_two (Nat.lt_trans hTY HYm.out)
          have HI2 := Lib.hid (show DvI n j X Y cur T by rw [hT]; exact hI.out.keep HBt.out.symm (by omega))
          clear hTY hT
          go_wp2_with fail
          refine hcmp.out.mono ?_
          rintro _ w4 ⟨t, rfl, rfl⟩
          rw [cmpv_lt HTY.out]
          go_wp2
          go_roundw
          case rel => exact ⟨j, cur, T, A3, n3, c3, by omega, by go_num, rfl, hn3', HI2, Lib.hid (H3.out.drewN t), Lib.hid (R3'.out.drewN t), Lib.hid (only_drewN G3.out t)⟩
          case measure => first | (simp [intOf]; done) | (simp [intOf]; omega)
        · have hcmp := Lib.hid (cmp32_any w3 w0.heap.size w3.heap.size lo' hi' A3 B n3 c3 m cb T Y H3.out HB3.out (by omega) (by omega))
          have HTY := Lib.hid hTY
          have hc0 : 0 ≤ cmpv T Y := by
            rcases Nat.lt_or_ge Y T with h | h
            · rw [cmpv_gt h]; omega
            · rw [cmpv_eq (by omega)]; omega
          generalize cmpv T Y = cv at *
          obtain ⟨y1, y2, y3⟩ := hI.out.set HBt.out.symm (by omega) HJ.out hq32 HH0.out
          rw [← hT] at y3
          have HY3 := Lib.hid y3
          have hTm : T - Y < Y := y3.2.2.1
          obtain ⟨P, hP⟩ : ∃ P, P = 2 ^ q := ⟨_, rfl⟩
          rw [← hP] at y1 y2 HY3
          obtain ⟨v, hv⟩ : ∃ v, v = h0 + P := ⟨_, rfl⟩
          rw [← hv] at y1 y2 HY3
          unfold B32 at y2
          have hh0B : h0 < 4294967296 := by omega
          have hPB : P < 4294967296 := by omega
          have z0 : (2 : Int) ^ q = (P : Int) := by rw [hP]; simp
          have z1 : IntKind.u32.wrap ((2 : Int) ^ q) = (P : Int) := by rw [z0, IntKind.wrap_u32]; omega
          have z2 : (2 : Int) ^ q % 4294967296 = (P : Int) := by rw [z0]; omega
          have z3 : bits .or .u32 (h0 : Int) (P : Int) = (v : Int) := by rw [u32_or_nat h0 P hh0B hPB, y1]
          have hmn : m ≤ n3 := by
            rcases Nat.lt_or_ge n3 m with h | h
            · have := nval_le_of_len B32_two (m := T) (n := Y) (by rw [H3.out.1, HB3.out.1]; exact h)
              omega
            · exact h
          have HTm := Lib.hid hTm
          clear hTY hT y1 y2 y3 hP hv hh0B hPB hTm z0
          go_wp2_with fail
          refine hcmp.out.mono ?_
          rintro _ w4 ⟨t, rfl, rfl⟩
          have G4 := Lib.hid (only_drewN G3.out t); have R4 := Lib.hid (R3'.out.drewN t); have BW4 := Lib.hid (below_drewN BW3.out t)
          have H4 : Hid (Rd .u32 (w3.drewN t) w0.heap.size (w3.drewN t).heap.size A3 n3 c3 (digs B32 T)) := Lib.hid H3.out
          have B4 := Lib.hid (HB3.out.drewN t)
          clear G3 R3' BW3 H3 HB3 hcx hcmp
          generalize w3.drewN t = w4 at *
          go_wp2_with fail
          refine (sub32_any w4 w0.heap.size w4.heap.size lo' hi' A3 B n3 c3 m cb _ _ H4.out B4.out (small_digs B32_two _) (small_digs B32_two _) (by omega) (Nat.le_refl _) (by have := BW4.out.size; omega) hmn (by rw [nval_digs B32_two, nval_digs B32_two]; exact HTY.out)).mono ?_
          rintro _ w5 ⟨A5, n5, c5, rfl, h5, b5⟩
          rw [nval_digs B32_two, nval_digs B32_two] at h5
          have hn5 : n5 ≤ m := by rw [← h5.1]; exact digs_len_le B32_two (Nat.lt_trans HTm.out HYm.out)
          have G5 := Lib.hid (only_trans G4.out (grown_of_below b5))
          have R5 : Hid (Row .u32 w5 w.heap.size 79 cur) := Lib.hid (Blk.below (t := 79) R4.out b5 R4.out.lt)
          have H5 := Lib.hid (h5.less (lo' := w0.heap.size) G4.out.size)
          have hch := R5.out.cell (i := s) (by have := hI.out.1; omega)
          rw [getD_of HH0.out] at hch
          have hfr := R5.out.frozen s
          have R6 := Lib.hid (R5.out.set_ s v)
          have G6 := Lib.hid (only_set (p := ⟨w.heap.size, s, none⟩) G5.out (.inl rfl) (.int .u32 (v : Int)))
          have H6 := Lib.hid (H5.out.far_set (p := ⟨w.heap.size, s, none⟩) (by have := HSz.out; show w.heap.size < w0.heap.size; omega) (.int .u32 (v : Int)))
          have H7 : Hid (Rd .u32 (w5.setCell ⟨w.heap.size, s, none⟩ (.int .u32 (v : Int))) w0.heap.size (w5.setCell ⟨w.heap.size, s, none⟩ (.int .u32 (v : Int))).heap.size A5 n5 c5 (digs B32 (T - Y))) := Lib.hid (H6.out.more (by simp))
          clear h5 b5 G4 R4 BW4 H4 B4 G5 R5 H5 H6
          go_wp2
          go_region
          all_goals
            go_wp2
            go_roundw
            case rel => exact ⟨j, _, T - Y, A5, n5, c5, by omega, by go_num, rfl, hn5, HY3, Lib.hid H7.out.drew, Lib.hid R6.out, Lib.hid (only_drew G6.out)⟩
            case measure => first | (simp [intOf]; done) | (simp [intOf]; omega)
    · obtain rfl : k = 0 := by omega
      obtain ⟨hq, hr⟩ := hI.out.done
      have hl := hI.out.1
      have hrd : Rd .u32 wr w.heap.size wr.heap.size (some ⟨w.heap.size, 0, none⟩) n n cur := by
        have := hR.out.rd0 (lo := w.heap.size) (hi := wr.heap.size) (c := n) (Nat.le_refl _) hR.out.lt (by rw [hl]; omega)
        rw [hl] at this; exact this
      have HRD := Lib.hid hrd
      have HQ := Lib.hid hq; have HRm := Lib.hid hr
      have HBW := Lib.hid hbw
      clear hl hq hr hrd hbw
      go_wp2_with fail
      refine (trim32_any wr w.heap.size wr.heap.size (some ⟨w.heap.size, 0, none⟩) n n cur HRD.out hI.out.2.1 (by omega)).mono ?_
      rintro e w' ⟨A3, c3, rfl, rfl, hA3, hc3⟩
      have hfin := HRD.out.trim hI.out.2.1 hA3 hc3
      rw [HQ.out] at hfin
      have HF := Lib.hid hfin
      clear hfin
      go_wp2
      go_ret2
      exact ⟨_, _, _, _, _, _, rfl, HF.out, by rw [← HRm.out]; exact hRd.out.less (by have := HSz.out; omega), HBW.out⟩
end Go.Proofs.YtnkbamjjpdmbaaaDoor
