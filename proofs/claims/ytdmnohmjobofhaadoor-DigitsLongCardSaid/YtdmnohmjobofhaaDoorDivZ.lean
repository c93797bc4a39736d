/- nat.divide. nat.Div. nat.Div, as the laws use it. -/
import Derived.Test.YtdmnohmjobofhaaDoorDivY
import Derived.Test.YtdmnohmjobofhaaDoorNatE
namespace Go.Proofs.YtdmnohmjobofhaaDoor
open Go.RowKit Nx

/-- The relation of divide's loop. -/
def DivdRel (w : World) (gr gq n m X D : Nat) (u : Value) (wr : World) : Prop :=
  ∃ (k : Nat) (R Q : List Nat), k ≤ n - m + 1 ∧ u = .int .i64 (k : Int) ∧ Hid (DivJ B64 n m k X D R Q) ∧ Hid (Row .u64 wr gr 41 R ∧ Row .u64 wr gq 41 Q) ∧ Hid (Below gr w wr)

/-- What divide leaves: quotient and rest, both new. -/
def DividePost (w : World) (X Y : Nat) (e : Ending) (w' : World) : Prop :=
  ∃ (Aq Ar : Option Addr) (nq cq nr cr : Nat), e = .returned (.tuple #[.slice Aq nq cq, .slice Ar nr cr]) ∧ Rd .u64 w' w.heap.size w'.heap.size Aq nq cq (digs B64 (X / Y)) ∧
    Rd .u64 w' w.heap.size w'.heap.size Ar nr cr (digs B64 (X % Y)) ∧ Below w.heap.size w w'

theorem shv_nat (X g : Nat) (hg : g ≤ 64) : shv X (g : Int) = X * 2 ^ g := shv_up (by omega)
theorem shv_back (X g : Nat) (hg : g ≤ 64) : shv (X * 2 ^ g) (-(g : Int)) = X := by
  rcases Nat.eq_zero_or_pos g with e | e
  · subst e; rw [shv_up (b := 0) (by omega)]; simp
  · rw [shv_down (b := g) (by omega) e, Nat.mul_div_cancel _ (Nat.two_pow_pos g)]

set_option maxRecDepth 100000 in
set_option maxHeartbeats 2000000 in
theorem divide_any (w : World) (lo hi : Nat) (A B : Option Addr) (n c m cb X Y : Nat) (ha : Rd .u64 w lo hi A n c (digs B64 X)) (hb : Rd .u64 w lo hi B m cb (digs B64 Y))
    (hn : n ≤ 90000000) (hmn : m ≤ n) (hm0 : 0 < m) (hhi : hi ≤ w.heap.size) :
    Calls Tryd.prog 57 #[.slice A n c, .slice B m cb] w (DividePost w X Y) := by
  obtain ⟨bd, t, hA, _, _, ht, hct⟩ := hb.get_ (j := m - 1) (by omega)
  subst hA
  obtain ⟨hlD, hDm, ht0⟩ := len_shifted B64_two pow64 hb.1 hm0 ht.out
  have htB := (small_digs B64_two Y).get ht.out
  obtain ⟨gap, hgap⟩ : ∃ gap, gap = 64 - nbits t := ⟨_, rfl⟩
  have hlead := fun W => lead64_any t W htB
  rw [← hgap] at hlead hlD hDm
  have hg64 : gap ≤ 64 := by omega
  obtain ⟨D, hD⟩ : ∃ D, D = Y * 2 ^ gap := ⟨_, rfl⟩
  rw [← hD] at hlD hDm
  have hXn : X < B64 ^ n := by have := nval_lt (small_digs B64_two X); rwa [nval_digs B64_two, ha.1] at this
  have hY0 : Y ≠ 0 := by rintro rfl; have := hb.1; rw [digs_zero] at this; simp at this; omega
  have hYm : B64 ^ (m - 1) ≤ Y := by have := digs_len_ge B64_two hY0; rwa [hb.1] at this
  have HA := Lib.hid ha; have HB := Lib.hid hb; have HL := Lib.hid hlead; have HD := Lib.hid (And.intro hD (And.intro hlD (And.intro hDm (And.intro hXn (And.intro hYm hY0)))))
  have i1 : ((m : Int) - 1).toNat = m - 1 := by omega
  clear ha hb hlead hlD hDm hXn hYm hY0 htB ht0 hgap hD ht
  go_enter Tryd.func57, Tryd.ntmps57
  go_wp2_with fail
  refine (HL.out _).mono ?_
  rintro e w' ⟨rfl, rfl⟩
  clear i1 hct
  go_wp2_with fail
  refine (shift_any w lo hi (some bd) m cb (gap : Int) (digs B64 Y) HB.out (small_digs B64_two _) (by omega) hhi).mono ?_
  rintro e w1 ⟨A1, n1, c1, rfl, h1, hb1, _⟩
  rw [nval_digs B64_two, shv_nat _ _ hg64, ← HD.out.1] at h1
  obtain rfl : m = n1 := by rw [← HD.out.2.1, h1.1]
  have H1 := Lib.hid h1; have HB1 := Lib.hid hb1
  have hmk := fun W => make64 ((n : Int) + 1) (n + 1) (by omega) (by omega) W
  clear h1 hb1
  go_wp2_with fail
  have HA1 := Lib.hid ((HA.out.below (HB1.out.mono hhi)).alloc (Nat.le_trans hhi HB1.out.size) (zrow .u64 41 (n + 1)))
  refine (shift_any (w1.alloc (zrow .u64 41 (n + 1))) lo hi A n c (gap : Int) (digs B64 X) HA1.out (small_digs B64_two _) (by omega) (by have := HB1.out.size; simp; omega)).mono ?_
  rintro e w2 ⟨A2, n2, c2, rfl, h2, hb2, _⟩
  rw [nval_digs B64_two, shv_nat _ _ hg64] at h2
  have hsz : (w1.alloc (zrow .u64 41 (n + 1))).heap.size = w1.heap.size + 1 := by simp
  rw [hsz] at h2 hb2
  have hrow : Row .u64 w2 w1.heap.size 41 (List.replicate (n + 1) 0) := Blk.below (zrow_row .u64 41 (n + 1) w1) hb2 (by omega)
  have hn2 : n2 ≤ n + 1 := by
    rw [← h2.1]
    refine digs_len_le B64_two ?_
    have h3 : X * 2 ^ gap ≤ X * 2 ^ 64 := Nat.mul_le_mul_left _ (Nat.pow_le_pow_right (by omega) hg64)
    have h4 : X * 2 ^ 64 < B64 ^ n * 2 ^ 64 := Nat.mul_lt_mul_of_pos_right HD.out.2.2.2.1 (by omega)
    rw [Nat.pow_succ, B64_pow] at *
    omega
  obtain ⟨w3, hcp, hrow3, hon3⟩ := copy64 w2 (w1.heap.size + 1) w2.heap.size w1.heap.size (n + 1) n2 c2 A2 _ _ hrow h2 (by simp; exact hn2)
  rw [List.length_replicate] at hcp
  have hb3 : Below w1.heap.size w1 w3 := (((Below.refl _ _).alloc (Nat.le_refl _) _).trans (hb2.mono (by omega))).trans (only_below hon3 (by have := hb2.size; simp at this; omega) (Nat.le_refl _))
  have hR3l : (digs B64 (X * 2 ^ gap) ++ List.drop n2 (List.replicate (n + 1) 0)).length = n + 1 := by simp [h2.1]; omega
  have hR3s : Small B64 (digs B64 (X * 2 ^ gap) ++ List.drop n2 (List.replicate (n + 1) 0)) := (small_digs B64_two _).append ((small_replicate (by unfold B64; omega)).drop _)
  have hR3v : nval B64 (digs B64 (X * 2 ^ gap) ++ List.drop n2 (List.replicate (n + 1) 0)) = X * 2 ^ gap := by
    rw [nval_append, List.drop_replicate, nval_zeros, nval_digs B64_two]; simp
  have HJ := Lib.hid (DivJ.start B64_two hmn hm0 HD.out.2.2.2.1 HD.out.2.2.2.2.1 HD.out.1 hR3l hR3s hR3v)
  have hsz3 : w1.heap.size < w3.heap.size := hrow3.lt
  obtain ⟨R0, hR0⟩ : ∃ R0, R0 = digs B64 (X * 2 ^ gap) ++ List.drop n2 (List.replicate (n + 1) 0) := ⟨_, rfl⟩
  rw [← hR0] at HJ hrow3
  have HR3 := Lib.hid hrow3; have HB3 := Lib.hid hb3
  clear h2 hb2 hsz hrow hrow3 hon3 hb3 hR3l hR3s hR3v hR0 hmk
  obtain ⟨L, hL⟩ : ∃ L, L = n - m + 1 := ⟨_, rfl⟩
  have hmk := fun W => make64 ((n : Int) - (m : Int) + 1) L (by omega) (by omega) W
  have hRow4 := HR3.out
  have hq0 := zrow_row .u64 41 L w3
  have HRows := Lib.hid (And.intro (show Row .u64 (w3.alloc (zrow .u64 41 L)) w1.heap.size 41 R0 from Blk.alloc hRow4 _) hq0)
  have HB4 := Lib.hid (show Below w1.heap.size w1 (w3.alloc (zrow .u64 41 L)) from HB3.out.alloc (by omega) _)
  rw [← hL] at HJ
  have HLv := Lib.hid hL
  have hLn : L ≤ n + 1 := by omega
  have hL0 : L + m ≤ n + 1 := by omega
  have hL1 : n + 1 ≤ L + m := by omega
  clear hRow4 hq0 hL HA HA1 HB
  go_wp2
  generalize hw4 : w3.alloc (zrow .u64 41 L) = w4 at *
  clear hw4
  obtain ⟨tD, htD⟩ : ∃ tD, (digs B64 D)[m - 1]? = some tD := ⟨(digs B64 D)[m - 1]'(by rw [HD.out.2.1]; omega), List.getElem?_eq_getElem _⟩
  have htD0 : tD ≠ 0 := digs_last B64_two D tD (by rw [List.getLast?_eq_getElem?, HD.out.2.1]; exact htD)
  have HT := Lib.hid (And.intro htD htD0)
  have hgrq : w1.heap.size < w3.heap.size := hsz3
  clear htD htD0 hmk hcp hsz3
  obtain ⟨gr, hgr⟩ : ∃ gr, gr = w1.heap.size := ⟨_, rfl⟩
  obtain ⟨gq, hgq⟩ : ∃ gq, gq = w3.heap.size := ⟨_, rfl⟩
  rw [← hgr] at HRows HB4 hgrq H1 ⊢
  rw [← hgq] at HRows hgrq ⊢
  have HGR := Lib.hid hgr
  clear hgr hgq HR3 HB3
  go_loopw [40] (fun u wr => DivdRel w4 gr gq n m (X * 2 ^ gap) D u wr) (fun u _ => L - (intOf u).toNat)
  case atStart => exact ⟨0, R0, _, Nat.zero_le _, rfl, HJ, HRows, Lib.hid (Below.refl _ _)⟩
  case round =>
    obtain ⟨k, R, Q, hk, rfl, hI, hR, hBw⟩ := hrel
    have hkL : k ≤ L := by rw [HLv.out]; exact hk
    clear hk
    have HRd := Lib.hid ((H1.out.below HB4.out).below hBw.out)
    by_cases hlt : k < L
    · obtain ⟨j, hj⟩ : ∃ j, j = n - m - k := ⟨_, rfl⟩
      have hjL : j + k + 1 ≤ L := by have := HLv.out; omega
      have hjL' : L ≤ j + k + 1 := by have := HLv.out; omega
      obtain ⟨pre, seg, post, q1, q2, q3, q4, q5, q6⟩ := hI.out.parts B64_two (by have := HLv.out; omega) hj hmn HD.out.2.2.1
      obtain ⟨q0, hq0⟩ : ∃ q0, Q[j]? = some q0 := ⟨Q[j]'(by have := hI.out.2.1; have := HLv.out; omega), List.getElem?_eq_getElem _⟩
      have HQ := Lib.hid (And.intro (hR.out.1.toSeg q1) (And.intro q2 (And.intro q3 (And.intro q4 (And.intro q5 (And.intro q6 hq0))))))
      clear q1 q2 q3 q4 q5 q6 hq0 hj
      have e1 : (L : Int) - 1 - (k : Int) = (j : Int) := by omega
      have i1 : (0 : Int) ≤ (j : Int) := by omega
      have i2 : (j : Int) < (L : Int) := by omega
      have hsl := fun W => slice64 gr (n + 1) (n + 1) j (j + m + 1) (j : Int) ((j : Int) + (m : Int) + 1) rfl (by omega) (by omega) (by omega) (by omega) W
      rw [show j + m + 1 - j = m + 1 by omega] at hsl
      go_wp2_with fail
      refine (reduce_any wr w.heap.size gr gr j m (n + 1 - j) c1 tD A1 pre seg post (digs B64 D) HQ.out.1 HQ.out.2.1 HQ.out.2.2.1 (by omega) HRd.out (Nat.le_refl _) HQ.out.2.2.2.1 (small_digs B64_two _) hm0 (by omega) HT.out.1 HT.out.2 (by rw [nval_digs B64_two]; exact HQ.out.2.2.2.2.1)).mono ?_
      rw [nval_digs B64_two]
      rintro e w5 ⟨out, rfl, z1, z2, z3, z4, z5, z6⟩
      have hJ2 := HQ.out.2.2.2.2.2.1 out z2 z3 z4 z1
      have hR2 : Row .u64 w5 gr 41 (pre ++ out ++ post) := z5
      have hQ2 : Row .u64 w5 gq 41 Q := Blk.grown hR.out.2 z6 (by intro e; injection e with e; omega)
      have hBw5 : Below gr w4 w5 := hBw.out.trans (only_below z6 (by have := hR.out.1.lt; omega) (Nat.le_refl _))
      obtain ⟨qd, hqd⟩ : ∃ qd, qd = nval B64 seg / D := ⟨_, rfl⟩
      rw [← hqd] at hJ2 ⊢
      have hlQ := hI.out.2.1
      have hcq := hQ2.cell (i := j) (by have := HLv.out; omega)
      rw [getD_of HQ.out.2.2.2.2.2.2] at hcq
      have hfq := hQ2.frozen j
      have hQ3 := hQ2.set_ j qd
      have hR3 : Row .u64 (w5.setCell ⟨gq, j, none⟩ (.int .u64 (qd : Int))) gr 41 (pre ++ out ++ post) := Blk.far hR2 (by simp; omega) _
      have hBw6 : Below gr w4 (w5.setCell ⟨gq, j, none⟩ (.int .u64 (qd : Int))) := hBw5.setCell (by simp; omega) _
      have HJ2 := Lib.hid hJ2; have HR2 := Lib.hid (And.intro hR3 hQ3); have HB6 := Lib.hid hBw6
      clear z1 z2 z3 z4 z5 z6 hJ2 hR2 hQ2 hBw5 hqd hlQ hQ3 hR3 hBw6 hsl
      go_wp2
      go_roundw
      case rel => exact ⟨k + 1, _, _, by have := HLv.out; omega, by go_num, HJ2, HR2, HB6⟩
      case measure => simp [intOf]; omega
    · have hkn : k = L := by omega
      subst hkn
      have hY0 : 0 < Y := by have := HD.out.2.2.2.2.2; omega
      have hfin := hI.out
      rw [HLv.out] at hfin
      obtain ⟨d1, d2⟩ := hfin.done HD.out.1 hY0
      have hlR := hI.out.1
      have hlQ := hI.out.2.1
      rw [← HLv.out] at hlQ
      have hrq : Rd .u64 wr gq wr.heap.size (some ⟨gq, 0, none⟩) k k Q := by
        have := hR.out.2.rd0 (lo := gq) (hi := wr.heap.size) (c := k) (Nat.le_refl _) hR.out.2.lt (by omega)
        rw [hlQ] at this; exact this
      have hrr : Rd .u64 wr gr wr.heap.size (some ⟨gr, 0, none⟩) (n + 1) (n + 1) R := by
        have := hR.out.1.rd0 (lo := gr) (hi := wr.heap.size) (c := n + 1) (Nat.le_refl _) hR.out.1.lt (by omega)
        rw [hlR] at this; exact this
      have hbw : Below w.heap.size w wr := HB1.out.trans ((HB4.out.trans hBw.out).mono (by rw [HGR.out]; exact HB1.out.size))
      have hwg : w.heap.size ≤ gr := by rw [HGR.out]; exact HB1.out.size
      have HRQ := Lib.hid hrq; have HRR := Lib.hid hrr; have HBW := Lib.hid hbw; have HD2 := Lib.hid (And.intro d1 d2)
      clear hY0 hfin d1 d2 hlR hlQ hrq hrr hbw
      go_wp2_with fail
      refine (used_any wr gq wr.heap.size (some ⟨gq, 0, none⟩) k k Q HRQ.out hI.out.2.2.2.1 (by omega)).mono ?_
      rintro e w' ⟨A3, c3, rfl, rfl, hA3, hc3⟩
      have hq := HRQ.out.used hI.out.2.2.2.1 hA3 hc3
      rw [HD2.out.1] at hq
      have HQf := Lib.hid hq
      clear hq hA3 hc3
      generalize ulen Q = nq at *
      go_wp2_with fail
      refine (shift_any wr gr wr.heap.size (some ⟨gr, 0, none⟩) (n + 1) (n + 1) (-(gap : Int)) R HRR.out hI.out.2.2.1 (by omega) (Nat.le_refl _)).mono ?_
      rintro e w6 ⟨A4, n4, c4, rfl, h4, hb4, _⟩
      rw [HD2.out.2, shv_back _ _ hg64] at h4
      have HF4 := Lib.hid h4; have HB6 := Lib.hid hb4
      clear h4 hb4
      go_wp2
      go_ret2
      have hws : w.heap.size ≤ wr.heap.size := HBW.out.size
      exact ⟨_, _, _, _, _, _, rfl, ((HQf.out.below HB6.out).more HB6.out.size).less (Nat.le_trans hwg (Nat.le_of_lt hgrq)), HF4.out.less hws, HBW.out.trans (HB6.out.mono hws)⟩
end Go.Proofs.YtdmnohmjobofhaaDoor

namespace Go.Proofs.YtdmnohmjobofhaaDoor
open Go.RowKit Nx

/-- What Div leaves. -/
def DivOut (w : World) (X Y : Nat) (e : Ending) (w' : World) : Prop :=
  ∃ (Aq Ar : Option Addr) (nq cq nr cr : Nat) (qs rs : List Nat), e = .returned (.tuple #[.slice Aq nq cq, .slice Ar nr cr, .bool (decide (Y ≠ 0))]) ∧ Rd .u64 w' w.heap.size w'.heap.size Aq nq cq qs ∧
    Rd .u64 w' w.heap.size w'.heap.size Ar nr cr rs ∧ Below w.heap.size w w' ∧ (Y ≠ 0 → qs = digs B64 (X / Y) ∧ rs = digs B64 (X % Y)) ∧ (Y = 0 → qs = [] ∧ rs = [])

set_option maxRecDepth 100000 in
set_option maxHeartbeats 1000000 in
theorem div_any (w : World) (lo hi : Nat) (A B : Option Addr) (n c m cb : Nat) (xs ys : List Nat) (ha : Rd .u64 w lo hi A n c xs) (hb : Rd .u64 w lo hi B m cb ys) (hxs : Small B64 xs) (hys : Small B64 ys)
    (hn : n ≤ 90000000) (hm : m ≤ 90000000) (hhi : hi ≤ w.heap.size) :
    Calls Tryd.prog 42 #[.slice A n c, .slice B m cb] w (DivOut w (nval B64 xs) (nval B64 ys)) := by
  have ux := ulen_le hxs
  have uy := ulen_le hys
  rw [ha.1] at ux
  rw [hb.1] at uy
  have HA := Lib.hid ha; have HB := Lib.hid hb; have HX := Lib.hid hxs; have HY := Lib.hid hys
  clear ha hb hxs hys
  obtain ⟨X, hX⟩ : ∃ X, X = nval B64 xs := ⟨_, rfl⟩
  obtain ⟨Y, hY⟩ : ∃ Y, Y = nval B64 ys := ⟨_, rfl⟩
  rw [← hX, ← hY]
  have HXv := Lib.hid hX; have HYv := Lib.hid hY
  clear hX hY
  go_enter Tryd.func42, Tryd.ntmps42
  go_wp2_with fail
  refine (used_any w lo hi A n c xs HA.out HX.out (by omega)).mono ?_
  rintro e w' ⟨A1, c1, rfl, rfl, hA1, hc1⟩
  have H1 := Lib.hid (HA.out.used HX.out hA1 hc1)
  clear hA1 hc1
  go_wp2_with fail
  refine (used_any w lo hi B m cb ys HB.out HY.out (by omega)).mono ?_
  rintro e w' ⟨A2, c2, rfl, rfl, hA2, hc2⟩
  have H2 := Lib.hid (HB.out.used HY.out hA2 hc2)
  clear hA2 hc2 HA HB HX HY
  generalize ulen xs = n1 at *
  generalize ulen ys = n2 at *
  rw [← HXv.out] at H1
  rw [← HYv.out] at H2
  rcases Nat.eq_zero_or_pos n2 with e2 | e2
  · have hY0 : Y = 0 := (digs_eq_nil B64_two).1 (List.eq_nil_of_length_eq_zero (H2.out.1.trans e2))
    have HY0 := Lib.hid hY0
    clear hY0
    subst e2
    go_wp2
    go_ret3
    refine ⟨none, none, 0, 0, 0, 0, [], [], ?_, Rd.none_, Rd.none_, Below.refl _ _, fun h => absurd HY0.out h, fun _ => ⟨rfl, rfl⟩⟩
    exact congrArg (fun b => Ending.returned (.tuple #[.slice none 0 0, .slice none 0 0, .bool b])) (by rw [HY0.out]; simp)
  · have hY0 : Y ≠ 0 := by rintro rfl; have := H2.out.1; rw [digs_zero] at this; simp at this; omega
    have f2 : ((n2 : Int) == 0) = false := by simp; omega
    have HY0 := Lib.hid hY0
    clear hY0
    rcases Nat.lt_or_ge n1 n2 with hlt | hge
    · have hXY : X < Y := nval_le_of_len B64_two (m := X) (n := Y) (by rw [H1.out.1, H2.out.1]; exact hlt)
      have HXY := Lib.hid hXY
      clear hXY
      go_wp2_with fail
      refine (trim_any w lo hi A1 n1 c1 _ H1.out (small_digs B64_two _) (by omega) hhi).mono ?_
      rintro e w1 ⟨A3, n3, c3, rfl, h1, h2, _⟩
      rw [nval_digs B64_two] at h1
      have K1 := Lib.hid h1; have K2 := Lib.hid h2
      clear h1 h2
      go_wp2
      go_ret3
      refine ⟨none, A3, 0, 0, n3, c3, [], digs B64 X, ?_, Rd.none_, K1.out, K2.out, fun _ => ⟨?_, ?_⟩, fun h => absurd h HY0.out⟩
      · exact congrArg (fun b => Ending.returned (.tuple #[.slice none 0 0, .slice A3 n3 c3, .bool b])) (by have := HY0.out; simp [this])
      · rw [Nat.div_eq_of_lt HXY.out, digs_zero]
      · rw [Nat.mod_eq_of_lt HXY.out]
    · have f3 : decide (n1 < n2) = false := by simp; omega
      go_wp2_with fail
      refine (divide_any w lo hi A1 A2 n1 c1 n2 c2 X Y H1.out H2.out (by omega) hge e2 hhi).mono ?_
      rintro e w1 ⟨Aq, Ar, nq, cq, nr, cr, rfl, h1, h2, h3⟩
      have K1 := Lib.hid h1; have K2 := Lib.hid h2; have K3 := Lib.hid h3
      clear h1 h2 h3
      go_wp2
      go_ret3
      refine ⟨Aq, Ar, nq, cq, nr, cr, _, _, ?_, K1.out, K2.out, K3.out, fun _ => ⟨rfl, rfl⟩, fun h => absurd h HY0.out⟩
      exact congrArg (fun b => Ending.returned (.tuple #[.slice Aq nq cq, .slice Ar nr cr, .bool b])) (by have := HY0.out; simp [this])
end Go.Proofs.YtdmnohmjobofhaaDoor

namespace Go.Proofs.YtdmnohmjobofhaaDoor
open Go.RowKit Nx

section
variable {W : World} {A B : Option Addr} {n c m d X Y k l : Nat}
theorem div_is (ha : Has W A n c X k) (hb : Has W B m d Y l) (hk : k ≤ 100000) (hl : l ≤ 100000) (hY : Y ≠ 0) : Calls Tryd.prog 42 #[.slice A n c, .slice B m d] W
    fun e w' => ∃ (Aq Ar : Option Addr) (nq cq nr cr : Nat), e = .returned (.tuple #[.slice Aq nq cq, .slice Ar nr cr, .bool true]) ∧ Is w' Aq nq cq (X / Y) ∧ Is w' Ar nr cr (X % Y) ∧ Below W.heap.size W w' := by
  obtain ⟨xs, a1, a2, rfl, a4⟩ := ha
  obtain ⟨ys, b1, b2, rfl, b4⟩ := hb
  refine (div_any W 0 _ A B n c m d xs ys a1 b1 a2 b2 (by omega) (by omega) (Nat.le_refl _)).mono ?_
  rintro e w' ⟨Aq, Ar, nq, cq, nr, cr, qs, rs, rfl, g1, g2, g3, g4, _⟩
  obtain ⟨rfl, rfl⟩ := g4 hY
  exact ⟨Aq, Ar, nq, cq, nr, cr, by simp [hY], g1.less (Nat.zero_le _), g2.less (Nat.zero_le _), g3⟩
end
end Go.Proofs.YtdmnohmjobofhaaDoor
