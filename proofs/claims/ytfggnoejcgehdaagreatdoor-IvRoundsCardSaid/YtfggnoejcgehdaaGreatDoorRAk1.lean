/- Package iv: the words of a power. -/
import Derived.Test.YtfggnoejcgehdaaGreatDoorPNatE
import Derived.Test.YtfggnoejcgehdaaGreatDoorRAj2
namespace Go.Proofs.YtfggnoejcgehdaaGreatDoor
open Go.RowKit Nx
set_option linter.unusedVariables false
set_option linter.unusedSimpArgs false
def ProdPost (w : World) (l V : Nat) (e : Ending) (w' : World) : Prop :=
  ∃ out : List Nat, e = .returned (.slice (some ⟨w.heap.size, 0, none⟩) l l) ∧ out.length = l ∧ Small B64 out ∧ nval B64 out = V ∧ Row .u64 w' w.heap.size 53 out ∧ Below w.heap.size w w'
set_option maxRecDepth 100000 in
set_option maxHeartbeats 4000000 in
theorem product_any (w : World) (lo hi lo' hi' : Nat) (A B : Option Addr) (n c m cb : Nat) (xs ys : List Nat) (ha : Rd .u64 w lo hi A n c xs) (hb : Rd .u64 w lo' hi' B m cb ys) (hxs : Small B64 xs) (hys : Small B64 ys)
    (hn : n ≤ 100000000) (hm : m ≤ 100000000) (hhi : hi ≤ w.heap.size) (hhi' : hi' ≤ w.heap.size) :
    Calls Tryz.prog 135 #[.slice A n c, .slice B m cb] w (ProdPost w (n + m) (nval B64 xs * nval B64 ys)) := by
  have HA := Lib.hid ha; have HB := Lib.hid hb; have HX := Lib.hid hxs; have HY := Lib.hid hys; have HLx := Lib.hid ha.1; have HLy := Lib.hid hb.1
  clear ha hb hxs hys
  have hmk := fun W => make64 ((n : Int) + (m : Int)) (n + m) (by omega) (by omega) W
  have HRow := Lib.hid (zrow_row .u64 53 (n + m) w)
  have HB0 := Lib.hid ((Below.refl w.heap.size w).alloc (Nat.le_refl _) (zrow .u64 53 (n + m)))
  have HSz := Lib.hid (show w.heap.size < (w.alloc (zrow .u64 53 (n + m))).heap.size by simp)
  go_enter Tryz.func135, Tryz.ntmps135
  go_wp2
  generalize hw0 : w.alloc (zrow .u64 53 (n + m)) = w0 at *
  clear hw0
  go_loopw [22] (fun u wr => MulRel w0 w.heap.size n m xs ys u wr) (fun u _ => n - (intOf u).toNat)
  case atStart => exact ⟨0, _, Nat.zero_le _, rfl, Lib.hid (MulJ.start B64_two), HRow, Lib.hid (only_refl _ _)⟩
  case round =>
    obtain ⟨k, out, hk, rfl, hI, hR, hG⟩ := hrel
    have hbw : Below w.heap.size w wr := HB0.out.trans (only_below hG.out (by have := HSz.out; omega) (Nat.le_refl _))
    by_cases hlt : k < n
    · obtain ⟨ad, f, hA, _, hbl, hx, hcf0⟩ := HA.out.get_ (j := k) hlt
      subst hA
      have hfB := HX.out.get hx.out
      obtain ⟨pre, seg, post, q1, q2, q3, q4, q5⟩ := hI.out.parts hlt hx.out
      have hcf : wr.cell? (ad.add k) = some (.int .u64 (f : Int)) := by rw [← hcf0]; exact hbw.cell (by rw [block_of_add]; omega)
      have HQ := Lib.hid (And.intro (hR.out.toSeg q1) q5)
      have HP := Lib.hid q2; have HN := Lib.hid q3; have HM := Lib.hid q4; have HF := Lib.hid hfB; have HBW := Lib.hid hbw
      have i1 : (0 : Int) ≤ (k : Int) := by omega
      have i2 : (k : Int) < (n : Int) := by omega
      clear q1 q2 q3 q4 q5 hfB hbw hcf0
      generalize wr = w1 at *
      go_wp2
      go_loopw [29, 8] (fun u c wr2 => RowRel w1 w.heap.size pre seg post ys f (m + 1) m u c wr2) (fun u _ _ => m - (intOf u).toNat)
      case atStart => exact ⟨0, 0, seg, Nat.zero_le _, rfl, rfl, Lib.hid ⟨MulI.start HN.out HM.out, by unfold B64; omega⟩, Lib.hid HQ.out.1, Lib.hid (only_refl _ _)⟩
      case round =>
        obtain ⟨j, cy, cur, hj, rfl, rfl, hI2, hS, hG2⟩ := hrel
        have hbw2 : Below w.heap.size w wr := HBW.out.trans (only_below hG2.out (Nat.le_of_lt hR.out.lt) (Nat.le_refl _))
        by_cases hjm : j < m
        · obtain ⟨bd, y, hB, _, hbl', hy, hcy0⟩ := HB.out.get_ (j := j) hjm
          subst hB
          have hcy : wr.cell? (bd.add j) = some (.int .u64 (y : Int)) := by rw [← hcy0]; exact hbw2.cell (by rw [block_of_add]; omega)
          obtain ⟨x, hx2⟩ : ∃ x, cur[j]? = some x := ⟨cur[j]'(by have := hI2.out.1.1; omega), List.getElem?_eq_getElem _⟩
          have hcx := hS.out.cell HP.out hx2
          have hfx := hS.out.frozen (k + j)
          have hI3 := hI2.out.1.step B64_two hx2 (getD_of hy.out)
          have hxB := hI2.out.1.2.1.get hx2
          have hyB := HY.out.get hy.out
          have hcar := mul_carry hxB hyB HF.out hI2.out.2
          have hjl : j < cur.length := by have := hI2.out.1.1; omega
          obtain ⟨l0, hl⟩ : ∃ l0, l0 = f * y % B64 := ⟨_, rfl⟩
          obtain ⟨h0, hh⟩ : ∃ h0, h0 = f * y / B64 := ⟨_, rfl⟩
          obtain ⟨s1, h1⟩ : ∃ s1, s1 = (l0 + x + 0) % B64 := ⟨_, rfl⟩
          obtain ⟨c1, h2⟩ : ∃ c1, c1 = (l0 + x + 0) / B64 := ⟨_, rfl⟩
          obtain ⟨s2, h3⟩ : ∃ s2, s2 = (s1 + cy + 0) % B64 := ⟨_, rfl⟩
          obtain ⟨c2, h4⟩ : ∃ c2, c2 = (s1 + cy + 0) / B64 := ⟨_, rfl⟩
          obtain ⟨r1, r2, r3⟩ := prod_parts B64_two HF.out hyB hI2.out.2 hxB hl hh h1 h2 h3 h4
          have hsum : cy + f * y + x = x + y * f + cy := by rw [Nat.mul_comm f y]; omega
          rw [hsum] at r1 r2
          rw [← r1, ← r2] at hI3
          rw [← r2] at hcar
          have HM64 := fun W => Lib.hid (mul64_any f y HF.out hyB W)
          rw [← hl, ← hh] at HM64
          have ha1 := add64_run l0 x 0 (by omega)
          have ha2 := add64_run s1 cy 0 (by omega)
          rw [← h1, ← h2, show ((0 : Nat) : Int) = 0 from rfl] at ha1
          rw [← h3, ← h4, show ((0 : Nat) : Int) = 0 from rfl] at ha2
          obtain ⟨H1, hH1⟩ : ∃ H1, H1 = h0 + c1 := ⟨_, rfl⟩
          obtain ⟨H2, hH2⟩ : ∃ H2, H2 = H1 + c2 := ⟨_, rfl⟩
          have r3' : h0 + c1 + c2 < 18446744073709551616 := r3
          have w1' : IntKind.u64.wrap ((h0 : Int) + (c1 : Int)) = (H1 : Int) := by rw [cast_add, u64_fits _ (by omega), hH1]
          have w2' : IntKind.u64.wrap ((H1 : Int) + (c2 : Int)) = (H2 : Int) := by rw [cast_add, u64_fits _ (by omega), hH2]
          rw [← hH1, ← hH2] at hI3 hcar
          have HI3 := Lib.hid (And.intro hI3 hcar)
          have hS3 := Lib.hid (hS.out.set_ HP.out (i := j) hjl s2)
          have i3 : (0 : Int) ≤ (j : Int) := by omega
          have i4 : (j : Int) < (m : Int) := by omega
          have i5 : ((k : Int) + (j : Int)).toNat = k + j := by omega
          have i6 : IntKind.i64.wrap ((k : Int) + (j : Int)) = (k : Int) + (j : Int) := IntWalk.i64_in _ (by omega)
          clear hcy0 hx2 hI3 hcar hxB hyB hbw2 hjl hl hh h1 h2 h3 h4 r1 r2 r3 r3' hsum hH1 hH2
          go_wp2_with (go_at_call 167; refine ((HM64 _).out).mono ?_; rintro e w' ⟨rfl, rfl⟩)
          go_roundw
          case rel => exact ⟨j + 1, H2, _, by omega, by go_num, rfl, HI3, Lib.hid hS3.out, Lib.hid (only_set hG2.out (.inl rfl) _)⟩
          case measure => simp [intOf]; omega
        · have hjm2 : j = m := by omega
          subst hjm2
          have hjl : j < cur.length := by have := hI2.out.1.1; omega
          obtain ⟨x, hx2⟩ : ∃ x, cur[j]? = some x := ⟨cur[j]'hjl, List.getElem?_eq_getElem _⟩
          have hcx := hS.out.cell HP.out hx2
          have hfx := hS.out.frozen (k + j)
          have hS3 := Lib.hid (hS.out.set_ HP.out (i := j) hjl cy)
          have hd := hI2.out.1.done HLy.out
          have hl := hI2.out.1.1
          have y3 : nval B64 (cur.set j cy) = nval B64 (seg.take j) + f * nval B64 ys := by
            rw [← hd, ← List.take_of_length_le (l := cur.set j cy) (i := j + 1) (by simp; omega), nval_take_succ, take_set_same, getD_set _ _ _ (by omega)]
          have hJ := Lib.hid (HQ.out.2 (cur.set j cy) (by simpa using hl) (hI2.out.1.2.1.set j hI2.out.2) y3)
          have i5 : ((k : Int) + (j : Int)).toNat = k + j := by omega
          have i6 : IntKind.i64.wrap ((k : Int) + (j : Int)) = (k : Int) + (j : Int) := IntWalk.i64_in _ (by omega)
          clear hx2 hjl hd hl y3 hbw2
          go_wp2
          go_roundw
          case rel => exact ⟨k + 1, _, by omega, by go_num, hJ, Lib.hid hS3.out, Lib.hid (only_set (only_trans hG.out hG2.out) (.inl rfl) _)⟩
          case measure => simp [intOf]; omega
    · have hkn : k = n := by omega
      subst hkn
      have hl := hI.out.1
      have hval : nval B64 out = nval B64 xs * nval B64 ys := by
        have := hI.out.2.2.1
        rw [List.take_of_length_le (by rw [HLx.out]; omega)] at this
        exact this
      have HV := Lib.hid hval
      have HBW := Lib.hid hbw
      have HL := Lib.hid hl
      clear hl hval hbw
      go_wp2
      go_ret
      exact ⟨out, rfl, HL.out, hI.out.2.1, HV.out, hR.out, HBW.out⟩
end Go.Proofs.YtfggnoejcgehdaaGreatDoor
namespace Go.Proofs.YtfggnoejcgehdaaGreatDoor
open Go.RowKit Nx
set_option linter.unusedVariables false
set_option linter.unusedSimpArgs false
def topw (d : Nat) (ws : List Nat) : List Nat := if d = 0 then ws else (ws.drop d).set 0 ((ws.drop d).getD 0 0 ||| 1)
def HighPost (w : World) (g l d : Nat) (ws : List Nat) (e : Ending) (w' : World) : Prop :=
  e = .returned (.tuple #[.slice (some ⟨g, d, none⟩) (l - d) (l - d), .int .i64 (d : Int)]) ∧ Rd .u64 w' 0 w'.heap.size (some ⟨g, d, none⟩) (l - d) (l - d) (topw d ws) ∧ w.grownBy w' (some g)
set_option maxRecDepth 100000 in
set_option maxHeartbeats 2000000 in
theorem highest_any (w : World) (g l d : Nat) (ws : List Nat) (hR : Row .u64 w g 53 ws) (hl : ws.length = l) (hs : Small B64 ws) (h0 : 0 < l) (hb : l ≤ 100000) (hd : d = l - 64) :
    Calls Tryz.prog 136 #[.slice (some ⟨g, 0, none⟩) l l] w (HighPost w g l d ws) := by
  have HR := Lib.hid hR; have HL := Lib.hid hl; have HS := Lib.hid hs
  have hsl : ∀ W : World, (Instr.slice 22 (.slice (some ⟨g, 0, none⟩) l l) (some (.int .i64 (d : Int))) none none).run Tryz.prog W = .ok (.slice (some ⟨g, d, none⟩) (l - d) (l - d)) W := fun W => by
    obtain ⟨i, hi, hz, h1, h2⟩ := info_parts info64
    have he : Tryz.prog.elem 22 = 53 := by kernel_rfl
    rw [run_slice_l (P := Tryz.prog) W 22 (some ⟨g, 0, none⟩) l l (by rw [he]; exact Tryz.underlying22) .i64 d (by omega) (by omega), he]
    have hs : (sizeOf 53).run Tryz.prog W = .ok 1 W := by simp [sizeOf, typeInfo, hi, h1]
    rw [hs]
    simp only [Result.andThen, sliced, Int.toNat_natCast, Nat.mul_one]
    rw [if_neg (by omega), Option.map_some, addr_add, Nat.zero_add]
  have e1 : IntKind.i64.wrap ((l : Int) - 64) = (l : Int) - 64 := by rw [IntKind.wrap_i64]; omega
  have e2 : max (0 : Int) ((l : Int) - 64) = (d : Int) := by omega
  by_cases hz : d = 0
  · subst hz
    have e3 : ¬ (((0 : Nat) : Int) > 0) := by omega
    have hrd : Rd .u64 w 0 w.heap.size (some ⟨g, 0, none⟩) l l ws := by
      have := hR.rd0 (lo := 0) (hi := w.heap.size) (c := l) (Nat.zero_le _) hR.lt (by omega)
      rw [hl] at this; exact this
    have HD := Lib.hid hrd
    clear hR hl hs hrd hd
    go_enter Tryz.func136, Tryz.ntmps136
    go_wp2
    go_ret2
    exact ⟨rfl, by unfold topw; rw [if_pos rfl]; exact HD.out, only_refl _ _⟩
  · obtain ⟨x, hx⟩ : ∃ x, ws[d]? = some x := ⟨ws[d]'(by omega), List.getElem?_eq_getElem _⟩
    have hxB := hs.get hx
    have hc : w.cell? ⟨g, d, none⟩ = some (.int .u64 (x : Int)) := by
      have := hR.cell (i := d) (by omega)
      rw [getD_of hx] at this; exact this
    have hf := hR.frozen d
    have e3 : ((d : Int) > 0) := by omega
    obtain ⟨y, hy⟩ : ∃ y, y = x ||| 1 := ⟨_, rfl⟩
    have e4 : bits .or .u64 (x : Int) 1 = (y : Int) := by
      have := u64_or_nat x 1 hxB (by omega)
      rw [hy, ← this]; rfl
    have hset := hR.set_ d y
    have i1 : (0 : Int) < (l : Int) - (d : Int) := by omega
    have i2 : 0 < l - d := by omega
    have i3 : ((l - d : Nat) : Int) = (l : Int) - (d : Int) := by omega
    have hrd : Rd .u64 (w.setCell ⟨g, d, none⟩ (.int .u64 (y : Int))) 0 (w.setCell ⟨g, d, none⟩ (.int .u64 (y : Int))).heap.size (some ⟨g, d, none⟩) (l - d) (l - d) (topw d ws) := by
      have h1 := hset.rd (lo := 0) (hi := (w.setCell ⟨g, d, none⟩ (.int .u64 (y : Int))).heap.size) (o := d) (n := l - d) (c := l - d) (Nat.zero_le _) hset.lt (by rw [List.length_set]; omega) (Nat.le_refl _)
      have h2 : ((ws.set d y).drop d).take (l - d) = topw d ws := by
        unfold topw
        rw [if_neg hz, List.take_of_length_le (by simp; omega)]
        have h3 : (ws.drop d).getD 0 0 = x := by rw [List.getD_eq_getElem?_getD, List.getElem?_drop, Nat.add_zero, hx]; rfl
        rw [h3, ← hy, List.drop_set]
        simp
      rw [h2] at h1; exact h1
    have HD := Lib.hid hrd
    have hdl : d < l := by omega
    clear hR hl hs hx hset hrd hy hxB hd
    go_enter Tryz.func136, Tryz.ntmps136
    go_wp2
    go_ret2
    exact ⟨rfl, HD.out, only_set (only_refl _ _) (.inl rfl) _⟩
end Go.Proofs.YtfggnoejcgehdaaGreatDoor
namespace Go.Proofs.YtfggnoejcgehdaaGreatDoor
open Go.RowKit Nx
set_option linter.unusedVariables false
set_option linter.unusedSimpArgs false
set_option maxRecDepth 100000 in
set_option maxHeartbeats 2000000 in
theorem number_any (w : World) (s : Bool) (e k : Int) (A : Option Addr) (n c : Nat) (xs : List Nat) (ha : Arg w A n c xs) (hn : n ≤ 100000) (ht : Tab w) :
    Calls Tryz.prog 98 #[.agg #[.bool s, .int .i64 e, .slice A n c, .int .i64 k]] w (NumPost2 w (ans1 s e n xs k)) := by
  have k1 : Blk ((w.alloc (.cells #[.bool s, .int .i64 e, .slice A n c, .int .i64 k] 88)).alloc (.cells #[.bool false, .int .i64 0, .slice none 0 0] 24)) w.heap.size 88 #[.bool s, .int .i64 e, .slice A n c, .int .i64 k] := (Blk.new w _ _).alloc _
  have k2 : Bx ((w.alloc (.cells #[.bool s, .int .i64 e, .slice A n c, .int .i64 k] 88)).alloc (.cells #[.bool false, .int .i64 0, .slice none 0 0] 24)) (w.heap.size + 1) false 0 none 0 0 := by
    have := Bx.new (w.alloc (.cells #[.bool s, .int .i64 e, .slice A n c, .int .i64 k] 88)) false 0 none 0 0
    rwa [show (w.alloc (.cells #[.bool s, .int .i64 e, .slice A n c, .int .i64 k] 88)).heap.size = w.heap.size + 1 by simp] at this
  have b3 := below_step (one_below w (.cells #[.bool s, .int .i64 e, .slice A n c, .int .i64 k] 88)) (one_below _ (.cells #[.bool false, .int .i64 0, .slice none 0 0] 24))
  have r0 := k1.cell 0; have r1 := k1.cell 1; have r2 := k1.cell 2; have r3 := k1.cell 3
  simp at r0 r1 r2 r3
  have C1 := Lib.hid (nscale_any _ s e k A n c xs (ha.step b3) hn (ht.below b3))
  have K2 := Lib.hid k2; have B3 := Lib.hid b3
  clear k1 k2 b3 ha ht
  obtain ⟨r, hr⟩ : ∃ r, r = ans1 s e n xs k := ⟨_, rfl⟩
  rw [← hr] at C1 ⊢
  clear hr
  go_enter Tryz.func98, Tryz.ntmps98
  go_wp2_with fail
  refine C1.out.mono ?_
  rintro _ w6 ⟨_, rfl, ⟨A6, n6, c6, rfl, h6⟩, b6⟩
  have K26 := Lib.hid (K2.out.step b6)
  have q0 := K26.out.c0; have q1 := K26.out.c1; have q2 := K26.out.c2
  have z0 := K26.out.fz 0; have z1 := K26.out.fz 1; have z2 := K26.out.fz 2
  have RN := Lib.hid (ret_num B3.out (Nat.le_add_right w.heap.size 1) K26.out K2.out.lt b6 h6)
  clear b6 h6 C1 r0 r1 r2 r3
  go_wp2
  obtain ⟨kr, nr, br⟩ := RN.out
  refine bodyPost_ret (v := .tuple #[.agg #[.bool r.1.s, .int .i64 r.1.e, .slice A6 n6 c6], .int .i64 r.2]) ?_ rfl ⟨_, rfl, nr, br⟩
  have q0 := kr.c0; have q1 := kr.c1; have q2 := kr.c2
  unfold put3 at q0 q1 q2
  simp [results, Tryz.results98, go_sem, q0, q1, q2]
def PowRel (w : World) (k n : Nat) (xs : List Nat) (u s : Value) (wr : World) : Prop :=
  ∃ (i g L : Nat) (ws : List Nat), i ≤ k ∧ u = .int .i64 (i : Int) ∧ s = .slice (some ⟨g, 0, none⟩) L L ∧ Hid (L = 1 + i * n ∧ ws.length = L ∧ Small B64 ws ∧ nval B64 ws = nval B64 xs ^ i) ∧ Hid (w.heap.size ≤ g ∧ Row .u64 wr g 53 ws) ∧ Hid (Below w.heap.size w wr)
theorem okb_parts {s : Bool} {e : Int} {n : Nat} {xs : List Nat} (h : okb s e n xs = true) (hl : xs.length = n) : n ≤ 64 ∧ (nval B64 xs ≠ 0 → B64 ^ (n - 1) ≤ nval B64 xs) ∧ (nval B64 xs = 0 → n = 0) := by
  unfold okb at h
  split at h
  · rename_i h0
    have hx : xs = [] := List.eq_nil_of_length_eq_zero (hl.trans h0)
    refine ⟨by omega, fun hn => ?_, fun _ => h0⟩
    rw [hx] at hn; exact absurd rfl hn
  · rename_i h0
    simp only [Bool.and_eq_true, decide_eq_true_eq] at h
    have h1 := h.1.1.1.1
    have hsp := nval_split B64 xs (n - 1) (by omega)
    have hdr : xs.drop (n - 1) = [xs.getD (n - 1) 0] := by
      rw [List.drop_eq_getElem_cons (by omega), List.drop_of_length_le (by omega)]
      congr 1
      rw [List.getD_eq_getElem?_getD, List.getElem?_eq_getElem (by omega)]; rfl
    have hge : B64 ^ (n - 1) ≤ nval B64 xs := by
      rw [hsp, hdr]
      simp only [nval, Nat.mul_zero, Nat.add_zero]
      exact Nat.le_trans (Nat.le_mul_of_pos_right _ (Nat.pos_of_ne_zero h1)) (Nat.le_add_left _ _)
    have hpos : 0 < B64 ^ (n - 1) := Nat.pow_pos (by decide)
    exact ⟨h.1.1.1.2, fun _ => hge, fun h => by omega⟩
theorem ntz_words {N k : Nat} (h0 : N ≠ 0) (h : N < B64 ^ k) : ntz N < 64 * k := ntz_lt h0 (by rw [← pow64]; exact h)
theorem topw_small {d : Nat} {ws : List Nat} (hs : Small B64 ws) : Small B64 (topw d ws) := by
  unfold topw
  split
  · exact hs
  · refine (hs.drop d).set 0 ?_
    refine Nat.or_lt_two_pow (n := 64) ?_ (by decide)
    cases h : (ws.drop d)[0]? with
    | none => rw [List.getD_eq_getElem?_getD, h]; show 0 < 2 ^ 64; omega
    | some x => rw [getD_of h]; exact (hs.drop d).get h
set_option maxRecDepth 100000 in
set_option maxHeartbeats 8000000 in
theorem power_any (w : World) (s up : Bool) (e p : Int) (k : Nat) (A : Option Addr) (n c : Nat) (xs : List Nat) (ha : Arg w A n c xs) (hok : okb s e n xs = true) (hk : k ≤ 8) (hp : prl p = true) (ht : Tab w) :
    Calls Tryz.prog 80 #[.agg #[.bool s, .int .i64 e, .slice A n c], .int .i64 (k : Int), .int .i64 p, .bool up] w (NumPost2 w (res (rnd p.toNat up (pw ⟨s, nval B64 xs, e⟩ k)))) := by
  have hl := ha.1.1
  obtain ⟨hn64, hge, hz0⟩ := okb_parts hok hl
  have hv := (okb_true ha hok).2
  have p1 := prl_two hp
  obtain ⟨k1, k2, b3⟩ := one_bx w s e A n c
  have HA := Lib.hid ha; have HT := Lib.hid ht; have HP := Lib.hid hp; have HV := Lib.hid hv; have HGE := Lib.hid hge; have HZ0 := Lib.hid hz0; have HP1 := Lib.hid p1
  have K1 := Lib.hid k1; have K2 := Lib.hid k2; have B3 := Lib.hid b3
  obtain ⟨r, hr⟩ : ∃ r, r = res (rnd p.toNat up (pw ⟨s, nval B64 xs, e⟩ k)) := ⟨_, rfl⟩
  rw [← hr]
  have HR := Lib.hid hr
  obtain ⟨f1, f2⟩ : -65536 ≤ e ∧ e ≤ 65536 := ⟨hv.2.2.1, hv.2.2.2⟩
  clear ha hok hp ht hl hge hz0 hv p1 k1 k2 b3 hr
  go_enter Tryz.func80, Tryz.ntmps80
  go_wp2
  have hsz : ((w.alloc (.cells #[.bool s, .int .i64 e, .slice A n c] 24)).alloc (.cells #[.bool false, .int .i64 0, .slice none 0 0] 24)).heap.size = w.heap.size + 1 + 1 := by simp
  generalize hW : (w.alloc (.cells #[.bool s, .int .i64 e, .slice A n c] 24)).alloc (.cells #[.bool false, .int .i64 0, .slice none 0 0] 24) = W at *
  clear hW
  go_loopw [17, 10] (fun u v wr => PowRel W k n xs u v wr) (fun u _ _ => k - (intOf u).toNat)
  case atStart => exact ⟨0, w.heap.size + 1 + 1, 1, [1], by omega, rfl, rfl, Lib.hid ⟨by omega, rfl, small1 (by decide), by simp [nval]⟩, Lib.hid ⟨Nat.le_of_eq hsz, by rw [← hsz]; exact Blk.new W _ _⟩, Lib.hid (one_below _ _)⟩
  case round =>
    obtain ⟨i, g, L, ws, hi, rfl, rfl, hI, hG, hB⟩ := hrel
    have hL : L ≤ 513 := by
      rw [hI.out.1]
      have := Nat.mul_le_mul (show i ≤ 8 by omega) hn64
      omega
    have hL0 : 0 < L := by rw [hI.out.1]; omega
    have KW := Lib.hid (K1.out.step hB.out); have KW2 := Lib.hid (K2.out.step hB.out); have BW := Lib.hid (below_step B3.out hB.out)
    have y0 := KW.out.c0; have y1 := KW.out.c1; have y2 := KW.out.c2
    by_cases hlt : i < k
    · have hrd : Rd .u64 wr 0 wr.heap.size (some ⟨g, 0, none⟩) L L ws := by
        have := hG.out.2.rd0 (lo := 0) (hi := wr.heap.size) (c := L) (Nat.zero_le _) hG.out.2.lt (by rw [hI.out.2.1]; omega)
        rw [hI.out.2.1] at this; exact this
      have HC := Lib.hid (product_any wr 0 wr.heap.size 0 w.heap.size (some ⟨g, 0, none⟩) A L L n c ws xs hrd (HA.out.1.below BW.out) hI.out.2.2.1 HA.out.2 (by omega) (by omega) (Nat.le_refl _) BW.out.size)
      clear hrd
      go_wp2_with fail
      refine HC.out.mono ?_
      rintro _ w' ⟨out, rfl, h1, h2, h3, h4, h5⟩
      have J1 := Lib.hid (show L + n = 1 + (i + 1) * n ∧ out.length = L + n ∧ Small B64 out ∧ nval B64 out = nval B64 xs ^ (i + 1) from ⟨by rw [hI.out.1, Nat.add_mul]; omega, h1, h2, by rw [h3, hI.out.2.2.2, Nat.pow_succ]⟩)
      have J2 := Lib.hid (show W.heap.size ≤ wr.heap.size ∧ Row .u64 w' wr.heap.size 53 out from ⟨hB.out.size, h4⟩)
      have J3 := Lib.hid (below_step hB.out h5)
      clear h1 h2 h3 h4 h5 HC
      go_wp2
      go_roundw
      case rel => exact ⟨i + 1, wr.heap.size, L + n, out, by omega, by go_num, rfl, J1, J2, J3⟩
      case measure => simp [intOf]; omega
    · have hik : i = k := by omega
      subst hik
      obtain ⟨d, hd⟩ : ∃ d, d = L - 64 := ⟨_, rfl⟩
      have HH := Lib.hid (highest_any wr g L d ws hG.out.2 hI.out.2.1 hI.out.2.2.1 hL0 (by omega) hd)
      have HPV := Lib.hid (pow_value (q := ⟨s, nval B64 xs, e⟩) (k := i) (n := n) (d := d) (p := p.toNat) (up := up) (ws := ws) HV.out.1 HGE.out hn64 hk HP1.out.2 (by rw [hI.out.2.1, hI.out.1]) (by rw [hd, hI.out.1]) hI.out.2.2.1 hI.out.2.2.2 HZ0.out)
      have hd448 : d ≤ 449 := by omega
      have hLd : L - d ≤ 64 := by omega
      obtain ⟨D, hD⟩ : ∃ D, D = L - d := ⟨_, rfl⟩
      rw [← hD] at hLd
      unfold HighPost at HH
      rw [← hD] at HH
      clear hd hD y0 y1 y2
      go_wp2_with fail
      refine HH.out.mono ?_
      rintro _ w5 ⟨rfl, hrd, hgr⟩
      have hB5 : Below W.heap.size W w5 := hB.out.trans (only_below hgr hB.out.size hG.out.1)
      have K15 := Lib.hid (K1.out.step hB5); have K25 := Lib.hid (K2.out.step hB5); have B5 := Lib.hid (below_step B3.out hB5)
      have y0 := K15.out.c0; have y1 := K15.out.c1; have y2 := K15.out.c2
      obtain ⟨b, hb⟩ : ∃ b, b = psg s i := ⟨_, rfl⟩
      have g1 : (i : Int).tmod 2 = ((i % 2 : Nat) : Int) := by rw [Int.tmod_eq_emod_of_nonneg (by omega)]; rfl
      have g1' : (i : Int) % 2 = ((i % 2 : Nat) : Int) := rfl
      have HPV2 := HPV
      rw [show (if d = 0 then ws else (ws.drop d).set 0 ((ws.drop d).getD 0 0 ||| 1)) = topw d ws from rfl] at HPV2
      have hfit : Fits (nm b (nval B64 (topw d ws)) 0) := by
        by_cases hz : nval B64 (topw d ws) = 0
        · rw [hz, nm_zero]; exact fits0
        · have h1 := HPV2.out.1
          have h2 : ntz (nval B64 (topw d ws)) < 64 * 64 := ntz_words hz h1
          unfold nm
          rw [if_neg hz]
          exact ⟨Nat.lt_of_le_of_lt (Nat.div_le_self _ _) h1, by show -65536 ≤ 0 + (ntz _ : Int); omega, by show 0 + (ntz _ : Int) ≤ 65536; omega⟩
      obtain ⟨Y, hY⟩ : ∃ Y, Y = nm b (nval B64 (topw d ws)) 0 := ⟨_, rfl⟩
      have hYv : Valid Y := ⟨by rw [hY]; exact nm_canon _ _ _, by rw [hY]; exact hfit⟩
      have CM := Lib.hid (make_any w5 b 0 (some ⟨g, d, none⟩) D D (topw d ws) ⟨hrd, topw_small hI.out.2.2.1⟩ (by omega) (HT.out.below B5.out))
      rw [res_ok hfit, ← hY] at CM
      have hval := HPV2.out.2
      rw [← hb, ← hY] at hval
      have hRv : Valid (rnd p.toNat up Y) := by
        refine ⟨rnd_canon _ _ _, ?_⟩
        have h1 : -((0 : Nat) : Int) ≤ Y.e := by rw [hY]; exact nm_low (E := 0) _ _ _ (by omega)
        have h2 := rnd_low (E := 0) (p := p.toNat) (up := up) h1
        have h3 := nbits_rnd (p := p.toNat) up Y (by have := HP1.out.1; omega)
        refine fits_few (by have := HP1.out.2; omega) (by omega) ?_
        refine e_le_top (rnd_canon _ _ _) (by omega) fun hn => ?_
        have := top_rnd (p := p.toNat) up hn
        have := top_valid hYv
        have h4 : topq Y ≤ 0 + 8192 := by
          have := top_val hYv
          have h5 : Y.e ≤ 4096 := by
            rw [hY]
            unfold nm
            split
            · show (0 : Int) ≤ 4096; omega
            · rename_i hz
              have h1 := HPV2.out.1
              have h2 : ntz (nval B64 (topw d ws)) < 64 * 64 := ntz_words hz h1
              show 0 + (ntz _ : Int) ≤ 4096; omega
          omega
        omega
      obtain ⟨R, hR⟩ : ∃ R, R = rnd p.toNat up Y := ⟨_, rfl⟩
      rw [← hR] at hval hRv
      have hfin : ansf p up Y.s Y.e (digs B64 Y.m).length (digs B64 Y.m) = (R, 0) := by
        have h1 := (qx_ok hYv).1
        unfold X.ok qx at h1
        simp only at h1
        unfold ansf
        rw [h1, prl_precb HP.out, nval_digs B64_two]
        show res (rnd p.toNat up Y) = _
        rw [← hR]; exact res_ok hRv.2
      have hlast : ans1 R.s R.e (digs B64 R.m).length (digs B64 R.m) ((i : Int) * e + 64 * (d : Int)) = r := by
        have h1 := scalex_qx hRv ((i : Int) * e + 64 * (d : Int))
        rw [HR.out, ← hval, ← h1]; rfl
      have CF := fun (W' : World) (A' : Option Addr) (n' c' : Nat) (h : Rd .u64 W' 0 W'.heap.size A' n' c' (digs B64 Y.m)) (ht : Tab W') => Lib.hid (xfit_any W' Y.s up Y.e p A' n' c' (digs B64 Y.m) ⟨h, small_digs B64_two _⟩ (by have := digs_len_le B64_two hYv.2.1; have := h.1; omega) ht)
      have CF2 := fun (n' : Nat) (h : (digs B64 Y.m).length = n') => show ansf p up Y.s Y.e n' (digs B64 Y.m) = (R, 0) by subst h; exact hfin
      have CN := fun (W' : World) (A' : Option Addr) (n' c' : Nat) (h : Rd .u64 W' 0 W'.heap.size A' n' c' (digs B64 R.m)) (ht : Tab W') => Lib.hid (number_any W' R.s R.e ((i : Int) * e + 64 * (d : Int)) A' n' c' (digs B64 R.m) ⟨h, small_digs B64_two _⟩ (by have := digs_len_le B64_two hRv.2.1; have := h.1; omega) ht)
      have CN2 := fun (n' : Nat) (h : (digs B64 R.m).length = n') => show ans1 R.s R.e n' (digs B64 R.m) ((i : Int) * e + 64 * (d : Int)) = r by subst h; exact hlast
      have hie : -524288 ≤ (i : Int) * e ∧ (i : Int) * e ≤ 524288 := by
        constructor
        · have : (i : Int) * -65536 ≤ (i : Int) * e := Int.mul_le_mul_of_nonneg_left f1 (by omega)
          omega
        · have : (i : Int) * e ≤ (i : Int) * 65536 := Int.mul_le_mul_of_nonneg_left f2 (by omega)
          omega
      obtain ⟨ie, hie0⟩ : ∃ ie, ie = (i : Int) * e := ⟨_, rfl⟩
      rw [← hie0] at hie
      have m1 : IntKind.i64.wrap ((i : Int) * e) = ie := by rw [hie0, IntKind.wrap_i64]; rw [← hie0]; omega
      have m2 : IntKind.i64.wrap (64 * (d : Int)) = 64 * (d : Int) := by rw [IntKind.wrap_i64]; omega
      have m3 : IntKind.i64.wrap (ie + 64 * (d : Int)) = (i : Int) * e + 64 * (d : Int) := by rw [← hie0, IntKind.wrap_i64]; omega
      have hps : (s = true → ((i : Int).tmod 2 == 1) = b) ∧ (s = true → ((i : Int) % 2 == 1) = b) ∧ (s = false → b = false) := by
        rw [hb]; unfold psg
        refine ⟨fun h => ?_, fun h => ?_, fun h => by rw [h]; rfl⟩
        · rw [h, g1]
          rcases Nat.mod_two_eq_zero_or_one i with h2 | h2 <;> rw [h2] <;> rfl
        · rw [h, g1']
          rcases Nat.mod_two_eq_zero_or_one i with h2 | h2 <;> rw [h2] <;> rfl
      have HPS := Lib.hid hps
      have HW5 := Lib.hid (And.intro hI.out.2.1 hrd)
      have CFh := Lib.hid CF; have CF2h := Lib.hid CF2; have CNh := Lib.hid CN; have CN2h := Lib.hid CN2
      clear hrd hgr hB5 hfit hYv hval hRv hfin hlast CF CF2 CN CN2 g1 g1' hps hb hY hR HPV HPV2 HH hie0
      obtain ⟨hp1, hp2, hp3⟩ := HPS.out
      have hts : (s = false ∧ b = false) ∨ (s = true ∧ ((i : Int).tmod 2 == 1) = b ∧ ((i : Int) % 2 == 1) = b) := by
        cases hs : s
        · exact .inl ⟨rfl, hp3 hs⟩
        · exact .inr ⟨rfl, hp1 hs, hp2 hs⟩
      clear hp1 hp2 hp3 HPS HR
      rcases hts with ⟨rfl, rfl⟩ | ⟨rfl, ht1, ht2⟩
      all_goals
        go_wp2_with fail
        refine CM.out.mono ?_
        rintro _ w6 ⟨_, rfl, ⟨A6, n6, c6, rfl, h6⟩, b6⟩
        have K16 := Lib.hid (K15.out.step b6); have K26 := Lib.hid (K25.out.step b6); have B6 := Lib.hid (below_step B5.out b6)
        have k7 : Bx (w6.alloc (.cells #[.bool Y.s, .int .i64 Y.e, .slice A6 n6 c6] 24)) w6.heap.size Y.s Y.e A6 n6 c6 := Bx.new w6 Y.s Y.e A6 n6 c6
        have b7 : Below w6.heap.size w6 (w6.alloc (.cells #[.bool Y.s, .int .i64 Y.e, .slice A6 n6 c6] 24)) := one_below w6 _
        have R7 := ((h6.less (Nat.zero_le _)).below b7).more b7.size
        have CF := CFh.out _ A6 n6 c6 R7 (HT.out.below (below_step B6.out b7))
        rw [CF2h.out n6 h6.1] at CF
        have K7 := Lib.hid k7; have B7 := Lib.hid b7
        have q0 := k7.c0; have q1 := k7.c1; have q2 := k7.c2
        have hsz7 : w6.heap.size < (w6.alloc (.cells #[.bool Y.s, .int .i64 Y.e, .slice A6 n6 c6] 24)).heap.size := by simp
        have HS7 := Lib.hid hsz7
        clear k7 b7 R7 h6 b6 CM CFh CF2h hsz7 y0 y1 y2
        go_wp2_with fail
        refine CF.out.mono ?_
        clear CF
        rintro _ w8 ⟨_, rfl, ⟨A8, n8, c8, rfl, h8⟩, b8⟩
        have k8 := K7.out.step b8
        have k9 : Bx (put3 w8 w6.heap.size (.bool R.s) (.int .i64 R.e) (.slice A8 n8 c8)) w6.heap.size R.s R.e A8 n8 c8 := Blk.putted k8 (.bool R.s) (.int .i64 R.e) (.slice A8 n8 c8)
        have b9 : Below w6.heap.size w6 (put3 w8 w6.heap.size (.bool R.s) (.int .i64 R.e) (.slice A8 n8 c8)) := below_put3 (below_step B7.out b8) (Nat.le_refl _) _ _ _
        have h8' := h8.putted (g := w6.heap.size) (.inl HS7.out) (.bool R.s) (.int .i64 R.e) (.slice A8 n8 c8)
        have R9 := (h8'.less (Nat.zero_le _)).more (Nat.le_of_eq (size_put3 w8 w6.heap.size (.bool R.s) (.int .i64 R.e) (.slice A8 n8 c8)).symm)
        have CN := CNh.out _ A8 n8 c8 R9 (HT.out.below (below_step B6.out b9))
        rw [CN2h.out n8 h8.1] at CN
        have K19 := K16.out.step b9
        have K29 := Lib.hid (K26.out.step b9); have B9 := Lib.hid (below_step B6.out b9)
        have s0 := k8.c0; have s1 := k8.c1; have s2 := k8.c2
        have x0 := k8.fz 0; have x1 := k8.fz 1; have x2 := k8.fz 2
        have v0 := k9.c0; have v1 := k9.c1; have v2 := k9.c2
        have y1 := K19.c1
        unfold put3 at v0 v1 v2 y1 CN
        clear k8 k9 b9 h8' R9 h8 b8 CNh CN2h K19 q0 q1 q2
        go_wp2_with fail
        refine CN.out.mono ?_
        clear CN
        rintro _ w10 ⟨_, rfl, ⟨A10, n10, c10, rfl, h10⟩, b10⟩
        have b10' : Below (put3 w8 w6.heap.size (.bool R.s) (.int .i64 R.e) (.slice A8 n8 c8)).heap.size (put3 w8 w6.heap.size (.bool R.s) (.int .i64 R.e) (.slice A8 n8 c8)) w10 := b10
        have K210 := Lib.hid (K29.out.step b10')
        have q0 := K210.out.c0; have q1 := K210.out.c1; have q2 := K210.out.c2
        have z0 := K210.out.fz 0; have z1 := K210.out.fz 1; have z2 := K210.out.fz 2
        have RN := Lib.hid (ret_num B9.out (Nat.le_add_right w.heap.size 1) K210.out K29.out.lt b10' h10)
        clear b10 b10' h10 s0 s1 s2 x0 x1 x2 v0 v1 v2 y1
        go_wp2
        obtain ⟨kr, nr, br⟩ := RN.out
        refine bodyPost_ret (v := .tuple #[.agg #[.bool r.1.s, .int .i64 r.1.e, .slice A10 n10 c10], .int .i64 r.2]) ?_ rfl ⟨_, rfl, nr, br⟩
        have q0 := kr.c0; have q1 := kr.c1; have q2 := kr.c2
        unfold put3 at q0 q1 q2
        simp [results, Tryz.results80, go_sem, q0, q1, q2]
end Go.Proofs.YtfggnoejcgehdaaGreatDoor
