/- nat.subFrom, nat.Sub. nat.Sub. nat.addProduct, nat.addRow. nat.Mul. -/
import Derived.Test.YtfggnoejcgehdaaGreatDoorPNatC
import Derived.RegionTactic
namespace Go.Proofs.YtfggnoejcgehdaaGreatDoor
open Go.RowKit Nx
def SubRel (w : World) (g : Nat) (pre seg post ys : List Nat) (n : Nat) (u c : Value) (wr : World) : Prop :=
  ∃ (k cy : Nat) (cur : List Nat), k ≤ n ∧ u = .int .i64 (k : Int) ∧ c = .int .u64 (cy : Int) ∧ cy ≤ 1 ∧
    Hid (SubI B64 n k cy cur seg ys) ∧ Hid (Seg .u64 wr g 53 pre cur post) ∧ Hid (w.grownBy wr (some g))
def SubPost (w : World) (g : Nat) (pre seg post ys : List Nat) (e : Ending) (w' : World) : Prop :=
  ∃ (cy : Nat) (out : List Nat), e = .returned (.tuple #[]) ∧ out.length = seg.length ∧ Small B64 out ∧ nval B64 out + nval B64 ys = nval B64 seg + B64 ^ seg.length * cy ∧
    Seg .u64 w' g 53 pre out post ∧ w.grownBy w' (some g)
set_option maxRecDepth 100000 in
set_option maxHeartbeats 1000000 in
theorem subFrom_any (w : World) (lo hi g o n c m cb : Nat) (A : Option Addr) (pre seg post ys : List Nat) (hs : Seg .u64 w g 53 pre seg post) (ho : pre.length = o) (hn : seg.length = n) (hnc : n ≤ c)
    (hb : Rd .u64 w lo hi A m cb ys) (hg : hi ≤ g) (hmn : m ≤ n) (hsm : Small B64 seg) (hys : Small B64 ys) (hbig : n ≤ 1000000000) :
    Calls Tryz.prog 172 #[.slice (some ⟨g, o, none⟩) n c, .slice A m cb] w (SubPost w g pre seg post ys) := by
  have HS := Lib.hid hs; have HO := Lib.hid ho; have HN := Lib.hid hn; have HB := Lib.hid hb; have HM := Lib.hid hsm; have HY := Lib.hid hys
  have HL := Lib.hid hb.1
  clear hs ho hn hb hsm hys
  go_enter Tryz.func172, Tryz.ntmps172
  go_wp2
  go_step3
  go_wp2
  go_step3
  go_wp2
  go_loopw [8, 4] (fun u c wr => SubRel w g pre seg post ys n u c wr) (fun u _ _ => n - (intOf u).toNat)
  case atStart => exact ⟨0, 0, seg, Nat.zero_le _, rfl, rfl, Nat.zero_le _, Lib.hid (SubI.start HN.out HM.out), HS, Lib.hid (only_refl _ _)⟩
  case round =>
    obtain ⟨k, cy, cur, hk, rfl, rfl, hcy, hI, hS, hG⟩ := hrel
    by_cases hlt : k < n
    · obtain ⟨x, hx⟩ : ∃ x, cur[k]? = some x := ⟨cur[k]'(by have := hI.out.1; omega), List.getElem?_eq_getElem _⟩
      have hcx := hS.out.cell HO.out hx
      have hfx := hS.out.frozen (o + k)
      have HX := Lib.hid hx
      clear hx
      have i1 : (0 : Int) ≤ (k : Int) := by omega
      have i2 : (k : Int) < (n : Int) := by omega
      have hxB := hI.out.2.1.get HX.out
      by_cases hkm : k < m
      · obtain ⟨ad, y, hA, _, hbl, hy, hcy0⟩ := HB.out.get_ (j := k) (by omega)
        subst hA
        have hcy1 : wr.cell? (ad.add k) = some (.int .u64 (y : Int)) := by
          rw [← hcy0]; exact World.cell?_of_block (hG.out.block _ (by rw [block_of_add]; have := HS.out.lt; omega) (by rw [block_of_add]; intro e; injection e with e; omega))
        have hyB := HY.out.get hy.out
        obtain ⟨hw1, hw2⟩ := sub_word hxB hyB hcy
        have hI2 := Lib.hid (hI.out.step HX.out (getD_of hy.out) hw2 hw1)
        have hd1 : (if x < y + cy then 1 else 0) ≤ 1 := by split <;> omega
        have hadd := sub64_run x y cy hcy
        have hS2 := fun v => Lib.hid (hS.out.set_ HO.out (i := k) (by have := hI.out.1; omega) v)
        obtain ⟨v, hv⟩ : ∃ v, v = (x + B64 - y - cy) % B64 := ⟨_, rfl⟩
        obtain ⟨d, hd⟩ : ∃ d, d = (if x < y + cy then 1 else 0) := ⟨_, rfl⟩
        rw [← hv, ← hd] at hadd hI2
        rw [← hd] at hd1
        have hS3 := hS2 v
        clear hcy0 hv hd hS2 hw1 hw2 hxB hyB
        have i3 : (k : Int) < (m : Int) := by omega
        go_wp2
        go_region
        go_wp2
        go_roundw
        case rel => exact ⟨k + 1, d, _, by omega, by go_num, rfl, hd1, hI2, Lib.hid hS3.out, Lib.hid (only_drew (only_set hG.out (.inl rfl) _))⟩
        case measure => simp [intOf]; omega
      · by_cases hc0 : cy = 0
        · subst hc0
          clear hxB
          go_wp2
          rw [Exit.noGoto_normal]
          go_end0
          have he := hI.out.early HN.out hk (by have := HL.out; omega)
          exact ⟨0, cur, rfl, by rw [hI.out.1, HN.out], hI.out.2.1, by rw [he]; simp, hS.out, hG.out⟩
        · have hc1 : ((cy : Int) != 0) = true := by simp; omega
          obtain ⟨hw1, hw2⟩ := sub_word (y := 0) hxB (by unfold B64; omega) hcy
          have hI2 := Lib.hid (hI.out.step HX.out (getD_out (xs := ys) (k := k) (by have := HL.out; omega)) hw2 hw1)
          have hd1 : (if x < 0 + cy then 1 else 0) ≤ 1 := by split <;> omega
          have hadd := sub64_run x 0 cy hcy
          rw [show ((0 : Nat) : Int) = 0 from rfl] at hadd
          have hS2 := fun v => Lib.hid (hS.out.set_ HO.out (i := k) (by have := hI.out.1; omega) v)
          obtain ⟨v, hv⟩ : ∃ v, v = (x + B64 - 0 - cy) % B64 := ⟨_, rfl⟩
          obtain ⟨d, hd⟩ : ∃ d, d = (if x < 0 + cy then 1 else 0) := ⟨_, rfl⟩
          rw [← hv, ← hd] at hadd hI2
          rw [← hd] at hd1
          have hS3 := hS2 v
          clear hv hd hS2 hw1 hw2 hxB
          go_wp2
          go_roundw
          case rel => exact ⟨k + 1, d, _, by omega, by go_num, rfl, hd1, hI2, Lib.hid hS3.out, Lib.hid (only_set hG.out (.inl rfl) _)⟩
          case measure => simp [intOf]; omega
    · have hkn : k = n := by omega
      subst hkn
      go_wp2
      rw [Exit.noGoto_normal]
      go_end0
      have he := hI.out.done HN.out (by have := HL.out; omega)
      exact ⟨cy, cur, rfl, by rw [hI.out.1, HN.out], hI.out.2.1, by rw [HN.out]; exact he, hS.out, hG.out⟩
end Go.Proofs.YtfggnoejcgehdaaGreatDoor
namespace Go.Proofs.YtfggnoejcgehdaaGreatDoor
open Go.RowKit Nx
theorem below_drewN {B : Nat} {a w : World} (h : Below B a w) (n : Nat) : Below B a (w.drewN n) := ⟨h.os, h.tape, h.output, h.size, h.block⟩
def SubOut (w : World) (X Y : Nat) (e : Ending) (w' : World) : Prop :=
  ∃ (A : Option Addr) (n c : Nat), e = .returned (.tuple #[.slice A n c, .bool (decide (Y ≤ X))]) ∧ Rd .u64 w' w.heap.size w'.heap.size A n c (digs B64 (X - Y)) ∧ Below w.heap.size w w' ∧ Fr w' A n
set_option maxRecDepth 100000 in
set_option maxHeartbeats 1000000 in
theorem sub_any (w : World) (lo hi : Nat) (A B : Option Addr) (n c m cb : Nat) (xs ys : List Nat) (ha : Rd .u64 w lo hi A n c xs) (hb : Rd .u64 w lo hi B m cb ys) (hxs : Small B64 xs) (hys : Small B64 ys)
    (hn : n ≤ 100000000) (hm : m ≤ 100000000) (hhi : hi ≤ w.heap.size) :
    Calls Tryz.prog 148 #[.slice A n c, .slice B m cb] w (SubOut w (nval B64 xs) (nval B64 ys)) := by
  have ux := ulen_le hxs
  have uy := ulen_le hys
  rw [ha.1] at ux
  rw [hb.1] at uy
  have HA := Lib.hid ha; have HB := Lib.hid hb; have HX := Lib.hid hxs; have HY := Lib.hid hys
  clear ha hb hxs hys
  obtain ⟨X, hX⟩ : ∃ X, X = nval B64 xs := ⟨_, rfl⟩
  obtain ⟨Y, hY⟩ : ∃ Y, Y = nval B64 ys := ⟨_, rfl⟩
  rw [← hX, ← hY]
  have HXv := Lib.hid hX; have HYv := Lib.hid hY
  clear hX hY
  go_enter Tryz.func148, Tryz.ntmps148
  go_wp2_with fail
  refine (used_any w lo hi A n c xs HA.out HX.out (by omega)).mono ?_
  rintro e w' ⟨A1, c1, rfl, rfl, hA1, hc1⟩
  have H1 := Lib.hid (HA.out.used HX.out hA1 hc1)
  clear hA1 hc1
  go_wp2_with fail
  refine (used_any w lo hi B m cb ys HB.out HY.out (by omega)).mono ?_
  rintro e w' ⟨A2, c2, rfl, rfl, hA2, hc2⟩
  have H2 := Lib.hid (HB.out.used HY.out hA2 hc2)
  clear hA2 hc2 HA HB HX HY
  generalize ulen xs = n1 at *
  generalize ulen ys = n2 at *
  rw [← HXv.out] at H1
  rw [← HYv.out] at H2
  go_wp2_with fail
  refine (cmp_any w lo hi A1 A2 n1 c1 n2 c2 _ _ H1.out H2.out (small_digs B64_two _) (small_digs B64_two _) (by omega) (by omega)).mono ?_
  rintro e w' ⟨dn, rfl, rfl⟩
  rw [nval_digs B64_two, nval_digs B64_two]
  rcases Nat.lt_or_ge X Y with hlt | hge
  · rw [cmpv_lt hlt]
    have HLT := Lib.hid hlt
    clear hlt
    go_wp2
    go_ret2
    refine ⟨none, 0, 0, ?_, ?_, below_drewN (Below.refl _ _) _, fun _ j _ hj => absurd hj (by omega)⟩
    · exact congrArg (fun b => Ending.returned (.tuple #[.slice none 0 0, .bool b])) (by have := HLT.out; simp; omega)
    · rw [show X - Y = 0 by have := HLT.out; omega, digs_zero]; exact Rd.none_
  · have hc0 : 0 ≤ cmpv X Y := by
      rcases Nat.lt_or_ge Y X with h | h
      · rw [cmpv_gt h]; omega
      · rw [cmpv_eq (by omega)]; omega
    generalize cmpv X Y = cv at *
    have HGE := Lib.hid hge
    clear hge
    have hl12 : n2 ≤ n1 := by
      rcases Nat.lt_or_ge n1 n2 with h | h
      · have := nval_le_of_len B64_two (m := X) (n := Y) (by rw [H1.out.1, H2.out.1]; exact h)
        have := HGE.out; omega
      · exact h
    have hmk := fun W => make64 (n1 : Int) n1 rfl (by omega) W
    obtain ⟨w2, hcp, hrow, honly⟩ := copy64 ((w.drewN dn).alloc (zrow .u64 53 n1)) lo hi w.heap.size n1 n1 c1 A1 _ _ (zrow_row _ _ _ (w.drewN dn)) ((H1.out.drewN dn).alloc hhi _) (by simp)
    rw [List.length_replicate] at hcp
    have hrow2 : Row .u64 w2 w.heap.size 53 (digs B64 X) := by
      have e : List.drop n1 (List.replicate n1 0) = [] := by rw [List.drop_replicate, Nat.sub_self]; rfl
      rw [e, List.append_nil] at hrow; exact hrow
    have hb2 : Below w.heap.size w w2 := ((below_drewN (Below.refl w.heap.size w) dn).alloc (Nat.le_refl _) _).trans (only_below honly (by simp) (Nat.le_refl _))
    have HRow := Lib.hid hrow2
    have HB2 := Lib.hid hb2
    have hq2 := Lib.hid (H2.out.below (hb2.mono hhi))
    clear hrow hrow2 honly hb2
    go_wp2_with fail
    refine (subFrom_any w2 lo hi w.heap.size 0 n1 n1 n2 c2 A2 [] (digs B64 X) [] (digs B64 Y) (Row.toSeg HRow.out (by simp)) rfl H1.out.1 (by omega) hq2.out hhi hl12 (small_digs B64_two _) (small_digs B64_two _) (by omega)).mono ?_
    rintro e w3 ⟨cy, out, rfl, hol, hos, hov, hseg, hon3⟩
    have hr3 : Row .u64 w3 w.heap.size 53 out := by
      have : ([] ++ out ++ [] : List Nat) = out := by simp
      unfold Seg at hseg; rw [this] at hseg; exact hseg
    have hb3 : Below w.heap.size w w3 := HB2.out.trans (only_below hon3 (by have := HRow.out.lt; omega) (Nat.le_refl _))
    have hN : nval B64 out = X - Y := by
      rw [nval_digs B64_two, nval_digs B64_two] at hov
      have h1 := nval_lt hos
      rw [hol] at h1
      have := HGE.out
      rcases Nat.eq_zero_or_pos cy with e | e
      · subst e; omega
      · have h8 : B64 ^ (digs B64 X).length * 1 ≤ B64 ^ (digs B64 X).length * cy := Nat.mul_le_mul_left _ e
        omega
    have hol2 : out.length = n1 := by rw [hol]; exact H1.out.1
    have HR3 := Lib.hid hr3
    have HB3 := Lib.hid hb3
    have HN := Lib.hid hN
    have HOS := Lib.hid hos
    have HOL := Lib.hid hol2
    clear hr3 hb3 hN hos hol2 hol hov hseg hon3
    go_wp2_with fail
    have hrd : Rd .u64 w3 w.heap.size w3.heap.size (some ⟨w.heap.size, 0, none⟩) n1 n1 out := by
      have := HR3.out.rd0 (lo := w.heap.size) (hi := w3.heap.size) (c := n1) (Nat.le_refl _) HR3.out.lt (by rw [HOL.out]; omega)
      rw [HOL.out] at this; exact this
    refine (used_any w3 w.heap.size w3.heap.size (some ⟨w.heap.size, 0, none⟩) n1 n1 out hrd HOS.out (by omega)).mono ?_
    rintro e w' ⟨A3, c3, rfl, rfl, hA3, hc3⟩
    have hfin := hrd.used HOS.out hA3 hc3
    rw [HN.out] at hfin
    have HF := Lib.hid hfin
    clear hfin
    go_wp2
    go_ret2
    refine ⟨_, _, _, ?_, HF.out, HB3.out, HR3.out.fr hA3⟩
    exact congrArg (fun b => Ending.returned (.tuple #[.slice A3 (ulen out) c3, .bool b])) (by have := HGE.out; simp; omega)
end Go.Proofs.YtfggnoejcgehdaaGreatDoor
namespace Go.Proofs.YtfggnoejcgehdaaGreatDoor
open Go.RowKit Nx
theorem prod_parts {B a b x c l0 h0 s1 c1 s2 c2 : Nat} (hB : 2 ≤ B) (ha : a < B) (hb : b < B) (hx : x < B) (hc : c < B) (hl : l0 = a * b % B) (hh : h0 = a * b / B) (h1 : s1 = (l0 + c + 0) % B) (h2 : c1 = (l0 + c + 0) / B)
    (h3 : s2 = (s1 + x + 0) % B) (h4 : c2 = (s1 + x + 0) / B) : s2 = (x + a * b + c) % B ∧ h0 + c1 + c2 = (x + a * b + c) / B ∧ h0 + c1 + c2 < B := by
  have e1 := Nat.mod_add_div (a * b) B
  have e2 := Nat.mod_add_div (l0 + c + 0) B
  have e3 := Nat.mod_add_div (s1 + x + 0) B
  rw [← hl, ← hh] at e1
  rw [← h1, ← h2] at e2
  rw [← h3, ← h4] at e3
  have hs2 : s2 < B := by rw [h3]; exact Nat.mod_lt _ (by omega)
  have hsum : x + a * b + c = s2 + B * (h0 + c1 + c2) := by
    rw [Nat.mul_add, Nat.mul_add]; omega
  have hbig : (x + b * a + c) / B < B := mul_carry hx hb ha hc
  rw [Nat.mul_comm b a] at hbig
  have q1 : (x + a * b + c) % B = s2 := by rw [hsum, Nat.add_mul_mod_self_left, Nat.mod_eq_of_lt hs2]
  have q2 : (x + a * b + c) / B = h0 + c1 + c2 := by rw [hsum, Nat.add_mul_div_left _ _ (by omega), Nat.div_eq_of_lt hs2, Nat.zero_add]
  exact ⟨q1.symm, q2.symm, by rw [← q2]; exact hbig⟩
set_option maxRecDepth 100000 in
set_option maxHeartbeats 1000000 in
theorem addProduct_any (x a b c : Nat) (hx : x < B64) (ha : a < B64) (hb : b < B64) (hc : c < B64) (w : World) :
    Calls Tryz.prog 175 #[.int .u64 (x : Int), .int .u64 (a : Int), .int .u64 (b : Int), .int .u64 (c : Int)] w
      fun e w' => e = .returned (.tuple #[.int .u64 (((x + a * b + c) % B64 : Nat) : Int), .int .u64 (((x + a * b + c) / B64 : Nat) : Int)]) ∧ w = w' := by
  obtain ⟨l0, hl⟩ : ∃ l0, l0 = a * b % B64 := ⟨_, rfl⟩
  obtain ⟨h0, hh⟩ : ∃ h0, h0 = a * b / B64 := ⟨_, rfl⟩
  obtain ⟨s1, h1⟩ : ∃ s1, s1 = (l0 + c + 0) % B64 := ⟨_, rfl⟩
  obtain ⟨c1, h2⟩ : ∃ c1, c1 = (l0 + c + 0) / B64 := ⟨_, rfl⟩
  obtain ⟨s2, h3⟩ : ∃ s2, s2 = (s1 + x + 0) % B64 := ⟨_, rfl⟩
  obtain ⟨c2, h4⟩ : ∃ c2, c2 = (s1 + x + 0) / B64 := ⟨_, rfl⟩
  obtain ⟨r1, r2, r3⟩ := prod_parts B64_two ha hb hx hc hl hh h1 h2 h3 h4
  have hm := mul64_any a b ha hb w
  rw [← hl, ← hh] at hm
  have HM := Lib.hid hm
  have ha1 := add64_run l0 c 0 (by omega)
  have ha2 := add64_run s1 x 0 (by omega)
  rw [← h1, ← h2, show ((0 : Nat) : Int) = 0 from rfl] at ha1
  rw [← h3, ← h4, show ((0 : Nat) : Int) = 0 from rfl] at ha2
  rw [← r1, ← r2]
  obtain ⟨H1, hH1⟩ : ∃ H1, H1 = h0 + c1 := ⟨_, rfl⟩
  obtain ⟨H2, hH2⟩ : ∃ H2, H2 = H1 + c2 := ⟨_, rfl⟩
  have r3' : h0 + c1 + c2 < 18446744073709551616 := r3
  have w1 : IntKind.u64.wrap ((h0 : Int) + (c1 : Int)) = (H1 : Int) := by rw [cast_add, u64_fits _ (by omega), hH1]
  have w2 : IntKind.u64.wrap ((H1 : Int) + (c2 : Int)) = (H2 : Int) := by rw [cast_add, u64_fits _ (by omega), hH2]
  rw [← hH1, ← hH2]
  clear hm hl hh h1 h2 h3 h4 r1 r2 r3 r3' hH1 hH2
  go_enter Tryz.func175, Tryz.ntmps175
  go_wp2_with (go_at_call 167; refine (HM.out).mono ?_; rintro e w' ⟨rfl, rfl⟩)
  go_ret2
  exact ⟨rfl, rfl⟩
def RowRel (w : World) (g : Nat) (pre seg post ys : List Nat) (f n m : Nat) (u c : Value) (wr : World) : Prop :=
  ∃ (k cy : Nat) (cur : List Nat), k ≤ m ∧ u = .int .i64 (k : Int) ∧ c = .int .u64 (cy : Int) ∧
    Hid (MulI B64 n k cy f cur seg ys ∧ cy < B64) ∧ Hid (Seg .u64 wr g 53 pre cur post) ∧ Hid (w.grownBy wr (some g))
def RowPost (w : World) (g : Nat) (pre seg post ys : List Nat) (f m : Nat) (e : Ending) (w' : World) : Prop :=
  ∃ (out : List Nat), e = .returned (.tuple #[]) ∧ out.length = m + 1 ∧ Small B64 out ∧ nval B64 out = nval B64 (seg.take m) + f * nval B64 ys ∧
    Seg .u64 w' g 53 pre out post ∧ w.grownBy w' (some g)
set_option maxRecDepth 100000 in
set_option maxHeartbeats 1000000 in
theorem addRow_any (w : World) (lo hi g o m c cb f : Nat) (A : Option Addr) (pre seg post ys : List Nat) (hs : Seg .u64 w g 53 pre seg post) (ho : pre.length = o) (hn : seg.length = m + 1) (hnc : m + 1 ≤ c)
    (hb : Rd .u64 w lo hi A m cb ys) (hg : hi ≤ g) (hsm : Small B64 seg) (hys : Small B64 ys) (hf : f < B64) (hbig : m ≤ 1000000000) :
    Calls Tryz.prog 153 #[.slice (some ⟨g, o, none⟩) (m + 1) c, .slice A m cb, .int .u64 (f : Int)] w (RowPost w g pre seg post ys f m) := by
  have HS := Lib.hid hs; have HO := Lib.hid ho; have HN := Lib.hid hn; have HB := Lib.hid hb; have HM := Lib.hid hsm; have HY := Lib.hid hys; have HF := Lib.hid hf
  have HL := Lib.hid hb.1
  clear hs ho hn hb hsm hys hf
  go_enter Tryz.func153, Tryz.ntmps153
  go_wp2
  go_loopw [10, 6] (fun u c wr => RowRel w g pre seg post ys f (m + 1) m u c wr) (fun u _ _ => m - (intOf u).toNat)
  case atStart => exact ⟨0, 0, seg, Nat.zero_le _, rfl, rfl, Lib.hid ⟨MulI.start HN.out HM.out, by unfold B64; omega⟩, HS, Lib.hid (only_refl _ _)⟩
  case round =>
    obtain ⟨k, cy, cur, hk, rfl, rfl, hI, hS, hG⟩ := hrel
    by_cases hlt : k < m
    · obtain ⟨x, hx⟩ : ∃ x, cur[k]? = some x := ⟨cur[k]'(by have := hI.out.1.1; omega), List.getElem?_eq_getElem _⟩
      have hcx := hS.out.cell HO.out hx
      have hfx := hS.out.frozen (o + k)
      have HX := Lib.hid hx
      clear hx
      have i1 : (0 : Int) ≤ (k : Int) := by omega
      have i2 : (k : Int) < (m : Int) + 1 := by omega
      have i3 : (k : Int) < (m : Int) := by omega
      obtain ⟨ad, y, hA, _, hbl, hy, hcy0⟩ := HB.out.get_ (j := k) (by omega)
      subst hA
      have hcy1 : wr.cell? (ad.add k) = some (.int .u64 (y : Int)) := by
        rw [← hcy0]; exact World.cell?_of_block (hG.out.block _ (by rw [block_of_add]; have := HS.out.lt; omega) (by rw [block_of_add]; intro e; injection e with e; omega))
      have hI2 := Lib.hid (And.intro (hI.out.1.step B64_two HX.out (getD_of hy.out)) (mul_carry (hI.out.1.2.1.get HX.out) (HY.out.get hy.out) HF.out hI.out.2))
      have hcall := fun W => Lib.hid (addProduct_any x y f cy (hI.out.1.2.1.get HX.out) (HY.out.get hy.out) HF.out hI.out.2 W)
      have hS2 := fun v => Lib.hid (hS.out.set_ HO.out (i := k) (by have := hI.out.1.1; omega) v)
      obtain ⟨v, hv⟩ : ∃ v, v = (x + y * f + cy) % B64 := ⟨_, rfl⟩
      obtain ⟨d, hd⟩ : ∃ d, d = (x + y * f + cy) / B64 := ⟨_, rfl⟩
      rw [← hv, ← hd] at hcall hI2
      have hS3 := hS2 v
      clear hcy0 hv hd hS2
      go_wp2
      go_region_with (go_at_call 175; refine (hcall _).out.mono ?_; rintro e w' ⟨rfl, rfl⟩)
      all_goals
        go_wp2
        go_roundw
        case rel => exact ⟨k + 1, d, _, by omega, by go_num, rfl, hI2, Lib.hid hS3.out, Lib.hid (only_drew (only_set hG.out (.inl rfl) _))⟩
        case measure => simp [intOf]; omega
    · have hkn : k = m := by omega
      subst hkn
      obtain ⟨x, hx⟩ : ∃ x, cur[k]? = some x := ⟨cur[k]'(by have := hI.out.1.1; omega), List.getElem?_eq_getElem _⟩
      have hcx := hS.out.cell HO.out hx
      have hfx := hS.out.frozen (o + k)
      have hS3 := Lib.hid (hS.out.set_ HO.out (i := k) (by have := hI.out.1.1; omega) cy)
      have i2 : (k : Int) < (k : Int) + 1 := by omega
      clear hx
      go_wp2
      go_end0
      have hd := hI.out.1.done HL.out
      have hl := hI.out.1.1
      refine ⟨_, rfl, by simpa using hl, hI.out.1.2.1.set k hI.out.2, ?_, hS3.out, only_set hG.out (.inl rfl) _⟩
      rw [← hd, ← List.take_of_length_le (l := cur.set k cy) (i := k + 1) (by simp; omega), nval_take_succ, take_set_same, getD_set _ _ _ (by omega)]
end Go.Proofs.YtfggnoejcgehdaaGreatDoor
namespace Go.Proofs.YtfggnoejcgehdaaGreatDoor
open Go.RowKit Nx
def MulJ (B n m k : Nat) (out xs ys : List Nat) : Prop :=
  out.length = n + m ∧ Small B out ∧ nval B out = nval B (xs.take k) * nval B ys ∧ out.drop (k + m) = List.replicate (n - k) 0
theorem MulJ.start {B n m : Nat} {xs ys : List Nat} (hB : 2 ≤ B) : MulJ B n m 0 (List.replicate (n + m) 0) xs ys :=
  ⟨by simp, small_replicate (by omega), by rw [nval_zeros]; simp [nval], by rw [List.drop_replicate]; congr 1; omega⟩
theorem MulJ.parts {B n m k f : Nat} {out xs ys : List Nat} (h : MulJ B n m k out xs ys) (hk : k < n) (hf : xs[k]? = some f) :
    ∃ pre seg post : List Nat, out = pre ++ seg ++ post ∧ pre.length = k ∧ seg.length = m + 1 ∧ Small B seg ∧
      ∀ o2 : List Nat, o2.length = m + 1 → Small B o2 → nval B o2 = nval B (seg.take m) + f * nval B ys → MulJ B n m (k + 1) (pre ++ o2 ++ post) xs ys := by
  obtain ⟨h1, h2, h3, h4⟩ := h
  have hz : out.drop (k + m) = 0 :: List.replicate (n - k - 1) 0 := by
    rw [h4, show n - k = (n - k - 1) + 1 by omega, List.replicate_succ]; rfl
  refine ⟨out.take k, (out.drop k).take (m + 1), out.drop (k + m + 1), ?_, by simp; omega, by simp; omega, (h2.drop k).take _, ?_⟩
  · rw [List.append_assoc, show out.drop (k + m + 1) = (out.drop k).drop (m + 1) by rw [List.drop_drop, Nat.add_assoc], List.take_append_drop, List.take_append_drop]
  · intro o2 g1 g2 g3
    have hpost : out.drop (k + m + 1) = List.replicate (n - k - 1) 0 := by
      have := congrArg (List.drop 1) hz
      rw [List.drop_drop] at this
      simpa using this
    refine ⟨?_, ((h2.take k).append g2).append (h2.drop _), ?_, ?_⟩
    · simp; omega
    · have e1 : ((out.drop k).take (m + 1)).take m = (out.drop k).take m := by rw [List.take_take]; congr 1; omega
      rw [e1] at g3
      have e2 : nval B out = nval B (out.take k) + B ^ k * nval B (out.drop k) := nval_split B out k (by omega)
      have e3 : nval B (out.drop k) = nval B ((out.drop k).take m) + B ^ m * nval B ((out.drop k).drop m) := nval_split B (out.drop k) m (by simp; omega)
      rw [List.drop_drop, h4, nval_zeros, Nat.mul_zero, Nat.add_zero] at e3
      rw [List.append_assoc, nval_append, nval_append, g1, hpost, nval_zeros, Nat.mul_zero, Nat.add_zero, g3, List.length_take, Nat.min_eq_left (by omega), nval_take_succ, getD_of hf, Nat.add_mul, ← h3, e2, e3]
      grind
    · rw [List.append_assoc, List.drop_append, List.drop_append]
      have l1 : (out.take k).length = k := by simp; omega
      rw [l1, g1, List.drop_of_length_le (l := out.take k) (by omega), List.drop_of_length_le (l := o2) (by omega), List.nil_append, List.nil_append, hpost, List.drop_replicate]
      congr 1; omega
theorem only_trans {a b c : World} {row : Option Nat} (h : a.grownBy b row) (k : b.grownBy c row) : a.grownBy c row :=
  ⟨k.os.trans h.os, k.tape.trans h.tape, k.output.trans h.output, Nat.le_trans h.size k.size, fun i hi hne => (k.block i (Nat.lt_of_lt_of_le hi h.size) hne).trans (h.block i hi hne)⟩
def MulRel (w : World) (g n m : Nat) (xs ys : List Nat) (u : Value) (wr : World) : Prop :=
  ∃ (k : Nat) (out : List Nat), k ≤ n ∧ u = .int .i64 (k : Int) ∧ Hid (MulJ B64 n m k out xs ys) ∧ Hid (Row .u64 wr g 53 out) ∧ Hid (w.grownBy wr (some g))
set_option maxRecDepth 100000 in
set_option maxHeartbeats 1000000 in
theorem mul_any (w : World) (lo hi : Nat) (A B : Option Addr) (n c m cb : Nat) (xs ys : List Nat) (ha : Rd .u64 w lo hi A n c xs) (hb : Rd .u64 w lo hi B m cb ys) (hxs : Small B64 xs) (hys : Small B64 ys)
    (hn : n ≤ 100000000) (hm : m ≤ 100000000) (hhi : hi ≤ w.heap.size) :
    Calls Tryz.prog 101 #[.slice A n c, .slice B m cb] w (NumPost w (nval B64 xs * nval B64 ys)) := by
  have ux := ulen_le hxs
  have uy := ulen_le hys
  rw [ha.1] at ux
  rw [hb.1] at uy
  have HA := Lib.hid ha; have HB := Lib.hid hb; have HX := Lib.hid hxs; have HY := Lib.hid hys
  clear ha hb hxs hys
  obtain ⟨X, hX⟩ : ∃ X, X = nval B64 xs := ⟨_, rfl⟩
  obtain ⟨Y, hY⟩ : ∃ Y, Y = nval B64 ys := ⟨_, rfl⟩
  rw [← hX, ← hY]
  have HXv := Lib.hid hX; have HYv := Lib.hid hY
  clear hX hY
  go_enter Tryz.func101, Tryz.ntmps101
  go_wp2_with fail
  refine (used_any w lo hi A n c xs HA.out HX.out (by omega)).mono ?_
  rintro e w' ⟨A1, c1, rfl, rfl, hA1, hc1⟩
  have H1 := Lib.hid (HA.out.used HX.out hA1 hc1)
  clear hA1 hc1
  go_wp2_with fail
  refine (used_any w lo hi B m cb ys HB.out HY.out (by omega)).mono ?_
  rintro e w' ⟨A2, c2, rfl, rfl, hA2, hc2⟩
  have H2 := Lib.hid (HB.out.used HY.out hA2 hc2)
  clear hA2 hc2 HA HB HX HY
  generalize ulen xs = n1 at *
  generalize ulen ys = n2 at *
  rw [← HXv.out] at H1
  rw [← HYv.out] at H2
  have hzero : n1 = 0 ∨ n2 = 0 → X * Y = 0 := by
    rintro (h | h)
    · have := (digs_eq_nil B64_two).1 (List.eq_nil_of_length_eq_zero (H1.out.1.trans h)); rw [this, Nat.zero_mul]
    · have := (digs_eq_nil B64_two).1 (List.eq_nil_of_length_eq_zero (H2.out.1.trans h)); rw [this, Nat.mul_zero]
  have HZ := Lib.hid hzero
  clear hzero
  rcases Nat.eq_zero_or_pos n1 with e1 | e1
  · have HE := Lib.hid (HZ.out (.inl e1))
    subst e1
    go_wp2
    go_ret
    exact ⟨none, 0, 0, rfl, by rw [HE.out, digs_zero]; exact Rd.none_, Below.refl _ _, fun _ j _ hj => absurd hj (by omega)⟩
  · have f1 : ((n1 : Int) == 0) = false := by simp; omega
    rcases Nat.eq_zero_or_pos n2 with e2 | e2
    · have HE := Lib.hid (HZ.out (.inr e2))
      subst e2
      go_wp2
      go_ret
      exact ⟨none, 0, 0, rfl, by rw [HE.out, digs_zero]; exact Rd.none_, Below.refl _ _, fun _ j _ hj => absurd hj (by omega)⟩
    · have f2 : ((n2 : Int) == 0) = false := by simp; omega
      have hmk := fun W => make64 ((n1 : Int) + (n2 : Int)) (n1 + n2) (by omega) (by omega) W
      have HRow := Lib.hid (zrow_row .u64 53 (n1 + n2) w)
      have HB0 := Lib.hid ((Below.refl w.heap.size w).alloc (Nat.le_refl _) (zrow .u64 53 (n1 + n2)))
      have HSz := Lib.hid (show w.heap.size < (w.alloc (zrow .u64 53 (n1 + n2))).heap.size by simp)
      go_wp2
      generalize hw0 : w.alloc (zrow .u64 53 (n1 + n2)) = w0 at *
      clear hw0
      go_loopw [27] (fun u wr => MulRel w0 w.heap.size n1 n2 (digs B64 X) (digs B64 Y) u wr) (fun u _ => n1 - (intOf u).toNat)
      case atStart => exact ⟨0, _, Nat.zero_le _, rfl, Lib.hid (MulJ.start B64_two), HRow, Lib.hid (only_refl _ _)⟩
      case round =>
        obtain ⟨k, out, hk, rfl, hI, hR, hG⟩ := hrel
        have hbw : Below w.heap.size w wr := HB0.out.trans (only_below hG.out (by have := HSz.out; omega) (Nat.le_refl _))
        by_cases hlt : k < n1
        · obtain ⟨ad, x, hA, _, hbl, hx, hcx0⟩ := H1.out.get_ (j := k) hlt
          subst hA
          have hcx : wr.cell? (ad.add k) = some (.int .u64 (x : Int)) := by rw [← hcx0]; exact hbw.cell (by rw [block_of_add]; omega)
          obtain ⟨pre, seg, post, q1, q2, q3, q4, q5⟩ := hI.out.parts hlt hx.out
          have hq2 := H2.out.below (hbw.mono hhi)
          have hcall := fun W (h1 : Seg .u64 W w.heap.size 53 pre seg post) (h2 : Rd .u64 W lo hi A2 n2 c2 (digs B64 Y)) =>
            Lib.hid (addRow_any W lo hi w.heap.size k n2 (n1 + n2 - k) c2 x A2 pre seg post (digs B64 Y) h1 q2 q3 (by omega) h2 hhi q4 (small_digs B64_two _) ((small_digs B64_two _).get hx.out) (by omega))
          have HC := Lib.hid hcall
          have HQ := Lib.hid (And.intro (hR.out.toSeg q1) (And.intro hq2 q5))
          clear hcall q1 q2 q3 q4 q5 hq2 hcx0
          have HBW := Lib.hid hbw
          clear hbw
          have i1 : (0 : Int) ≤ (k : Int) := by omega
          have i2 : (k : Int) < (n1 : Int) := by omega
          have i3 : (k : Int) ≤ (k : Int) + (n2 : Int) + 1 := by omega
          have i4 : (k : Int) + (n2 : Int) + 1 ≤ (n1 : Int) + (n2 : Int) := by omega
          have hsl := fun W => slice64 w.heap.size (n1 + n2) (n1 + n2) k (k + n2 + 1) (k : Int) ((k : Int) + (n2 : Int) + 1) rfl (by omega) (by omega) (by omega) (by omega) W
          rw [show k + n2 + 1 - k = n2 + 1 by omega] at hsl
          have j1 : IntKind.i64.wrap ((k : Int) + (n2 : Int)) = (k : Int) + (n2 : Int) := IntWalk.i64_in _ (by omega)
          have j2 : IntKind.i64.wrap ((k : Int) + (n2 : Int) + 1) = (k : Int) + (n2 : Int) + 1 := IntWalk.i64_in _ (by omega)
          go_wp2
          go_region_with (go_at_call 153; refine (HC.out _ ?_ ?_).out.mono ?_; (exact HQ.out.1); (exact HQ.out.2.1); rintro e w' ⟨o2, rfl, z1, z2, z3, z4, z5⟩)
          have hJ := Lib.hid (HQ.out.2.2 o2 z1 z2 z3)
          have hR2 : Row .u64 w' w.heap.size 53 (pre ++ o2 ++ post) := z4
          have HR2 := Lib.hid hR2
          have HG2 := Lib.hid (only_trans (only_drew hG.out) z5)
          clear z1 z2 z3 z4 z5 hR2 hsl j1 j2
          go_wp2
          go_roundw
          case rel => exact ⟨k + 1, _, by omega, by go_num, hJ, HR2, HG2⟩
          case measure => simp [intOf]; omega
        · have hkn : k = n1 := by omega
          subst hkn
          have hl := hI.out.1
          have hval : nval B64 out = X * Y := by
            have := hI.out.2.2.1
            rw [List.take_of_length_le (by rw [H1.out.1]; omega), nval_digs B64_two, nval_digs B64_two] at this
            exact this
          have hrd : Rd .u64 wr w.heap.size wr.heap.size (some ⟨w.heap.size, 0, none⟩) (k + n2) (k + n2) out := by
            have := hR.out.rd0 (lo := w.heap.size) (hi := wr.heap.size) (c := k + n2) (Nat.le_refl _) hR.out.lt (by rw [hl]; omega)
            rw [hl] at this; exact this
          have HRD := Lib.hid hrd
          have HV := Lib.hid hval
          have HBW := Lib.hid hbw
          clear hl hval hrd hbw
          go_wp2_with fail
          refine (used_any wr w.heap.size wr.heap.size (some ⟨w.heap.size, 0, none⟩) (k + n2) (k + n2) out HRD.out hI.out.2.1 (by omega)).mono ?_
          rintro e w' ⟨A3, c3, rfl, rfl, hA3, hc3⟩
          have hfin := HRD.out.used hI.out.2.1 hA3 hc3
          rw [HV.out] at hfin
          have HF := Lib.hid hfin
          clear hfin
          go_wp2
          go_ret
          exact ⟨_, _, _, rfl, HF.out, HBW.out, hR.out.fr hA3⟩
end Go.Proofs.YtfggnoejcgehdaaGreatDoor
