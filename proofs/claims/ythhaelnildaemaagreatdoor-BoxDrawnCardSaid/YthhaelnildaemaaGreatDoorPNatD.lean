/- nat.subFrom, nat.Sub. nat.Sub. nat.addProduct, nat.addRow. nat.Mul. -/
import Derived.Test.YthhaelnildaemaaGreatDoorPNatC
import Derived.RegionTactic
namespace Go.Proofs.YthhaelnildaemaaGreatDoor
open Go.RowKit Nx
def SubRel (w : World) (g : Nat) (pre seg post ys : List Nat) (n : Nat) (u c : Value) (wr : World) : Prop :=
  ∃ (k cy : Nat) (cur : List Nat), k ≤ n ∧ u = .int .i64 (k : Int) ∧ c = .int .u64 (cy : Int) ∧ cy ≤ 1 ∧
    Hid (SubI B64 n k cy cur seg ys) ∧ Hid (Seg .u64 wr g 56 pre cur post) ∧ Hid (w.grownBy wr (some g))
def SubPost (w : World) (g : Nat) (pre seg post ys : List Nat) (e : Ending) (w' : World) : Prop :=
  ∃ (cy : Nat) (out : List Nat), e = .returned (.tuple #[]) ∧ out.length = seg.length ∧ Small B64 out ∧ nval B64 out + nval B64 ys = nval B64 seg + B64 ^ seg.length * cy ∧
    Seg .u64 w' g 56 pre out post ∧ w.grownBy w' (some g)
set_option maxRecDepth 100000 in
set_option maxHeartbeats 1000000 in
theorem subFrom_any (w : World) (lo hi g o n c m cb : Nat) (A : Option Addr) (pre seg post ys : List Nat) (hs : Seg .u64 w g 56 pre seg post) (ho : pre.length = o) (hn : seg.length = n) (hnc : n ≤ c)
    (hb : Rd .u64 w lo hi A m cb ys) (hg : hi ≤ g) (hmn : m ≤ n) (hsm : Small B64 seg) (hys : Small B64 ys) (hbig : n ≤ 1000000000) :
    Calls Tryz.prog 193 #[.slice (some ⟨g, o, none⟩) n c, .slice A m cb] w (SubPost w g pre seg post ys) := by
  have HS := Lib.hid hs; have HO := Lib.hid ho; have HN := Lib.hid hn; have HB := Lib.hid hb; have HM := Lib.hid hsm; have HY := Lib.hid hys
  have HL := Lib.hid hb.1
  clear hs ho hn hb hsm hys
  go_enter Tryz.func193, Tryz.ntmps193
  go_wp2
  go_step3
  go_wp2
  go_step3
  go_wp2
  go_loopw [8, 4] (fun u c wr => SubRel w g pre seg post ys n u c wr) (fun u _ _ => n - (intOf u).toNat)
  case atStart => exact ⟨0, 0, seg, Nat.zero_le _, rfl, rfl, Nat.zero_le _, Lib.hid (SubI.start HN.out HM.out), HS, Lib.hid (only_refl _ _)⟩
  case round =>
    obtain ⟨k, cy, cur, hk, rfl, rfl, hcy, hI, hS, hG⟩ := hrel
    by_cases hlt : k < n
    · obtain ⟨x, hx⟩ : ∃ x, cur[k]? = some x := ⟨cur[k]'(by have := hI.out.1; omega), List.getElem?_eq_getElem _⟩
      have hcx := hS.out.cell HO.out hx
      have hfx := hS.out.frozen (o + k)
      have HX := Lib.hid hx
      clear hx
      have i1 : (0 : Int) ≤ (k : Int) := by omega
      have i2 : (k : Int) < (n : Int) := by omega
      have hxB := hI.out.2.1.get HX.out
      by_cases hkm : k < m
      · obtain ⟨ad, y, hA, _, hbl, hy, hcy0⟩ := HB.out.get_ (j := k) (by omega)
        subst hA
        have hcy1 : wr.cell? (ad.add k) = some (.int .u64 (y : Int)) := by
          rw [← hcy0]; exact World.cell?_of_block (hG.out.block _ (by rw [block_of_add]; have := HS.out.lt; omega) (by rw [block_of_add]; intro e; injection e with e; omega))
        have hyB := HY.out.get hy.out
        obtain ⟨hw1, hw2⟩ := sub_word hxB hyB hcy
        have hI2 := Lib.hid (hI.out.step HX.out (getD_of hy.out) hw2 hw1)
        have hd1 : (if x < y + cy then 1 else 0) ≤ 1 := by split <;> omega
        have hadd := sub64_run x y cy hcy
        have hS2 := fun v => Lib.hid (hS.out.set_ HO.out (i := k) (by have := hI.out.1; omega) v)
        obtain ⟨v, hv⟩ : ∃ v, v = (x + B64 - y - cy) % B64 := ⟨_, rfl⟩
        obtain ⟨d, hd⟩ : ∃ d, d = (if x < y + cy then 1 else 0) := ⟨_, rfl⟩
        rw [← hv, ← hd] at hadd hI2
        rw [← hd] at hd1
        have hS3 := hS2 v
        clear hcy0 hv hd hS2 hw1 hw2 hxB hyB
        have i3 : (k : Int) < (m : Int) := by omega
        go_wp2
        go_region
        go_wp2
        go_roundw
        case rel => exact ⟨k + 1, d, _, by omega, by go_num, rfl, hd1, hI2, Lib.hid hS3.out, Lib.hid (only_drew (only_set hG.out (.inl rfl) _))⟩
        case measure => simp [intOf]; omega
      · by_cases hc0 : cy = 0
        · subst hc0
          clear hxB
          go_wp2
          rw [Exit.noGoto_normal]
          go_end0
          have he := hI.out.early HN.out hk (by have := HL.out; omega)
          exact ⟨0, cur, rfl, by rw [hI.out.1, HN.out], hI.out.2.1, by rw [he]; simp, hS.out, hG.out⟩
        · have hc1 : ((cy : Int) != 0) = true := by simp; omega
          obtain ⟨hw1, hw2⟩ := sub_word (y := 0) hxB (by unfold B64; omega) hcy
          have hI2 := Lib.hid (hI.out.step HX.out (getD_out (xs := ys) (k := k) (by have := HL.out; omega)) hw2 hw1)
          have hd1 : (if x < 0 + cy then 1 else 0) ≤ 1 := by split <;> omega
          have hadd := sub64_run x 0 cy hcy
          rw [show ((0 : Nat) : Int) = 0 from rfl] at hadd
          have hS2 := fun v => Lib.hid (hS.out.set_ HO.out (i := k) (by have := hI.out.1; omega) v)
          obtain ⟨v, hv⟩ : ∃ v, v = (x + B64 - 0 - cy) % B64 := ⟨_, rfl⟩
          obtain ⟨d, hd⟩ : ∃ d, d = (if x < 0 + cy then 1 else 0) := ⟨_, rfl⟩
          rw [← hv, ← hd] at hadd hI2
          rw [← hd] at hd1
          have hS3 := hS2 v
          clear hv hd hS2 hw1 hw2 hxB
          go_wp2
          go_roundw
          case rel => exact ⟨k + 1, d, _, by omega, by go_num, rfl, hd1, hI2, Lib.hid hS3.out, Lib.hid (only_set hG.out (.inl rfl) _)⟩
          case measure => simp [intOf]; omega
    · have hkn : k = n := by omega
      subst hkn
      go_wp2
      rw [Exit.noGoto_normal]
      go_end0
      have he := hI.out.done HN.out (by have := HL.out; omega)
      exact ⟨cy, cur, rfl, by rw [hI.out.1, HN.out], hI.out.2.1, by rw [HN.out]; exact he, hS.out, hG.out⟩
end Go.Proofs.YthhaelnildaemaaGreatDoor
namespace Go.Proofs.YthhaelnildaemaaGreatDoor
open Go.RowKit Nx
theorem below_drewN {B : Nat} {a w : World} (h : Below B a w) (n : Nat) : Below B a (w.drewN n) := ⟨h.os, h.tape, h.output, h.size, h.block⟩
def SubOut (w : World) (X Y : Nat) (e : Ending) (w' : World) : Prop :=
  ∃ (A : Option Addr) (n c : Nat), e = .returned (.tuple #[.slice A n c, .bool (decide (Y ≤ X))]) ∧ Rd .u64 w' w.heap.size w'.heap.size A n c (digs B64 (X - Y)) ∧ Below w.heap.size w w' ∧ Fr w' A n
set_option maxRecDepth 100000 in
set_option maxHeartbeats 1000000 in
theorem sub_any (w : World) (lo hi : Nat) (A B : Option Addr) (n c m cb : Nat) (xs ys : List Nat) (ha : Rd .u64 w lo hi A n c xs) (hb : Rd .u64 w lo hi B m cb ys) (hxs : Small B64 xs) (hys : Small B64 ys)
    (hn : n ≤ 100000000) (hm : m ≤ 100000000) (hhi : hi ≤ w.heap.size) :
    Calls Tryz.prog 143 #[.slice A n c, .slice B m cb] w (SubOut w (nval B64 xs) (nval B64 ys)) := by
  have ux := ulen_le hxs
  have uy := ulen_le hys
  rw [ha.1] at ux
  rw [hb.1] at uy
  have HA := Lib.hid ha; have HB := Lib.hid hb; have HX := Lib.hid hxs; have HY := Lib.hid hys
  clear ha hb hxs hys
  obtain ⟨X, hX⟩ : ∃ X, X = nval B64 xs := ⟨_, rfl⟩
  obtain ⟨Y, hY⟩ : ∃ Y, Y = nval B64 ys := ⟨_, rfl⟩
  rw [← hX, ← hY]
  have HXv := Lib.hid hX; have HYv := Lib.hid hY
  clear hX hY
  go_enter Tryz.func143, Tryz.ntmps143
  go_wp2_with fail
  refine (used_any w lo hi A n c xs HA.out HX.out (by omega)).mono ?_
  rintro e w' ⟨A1, c1, rfl, rfl, hA1, hc1⟩
  have H1 := Lib.hid (HA.out.used HX.out hA1 hc1)
  clear hA1 hc1
  go_wp2_with fail
  refine (used_any w lo hi B m cb ys HB.out HY.out (by omega)).mono ?_
  rintro e w' ⟨A2, c2, rfl, rfl, hA2, hc2⟩
  have H2 := Lib.hid (HB.out.used HY.out hA2 hc2)
  clear hA2 hc2 HA HB HX HY
  generalize ulen xs = n1 at *
  generalize ulen ys = n2 at *
  rw [← HXv.out] at H1
  rw [← HYv.out] at H2
  go_wp2_with fail
  refine (cmp_any w lo hi A1 A2 n1 c1 n2 c2 _ _ H1.out H2.out (small_digs B64_two _) (small_digs B64_two _) (by omega) (by omega)).mono ?_
  rintro e w' ⟨dn, rfl, rfl⟩
  rw [nval_digs B64_two, nval_digs B64_two]
  rcases Nat.lt_or_ge X Y with hlt | hge
  · rw [cmpv_lt hlt]
    have HLT := Lib.hid hlt
    clear hlt
    go_wp2
    go_ret2
    refine ⟨none, 0, 0, ?_, ?_, below_drewN (Below.refl _ _) _, fun _ j _ hj => absurd hj (by omega)⟩
    · exact congrArg (fun b => Ending.returned (.tuple #[.slice none 0 0, .bool b])) (by have := HLT.out; simp; omega)
    · rw [show X - Y = 0 by have := HLT.out; omega, digs_zero]; exact Rd.none_
  · have hc0 : 0 ≤ cmpv X Y := by
      rcases Nat.lt_or_ge Y X with h | h
      · rw [cmpv_gt h]; omega
      · rw [cmpv_eq (by omega)]; omega
    generalize cmpv X Y = cv at *
    have HGE := Lib.hid hge
    clear hge
    have hl12 : n2 ≤ n1 := by
      rcases Nat.lt_or_ge n1 n2 with h | h
      · have := nval_le_of_len B64_two (m := X) (n := Y) (by rw [H1.out.1, H2.out.1]; exact h)
        have := HGE.out; omega
      · exact h
    have hmk := fun W => make64 (n1 : Int) n1 rfl (by omega) W
    obtain ⟨w2, hcp, hrow, honly⟩ := copy64 ((w.drewN dn).alloc (zrow .u64 56 n1)) lo hi w.heap.size n1 n1 c1 A1 _ _ (zrow_row _ _ _ (w.drewN dn)) ((H1.out.drewN dn).alloc hhi _) (by simp)
    rw [List.length_replicate] at hcp
    have hrow2 : Row .u64 w2 w.heap.size 56 (digs B64 X) := by
      have e : List.drop n1 (List.replicate n1 0) = [] := by rw [List.drop_replicate, Nat.sub_self]; rfl
      rw [e, List.append_nil] at hrow; exact hrow
    have hb2 : Below w.heap.size w w2 := ((below_drewN (Below.refl w.heap.size w) dn).alloc (Nat.le_refl _) _).trans (only_below honly (by simp) (Nat.le_refl _))
    have HRow := Lib.hid hrow2
    have HB2 := Lib.hid hb2
    have hq2 := Lib.hid (H2.out.below (hb2.mono hhi))
    clear hrow hrow2 honly hb2
    go_wp2_with fail
    refine (subFrom_any w2 lo hi w.heap.size 0 n1 n1 n2 c2 A2 [] (digs B64 X) [] (digs B64 Y) (Row.toSeg HRow.out (by simp)) rfl H1.out.1 (by omega) hq2.out hhi hl12 (small_digs B64_two _) (small_digs B64_two _) (by omega)).mono ?_
    rintro e w3 ⟨cy, out, rfl, hol, hos, hov, hseg, hon3⟩
    have hr3 : Row .u64 w3 w.heap.size 56 out := by
      have : ([] ++ out ++ [] : List Nat) = out := by simp
      unfold Seg at hseg; rw [this] at hseg; exact hseg
    have hb3 : Below w.heap.size w w3 := HB2.out.trans (only_below hon3 (by have := HRow.out.lt; omega) (Nat.le_refl _))
    have hN : nval B64 out = X - Y := by
      rw [nval_digs B64_two, nval_digs B64_two] at hov
      have h1 := nval_lt hos
      rw [hol] at h1
      have := HGE.out
      rcases Nat.eq_zero_or_pos cy with e | e
      · subst e; omega
      · have h8 : B64 ^ (digs B64 X).length * 1 ≤ B64 ^ (digs B64 X).length * cy := Nat.mul_le_mul_left _ e
        omega
    have hol2 : out.length = n1 := by rw [hol]; exact H1.out.1
    have HR3 := Lib.hid hr3
    have HB3 := Lib.hid hb3
    have HN := Lib.hid hN
    have HOS := Lib.hid hos
    have HOL := Lib.hid hol2
    clear hr3 hb3 hN hos hol2 hol hov hseg hon3
    go_wp2_with fail
    have hrd : Rd .u64 w3 w.heap.size w3.heap.size (some ⟨w.heap.size, 0, none⟩) n1 n1 out := by
      have := HR3.out.rd0 (lo := w.heap.size) (hi := w3.heap.size) (c := n1) (Nat.le_refl _) HR3.out.lt (by rw [HOL.out]; omega)
      rw [HOL.out] at this; exact this
    refine (used_any w3 w.heap.size w3.heap.size (some ⟨w.heap.size, 0, none⟩) n1 n1 out hrd HOS.out (by omega)).mono ?_
    rintro e w' ⟨A3, c3, rfl, rfl, hA3, hc3⟩
    have hfin := hrd.used HOS.out hA3 hc3
    rw [HN.out] at hfin
    have HF := Lib.hid hfin
    clear hfin
    go_wp2
    go_ret2
    refine ⟨_, _, _, ?_, HF.out, HB3.out, HR3.out.fr hA3⟩
    exact congrArg (fun b => Ending.returned (.tuple #[.slice A3 (ulen out) c3, .bool b])) (by have := HGE.out; simp; omega)
end Go.Proofs.YthhaelnildaemaaGreatDoor
namespace Go.Proofs.YthhaelnildaemaaGreatDoor
open Go.RowKit Nx
end Go.Proofs.YthhaelnildaemaaGreatDoor
namespace Go.Proofs.YthhaelnildaemaaGreatDoor
open Go.RowKit Nx
def MulJ (B n m k : Nat) (out xs ys : List Nat) : Prop :=
  out.length = n + m ∧ Small B out ∧ nval B out = nval B (xs.take k) * nval B ys ∧ out.drop (k + m) = List.replicate (n - k) 0
theorem MulJ.start {B n m : Nat} {xs ys : List Nat} (hB : 2 ≤ B) : MulJ B n m 0 (List.replicate (n + m) 0) xs ys :=
  ⟨by simp, small_replicate (by omega), by rw [nval_zeros]; simp [nval], by rw [List.drop_replicate]; congr 1; omega⟩
theorem MulJ.parts {B n m k f : Nat} {out xs ys : List Nat} (h : MulJ B n m k out xs ys) (hk : k < n) (hf : xs[k]? = some f) :
    ∃ pre seg post : List Nat, out = pre ++ seg ++ post ∧ pre.length = k ∧ seg.length = m + 1 ∧ Small B seg ∧
      ∀ o2 : List Nat, o2.length = m + 1 → Small B o2 → nval B o2 = nval B (seg.take m) + f * nval B ys → MulJ B n m (k + 1) (pre ++ o2 ++ post) xs ys := by
  obtain ⟨h1, h2, h3, h4⟩ := h
  have hz : out.drop (k + m) = 0 :: List.replicate (n - k - 1) 0 := by
    rw [h4, show n - k = (n - k - 1) + 1 by omega, List.replicate_succ]; rfl
  refine ⟨out.take k, (out.drop k).take (m + 1), out.drop (k + m + 1), ?_, by simp; omega, by simp; omega, (h2.drop k).take _, ?_⟩
  · rw [List.append_assoc, show out.drop (k + m + 1) = (out.drop k).drop (m + 1) by rw [List.drop_drop, Nat.add_assoc], List.take_append_drop, List.take_append_drop]
  · intro o2 g1 g2 g3
    have hpost : out.drop (k + m + 1) = List.replicate (n - k - 1) 0 := by
      have := congrArg (List.drop 1) hz
      rw [List.drop_drop] at this
      simpa using this
    refine ⟨?_, ((h2.take k).append g2).append (h2.drop _), ?_, ?_⟩
    · simp; omega
    · have e1 : ((out.drop k).take (m + 1)).take m = (out.drop k).take m := by rw [List.take_take]; congr 1; omega
      rw [e1] at g3
      have e2 : nval B out = nval B (out.take k) + B ^ k * nval B (out.drop k) := nval_split B out k (by omega)
      have e3 : nval B (out.drop k) = nval B ((out.drop k).take m) + B ^ m * nval B ((out.drop k).drop m) := nval_split B (out.drop k) m (by simp; omega)
      rw [List.drop_drop, h4, nval_zeros, Nat.mul_zero, Nat.add_zero] at e3
      rw [List.append_assoc, nval_append, nval_append, g1, hpost, nval_zeros, Nat.mul_zero, Nat.add_zero, g3, List.length_take, Nat.min_eq_left (by omega), nval_take_succ, getD_of hf, Nat.add_mul, ← h3, e2, e3]
      grind
    · rw [List.append_assoc, List.drop_append, List.drop_append]
      have l1 : (out.take k).length = k := by simp; omega
      rw [l1, g1, List.drop_of_length_le (l := out.take k) (by omega), List.drop_of_length_le (l := o2) (by omega), List.nil_append, List.nil_append, hpost, List.drop_replicate]
      congr 1; omega
theorem only_trans {a b c : World} {row : Option Nat} (h : a.grownBy b row) (k : b.grownBy c row) : a.grownBy c row :=
  ⟨k.os.trans h.os, k.tape.trans h.tape, k.output.trans h.output, Nat.le_trans h.size k.size, fun i hi hne => (k.block i (Nat.lt_of_lt_of_le hi h.size) hne).trans (h.block i hi hne)⟩
end Go.Proofs.YthhaelnildaemaaGreatDoor
