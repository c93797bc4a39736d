/- NatKeeps, walked. -/
import Derived.Test.YtcjggdcichlanaaDoorKeepG
namespace Go.Proofs.YtcjggdcichlanaaDoor
open Go.RowKit Nx

set_option maxRecDepth 100000 in
set_option maxHeartbeats 4000000 in
theorem keeps_walk (w : World) (A B : Option Addr) (n c m d t : Nat) (xs ys : List Nat) (ha : Arg w A n c xs) (hb : Arg w B m d ys) (ht : Tab w) (htt : t ≤ 255) :
    Calls Tryd.prog 9 #[.slice A n c, .slice B m d, .int .u8 (t : Int)] w (LawPost w) := by
  have HA := Lib.hid ha; have HB := Lib.hid hb; have HT := Lib.hid ht
  clear ha hb ht
  go_enter Tryd.func9, Tryd.ntmps9
  go_wp2_with fail
  refine (known_any w HT.out).mono ?_
  rintro _ w1 ⟨rfl, b1⟩
  have B1 := Lib.hid b1
  clear b1
  go_wp2_with fail
  refine (few_any _ w1.heap.size 2 [n, m] (lens2 w1 A B n c m d) rfl (by omega)).mono ?_
  rintro _ w2 ⟨rfl, rfl⟩
  by_cases hall : n ≤ 40 ∧ m ≤ 40
  · obtain ⟨hn, hm⟩ := hall
    rw [show ([n, m].all fun l => decide (l ≤ 40)) = true by simp [hn, hm]]
    have B2 := Lib.hid (below_step B1.out (one_below w1 (.cells #[.slice A n c, .slice B m d] 22)))
    generalize w1.alloc (.cells #[.slice A n c, .slice B m d] 22) = w2 at *
    have a2 := Lib.hid (HA.out.step B2.out); have b2 := Lib.hid (HB.out.step B2.out)
    clear HA HB B1
    -- the copies
    obtain ⟨v3, w3, gx, cx, w4, r3, r4, rd4, b4⟩ := copy77 w2 A n c xs a2.out.1 hn
    have B4 := Lib.hid (below_step B2.out b4); have a4 := Lib.hid (a2.out.step b4); have b4' := Lib.hid (b2.out.step b4); have X4 := Lib.hid (rd4.less (Nat.zero_le _))
    obtain ⟨v5, w5, gy, cy, w6, r5, r6, rd6, b6⟩ := copy77 w4 B m d ys b4'.out.1 hm
    have B6 := Lib.hid (below_step B4.out b6)
    have K6 : Hid (Kept w6 w6.heap.size A B n c m d xs ys gx cx gy cy) := Lib.hid ⟨(a4.out.step b6).1, (b4'.out.step b6).1, rd_step X4.out b6, rd6.less (Nat.zero_le _), a4.out.2, b4'.out.2, Nat.le_refl _⟩
    have hcx : n + 2 ≤ cx := rd4.2.1
    have hcy : m + 2 ≤ cy := rd6.2.1
    have R3 := Lib.hid r3; have R4 := Lib.hid r4; have R5 := Lib.hid r5; have R6 := Lib.hid r6
    have hsx := fun W => slice64h (some ⟨gx, 0, none⟩) (n + 2) cx n (n : Int) rfl (by omega) ⟨gx, rfl⟩ W
    have hsy := fun W => slice64h (some ⟨gy, 0, none⟩) (m + 2) cy m (m : Int) rfl (by omega) ⟨gy, rfl⟩ W
    have i1 : (n : Int) ≤ (cx : Int) := by omega
    have i2 : (m : Int) ≤ (cy : Int) := by omega
    clear r3 r4 r5 r6 rd4 rd6 b4 b6 a2 b2 a4 b4' B4 B2 X4
    go_wp2_with (at_builtin; first
      | refine wpList_append_run rfl (.tmp 21) (.tmp 22) _ rfl _ _ _ _ rfl rfl R3.out ?_
      | refine wpList_append_run rfl (.tmp 23) (.tmp 24) _ rfl _ _ _ _ rfl rfl R4.out ?_
      | refine wpList_append_run rfl (.tmp 29) (.tmp 30) _ rfl _ _ _ _ rfl rfl R5.out ?_
      | refine wpList_append_run rfl (.tmp 31) (.tmp 32) _ rfl _ _ _ _ rfl rfl R6.out ?_)
    have hX := Lib.hid (K6.out.ha hn).lt; have hY := Lib.hid (K6.out.hb hm).lt
    clear R3 R4 R5 R6 hsx hsy i1 i2
    obtain ⟨X, eX⟩ : ∃ X, X = nval B64 xs := ⟨_, rfl⟩
    obtain ⟨Y, eY⟩ : ∃ Y, Y = nval B64 ys := ⟨_, rfl⟩
    have EX := Lib.hid eX; have EY := Lib.hid eY
    rw [← eX] at hX
    rw [← eY] at hY
    clear eX eY
    have hx6 := Lib.hid (show Has w6 (some ⟨gx, 0, none⟩) n cx X 40 by rw [EX.out]; exact K6.out.hx hn)
    have hy6 := Lib.hid (show Has w6 (some ⟨gy, 0, none⟩) m cy Y 40 by rw [EY.out]; exact K6.out.hy hm)
    -- the sums
    refine (add_wr hx6.out hy6.out (by omega) (by omega)).mono ?_
    rintro _ w7 ⟨A7, n7, c7, rfl, h7, b7, g7⟩
    have B7 := Lib.hid (below_step B6.out b7); have K7 := Lib.hid (K6.out.step b7); have x7 := Lib.hid (hx6.out.step b7); have y7 := Lib.hid (hy6.out.step b7); have G7 := Lib.hid g7
    have hn7 : n7 ≤ 40 + 40 + 1 := by rw [← h7.1]; exact digs_len_le B64_two (lt_add hX.out hY.out)
    have Z7 := Lib.hid b7.size; have Z6 := Lib.hid B6.out.size
    clear b7 h7 g7 hx6 hy6 B6 K6
    go_wp2_with fail
    refine (add_wr x7.out y7.out (by omega) (by omega)).mono ?_
    rintro _ w8 ⟨A8, n8, c8, rfl, h8, b8, q8⟩
    have B8 := Lib.hid (below_step B7.out b8); have K8 := Lib.hid (K7.out.step b8); have x8 := Lib.hid (x7.out.step b8); have y8 := Lib.hid (y7.out.step b8); have G8 := Lib.hid (G7.out.below b8 (Nat.le_refl _)); have T8 := Lib.hid h8
    have Z8 := Lib.hid b8.size
    clear q8 b8 h8 x7 y7 B7 K7 G7
    go_wp2_with fail
    refine (sub_is x8.out y8.out (by omega) (by omega)).mono ?_
    rintro _ w9 ⟨A9, n9, c9, rfl, q9, b9⟩
    have B9 := Lib.hid (below_step B8.out b9); have K9 := Lib.hid (K8.out.step b9); have x9 := Lib.hid (x8.out.step b9); have y9 := Lib.hid (y8.out.step b9); have G9 := Lib.hid (G8.out.below b9 Z8.out); have T9 := Lib.hid (T8.out.below b9)
    have Z9 := Lib.hid b9.size
    clear q9 b9 x8 y8 B8 K8 G8 T8
    go_wp2_with fail
    refine (mul_is x9.out y9.out (by omega) (by omega)).mono ?_
    rintro _ wa ⟨Aa, na, ca, rfl, qa, ba⟩
    have Ba := Lib.hid (below_step B9.out ba); have Ka := Lib.hid (K9.out.step ba); have xa := Lib.hid (x9.out.step ba); have ya := Lib.hid (y9.out.step ba); have Ga := Lib.hid (G9.out.below ba (Nat.le_trans Z8.out Z9.out)); have Ta := Lib.hid (T9.out.below (ba.mono Z9.out))
    have Za := Lib.hid (Nat.le_trans Z9.out ba.size)
    clear qa ba x9 y9 B9 K9 G9 T9 Z9
    go_wp2_with fail
    refine (div_new xa.out ya.out (by omega) (by omega)).mono ?_
    rintro _ wb ⟨vb, rfl, bb⟩
    have Bb := Lib.hid (below_step Ba.out bb); have Kb := Lib.hid (Ka.out.step bb); have xb := Lib.hid (xa.out.step bb); have Gb := Lib.hid (Ga.out.below bb (Nat.le_trans Z8.out Za.out)); have Tb := Lib.hid (Ta.out.below (bb.mono Za.out))
    have Zb := Lib.hid (Nat.le_trans Za.out bb.size)
    clear bb xa ya Ba Ka Ga Ta Za
    go_wp2_with fail
    refine (shift_is (t : Int) xb.out (by omega)).mono ?_
    rintro _ wc ⟨Ac, nc, cc, rfl, qc, bc⟩
    have Bc := Lib.hid (below_step Bb.out bc); have Kc := Lib.hid (Kb.out.step bc); have xc := Lib.hid (xb.out.step bc); have Gc := Lib.hid (Gb.out.below bc (Nat.le_trans Z8.out Zb.out)); have Tc := Lib.hid (Tb.out.below (bc.mono Zb.out))
    have Zc := Lib.hid (Nat.le_trans Zb.out bc.size)
    clear qc bc xb Bb Kb Gb Tb Zb
    go_wp2_with fail
    refine (trim_wr xc.out (by omega)).mono ?_
    rintro _ wd ⟨Ad, nd, cd, rfl, hd, bd, gd⟩
    have hnd : nd ≤ 40 := by rw [← hd.1]; exact digs_len_le B64_two hX.out
    have Bd := Lib.hid (below_step Bc.out bd); have Kd := Lib.hid (Kc.out.step bd); have Gd := Lib.hid (Gc.out.below bd (Nat.le_trans Z8.out Zc.out)); have Td := Lib.hid (Tc.out.below (bd.mono Zc.out)); have Ud := Lib.hid gd
    have Zd := Lib.hid bd.size
    clear bd hd gd xc Bc Kc Gc Tc
    go_wp2
    go_loopw [12] (fun u wr => KeepRel wd A7 n7 w6.heap.size w7.heap.size u wr) (fun u _ => n7 - (intOf u).toNat)
    case atStart => exact ⟨0, Nat.zero_le _, rfl, Lib.hid (Only.refl _ _ _), Gd⟩
    case round =>
      obtain ⟨k, hk, rfl, hO, hW⟩ := hrel
      by_cases hlt : k < n7
      · obtain ⟨ad, v, hA, l1, l2, hcell, hfr⟩ := hW.out k hlt
        subst hA
        have HO2 := Lib.hid (hO.out.set (p := ad.add k) (by rw [block_of_add]; exact l1) (by rw [block_of_add]; exact l2) (.int .u64 5)); have HW2 := Lib.hid (hW.out.set (ad.add k) (.int .u64 5))
        clear l1 l2
        go_wp2
        go_roundw
        case rel => exact ⟨k + 1, by omega, by go_num, Lib.hid HO2.out, Lib.hid HW2.out⟩
        case measure => simp [intOf]; omega
      · have Be := Lib.hid (Bd.out.trans (hO.out.below Z6.out)); have Ke := Lib.hid (Kd.out.only hO.out (Nat.le_refl _)); have Te := Lib.hid (Td.out.only hO.out (.inr (Nat.le_refl _)))
        have Ue := Lib.hid (Ud.out.only hO.out (.inr (by have := Z8.out; have := Zc.out; omega)))
        have hsz := Lib.hid hO.out.size
        clear hO hW Bd Kd Td Ud Gd
        generalize wr = we at *
        go_wp2
        go_loopw [13] (fun u wr => KeepRel we Ad nd wc.heap.size wd.heap.size u wr) (fun u _ => nd - (intOf u).toNat)
        case atStart => exact ⟨0, Nat.zero_le _, rfl, Lib.hid (Only.refl _ _ _), Ue⟩
        case round =>
          obtain ⟨k2, hk2, rfl, hO, hW⟩ := hrel
          by_cases hlt2 : k2 < nd
          · obtain ⟨ad, v, hA, l1, l2, hcell, hfr⟩ := hW.out k2 hlt2
            subst hA
            have HO2 := Lib.hid (hO.out.set (p := ad.add k2) (by rw [block_of_add]; exact l1) (by rw [block_of_add]; exact l2) (.int .u64 5)); have HW2 := Lib.hid (hW.out.set (ad.add k2) (.int .u64 5))
            clear l1 l2
            go_wp2
            go_roundw
            case rel => exact ⟨k2 + 1, by omega, by go_num, Lib.hid HO2.out, Lib.hid HW2.out⟩
            case measure => simp [intOf]; omega
          · have hwc : w6.heap.size ≤ wc.heap.size := by have := Z7.out; have := Z8.out; have := Zc.out; omega
            have Bf := Lib.hid (Be.out.trans (hO.out.below (by have := Z6.out; omega))); have Kf := Lib.hid (Ke.out.only hO.out hwc); have Tf := Lib.hid (Te.out.only hO.out (.inl Zc.out))
            have hsz2 := Lib.hid hO.out.size
            clear hO hW Be Ke Te Ue
            generalize wr = wf at *
            have KA := Lib.hid (Kf.out.a.more Kf.out.size); have KB := Lib.hid (Kf.out.b.more Kf.out.size); have KX := Lib.hid (Kf.out.x.more Kf.out.size); have KY := Lib.hid (Kf.out.y.more Kf.out.size)
            have KT := Lib.hid ((Tf.out.less (Nat.zero_le _)).more (show w8.heap.size ≤ wf.heap.size by have := hsz.out; have := hsz2.out; have := Zc.out; have := Zd.out; omega))
            have hSum := Lib.hid (lt_add hX.out hY.out)
            have hn8 : n8 ≤ 40 + 40 + 1 := by rw [← KT.out.1]; exact digs_len_le B64_two hSum.out
            have HA := Lib.hid (show Has wf A n c X 40 by rw [EX.out]; exact Kf.out.ha hn)
            have HB' := Lib.hid (show Has wf B m d Y 40 by rw [EY.out]; exact Kf.out.hb hm)
            clear Kf Tf hsz hsz2 Zd Zc Z8 Z7 Z6 EX EY hX hY hSum hwc
            go_wp2
            refine last_any (A := A) (B := B) (T := A8) (n := n) (c := c) (m := m) (d := d) (n8 := n8) (c8 := c8) (gx := gx) (cx := cx) (gy := gy) (cy := cy) (X := X) (Y := Y) (xs := xs) (ys := ys) (by kernel_rfl) ⟨rfl, rfl, ?_⟩ KA.out KB.out KX.out KY.out KT.out HA.out HB'.out hn hm hcx hcy (by omega) (fun _ _ _ _ _ h => h) ?_
            · intro t v hmem
              simp only [List.mem_cons, Prod.mk.injEq, List.not_mem_nil, or_false] at hmem
              rcases hmem with ⟨rfl, rfl⟩ | ⟨rfl, rfl⟩ | ⟨rfl, rfl⟩ | ⟨rfl, rfl⟩ | ⟨rfl, rfl⟩ <;> rfl
            · intro a' w' hd h6 hBw
              go_wp2
              refine bodyPost_ret (results_tmp rfl _ _ _) hd ?_
              exact ⟨congrArg Ending.returned h6, below_step Bf.out hBw⟩
  · rw [show ([n, m].all fun l => decide (l ≤ 40)) = false by simp; omega]
    have B2 := Lib.hid (below_step B1.out (one_below w1 (.cells #[.slice A n c, .slice B m d] 22)))
    clear B1 hall
    go_wp2
    go_ret
    exact ⟨rfl, B2.out⟩
end Go.Proofs.YtcjggdcichlanaaDoor
