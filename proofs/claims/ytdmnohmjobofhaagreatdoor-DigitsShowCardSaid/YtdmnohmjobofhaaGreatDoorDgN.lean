/- fathomlineref1.Parse: a '-' ahead; any text. -/
import Derived.Test.YtdmnohmjobofhaaGreatDoorDgM
namespace Go.Proofs.YtdmnohmjobofhaaGreatDoor
open Go.RowKit Nx

set_option maxRecDepth 100000 in
set_option maxHeartbeats 8000000 in
theorem rparse_neg (w : World) (s : ByteArray) (hs : s.size ≤ 10000) (r : List UInt8) (hl : s.toList = 45 :: r) : Calls Tryz.prog 24 #[.string s] w (NumPost2 w (prs s.toList)) := by
  have K1 := Lib.hid (Bx.new w false 0 none 0 0); have B1 := Lib.hid (one_below w (.cells #[.bool false, .int .i64 0, .slice none 0 0] 24))
  have hsg : sg s.toList = true := by rw [hl]; rfl
  have hun : un s.toList = s.toList.drop 1 := by rw [hl]; rfl
  have h0 : 0 < s.size := by rw [size_of, hl]; simp
  have hixa : ∀ W, (Instr.index 9 (.string s) (.int .i64 0)).run Tryz.prog W = .ok (.int .u8 45) W := idx_str s 0 45 0 rfl (by rw [hl]; rfl)
  clear hl
  obtain ⟨v, hv⟩ : ∃ v, v = s.toList.drop 1 := ⟨_, rfl⟩
  have hsl : 1 ≤ s.toList.length := by rw [← size_of]; omega
  obtain ⟨sp1, sp2, sp3⟩ := span_at hv hsl
  have C1 := Lib.hid (count_any (w.alloc (.cells #[.bool false, .int .i64 0, .slice none 0 0] 24)) s 1 1300 (by omega) (by omega) (by omega))
  rw [← hv] at C1
  rw [show s.toList.drop 1 = v from hv.symm] at hun
  have PB := Lib.hid (@prs_bad s.toList); have PZ := Lib.hid (@prs_zero s.toList); have PN := Lib.hid (@prs_none s.toList); have PS := Lib.hid (fun (e : Int) => prs_some (l := s.toList) (e := e))
  rw [hun, hsg] at PB PS
  rw [hun] at PZ PN
  obtain ⟨res_, hres⟩ : ∃ r, r = prs s.toList := ⟨_, rfl⟩
  rw [← hres] at PB PZ PN PS ⊢
  have hdA := Lib.hid (dsp_all v)
  have HHd := Lib.hid (show (dsp v).length ≠ 0 → (dsp v).head? = s.toList[1]? from fun h0 => by rw [List.head?_eq_getElem?, ← sp1 0 (by omega)])
  obtain ⟨ds, hds⟩ : ∃ d, d = dsp v := ⟨_, rfl⟩
  obtain ⟨rs, hrs⟩ : ∃ r, r = rsp v := ⟨_, rfl⟩
  unfold cnt at C1
  rw [← hds] at C1 PB PZ PS hdA HHd sp1 sp2 sp3
  rw [← hrs] at PZ PN PS sp2
  obtain ⟨nn, hnn⟩ : ∃ n, n = 1 + ds.length := ⟨_, rfl⟩
  rw [← hnn] at C1 sp2 sp3
  rw [← size_of] at sp3
  have SP1 := Lib.hid sp1; have SP2 := Lib.hid sp2; have HNn := Lib.hid hnn
  clear hv hds hrs hres sp1 sp2 hun hsg hsl hnn
  by_cases hg : gd 1300 true ds = true
  · have hg0 : gd 1300 false ds = true := by
      obtain ⟨g1, g2, g3⟩ := gd_iff.1 hg
      exact gd_iff.2 ⟨g1, g2, fun h => ⟨rfl, (g3 h).2⟩⟩
    rw [if_pos hg0] at C1
    obtain ⟨g1, g2, g3⟩ := gd_iff.1 hg
    have hl0 : ds.length ≠ 0 := fun h => g1 (List.eq_nil_of_length_eq_zero h)
    obtain ⟨c0, hc0⟩ := byte_at (s := s) (k := 1) (by have := HNn.out; omega)
    have hix0 := idx_str s 1 c0 1 rfl hc0
    obtain ⟨x0, hx0⟩ : ∃ x, x = c0.toNat := ⟨_, rfl⟩
    rw [← hx0] at hix0
    have hh := HHd.out hl0
    rw [hc0] at hh
    have HH := Lib.hid hh; have HG := Lib.hid hg; have HDl := Lib.hid g2
    have HX0 : Hid (x0 = 48 ↔ ds.head? = some 48) := Lib.hid (by
      rw [hh, hx0]
      constructor
      · intro h; rw [UInt8.toNat_inj.1 (show c0.toNat = (48 : UInt8).toNat from h)]
      · intro h; injection h with h; rw [h]; rfl)
    have hxn : x0 ≠ 48 := fun h => by have := (g3 (HX0.out.1 h)).1; cases this
    have fxn : ((x0 : Int) == 48) = false := by simp; omega
    have HMB := Lib.hid (dval_b64 hdA.out g2)
    clear hg hg0 g1 g2 g3 hh hc0 hx0 hl0 PB
    go_enter Tryz.func24, Tryz.ntmps24
    go_wp2_with fail
    refine C1.out.mono ?_
    rintro _ w1 ⟨rfl, rfl⟩
    clear C1
    go_wp2
    go_loopw [8, 7] (fun u v wr => P1Rel (w.alloc (.cells #[.bool false, .int .i64 0, .slice none 0 0] 24)) 1 nn ds u v wr) (fun u _ _ => nn - (intOf u).toNat)
    case atStart => exact ⟨1, none, 0, 0, Nat.le_refl _, by have := HNn.out; omega, rfl, rfl, Lib.hid (by rw [Nat.sub_self]; exact dg0 _), Lib.hid (Below.refl _ _)⟩
    case round =>
      obtain ⟨k, A4, n4, c4, hk1, hk2, rfl, rfl, hD, hB⟩ := hrel
      by_cases hlt : k < nn
      · have hjl : k - 1 < ds.length := by have := HNn.out; omega
        obtain ⟨c, hc⟩ : ∃ c, ds[k - 1]? = some c := ⟨_, List.getElem?_eq_getElem hjl⟩
        have hcs : s.toList[k]? = some c := by rw [← hc, ← SP1.out (k - 1) hjl]; congr 1; omega
        have hcd : isD c = true := hdA.out c (List.mem_of_getElem? hc)
        obtain ⟨v1, v2⟩ := isd_val hcd
        have hix := idx_str s k c (k : Int) rfl hcs
        have HMk := Lib.hid (dval_b64 (hdA.out.take (k - 1)) (by rw [List.length_take]; have := HDl.out; omega))
        have HNx := Lib.hid (dval_take_next hc)
        have HV1 := Lib.hid v1; have HV2 := Lib.hid v2; have HIX := Lib.hid hix
        clear hcs hcd hc hjl v1 v2 hix
        go_wp2_with fail
        refine digit_stmt (A := A4) (n := n4) (c := c4) (M := dval (ds.take (k - 1))) (d := dv c) (x := c.toNat) (k := k) (s := s) (by kernel_rfl) (by kernel_rfl) (by kernel_rfl) ?_ (of_decide_eq_true rfl) (by kernel_rfl) (by kernel_rfl) (by kernel_rfl) (by kernel_rfl) (by kernel_rfl) (by kernel_rfl) (by kernel_rfl) (by kernel_rfl) (by kernel_rfl) (by kernel_rfl) (by kernel_rfl) (by kernel_rfl) rfl rfl rfl HIX.out HV1.out HV2.out hD.out HMk.out ?_
        · intro i hi
          rcases (show i = 0 ∨ i = 1 ∨ i = 2 ∨ i = 3 ∨ i = 4 ∨ i = 5 ∨ i = 6 ∨ i = 7 ∨ i = 8 ∨ i = 9 ∨ i = 10 ∨ i = 11 by omega) with rfl | rfl | rfl | rfl | rfl | rfl | rfl | rfl | rfl | rfl | rfl | rfl <;> exact ⟨by kernel_rfl, by kernel_rfl, by kernel_rfl⟩
        intro vals w6 b6 h6
        obtain ⟨A6, n6, c6, e6, h6⟩ := h6
        rw [← HNx.out] at h6
        have H6 := Lib.hid h6
        simp only [putAll, show List.range 12 = [0, 1, 2, 3, 4, 5, 6, 7, 8, 9, 10, 11] from rfl, List.foldl_cons, List.foldl_nil, dgDst_0, dgDst_1, dgDst_2, dgDst_3, dgDst_4, dgDst_5, dgDst_6, dgDst_7, dgDst_8, dgDst_9, dgDst_10, dgDst_11, e6]
        have HB6 := Lib.hid (below_step hB.out b6)
        clear h6 b6 e6 hD hB HMk HNx HV1 HV2 HIX
        go_simp
        go_wp2
        go_roundw
        case rel => exact ⟨k + 1, A6, n6, c6, by omega, by omega, by go_num, rfl, Lib.hid (by rw [show k + 1 - 1 = k - 1 + 1 by omega]; exact H6.out), HB6⟩
        case measure => simp [intOf]; omega
      · have hkn : k = nn := by omega
        subst hkn
        have e1 : ds.take (k - 1) = ds := List.take_of_length_le (by have := HNn.out; omega)
        rw [e1] at hD
        obtain ⟨M, hM⟩ : ∃ M, M = dval ds := ⟨_, rfl⟩
        rw [← hM] at hD PS HMB
        have D4 := Lib.hid hD.out
        have K4 := Lib.hid (K1.out.step hB.out); have B4 := Lib.hid (below_step B1.out hB.out)
        clear e1 hM hD hB hlt
        by_cases hfull : k = s.size
        · have hr0 : rs = [] := by rw [SP2.out, List.drop_eq_nil_of_le (by rw [← size_of]; omega)]
          have HR := Lib.hid (PS.out 0 HG.out (fun _ => hr0) (by rw [hr0]; exact exs_nil))
          have f1 : ((k : Int) == (s.size : Int)) = true := by simp; omega
          clear hr0 PZ PN PS hfull

          have hcan := Lib.hid (nm_canon true M 0); have hlt := Lib.hid (nm_lt (s := true) (e := 0) HMB.out)
          have C2 := Lib.hid (odd_any wr true 0 A4 n4 c4 M 80 D4.out HMB.out (by omega) (by omega) (by omega))
          generalize nm true M 0 = qq at *
          go_wp2_with fail
          refine C2.out.mono ?_
          rintro _ w5 ⟨_, rfl, ⟨A5, n5, c5, rfl, h5, _⟩, b5⟩
          have K5 := Lib.hid (K4.out.step b5); have B5 := Lib.hid (below_step B4.out b5)
          have CN := Lib.hid (vnum_any w5 qq A5 n5 c5 80 h5 hcan.out hlt.out (by omega))
          rw [← HR.out] at CN
          clear h5 b5 C2
          go_wp2_with fail
          refine CN.out.mono ?_
          rintro _ w6 ⟨_, rfl, ⟨A6, n6, c6, rfl, h6⟩, b6⟩
          have K6 := Lib.hid (K5.out.step b6)
          have r0 := K6.out.c0; have r1 := K6.out.c1; have r2 := K6.out.c2
          have z0 := K6.out.fz 0; have z1 := K6.out.fz 1; have z2 := K6.out.fz 2
          have RN := Lib.hid (ret_num B5.out (Nat.le_refl w.heap.size) K6.out K5.out.lt b6 h6)
          clear h6 b6 CN
          go_wp2
          obtain ⟨kr, nr, br⟩ := RN.out
          refine bodyPost_ret (v := .tuple #[.agg #[.bool res_.1.s, .int .i64 res_.1.e, .slice A6 n6 c6], .int .i64 res_.2]) ?_ rfl ⟨_, rfl, nr, br⟩
          have q0 := kr.c0; have q1 := kr.c1; have q2 := kr.c2
          unfold put3 at q0 q1 q2
          simp [results, Tryz.results24, go_sem, q0, q1, q2]
        · have f1 : ((k : Int) == (s.size : Int)) = false := by simp; omega
          have hks : k < s.size := by omega
          obtain ⟨c1, hc1⟩ := byte_at hks
          have hix1 := idx_str s k c1 (k : Int) rfl hc1
          obtain ⟨k2, hk2'⟩ : ∃ k2, k2 = k + 1 := ⟨_, rfl⟩
          have hrs : rs = c1 :: s.toList.drop k2 := by
            obtain ⟨hl, hg⟩ := List.getElem?_eq_some_iff.1 hc1
            rw [SP2.out, List.drop_eq_getElem_cons hl, hg, hk2']
          have hrne : rs ≠ [] := by rw [hrs]; simp
          by_cases hbad : c1 = 112 ∧ x0 ≠ 48
          · obtain ⟨rfl, hx48⟩ := hbad
            have hix1' : ∀ W, (Instr.index 9 (.string s) (.int .i64 (k : Int))).run Tryz.prog W = .ok (.int .u8 112) W := hix1
            have f3 : ((x0 : Int) == 48) = false := by simp; omega
            have g1 : (k : Int) + 1 = (k2 : Int) := by omega
            have EX := Lib.hid (fun (u : List UInt8) (hu : rs = 112 :: u) (h1 : gd 6 (sg u) (dsp (un u)) = true) (h2 : (dsp (un u)).head? ≠ some 48) (h3 : rsp (un u) = []) => PS.out _ HG.out (fun h => absurd (HX0.out.2 h) hx48) (by rw [hu]; exact exs_p h1 h2 h3))
            have EN := Lib.hid (fun (u : List UInt8) (hu : rs = 112 :: u) (h : ¬ (gd 6 (sg u) (dsp (un u)) = true ∧ (dsp (un u)).head? ≠ some 48 ∧ rsp (un u) = [])) => PN.out (by rw [hu]; exact exs_no (by simp) (fun hh => h hh.2)))
            have EX2 := Lib.hid (EX.out _ hrs); have EN2 := Lib.hid (EN.out _ hrs)
            have hk2l : k2 ≤ s.size := by omega
            have HK2 := Lib.hid hk2'
            clear hix1 hc1 hrs hrne EX EN PZ PN PS hx48 hk2'
            rcases Nat.lt_or_ge k2 s.size with hk2s | hk2s
            · obtain ⟨c2, hc2⟩ := byte_at hk2s
              have hix2 := idx_str s k2 c2 (k2 : Int) rfl hc2
              have hdr : s.toList.drop k2 = c2 :: s.toList.drop (k2 + 1) := by
                obtain ⟨hl, hg⟩ := List.getElem?_eq_some_iff.1 hc2
                rw [List.drop_eq_getElem_cons hl, hg]
              by_cases h45 : c2 = 45
              · subst h45
                have hix2' : ∀ W, (Instr.index 9 (.string s) (.int .i64 (k2 : Int))).run Tryz.prog W = .ok (.int .u8 45) W := hix2
                obtain ⟨k3, hk3'⟩ : ∃ k3, k3 = k2 + 1 := ⟨_, rfl⟩
                have g2 : (k2 : Int) + 1 = (k3 : Int) := by omega
                have hk3 : k3 ≤ s.size := by omega
                have hus : un (s.toList.drop k2) = s.toList.drop k3 ∧ sg (s.toList.drop k2) = true := by rw [hdr, hk3']; exact ⟨rfl, rfl⟩
                rw [hus.1, hus.2] at EX2 EN2
                have EX3 := EX2; have EN3 := EN2
                clear hix2 hc2 hdr hus hk3' EX2 EN2

                obtain ⟨vv, hvv⟩ : ∃ v, v = s.toList.drop k3 := ⟨_, rfl⟩
                obtain ⟨tp1, tp2, tp3⟩ := span_at hvv (by rw [← size_of]; omega)
                have C3 := Lib.hid (count_any wr s k3 6 (by omega) hk3 (by omega))
                rw [← hvv] at C3 EX3 EN3
                have heA := Lib.hid (dsp_all vv)
                have hhe : (dsp vv).length ≠ 0 → (dsp vv).head? = s.toList[k3]? := fun h0 => by rw [List.head?_eq_getElem?, ← tp1 0 (by omega)]; rfl
                unfold cnt at C3
                obtain ⟨es, hes⟩ : ∃ d, d = dsp vv := ⟨_, rfl⟩
                obtain ⟨rr, hrr⟩ : ∃ r, r = rsp vv := ⟨_, rfl⟩
                rw [← hes] at C3 EX3 EN3 heA tp1 tp2 tp3 hhe
                rw [← hrr] at EX3 EN3 tp2
                obtain ⟨ne, hne⟩ : ∃ n, n = k3 + es.length := ⟨_, rfl⟩
                rw [← hne] at C3 tp2 tp3
                rw [← size_of] at tp3
                have HNe := Lib.hid hne; have TP1 := Lib.hid tp1
                by_cases hge : gd 6 false es = true
                · rw [if_pos hge] at C3
                  obtain ⟨j1, j2, j3⟩ := gd_iff.1 hge
                  have hle0 : es.length ≠ 0 := fun h => j1 (List.eq_nil_of_length_eq_zero h)
                  obtain ⟨c3, hc3⟩ := byte_at (s := s) (k := k3) (by omega)
                  have hix3 := idx_str s k3 c3 (k3 : Int) rfl hc3
                  have hh3 := hhe hle0
                  rw [hc3] at hh3
                  by_cases hok : ne = s.size ∧ c3 ≠ 48
                  · have hr0 : rr = [] := by rw [tp2, List.drop_eq_nil_of_le (by rw [← size_of]; omega)]
                    have hhd : es.head? ≠ some 48 := by rw [hh3]; simpa using hok.2
                    have HR := Lib.hid (EX3.out (gd_iff.2 ⟨j1, j2, fun h => absurd h hhd⟩) hhd hr0)
                    obtain ⟨x3, hx3⟩ : ∃ x, x = c3.toNat := ⟨_, rfl⟩
                    have hx3n : c3.toNat ≠ 48 := fun h => hok.2 (UInt8.toNat_inj.1 h)
                    rw [← hx3] at hix3 hx3n
                    have f8 : ((x3 : Int) == 48) = false := by simp; omega
                    have HJ2 := Lib.hid j2
                    have hnes : ne = s.size := hok.1
                    have HNs := Lib.hid (show s.size = k3 + es.length by rw [← hne]; exact hnes.symm)
                    clear EX3 EN3 hvv hes hrr tp1 tp2 hge j1 j2 j3 hhe hh3 hok hr0 hhd hx3 hx3n hc3 hne hle0
                    rw [hnes] at C3
                    clear hnes HNe
                    go_wp2_with fail
                    refine C3.out.mono ?_
                    rintro _ w7 ⟨rfl, rfl⟩
                    clear C3
                    go_wp2
                    go_loop [9, 11] (fun u v => P2Rel k3 s.size es u v) (fun u _ => s.size - (intOf u).toNat)
                    case atStart => exact ⟨k3, 0, Nat.le_refl _, hk3, rfl, rfl, by omega, Lib.hid (by rw [Nat.sub_self]; rfl)⟩
                    case round =>
                      obtain ⟨j, ev, hj1, hj2, rfl, rfl, hev, hE⟩ := hrel
                      by_cases hjl : j < s.size
                      · have hje : j - k3 < es.length := by have := HNs.out; omega
                        obtain ⟨cj, hcj⟩ : ∃ c, es[j - k3]? = some c := ⟨_, List.getElem?_eq_getElem hje⟩
                        have hcs : s.toList[j]? = some cj := by rw [← hcj, ← TP1.out (j - k3) hje]; congr 1; omega
                        obtain ⟨v1, v2⟩ := isd_val (heA.out cj (List.mem_of_getElem? hcj))
                        have hixj := idx_str s j cj (j : Int) rfl hcs
                        have hnx := dval_take_next hcj
                        rw [← hE.out] at hnx
                        have hbd := dval_lt (heA.out.take (j - k3 + 1))
                        have hb2 : 10 ^ (es.take (j - k3 + 1)).length ≤ 10 ^ 6 := Nat.pow_le_pow_right (by omega) (by rw [List.length_take]; have := HJ2.out; omega)
                        obtain ⟨d, hd⟩ : ∃ d, d = dv cj := ⟨_, rfl⟩
                        rw [v1] at hixj
                        rw [← hd] at hnx v2 hixj
                        obtain ⟨e2, he2⟩ : ∃ e, e = ev * 10 + d := ⟨_, rfl⟩
                        rw [← he2] at hnx
                        have he2b : e2 ≤ 1000000 := by omega
                        have HE2 := Lib.hid hnx
                        have p1 : IntKind.u8.wrap (((48 + d : Nat) : Int) - 48) = (d : Int) := by rw [IntKind.wrap_u8]; omega
                        have p2 : IntKind.i64.wrap (d : Int) = (d : Int) := by rw [IntKind.wrap_i64]; omega
                        have p3 : (10 : Int) * (ev : Int) + (d : Int) = (e2 : Int) := by omega
                        obtain ⟨y, hy⟩ : ∃ y, y = 48 + d := ⟨_, rfl⟩
                        rw [← hy] at p1 hixj
                        clear hje hcj hcs v1 v2 hnx hbd hb2 hd he2 hy hE
                        go_wp2
                        go_round
                        case rel => exact ⟨j + 1, e2, by omega, by omega, by go_num, rfl, he2b, Lib.hid (by rw [show j + 1 - k3 = j - k3 + 1 by omega]; exact HE2.out.symm)⟩
                        case measure => simp [intOf]; omega
                      · have e1 : es.take (j - k3) = es := List.take_of_length_le (by have := HNs.out; omega)
                        rw [e1] at hE
                        rw [← hE.out] at HR
                        clear e1 hE
                        have HS : Hid (sgn true ev = -(ev : Int)) := Lib.hid rfl
                        rw [HS.out] at HR
                        have hcan := Lib.hid (nm_canon true M (-(ev : Int))); have hlt := Lib.hid (nm_lt (s := true) (e := (-(ev : Int))) HMB.out)
                        have C2 := Lib.hid (odd_any wr true (-(ev : Int)) A4 n4 c4 M 80 D4.out HMB.out (by omega) (by omega) (by omega))
                        generalize nm true M (-(ev : Int)) = qq at *
                        go_wp2_with fail
                        refine C2.out.mono ?_
                        rintro _ w5 ⟨_, rfl, ⟨A5, n5, c5, rfl, h5, _⟩, b5⟩
                        have K5 := Lib.hid (K4.out.step b5); have B5 := Lib.hid (below_step B4.out b5)
                        have CN := Lib.hid (vnum_any w5 qq A5 n5 c5 80 h5 hcan.out hlt.out (by omega))
                        rw [← HR.out] at CN
                        clear h5 b5 C2
                        go_wp2_with fail
                        refine CN.out.mono ?_
                        rintro _ w6 ⟨_, rfl, ⟨A6, n6, c6, rfl, h6⟩, b6⟩
                        have K6 := Lib.hid (K5.out.step b6)
                        have r0 := K6.out.c0; have r1 := K6.out.c1; have r2 := K6.out.c2
                        have z0 := K6.out.fz 0; have z1 := K6.out.fz 1; have z2 := K6.out.fz 2
                        have RN := Lib.hid (ret_num B5.out (Nat.le_refl w.heap.size) K6.out K5.out.lt b6 h6)
                        clear h6 b6 CN
                        go_wp2
                        obtain ⟨kr, nr, br⟩ := RN.out
                        refine bodyPost_ret (v := .tuple #[.agg #[.bool res_.1.s, .int .i64 res_.1.e, .slice A6 n6 c6], .int .i64 res_.2]) ?_ rfl ⟨_, rfl, nr, br⟩
                        have q0 := kr.c0; have q1 := kr.c1; have q2 := kr.c2
                        unfold put3 at q0 q1 q2
                        simp [results, Tryz.results24, go_sem, q0, q1, q2]
                  · have HR := Lib.hid (EN3.out (fun hh => hok ⟨by
                      have h1 := hh.2.2
                      rw [tp2] at h1
                      have h2 := congrArg List.length h1
                      rw [List.length_drop, ← size_of] at h2
                      simp at h2; omega, fun h => hh.2.1 (by rw [hh3, h])⟩))
                    by_cases hns : ne = s.size
                    · have h48 : c3 = 48 := Classical.byContradiction fun h => hok ⟨hns, h⟩
                      subst h48
                      have hix3' : ∀ W, (Instr.index 9 (.string s) (.int .i64 (k3 : Int))).run Tryz.prog W = .ok (.int .u8 48) W := hix3
                      rw [hns] at C3
                      clear EX3 EN3 hvv hes hrr tp1 tp2 hge j1 j2 j3 hhe hh3 hok hix3 hc3 hne hle0 hns
                      go_wp2_with fail
                      refine C3.out.mono ?_
                      rintro _ w7 ⟨rfl, rfl⟩
                      clear C3
                      have r0 := K4.out.c0; have r1 := K4.out.c1; have r2 := K4.out.c2
                      have z0 := K4.out.fz 0; have z1 := K4.out.fz 1; have z2 := K4.out.fz 2
                      have RZ := Lib.hid (ret_zero B4.out (Nat.le_refl w.heap.size) K4.out)
                      go_wp2
                      obtain ⟨kr, nr, br⟩ := RZ.out
                      refine bodyPost_ret (v := .tuple #[.agg #[.bool false, .int .i64 0, .slice none 0 0], .int .i64 5]) ?_ rfl (by rw [HR.out]; exact ⟨_, rfl, nr, br⟩)
                      have q0 := kr.c0; have q1 := kr.c1; have q2 := kr.c2
                      unfold put3 at q0 q1 q2
                      simp [results, Tryz.results24, go_sem, q0, q1, q2]
                    · have f9 : ((ne : Int) == (s.size : Int)) = false := by simp; omega
                      have f9' : ¬ (ne : Int) = (s.size : Int) := by omega
                      clear EX3 EN3 hvv hes hrr tp1 tp2 hge j1 j2 j3 hhe hh3 hok hix3 hc3 hne hle0 hns
                      go_wp2_with fail
                      refine C3.out.mono ?_
                      rintro _ w7 ⟨rfl, rfl⟩
                      clear C3
                      have r0 := K4.out.c0; have r1 := K4.out.c1; have r2 := K4.out.c2
                      have z0 := K4.out.fz 0; have z1 := K4.out.fz 1; have z2 := K4.out.fz 2
                      have RZ := Lib.hid (ret_zero B4.out (Nat.le_refl w.heap.size) K4.out)
                      go_wp2
                      obtain ⟨kr, nr, br⟩ := RZ.out
                      refine bodyPost_ret (v := .tuple #[.agg #[.bool false, .int .i64 0, .slice none 0 0], .int .i64 5]) ?_ rfl (by rw [HR.out]; exact ⟨_, rfl, nr, br⟩)
                      have q0 := kr.c0; have q1 := kr.c1; have q2 := kr.c2
                      unfold put3 at q0 q1 q2
                      simp [results, Tryz.results24, go_sem, q0, q1, q2]
                · rw [if_neg hge] at C3
                  have HR := Lib.hid (EN3.out (fun hh => hge (by
                    obtain ⟨a1, a2, a3⟩ := gd_iff.1 hh.1
                    exact gd_iff.2 ⟨a1, a2, fun h => absurd h hh.2.1⟩)))
                  have f9 : ((-1 : Int) == (s.size : Int)) = false := beq_eq_false_iff_ne.2 (by omega)
                  clear EX3 EN3 hvv hes hrr tp1 tp2 hge hhe hne
                  go_wp2_with fail
                  refine C3.out.mono ?_
                  rintro _ w7 ⟨rfl, rfl⟩
                  clear C3
                  have r0 := K4.out.c0; have r1 := K4.out.c1; have r2 := K4.out.c2
                  have z0 := K4.out.fz 0; have z1 := K4.out.fz 1; have z2 := K4.out.fz 2
                  have RZ := Lib.hid (ret_zero B4.out (Nat.le_refl w.heap.size) K4.out)
                  go_wp2
                  obtain ⟨kr, nr, br⟩ := RZ.out
                  refine bodyPost_ret (v := .tuple #[.agg #[.bool false, .int .i64 0, .slice none 0 0], .int .i64 5]) ?_ rfl (by rw [HR.out]; exact ⟨_, rfl, nr, br⟩)
                  have q0 := kr.c0; have q1 := kr.c1; have q2 := kr.c2
                  unfold put3 at q0 q1 q2
                  simp [results, Tryz.results24, go_sem, q0, q1, q2]
              · have hx2n : c2.toNat ≠ 45 := fun h => h45 (UInt8.toNat_inj.1 h)
                have hus : un (s.toList.drop k2) = s.toList.drop k2 ∧ sg (s.toList.drop k2) = false := by
                  have : sg (s.toList.drop k2) = false := by rw [hdr]; unfold sg; simpa using h45
                  exact ⟨by unfold un; rw [this]; rfl, this⟩
                rw [hus.1, hus.2] at EX2 EN2
                obtain ⟨x2, hx2⟩ : ∃ x, x = c2.toNat := ⟨_, rfl⟩
                rw [← hx2] at hix2 hx2n
                have f7 : ((x2 : Int) == 45) = false := by simp; omega
                obtain ⟨k3, hk3'⟩ : ∃ k3, k3 = k2 := ⟨_, rfl⟩
                have EX3 := EX2; have EN3 := EN2
                have hk3 : k3 ≤ s.size := by omega
                rw [← hk3'] at EX3 EN3 hix2 g1 HK2 hk2s hk2l hc2
                have HC2 := Lib.hid hc2; have HX2 := Lib.hid hx2
                clear hc2 hdr hus EX2 EN2 h45 hx2 hx2n hk3'

                obtain ⟨vv, hvv⟩ : ∃ v, v = s.toList.drop k3 := ⟨_, rfl⟩
                obtain ⟨tp1, tp2, tp3⟩ := span_at hvv (by rw [← size_of]; omega)
                have C3 := Lib.hid (count_any wr s k3 6 (by omega) hk3 (by omega))
                rw [← hvv] at C3 EX3 EN3
                have heA := Lib.hid (dsp_all vv)
                have hhe : (dsp vv).length ≠ 0 → (dsp vv).head? = s.toList[k3]? := fun h0 => by rw [List.head?_eq_getElem?, ← tp1 0 (by omega)]; rfl
                unfold cnt at C3
                obtain ⟨es, hes⟩ : ∃ d, d = dsp vv := ⟨_, rfl⟩
                obtain ⟨rr, hrr⟩ : ∃ r, r = rsp vv := ⟨_, rfl⟩
                rw [← hes] at C3 EX3 EN3 heA tp1 tp2 tp3 hhe
                rw [← hrr] at EX3 EN3 tp2
                obtain ⟨ne, hne⟩ : ∃ n, n = k3 + es.length := ⟨_, rfl⟩
                rw [← hne] at C3 tp2 tp3
                rw [← size_of] at tp3
                have HNe := Lib.hid hne; have TP1 := Lib.hid tp1
                by_cases hge : gd 6 false es = true
                · rw [if_pos hge] at C3
                  obtain ⟨j1, j2, j3⟩ := gd_iff.1 hge
                  have hle0 : es.length ≠ 0 := fun h => j1 (List.eq_nil_of_length_eq_zero h)
                  obtain ⟨c3, hc3e⟩ : ∃ c, c = c2 := ⟨_, rfl⟩
                  have hc3 : s.toList[k3]? = some c3 := by rw [hc3e]; exact HC2.out
                  have hxc : x2 = c3.toNat := by rw [hc3e]; exact HX2.out
                  clear hc3e HC2 HX2
                  have hh3 := hhe hle0
                  rw [hc3] at hh3
                  by_cases hok : ne = s.size ∧ c3 ≠ 48
                  · have hr0 : rr = [] := by rw [tp2, List.drop_eq_nil_of_le (by rw [← size_of]; omega)]
                    have hhd : es.head? ≠ some 48 := by rw [hh3]; simpa using hok.2
                    have HR := Lib.hid (EX3.out (gd_iff.2 ⟨j1, j2, fun h => absurd h hhd⟩) hhd hr0)
                    obtain ⟨x3, hx3e⟩ : ∃ x, x = x2 := ⟨_, rfl⟩
                    rw [← hx3e] at hix2 f7 hxc
                    have hx3 : x3 = c3.toNat := hxc
                    have hx3n : c3.toNat ≠ 48 := fun h => hok.2 (UInt8.toNat_inj.1 h)
                    rw [← hx3] at hx3n
                    have f8 : ((x3 : Int) == 48) = false := by simp; omega
                    have HJ2 := Lib.hid j2
                    have hnes : ne = s.size := hok.1
                    have HNs := Lib.hid (show s.size = k3 + es.length by rw [← hne]; exact hnes.symm)
                    clear EX3 EN3 hvv hes hrr tp1 tp2 hge j1 j2 j3 hhe hh3 hok hr0 hhd hx3 hx3n hc3 hne hle0 hx3e hxc
                    rw [hnes] at C3
                    clear hnes HNe
                    go_wp2_with fail
                    refine C3.out.mono ?_
                    rintro _ w7 ⟨rfl, rfl⟩
                    clear C3
                    go_wp2
                    go_loop [9, 11] (fun u v => P2Rel k3 s.size es u v) (fun u _ => s.size - (intOf u).toNat)
                    case atStart => exact ⟨k3, 0, Nat.le_refl _, hk3, rfl, rfl, by omega, Lib.hid (by rw [Nat.sub_self]; rfl)⟩
                    case round =>
                      obtain ⟨j, ev, hj1, hj2, rfl, rfl, hev, hE⟩ := hrel
                      by_cases hjl : j < s.size
                      · have hje : j - k3 < es.length := by have := HNs.out; omega
                        obtain ⟨cj, hcj⟩ : ∃ c, es[j - k3]? = some c := ⟨_, List.getElem?_eq_getElem hje⟩
                        have hcs : s.toList[j]? = some cj := by rw [← hcj, ← TP1.out (j - k3) hje]; congr 1; omega
                        obtain ⟨v1, v2⟩ := isd_val (heA.out cj (List.mem_of_getElem? hcj))
                        have hixj := idx_str s j cj (j : Int) rfl hcs
                        have hnx := dval_take_next hcj
                        rw [← hE.out] at hnx
                        have hbd := dval_lt (heA.out.take (j - k3 + 1))
                        have hb2 : 10 ^ (es.take (j - k3 + 1)).length ≤ 10 ^ 6 := Nat.pow_le_pow_right (by omega) (by rw [List.length_take]; have := HJ2.out; omega)
                        obtain ⟨d, hd⟩ : ∃ d, d = dv cj := ⟨_, rfl⟩
                        rw [v1] at hixj
                        rw [← hd] at hnx v2 hixj
                        obtain ⟨e2, he2⟩ : ∃ e, e = ev * 10 + d := ⟨_, rfl⟩
                        rw [← he2] at hnx
                        have he2b : e2 ≤ 1000000 := by omega
                        have HE2 := Lib.hid hnx
                        have p1 : IntKind.u8.wrap (((48 + d : Nat) : Int) - 48) = (d : Int) := by rw [IntKind.wrap_u8]; omega
                        have p2 : IntKind.i64.wrap (d : Int) = (d : Int) := by rw [IntKind.wrap_i64]; omega
                        have p3 : (10 : Int) * (ev : Int) + (d : Int) = (e2 : Int) := by omega
                        obtain ⟨y, hy⟩ : ∃ y, y = 48 + d := ⟨_, rfl⟩
                        rw [← hy] at p1 hixj
                        clear hje hcj hcs v1 v2 hnx hbd hb2 hd he2 hy hE
                        go_wp2
                        go_round
                        case rel => exact ⟨j + 1, e2, by omega, by omega, by go_num, rfl, he2b, Lib.hid (by rw [show j + 1 - k3 = j - k3 + 1 by omega]; exact HE2.out.symm)⟩
                        case measure => simp [intOf]; omega
                      · have e1 : es.take (j - k3) = es := List.take_of_length_le (by have := HNs.out; omega)
                        rw [e1] at hE
                        rw [← hE.out] at HR
                        clear e1 hE
                        have HS : Hid (sgn false ev = (ev : Int)) := Lib.hid rfl
                        rw [HS.out] at HR
                        have hcan := Lib.hid (nm_canon true M (ev : Int)); have hlt := Lib.hid (nm_lt (s := true) (e := (ev : Int)) HMB.out)
                        have C2 := Lib.hid (odd_any wr true (ev : Int) A4 n4 c4 M 80 D4.out HMB.out (by omega) (by omega) (by omega))
                        generalize nm true M (ev : Int) = qq at *
                        go_wp2_with fail
                        refine C2.out.mono ?_
                        rintro _ w5 ⟨_, rfl, ⟨A5, n5, c5, rfl, h5, _⟩, b5⟩
                        have K5 := Lib.hid (K4.out.step b5); have B5 := Lib.hid (below_step B4.out b5)
                        have CN := Lib.hid (vnum_any w5 qq A5 n5 c5 80 h5 hcan.out hlt.out (by omega))
                        rw [← HR.out] at CN
                        clear h5 b5 C2
                        go_wp2_with fail
                        refine CN.out.mono ?_
                        rintro _ w6 ⟨_, rfl, ⟨A6, n6, c6, rfl, h6⟩, b6⟩
                        have K6 := Lib.hid (K5.out.step b6)
                        have r0 := K6.out.c0; have r1 := K6.out.c1; have r2 := K6.out.c2
                        have z0 := K6.out.fz 0; have z1 := K6.out.fz 1; have z2 := K6.out.fz 2
                        have RN := Lib.hid (ret_num B5.out (Nat.le_refl w.heap.size) K6.out K5.out.lt b6 h6)
                        clear h6 b6 CN
                        go_wp2
                        obtain ⟨kr, nr, br⟩ := RN.out
                        refine bodyPost_ret (v := .tuple #[.agg #[.bool res_.1.s, .int .i64 res_.1.e, .slice A6 n6 c6], .int .i64 res_.2]) ?_ rfl ⟨_, rfl, nr, br⟩
                        have q0 := kr.c0; have q1 := kr.c1; have q2 := kr.c2
                        unfold put3 at q0 q1 q2
                        simp [results, Tryz.results24, go_sem, q0, q1, q2]
                  · have HR := Lib.hid (EN3.out (fun hh => hok ⟨by
                      have h1 := hh.2.2
                      rw [tp2] at h1
                      have h2 := congrArg List.length h1
                      rw [List.length_drop, ← size_of] at h2
                      simp at h2; omega, fun h => hh.2.1 (by rw [hh3, h])⟩))
                    by_cases hns : ne = s.size
                    · have h48 : c3 = 48 := Classical.byContradiction fun h => hok ⟨hns, h⟩
                      subst h48
                      have hx2e : x2 = 48 := hxc
                      subst hx2e
                      rw [hns] at C3
                      clear EX3 EN3 hvv hes hrr tp1 tp2 hge j1 j2 j3 hhe hh3 hok hc3 hne hle0 hns hxc
                      go_wp2_with fail
                      refine C3.out.mono ?_
                      rintro _ w7 ⟨rfl, rfl⟩
                      clear C3
                      have r0 := K4.out.c0; have r1 := K4.out.c1; have r2 := K4.out.c2
                      have z0 := K4.out.fz 0; have z1 := K4.out.fz 1; have z2 := K4.out.fz 2
                      have RZ := Lib.hid (ret_zero B4.out (Nat.le_refl w.heap.size) K4.out)
                      go_wp2
                      obtain ⟨kr, nr, br⟩ := RZ.out
                      refine bodyPost_ret (v := .tuple #[.agg #[.bool false, .int .i64 0, .slice none 0 0], .int .i64 5]) ?_ rfl (by rw [HR.out]; exact ⟨_, rfl, nr, br⟩)
                      have q0 := kr.c0; have q1 := kr.c1; have q2 := kr.c2
                      unfold put3 at q0 q1 q2
                      simp [results, Tryz.results24, go_sem, q0, q1, q2]
                    · have f9 : ((ne : Int) == (s.size : Int)) = false := by simp; omega
                      have f9' : ¬ (ne : Int) = (s.size : Int) := by omega
                      clear EX3 EN3 hvv hes hrr tp1 tp2 hge j1 j2 j3 hhe hh3 hok hc3 hne hle0 hns hxc
                      go_wp2_with fail
                      refine C3.out.mono ?_
                      rintro _ w7 ⟨rfl, rfl⟩
                      clear C3
                      have r0 := K4.out.c0; have r1 := K4.out.c1; have r2 := K4.out.c2
                      have z0 := K4.out.fz 0; have z1 := K4.out.fz 1; have z2 := K4.out.fz 2
                      have RZ := Lib.hid (ret_zero B4.out (Nat.le_refl w.heap.size) K4.out)
                      go_wp2
                      obtain ⟨kr, nr, br⟩ := RZ.out
                      refine bodyPost_ret (v := .tuple #[.agg #[.bool false, .int .i64 0, .slice none 0 0], .int .i64 5]) ?_ rfl (by rw [HR.out]; exact ⟨_, rfl, nr, br⟩)
                      have q0 := kr.c0; have q1 := kr.c1; have q2 := kr.c2
                      unfold put3 at q0 q1 q2
                      simp [results, Tryz.results24, go_sem, q0, q1, q2]
                · rw [if_neg hge] at C3
                  have HR := Lib.hid (EN3.out (fun hh => hge (by
                    obtain ⟨a1, a2, a3⟩ := gd_iff.1 hh.1
                    exact gd_iff.2 ⟨a1, a2, fun h => absurd h hh.2.1⟩)))
                  have f9 : ((-1 : Int) == (s.size : Int)) = false := beq_eq_false_iff_ne.2 (by omega)
                  clear EX3 EN3 hvv hes hrr tp1 tp2 hge hhe hne
                  go_wp2_with fail
                  refine C3.out.mono ?_
                  rintro _ w7 ⟨rfl, rfl⟩
                  clear C3
                  have r0 := K4.out.c0; have r1 := K4.out.c1; have r2 := K4.out.c2
                  have z0 := K4.out.fz 0; have z1 := K4.out.fz 1; have z2 := K4.out.fz 2
                  have RZ := Lib.hid (ret_zero B4.out (Nat.le_refl w.heap.size) K4.out)
                  go_wp2
                  obtain ⟨kr, nr, br⟩ := RZ.out
                  refine bodyPost_ret (v := .tuple #[.agg #[.bool false, .int .i64 0, .slice none 0 0], .int .i64 5]) ?_ rfl (by rw [HR.out]; exact ⟨_, rfl, nr, br⟩)
                  have q0 := kr.c0; have q1 := kr.c1; have q2 := kr.c2
                  unfold put3 at q0 q1 q2
                  simp [results, Tryz.results24, go_sem, q0, q1, q2]
            · have he2 : k2 = s.size := by omega
              have hdn : s.toList.drop k2 = [] := List.drop_eq_nil_of_le (by rw [← size_of]; omega)
              have HR := Lib.hid (EN2.out (by rw [hdn]; intro h; exact absurd h.1 (by decide)))
              have C3 := Lib.hid (count_any wr s k2 6 (by omega) hk2l (by omega))
              rw [hdn] at C3
              have hc3 : cnt 6 k2 [] = -1 := rfl
              rw [hc3] at C3
              have f5 : ¬ k2 < s.size := by omega
              have f6 : ((-1 : Int) == (s.size : Int)) = false := beq_eq_false_iff_ne.2 (by omega)
              clear EX2 EN2 hdn hc3 he2 hk2s
              go_wp2_with fail
              refine C3.out.mono ?_
              rintro _ w7 ⟨rfl, rfl⟩
              clear C3

              have r0 := K4.out.c0; have r1 := K4.out.c1; have r2 := K4.out.c2
              have z0 := K4.out.fz 0; have z1 := K4.out.fz 1; have z2 := K4.out.fz 2
              have RZ := Lib.hid (ret_zero B4.out (Nat.le_refl w.heap.size) K4.out)
              go_wp2
              obtain ⟨kr, nr, br⟩ := RZ.out
              refine bodyPost_ret (v := .tuple #[.agg #[.bool false, .int .i64 0, .slice none 0 0], .int .i64 5]) ?_ rfl (by rw [HR.out]; exact ⟨_, rfl, nr, br⟩)
              have q0 := kr.c0; have q1 := kr.c1; have q2 := kr.c2
              unfold put3 at q0 q1 q2
              simp [results, Tryz.results24, go_sem, q0, q1, q2]
          · have HR := Lib.hid (show res_ = (q0, 5) by
              by_cases h1 : c1 = 112
              · exact PZ.out (HX0.out.1 (Classical.byContradiction fun h => hbad ⟨h1, h⟩)) hrne
              · exact PN.out (by rw [hrs]; exact exs_no (by simp) (fun h => h1 (by simpa using h.1))))
            clear PZ PN PS hrs hrne
            by_cases h1 : c1 = 112
            · subst h1
              have hix1' : ∀ W, (Instr.index 9 (.string s) (.int .i64 (k : Int))).run Tryz.prog W = .ok (.int .u8 112) W := hix1
              have hx48 : x0 = 48 := Classical.byContradiction fun h => hbad ⟨rfl, h⟩
              exact absurd hx48 hxn
            · have hne : c1.toNat ≠ 112 := fun h => h1 (UInt8.toNat_inj.1 h)
              obtain ⟨x1, hx1⟩ : ∃ x, x = c1.toNat := ⟨_, rfl⟩
              rw [← hx1] at hix1 hne
              have f2 : ((x1 : Int) == 112) = false := by simp; omega
              have f2' : ¬ (x1 : Int) = 112 := by omega
              have f2'' : ((x1 : Int) != 112) = true := by simp; omega
              clear hbad hc1 hx1 h1 hne
              have r0 := K4.out.c0; have r1 := K4.out.c1; have r2 := K4.out.c2
              have z0 := K4.out.fz 0; have z1 := K4.out.fz 1; have z2 := K4.out.fz 2
              have RZ := Lib.hid (ret_zero B4.out (Nat.le_refl w.heap.size) K4.out)
              go_wp2
              obtain ⟨kr, nr, br⟩ := RZ.out
              refine bodyPost_ret (v := .tuple #[.agg #[.bool false, .int .i64 0, .slice none 0 0], .int .i64 5]) ?_ rfl (by rw [HR.out]; exact ⟨_, rfl, nr, br⟩)
              have q0 := kr.c0; have q1 := kr.c1; have q2 := kr.c2
              unfold put3 at q0 q1 q2
              simp [results, Tryz.results24, go_sem, q0, q1, q2]
  · have HR := Lib.hid (PB.out (by simpa using hg))

    by_cases hg0 : gd 1300 false ds = true
    · rw [if_pos hg0] at C1
      obtain ⟨g1, g2, g3⟩ := gd_iff.1 hg0
      have hl0 : ds.length ≠ 0 := fun h => g1 (List.eq_nil_of_length_eq_zero h)
      have hh48 : ds.head? = some 48 := Classical.byContradiction fun h => hg (gd_iff.2 ⟨g1, g2, fun h' => absurd h' h⟩)
      have hc0 : s.toList[1]? = some 48 := by rw [← HHd.out hl0]; exact hh48
      have hix0 := idx_str s 1 48 1 rfl hc0
      have hix0' : ∀ W, (Instr.index 9 (.string s) (.int .i64 1)).run Tryz.prog W = .ok (.int .u8 48) W := hix0
      clear hg hg0 g1 g2 g3 hl0 hh48 hc0 hix0 PB PZ PN PS
      go_enter Tryz.func24, Tryz.ntmps24
      go_wp2_with fail
      refine C1.out.mono ?_
      rintro _ w1 ⟨rfl, rfl⟩
      clear C1
      go_wp2
      refine bodyPost_ret (v := .tuple #[.agg #[.bool false, .int .i64 0, .slice none 0 0], .int .i64 5]) (by simp [results, Tryz.results24, go_sem]) rfl (by rw [HR.out]; exact ⟨_, rfl, numv0 _ _, B1.out⟩)
    · rw [if_neg hg0] at C1
      clear hg hg0 PB PZ PN PS
      go_enter Tryz.func24, Tryz.ntmps24
      go_wp2_with fail
      refine C1.out.mono ?_
      rintro _ w1 ⟨rfl, rfl⟩
      clear C1
      go_wp2
      refine bodyPost_ret (v := .tuple #[.agg #[.bool false, .int .i64 0, .slice none 0 0], .int .i64 5]) (by simp [results, Tryz.results24, go_sem]) rfl (by rw [HR.out]; exact ⟨_, rfl, numv0 _ _, B1.out⟩)

set_option maxRecDepth 100000 in
set_option maxHeartbeats 2000000 in
theorem rparse_nil (w : World) (s : ByteArray) (hl : s.toList = []) : Calls Tryz.prog 24 #[.string s] w (NumPost2 w (prs s.toList)) := by
  have K1 := Lib.hid (Bx.new w false 0 none 0 0); have B1 := Lib.hid (one_below w (.cells #[.bool false, .int .i64 0, .slice none 0 0] 24))
  have h0 : s.size = 0 := by rw [size_of, hl]; rfl
  have C1 := Lib.hid (count_any (w.alloc (.cells #[.bool false, .int .i64 0, .slice none 0 0] 24)) s 0 1300 (by omega) (by omega) (by omega))
  rw [hl] at C1 ⊢
  have hc : cnt 1300 0 (List.drop 0 []) = -1 := rfl
  rw [hc] at C1
  obtain ⟨res_, hres⟩ : ∃ r, r = prs [] := ⟨_, rfl⟩
  rw [← hres]
  have HR := Lib.hid (show res_ = (q0, 5) by rw [hres]; exact prs_bad rfl)
  clear hres hc hl
  go_enter Tryz.func24, Tryz.ntmps24
  go_wp2_with fail
  refine C1.out.mono ?_
  rintro _ w1 ⟨rfl, rfl⟩
  clear C1
  go_wp2
  refine bodyPost_ret (v := .tuple #[.agg #[.bool false, .int .i64 0, .slice none 0 0], .int .i64 5]) (by simp [results, Tryz.results24, go_sem]) rfl (by rw [HR.out]; exact ⟨_, rfl, numv0 _ _, B1.out⟩)

theorem rparse_any (w : World) (s : ByteArray) (hs : s.size ≤ 10000) : Calls Tryz.prog 24 #[.string s] w (NumPost2 w (prs s.toList)) := by
  cases hl : s.toList with
  | nil => rw [← hl]; exact rparse_nil w s hl
  | cons b r =>
    rw [← hl]
    by_cases hb : b = 45
    · exact rparse_neg w s hs r (by rw [hl, hb])
    · exact rparse_pos w s hs (by rw [size_of, hl]; simp) (by rw [hl]; unfold sg; simpa using hb)
end Go.Proofs.YtdmnohmjobofhaaGreatDoor
