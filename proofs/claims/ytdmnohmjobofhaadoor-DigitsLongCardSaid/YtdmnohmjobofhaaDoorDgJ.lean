/- digits.Parse: the number that a text is. -/
import Derived.Test.YtdmnohmjobofhaaDoorDgI
namespace Go.Proofs.YtdmnohmjobofhaaDoor
open Go.RowKit Nx

theorem prs_bad {l : List UInt8} (h : gd 1300 (sg l) (dsp (un l)) = false) : prs l = (q0, 5) := by
  unfold prs; rw [if_neg (fun hh => by rw [h] at hh; cases hh.1)]
theorem prs_zero {l : List UInt8} (h : (dsp (un l)).head? = some 48) (h2 : rsp (un l) ≠ []) : prs l = (q0, 5) := by
  unfold prs; rw [if_neg (fun hh => h2 (hh.2 h))]
theorem prs_none {l : List UInt8} (h : exs (rsp (un l)) = none) : prs l = (q0, 5) := by
  unfold prs
  split
  · rw [h]
  · rfl
theorem prs_some {l : List UInt8} {e : Int} (h : gd 1300 (sg l) (dsp (un l)) = true) (h2 : (dsp (un l)).head? = some 48 → rsp (un l) = []) (h3 : exs (rsp (un l)) = some e) : prs l = res (nm (sg l) (dval (dsp (un l))) e) := by
  unfold prs; rw [if_pos ⟨h, h2⟩, h3]
theorem prs_fits (l : List UInt8) : (prs l).1.m < B64 ^ 64 := by
  have h0 : q0.m < B64 ^ 64 := fits0.1
  unfold prs
  split
  · split
    · rename_i e _
      unfold res
      split
      · rename_i h; exact h.1
      · exact h0
    · exact h0
  · exact h0

set_option maxRecDepth 100000 in
set_option maxHeartbeats 2000000 in
theorem parse_any (w : World) (s : ByteArray) (hs : s.size ≤ 10000) (ht : Tab w) : Calls Tryd.prog 6 #[.string s] w (NumPost2 w (prs s.toList)) := by
  have K1 := Lib.hid (Bx.new w false 0 none 0 0); have B1 := Lib.hid (one_below w (.cells #[.bool false, .int .i64 0, .slice none 0 0] 28))
  have C1 := Lib.hid (cutint_any (w.alloc (.cells #[.bool false, .int .i64 0, .slice none 0 0] 28)) s 1300 (by omega))
  have HT := Lib.hid ht
  have hl : s.toList.length ≤ 10000 := by rw [← size_of]; exact hs
  have hul : (un s.toList).length ≤ 10000 := by
    unfold un; split
    · simp; omega
    · exact hl
  have hrl : (rsp (un s.toList)).length ≤ 10000 := by
    have := congrArg List.length (dsp_rsp (un s.toList)); simp at this; omega
  have HRL := Lib.hid hrl
  unfold CutIPost at C1
  have PB := Lib.hid (@prs_bad s.toList); have PZ := Lib.hid (@prs_zero s.toList); have PN := Lib.hid (@prs_none s.toList); have PS := Lib.hid (fun (e : Int) => prs_some (l := s.toList) (e := e))
  clear ht hl hul hrl hs
  generalize s.toList = l at *
  obtain ⟨res_, hres⟩ : ∃ r, r = prs l := ⟨_, rfl⟩
  rw [← hres] at PB PZ PN PS ⊢
  clear hres
  have hdA := Lib.hid (dsp_all (un l))
  generalize dsp (un l) = ds at *
  generalize rsp (un l) = rs at *
  generalize sg l = neg at *
  cases hg : gd 1300 neg ds
  · rw [hg] at C1
    have HR := Lib.hid (PB.out hg)
    clear hg PB PZ PN PS
    go_enter Tryd.func6, Tryd.ntmps6
    go_wp2_with fail
    refine C1.out.mono ?_
    rintro _ w2 ⟨b2, _, k2⟩
    obtain rfl := k2 (by simp)
    have K2 := Lib.hid (K1.out.step b2); have B2 := Lib.hid (below_step B1.out b2)
    clear k2 C1 b2
    have r0 := K2.out.c0; have r1 := K2.out.c1; have r2 := K2.out.c2
    have z0 := K2.out.fz 0; have z1 := K2.out.fz 1; have z2 := K2.out.fz 2
    have RZ := Lib.hid (ret_zero B2.out (Nat.le_refl w.heap.size) K2.out)
    go_wp2
    obtain ⟨kr, nr, br⟩ := RZ.out
    refine bodyPost_ret (v := .tuple #[.agg #[.bool false, .int .i64 0, .slice none 0 0], .int .i64 5]) ?_ rfl (by rw [HR.out]; exact ⟨_, rfl, nr, br⟩)
    have q0 := kr.c0; have q1 := kr.c1; have q2 := kr.c2
    unfold put3 at q0 q1 q2
    simp [results, Tryd.results6, go_sem, q0, q1, q2]
  · rw [hg] at C1
    have hgz := gd_zero hg
    have hgl := (gd_iff.1 hg).2.1
    have HG := Lib.hid hg
    have HGL := Lib.hid hgl
    clear hg hgl
    go_enter Tryd.func6, Tryd.ntmps6
    go_wp2_with fail
    refine C1.out.mono ?_
    rintro _ w2 ⟨b2, k2, _⟩
    obtain ⟨t, rr, rfl, ht, hr⟩ := k2 (by simp)
    have K2 := Lib.hid (K1.out.step b2); have B2 := Lib.hid (below_step B1.out b2)
    clear k2 C1 b2
    by_cases hbad : ds.head? = some 48 ∧ rs ≠ []
    · have HR := Lib.hid (PZ.out hbad.1 hbad.2)
      have e0 : (t.toList == [48]) = true := by rw [ht, hgz.2 hbad.1]; rfl
      have e1 : (rr.toList == []) = false := by rw [hr]; simpa using hbad.2
      have e2 : rr.toList.isEmpty = false := by rw [hr]; simpa using hbad.2
      clear hbad hgz ht hr PB PZ PN PS
      have r0 := K2.out.c0; have r1 := K2.out.c1; have r2 := K2.out.c2
      have z0 := K2.out.fz 0; have z1 := K2.out.fz 1; have z2 := K2.out.fz 2
      have RZ := Lib.hid (ret_zero B2.out (Nat.le_refl w.heap.size) K2.out)
      go_wp2
      obtain ⟨kr, nr, br⟩ := RZ.out
      refine bodyPost_ret (v := .tuple #[.agg #[.bool false, .int .i64 0, .slice none 0 0], .int .i64 5]) ?_ rfl (by rw [HR.out]; exact ⟨_, rfl, nr, br⟩)
      have q0 := kr.c0; have q1 := kr.c1; have q2 := kr.c2
      unfold put3 at q0 q1 q2
      simp [results, Tryd.results6, go_sem, q0, q1, q2]
    · have hcond : ds.head? = some 48 → rs = [] := fun h => Classical.byContradiction fun h2 => hbad ⟨h, h2⟩
      have htest : (t.toList == [48]) = false ∨ ((t.toList == [48]) = true ∧ rr.toList = []) := by
        rw [ht, hr]
        by_cases hz : ds.head? = some 48
        · exact .inr ⟨by rw [hgz.2 hz]; rfl, hcond hz⟩
        · refine .inl ?_
          cases hh : (ds == [48])
          · rfl
          · exact absurd (hgz.1 (by simpa using hh)) hz
      have HCd := Lib.hid hcond
      have C3 := Lib.hid (expo_any w2 rr (by rw [size_of, hr]; have := HRL.out; omega))
      rw [hr] at C3
      have CNt := Lib.hid (fun W => natural_any W t (by rw [ht]; exact hdA.out) (by rw [size_of, ht]; exact HGL.out))
      rw [ht] at CNt
      have HV := Lib.hid (dval_b64 hdA.out HGL.out)
      clear hbad hgz ht hr hcond
      cases hx : exs rs with
      | none =>
        have HR := Lib.hid (PN.out hx)
        rw [hx] at C3
        clear hx PB PZ PN PS
        rcases htest with e0 | ⟨e0, e1⟩
        all_goals
          go_wp2_with fail
          refine C3.out.mono ?_
          rintro _ w3 ⟨rfl, b3⟩
          have K3 := Lib.hid (K2.out.step b3); have B3 := Lib.hid (below_step B2.out b3)
          clear C3 b3
          have r0 := K3.out.c0; have r1 := K3.out.c1; have r2 := K3.out.c2
          have z0 := K3.out.fz 0; have z1 := K3.out.fz 1; have z2 := K3.out.fz 2
          have RZ := Lib.hid (ret_zero B3.out (Nat.le_refl w.heap.size) K3.out)
          simp only [Option.getD_none, Option.isSome_none]
          go_wp2
          obtain ⟨kr, nr, br⟩ := RZ.out
          refine bodyPost_ret (v := .tuple #[.agg #[.bool false, .int .i64 0, .slice none 0 0], .int .i64 5]) ?_ rfl (by rw [HR.out]; exact ⟨_, rfl, nr, br⟩)
          have q0 := kr.c0; have q1 := kr.c1; have q2 := kr.c2
          unfold put3 at q0 q1 q2
          simp [results, Tryd.results6, go_sem, q0, q1, q2]
      | some v =>
        have HR := Lib.hid (PS.out v HG.out HCd.out hx)
        rw [hx] at C3
        clear hx PB PZ PN PS
        rcases htest with e0 | ⟨e0, e1⟩
        all_goals
          go_wp2_with fail
          refine C3.out.mono ?_
          rintro _ w3 ⟨rfl, b3⟩
          have K3 := Lib.hid (K2.out.step b3); have B3 := Lib.hid (below_step B2.out b3)
          clear C3 b3
          simp only [Option.getD_some, Option.isSome_some]
          go_wp2_with fail
          refine (CNt.out w3).mono ?_
          rintro _ w4 ⟨A4, n4, c4, rfl, h4, b4⟩
          have K4 := Lib.hid (K3.out.step b4); have B4 := Lib.hid (below_step B3.out b4)
          have CM := Lib.hid (make_is neg v h4 HV.out (by omega) (HT.out.below B4.out))
          rw [← HR.out] at CM
          clear CNt h4 b4
          go_wp2_with fail
          refine CM.out.mono ?_
          rintro _ w6 ⟨_, rfl, ⟨A6, n6, c6, rfl, h6⟩, b6⟩
          have K6 := Lib.hid (K4.out.step b6)
          have r0 := K6.out.c0; have r1 := K6.out.c1; have r2 := K6.out.c2
          have z0 := K6.out.fz 0; have z1 := K6.out.fz 1; have z2 := K6.out.fz 2
          have RN := Lib.hid (ret_num B4.out (Nat.le_refl w.heap.size) K6.out K4.out.lt b6 h6)
          clear h6 b6 CM
          go_wp2
          obtain ⟨kr, nr, br⟩ := RN.out
          refine bodyPost_ret (v := .tuple #[.agg #[.bool res_.1.s, .int .i64 res_.1.e, .slice A6 n6 c6], .int .i64 res_.2]) ?_ rfl ⟨_, rfl, nr, br⟩
          have q0 := kr.c0; have q1 := kr.c1; have q2 := kr.c2
          unfold put3 at q0 q1 q2
          simp [results, Tryd.results6, go_sem, q0, q1, q2]
end Go.Proofs.YtdmnohmjobofhaaDoor
