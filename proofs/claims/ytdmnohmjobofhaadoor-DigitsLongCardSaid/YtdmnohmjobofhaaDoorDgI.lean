/- digits.exponent and digits.Parse. -/
import Derived.Test.YtdmnohmjobofhaaDoorDgH
namespace Go.Proofs.YtdmnohmjobofhaaDoor
open Go.RowKit Nx

theorem parse_sgn {r : List UInt8} (h : gd 6 (sg r) (dsp (un r)) = true) (h3 : rsp (un r) = []) : Lib.parseIntB 64 r = .ok (sgn (sg r) (dval (dsp (un r)))) := by
  obtain ⟨g1, g2, _⟩ := gd_iff.1 h
  have hu : un r = dsp (un r) := by have := dsp_rsp (un r); rw [h3, List.append_nil] at this; exact this.symm
  have hv : dval (dsp (un r)) < 9223372036854775808 := by
    have h1 := dval_lt (dsp_all (un r))
    have h2 : 10 ^ (dsp (un r)).length ≤ 10 ^ 6 := Nat.pow_le_pow_right (by omega) g2
    omega
  have hp := parseI_pos (dsp_all (un r)) g1 hv
  have hn := parseI_neg (dsp_all (un r)) g1 hv
  rw [← hu] at hp hn
  cases hs : sg r
  · have e : un r = r := by unfold un; rw [hs]; rfl
    rw [e] at hp hu ⊢
    rw [hp, ← hu]; rfl
  · have e : r = 45 :: un r := by
      unfold un; rw [hs]
      unfold sg at hs
      cases r with
      | nil => simp at hs
      | cons c t => simp at hs; simp [hs]
    rw [← e] at hn
    rw [hn, ← hu]; rfl
theorem exs_val {r : List UInt8} {v : Int} (h : exs r = some v) : -1000000 ≤ v ∧ v ≤ 1000000 := by
  unfold exs at h
  split at h
  · injection h with h; omega
  · split at h
    · rename_i hh
      injection h with h
      obtain ⟨g1, g2, _⟩ := gd_iff.1 hh.2.1
      have h1 := dval_lt (dsp_all (un r.tail))
      have h2 : 10 ^ (dsp (un r.tail)).length ≤ 10 ^ 6 := Nat.pow_le_pow_right (by omega) g2
      rw [← h]; unfold sgn; split <;> omega
    · cases h
theorem cutp_yes (w : World) (s : ByteArray) (c : UInt8) (r : List UInt8) (h : s.toList = c :: r) : Calls Tryd.prog 28 #[.string s, .string ⟨#[c]⟩] w
    fun e w' => ∃ t : ByteArray, e = .returned (.tuple #[.string t, .bool true]) ∧ t.toList = r ∧ w = w' := by
  refine (cutprefix_any w s c).mono ?_
  rintro e w' ⟨t, rfl, h1, h2⟩
  have hb : (s.toList.head? == some c) = true := by rw [h]; simp
  rw [if_pos hb, h] at h1
  exact ⟨t, by rw [hb], h1, h2⟩
theorem cutp_no (w : World) (s : ByteArray) (c : UInt8) (h : s.toList.head? ≠ some c) : Calls Tryd.prog 28 #[.string s, .string ⟨#[c]⟩] w
    fun e w' => ∃ t : ByteArray, e = .returned (.tuple #[.string t, .bool false]) ∧ t.toList = s.toList ∧ w = w' := by
  refine (cutprefix_any w s c).mono ?_
  rintro e w' ⟨t, rfl, h1, h2⟩
  have hb : (s.toList.head? == some c) = false := by simpa using h
  rw [if_neg (by rw [hb]; simp)] at h1
  exact ⟨t, by rw [hb], h1, h2⟩
def ExPost (w : World) (o : Option Int) (e : Ending) (w' : World) : Prop := e = .returned (.tuple #[.int .i64 (o.getD 0), .bool o.isSome]) ∧ Below w.heap.size w w'
theorem exs_no {l : List UInt8} (h0 : l ≠ []) (h : ¬ (l.head? = some 112 ∧ gd 6 (sg l.tail) (dsp (un l.tail)) = true ∧ (dsp (un l.tail)).head? ≠ some 48 ∧ rsp (un l.tail) = [])) : exs l = none := by
  unfold exs; rw [if_neg h0, if_neg h]
theorem exs_yes {l : List UInt8} (h0 : l ≠ []) (h : l.head? = some 112 ∧ gd 6 (sg l.tail) (dsp (un l.tail)) = true ∧ (dsp (un l.tail)).head? ≠ some 48 ∧ rsp (un l.tail) = []) : exs l = some (sgn (sg l.tail) (dval (dsp (un l.tail)))) := by
  unfold exs; rw [if_neg h0, if_pos h]

set_option maxRecDepth 100000 in
set_option maxHeartbeats 2000000 in
theorem expo_any (w : World) (s : ByteArray) (hs : s.size ≤ 100000) : Calls Tryd.prog 17 #[.string s] w (ExPost w (exs s.toList)) := by
  have hsz := size_of s
  cases hl : s.toList with
  | nil =>
    have e0 : s.toList = [] := hl
    clear hsz
    have HX := Lib.hid exs_nil
    go_enter Tryd.func17, Tryd.ntmps17
    go_wp2
    refine bodyPost_ret (v := .tuple #[.int .i64 0, .bool true]) (by simp [results, Tryd.results17, go_sem]) rfl (by rw [HX.out]; exact ⟨rfl, Below.refl _ _⟩)
  | cons b r =>
    have f0 : (s.toList == []) = false := by rw [hl]; rfl
    have f1 : s.toList.isEmpty = false := by rw [hl]; rfl
    have CY := Lib.hid (fun (hb : b = 112) => cutp_yes w s 112 r (by rw [hl, hb])); have CN := Lib.hid (fun hb => cutp_no w s 112 hb)
    rw [hl] at CN
    simp only [List.head?_cons] at CN
    have hne : (b :: r) ≠ [] := by simp
    have HNo := Lib.hid (exs_no (l := b :: r) hne); have HYes := Lib.hid (exs_yes (l := b :: r) hne)
    simp only [List.head?_cons, List.tail_cons] at HNo HYes
    have hrl : r.length ≤ 100000 := by rw [hl] at hsz; simp at hsz; omega
    have HRL := Lib.hid hrl
    obtain ⟨o, ho⟩ : ∃ o, o = exs (b :: r) := ⟨_, rfl⟩
    rw [← ho] at HNo HYes ⊢
    clear ho hne hl hrl
    by_cases hp : b = 112
    · have C1 := Lib.hid (CY.out hp)
      subst hp
      clear CY CN
      go_enter Tryd.func17, Tryd.ntmps17
      go_wp2_with fail
      refine C1.out.mono ?_
      rintro _ w1 ⟨t1, rfl, h1, rfl⟩
      have hs1 : t1.size ≤ 100000 := by rw [size_of, h1]; exact HRL.out
      have C2 := Lib.hid (cutint_any w t1 6 (by omega))
      have HP1 := Lib.hid (fun (v : Int) (hv : Lib.parseIntB 64 r = .ok v) W => parseint_any W t1 v (by omega) (by rw [h1]; exact hv))
      rw [h1] at C2
      unfold CutIPost at C2
      clear h1 C1
      cases hg : gd 6 (sg r) (dsp (un r))
      · have Ho := Lib.hid (HNo.out (by rw [hg]; simp))
        rw [hg] at C2
        go_wp2_with fail
        refine C2.out.mono ?_
        rintro _ w2 ⟨b2, _, k2⟩
        obtain rfl := k2 (by simp)
        clear k2 C2
        go_wp2
        refine bodyPost_ret (v := .tuple #[.int .i64 0, .bool false]) (by simp [results, Tryd.results17, go_sem]) rfl (by rw [Ho.out]; exact ⟨rfl, b2⟩)
      · rw [hg] at C2
        have hgz := gd_zero hg
        have HG := Lib.hid hg
        clear hg
        go_wp2_with fail
        refine C2.out.mono ?_
        rintro _ w2 ⟨b2, k2, _⟩
        obtain ⟨t, rr, rfl, ht, hr⟩ := k2 (by simp)
        clear k2 C2
        by_cases hr0 : rsp (un r) = []
        · by_cases hz : (dsp (un r)).head? = some 48
          · have e0 : rr.toList = [] := by rw [hr, hr0]
            have e1 : (t.toList == [48]) = true := by rw [ht, hgz.2 hz]; rfl
            have Ho := Lib.hid (HNo.out (fun h => h.2.2.1 hz))
            have HB := Lib.hid b2
            clear hr0 hz hr ht hgz b2
            go_wp2
            refine bodyPost_ret (v := .tuple #[.int .i64 0, .bool false]) (by simp [results, Tryd.results17, go_sem]) rfl (by rw [Ho.out]; exact ⟨rfl, HB.out⟩)
          · have e0 : rr.toList = [] := by rw [hr, hr0]
            have e1 : (t.toList == [48]) = false := by
              rw [ht]
              cases hh : (dsp (un r) == [48])
              · rfl
              · exact absurd (hgz.1 (by simpa using hh)) hz
            have Ho := Lib.hid (HYes.out ⟨by simp, HG.out, hz, hr0⟩)
            have C3 := Lib.hid (HP1.out _ (parse_sgn HG.out hr0))
            obtain ⟨v, hv⟩ : ∃ v, v = sgn (sg r) (dval (dsp (un r))) := ⟨_, rfl⟩
            rw [← hv] at C3 Ho
            have HB := Lib.hid b2
            clear hr0 hz hr ht hgz b2 hv
            go_wp2_with fail
            refine (C3.out w2).mono ?_
            rintro _ w3 ⟨rfl, b3⟩
            clear C3
            go_wp2
            go_quiet (fail)
            go_wp2
            refine bodyPost_ret (v := .tuple #[.int .i64 v, .bool true]) (by simp [results, Tryd.results17, go_sem]) rfl (by rw [Ho.out]; exact ⟨rfl, below_drewN (below_step HB.out b3) _⟩)
        · have Ho := Lib.hid (HNo.out (fun h => hr0 h.2.2.2))
          have e0 : (rr.toList == []) = false := by rw [hr]; simpa using hr0
          have e1 : rr.toList.isEmpty = false := by rw [hr]; simpa using hr0
          have HB := Lib.hid b2
          clear hr0 hr ht hgz b2
          go_wp2
          refine bodyPost_ret (v := .tuple #[.int .i64 0, .bool false]) (by simp [results, Tryd.results17, go_sem]) rfl (by rw [Ho.out]; exact ⟨rfl, HB.out⟩)
    · have C1 := Lib.hid (CN.out (by simpa using hp))
      have Ho := Lib.hid (HNo.out (fun h => hp (by simpa using h.1)))
      clear hp CY CN
      go_enter Tryd.func17, Tryd.ntmps17
      go_wp2_with fail
      refine C1.out.mono ?_
      rintro _ w1 ⟨t1, rfl, h1, rfl⟩
      have hs1 : t1.size ≤ 100001 := by rw [size_of, h1]; have := HRL.out; simp; omega
      have C2 := Lib.hid (cutint_any w t1 6 (by omega))
      unfold CutIPost at C2
      clear h1 C1
      cases hg : gd 6 (sg t1.toList) (dsp (un t1.toList))
      all_goals
        rw [hg] at C2
        clear hg
        go_wp2_with fail
        refine C2.out.mono ?_
      · rintro _ w2 ⟨b2, _, k2⟩
        obtain rfl := k2 (by simp)
        clear k2 C2
        go_wp2
        refine bodyPost_ret (v := .tuple #[.int .i64 0, .bool false]) (by simp [results, Tryd.results17, go_sem]) rfl (by rw [Ho.out]; exact ⟨rfl, b2⟩)
      · rintro _ w2 ⟨b2, k2, _⟩
        obtain ⟨t, rr, rfl, _, _⟩ := k2 (by simp)
        clear k2 C2
        go_wp2
        refine bodyPost_ret (v := .tuple #[.int .i64 0, .bool false]) (by simp [results, Tryd.results17, go_sem]) rfl (by rw [Ho.out]; exact ⟨rfl, b2⟩)
end Go.Proofs.YtdmnohmjobofhaaDoor
