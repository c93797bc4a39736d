/- digits.Text: the text of any number. -/
import Derived.Test.YtdmnohmjobofhaaDoorDgC
namespace Go.Proofs.YtdmnohmjobofhaaDoor
open Go.RowKit Nx

/-- What Text shows of any number. -/
def show_ (s : Bool) (e : Int) (n : Nat) (xs : List Nat) : List UInt8 := if okb s e n xs = true then txt ⟨s, nval B64 xs, e⟩ else []
set_option maxRecDepth 100000 in
set_option maxHeartbeats 2000000 in
theorem text_any (w : World) (s : Bool) (e : Int) (A : Option Addr) (n c : Nat) (xs : List Nat) (ha : Arg w A n c xs) (hn : n ≤ 100000) (hp : Pw w) :
    Calls Tryd.prog 15 #[.agg #[.bool s, .int .i64 e, .slice A n c]] w (StrPost w (show_ s e n xs)) := by
  have K1 := Lib.hid (Bx.new w s e A n c); have B1 := Lib.hid (one_below w (.cells #[.bool s, .int .i64 e, .slice A n c] 28))
  have C1 := Lib.hid (nright_any _ s e A n c xs (ha.step B1.out) hn)
  have HP := Lib.hid hp
  have HA := Lib.hid ha
  have r0 := K1.out.c0; have r1 := K1.out.c1; have r2 := K1.out.c2
  clear hp ha
  cases hok : okb s e n xs
  · rw [hok] at C1
    have HS : Hid (show_ s e n xs = []) := Lib.hid (by unfold show_; rw [hok]; rfl)
    clear hok
    go_enter Tryd.func15, Tryd.ntmps15
    go_wp2_with fail
    refine C1.out.mono ?_
    rintro _ w1 ⟨rfl, b1⟩
    go_wp2
    go_ret
    rw [HS.out]
    exact ⟨_, rfl, ByteArray.toList_mk [], below_step B1.out b1⟩
  · rw [hok] at C1
    have HS : Hid (show_ s e n xs = txt ⟨s, nval B64 xs, e⟩) := Lib.hid (by unfold show_; rw [hok]; rfl)
    obtain ⟨hI, hV⟩ := okb_true HA.out hok
    have hN : nval B64 xs < B64 ^ 64 := hV.2.1
    have he1 : -65536 ≤ e := hV.2.2.1
    have he2 : e ≤ 65536 := hV.2.2.2
    have HI := Lib.hid hI; have HN := Lib.hid hN
    clear hok hI hV hN
    generalize nval B64 xs = N at *
    go_enter Tryd.func15, Tryd.ntmps15
    go_wp2_with fail
    refine C1.out.mono ?_
    rintro _ w1 ⟨rfl, b1⟩
    have B2 := Lib.hid (below_step B1.out b1); have K2 := Lib.hid (K1.out.step b1)
    clear r0 r1 r2 C1 b1
    have r0 := K2.out.c0; have r1 := K2.out.c1; have r2 := K2.out.c2
    go_wp2_with fail
    refine (decimal_any w1 A n c N (HI.out.step B2.out) HN.out (HP.out.below B2.out)).mono ?_
    rintro _ w2 ⟨t, rfl, ht, b2⟩
    have hst : t.size ≤ 1300 := by rw [size_of, ht]; exact dec_len_le (Nat.lt_of_lt_of_le HN.out b64_ten) (by omega)
    have HT := Lib.hid ht
    have B3 := Lib.hid (below_step B2.out b2); have K3 := Lib.hid (K2.out.step b2)
    clear r0 r1 r2 ht b2 K1 K2 B2
    have r0 := K3.out.c0; have r1 := K3.out.c1; have r2 := K3.out.c2
    by_cases he : e = 0
    · subst he
      cases s
      · go_wp2
        go_ret
        refine ⟨_, rfl, ?_, B3.out⟩
        rw [HS.out, HT.out]; simp [txt]
      · go_wp2
        go_ret
        refine ⟨_, rfl, ?_, B3.out⟩
        rw [HS.out, cat_list, HT.out]; simp [txt]
    · have f0 : (e == 0) = false := by simp; exact he
      have C3 := Lib.hid (fmtint_any w2 e (by omega) (by omega) (HP.out.below B3.out))
      have hl : (Lib.itoa e).length ≤ 7 := by
        unfold Lib.itoa
        split
        · rw [List.length_cons]; have := dec_len_le (u := e.natAbs) (k := 6) (by omega) (by omega); omega
        · have := dec_len_le (u := e.toNat) (k := 6) (by omega) (by omega); omega
      have HL := Lib.hid hl; have HE := Lib.hid he
      clear hl he
      cases s
      · go_wp2_with fail
        refine C3.out.mono ?_
        rintro _ w3 ⟨t3, rfl, h3, b3⟩
        have hs3 : t3.size ≤ 7 := by rw [size_of, h3]; exact HL.out
        have H3 := Lib.hid h3
        clear h3
        go_wp2
        go_ret
        refine ⟨_, rfl, ?_, below_step B3.out b3⟩
        rw [HS.out, cat_list, cat_list, HT.out, H3.out]; simp [txt, HE.out]
      · go_wp2_with fail
        refine C3.out.mono ?_
        rintro _ w3 ⟨t3, rfl, h3, b3⟩
        have hs3 : t3.size ≤ 7 := by rw [size_of, h3]; exact HL.out
        have H3 := Lib.hid h3
        clear h3
        go_wp2
        go_ret
        refine ⟨_, rfl, ?_, below_step B3.out b3⟩
        rw [HS.out, cat_list, cat_list, cat_list, HT.out, H3.out]; simp [txt, HE.out]
end Go.Proofs.YtdmnohmjobofhaaDoor
