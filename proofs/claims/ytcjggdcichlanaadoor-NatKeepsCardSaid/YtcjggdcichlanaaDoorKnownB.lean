/- known, walked. -/
import Derived.Test.YtcjggdcichlanaaDoorKnown
namespace Go.Proofs.YtcjggdcichlanaaDoor
open Go.RowKit Nx

set_option maxRecDepth 100000 in
set_option maxHeartbeats 4000000 in
theorem known_any (w : World) (ht : Tab w) : Calls Tryd.prog 10 #[] w fun e w' => e = .returned (.bool true) ∧ Below w.heap.size w w' := by
  have HT := Lib.hid ht
  clear ht
  go_enter Tryd.func10, Tryd.ntmps10
  go_wp2_with fail
  refine (k_div w).mono ?_
  rintro e w1 ⟨Aq, Ar, nq, cq, nr, cr, rfl, hq, hr, hb⟩
  have B1 := Lib.hid hb; have Q1 := Lib.hid hq; have R1 := Lib.hid hr
  clear hb hq hr
  go_wp2_with fail
  refine (k_sub w1).mono ?_
  rintro e w2 ⟨Ad, nd, cd, rfl, hd, hb⟩
  have B2 := Lib.hid (below_step B1.out hb); have Q2 := Lib.hid (rd_step Q1.out hb); have R2 := Lib.hid (rd_step R1.out hb); have D2 := Lib.hid hd
  clear hb hd B1 Q1 R1
  go_wp2_with fail
  refine (k_add w2).mono ?_
  rintro e w3 ⟨A3, n3, c3, rfl, h, hb⟩
  have B3 := Lib.hid (below_step B2.out hb); have Q3 := Lib.hid (rd_step Q2.out hb); have R3 := Lib.hid (rd_step R2.out hb); have D3 := Lib.hid (rd_step D2.out hb); have S3 := Lib.hid h
  clear hb h B2 Q2 R2 D2
  go_wp2_with fail
  refine (k_words2 w3 A3 n3 c3 0 1 S3.out).mono ?_
  rintro e w4 ⟨rfl, hb⟩
  have B4 := Lib.hid (below_step B3.out hb); have Q4 := Lib.hid (rd_step Q3.out hb); have R4 := Lib.hid (rd_step R3.out hb); have D4 := Lib.hid (rd_step D3.out hb)
  clear hb B3 Q3 R3 D3 S3
  go_wp2_with fail
  refine (k_shift w4).mono ?_
  rintro e w5 ⟨A5, n5, c5, rfl, h, hb⟩
  have B5 := Lib.hid (below_step B4.out hb); have Q5 := Lib.hid (rd_step Q4.out hb); have R5 := Lib.hid (rd_step R4.out hb); have D5 := Lib.hid (rd_step D4.out hb); have S5 := Lib.hid h
  clear hb h B4 Q4 R4 D4
  go_wp2_with fail
  refine (k_words w5 A5 n5 c5 2 S5.out).mono ?_
  rintro e w6 ⟨rfl, hb⟩
  have B6 := Lib.hid (below_step B5.out hb); have Q6 := Lib.hid (rd_step Q5.out hb); have R6 := Lib.hid (rd_step R5.out hb); have D6 := Lib.hid (rd_step D5.out hb)
  clear hb B5 Q5 R5 D5 S5
  go_wp2_with fail
  refine (k_words w6 Aq nq cq 3 Q6.out).mono ?_
  rintro e w7 ⟨rfl, hb⟩
  have B7 := Lib.hid (below_step B6.out hb); have R7 := Lib.hid (rd_step R6.out hb); have D7 := Lib.hid (rd_step D6.out hb)
  clear hb B6 Q6 R6 D6
  go_wp2_with fail
  refine (k_words w7 Ar nr cr 1 R7.out).mono ?_
  rintro e w8 ⟨rfl, hb⟩
  have B8 := Lib.hid (below_step B7.out hb); have D8 := Lib.hid (rd_step D7.out hb)
  clear hb B7 R7 D7
  go_wp2_with fail
  refine (k_words w8 Ad nd cd 2 D8.out).mono ?_
  rintro e w9 ⟨rfl, hb⟩
  have B9 := Lib.hid (below_step B8.out hb)
  clear hb B8 D8
  go_wp2_with fail
  refine (k_mul w9).mono ?_
  rintro e wa ⟨Aa, na, ca, rfl, h, hb⟩
  have Ba := Lib.hid (below_step B9.out hb); have Sa := Lib.hid h
  clear hb h B9
  go_wp2_with fail
  refine (k_words wa Aa na ca 12 Sa.out).mono ?_
  rintro e wb ⟨rfl, hb⟩
  have Bb := Lib.hid (below_step Ba.out hb)
  clear hb Ba Sa
  go_wp2_with fail
  refine (k_cmp wb).mono ?_
  rintro e wc ⟨rfl, hb⟩
  have Bc := Lib.hid (below_step Bb.out hb)
  clear hb Bb
  go_wp2_with fail
  refine (k_bits wc).mono ?_
  rintro e wd1 ⟨rfl, hb⟩
  have Bd := Lib.hid (below_step Bc.out hb)
  clear hb Bc
  go_wp2_with fail
  refine (k_zeros wd1 (HT.out.below Bd.out)).mono ?_
  rintro e we ⟨rfl, hb⟩
  have Be := Lib.hid (below_step Bd.out hb)
  clear hb Bd
  go_wp2_with fail
  refine (k_right we).mono ?_
  rintro e wf ⟨rfl, hb⟩
  have Bf := Lib.hid (below_step Be.out hb)
  clear hb Be
  go_wp2_with fail
  refine (k_trim wf).mono ?_
  rintro e wg ⟨Ag, ng, cg, rfl, h, hb⟩
  have Bg := Lib.hid (below_step Bf.out hb); have Sg := Lib.hid h
  clear hb h Bf
  go_wp2_with fail
  refine (k_words wg Ag ng cg 1 Sg.out).mono ?_
  rintro e wh ⟨rfl, hb⟩
  have Bh := Lib.hid (below_step Bg.out hb)
  clear hb Bg Sg
  go_wp2
  go_ret
  exact ⟨rfl, Bh.out⟩
end Go.Proofs.YtcjggdcichlanaaDoor
