/- The laws of round, walked: RoundDrawn. -/
import Derived.Test.YtnkbamjjpdmbaaaDoorRndLO
import Derived.Test.YtnkbamjjpdmbaaaDoorSeatY
namespace Go.Proofs.YtnkbamjjpdmbaaaDoor
open Go.RowKit Nx

set_option maxRecDepth 100000 in
set_option maxHeartbeats 8000000 in
theorem rdrawn_walk (w : World) (A : Option Addr) (n c : Nat) (xs : List Nat) (up : Bool) (ha : Arg w A n c xs) (ht : Tab w) :
    Calls Tryd.prog 5 #[.slice A n c, .bool up] w (LawPost w) := by
  have HA := Lib.hid ha; have HT := Lib.hid ht
  have C := Lib.hid (known_any _ ht)
  clear ha ht
  go_enter Tryd.func5, Tryd.ntmps5
  go_wp2_with fail
  refine C.out.mono ?_
  rintro _ w1 ⟨rfl, b⟩
  have BB := Lib.hid b
  have D := Lib.hid (sof_any w1 A n c)
  clear b C
  go_wp2_with fail
  refine D.out.mono ?_
  rintro _ w2 ⟨rfl, dk, b⟩
  obtain ⟨g, hg⟩ : ∃ g, g = w1.heap.size := ⟨_, rfl⟩
  rw [← hg] at dk ⊢
  have hwg : w.heap.size ≤ g := by rw [hg]; exact BB.out.size
  replace BB := Lib.hid (below_step BB.out b)
  have DK := Lib.hid dk
  have hg2 : g < w2.heap.size := dk.lt
  clear b D dk hg
  have D := Lib.hid (draw_any w2 g 0 w.heap.size A n c 0 xs DK.out (HA.out.1.below BB.out) HA.out.2 (by omega) BB.out.size hwg)
  go_wp2_with fail
  refine D.out.mono ?_
  clear D
  rintro _ w3 ⟨qa, _, ka, fa, rfl, na', dk, hka, m⟩
  have Va := Lib.hid fa; have Na := Lib.hid na'
  replace DK := Lib.hid dk
  replace BB := Lib.hid (Mv.below BB.out m hwg BB.out.size)
  have sz3 : w2.heap.size ≤ w3.heap.size := m.size
  clear fa na' dk m
  have D := Lib.hid (draw_any w3 g 0 w.heap.size A n c ka xs DK.out (HA.out.1.below BB.out) HA.out.2 (by omega) BB.out.size hwg)
  go_wp2_with fail
  refine D.out.mono ?_
  clear D
  rintro _ w4 ⟨qb, _, kb, fb, rfl, nb', dk, hkb, m⟩
  have Vb := Lib.hid fb; have Nb := Lib.hid nb'
  replace DK := Lib.hid dk
  replace BB := Lib.hid (Mv.below BB.out m hwg BB.out.size)
  have sz4 : w3.heap.size ≤ w4.heap.size := m.size
  replace Na := Lib.hid (Na.out.moved m (by omega))
  clear fb nb' dk m
  have D := Lib.hid (dprec_any w4 g 0 w.heap.size A n c kb xs DK.out (HA.out.1.below BB.out) HA.out.2 (by omega) BB.out.size hwg)
  go_wp2_with fail
  refine D.out.mono ?_
  clear D
  rintro _ w5 ⟨p, kc, hp, rfl, dk, hkc, m⟩
  have HP := Lib.hid hp
  replace DK := Lib.hid dk
  replace BB := Lib.hid (Mv.below BB.out m hwg BB.out.size)
  replace Na := Lib.hid (Na.out.moved m (by omega))
  replace Nb := Lib.hid (Nb.out.moved m (by omega))
  have sz5 : w4.heap.size ≤ w5.heap.size := m.size
  clear hp dk m
  obtain ⟨Aa, na, ca, rfl, ia⟩ := Na.out
  obtain ⟨Ab, nb, cb, rfl, ib⟩ := Nb.out
  obtain ⟨k1, k2, b0⟩ := two_bx w5 qa.s qb.s qa.e qb.e Aa Ab na ca nb cb
  have Ka := Lib.hid k1; have Kb := Lib.hid k2
  have Ia := Lib.hid (Is.step (num_is ia) b0); have Ib := Lib.hid (Is.step (num_is ib) b0)
  replace BB := Lib.hid (below_step BB.out b0)
  clear k1 k2 b0 ia ib Na Nb DK sz3 sz4 sz5 hka hkb hkc
  have D := Lib.hid (four_any _ qa.s qb.s up qa.e qb.e p Aa Ab na ca nb cb _ _ (is_arg Ia.out) (is_arg Ib.out) (v_arg Ia.out Va.out) (v_arg Ib.out Vb.out) (HT.out.below BB.out))
  go_wp2_with fail
  refine D.out.mono ?_
  clear D
  rintro _ w6 ⟨rfl, b⟩
  replace Ka := Lib.hid (Ka.out.step b)
  replace Ia := Lib.hid (Ia.out.step b)
  replace Kb := Lib.hid (Kb.out.step b)
  replace Ib := Lib.hid (Ib.out.step b)
  replace BB := Lib.hid (below_step BB.out b)
  clear b
  have ar0 := Ka.out.c0; have ar1 := Ka.out.c1; have ar2 := Ka.out.c2; have alt := Ka.out.lt
  have br0 := Kb.out.c0; have br1 := Kb.out.c1; have br2 := Kb.out.c2; have blt := Kb.out.lt
  have D := Lib.hid (four_any _ qb.s qb.s up qb.e qb.e p Ab Ab nb cb nb cb _ _ (is_arg Ib.out) (is_arg Ib.out) (v_arg Ib.out Vb.out) (v_arg Ib.out Vb.out) (HT.out.below BB.out))
  go_wp2_with fail
  refine D.out.mono ?_
  clear D
  clear ar0 ar1 ar2 alt br0 br1 br2 blt
  rintro _ w7 ⟨rfl, b⟩
  replace Ka := Lib.hid (Ka.out.step b)
  replace Ia := Lib.hid (Ia.out.step b)
  replace Kb := Lib.hid (Kb.out.step b)
  replace Ib := Lib.hid (Ib.out.step b)
  replace BB := Lib.hid (below_step BB.out b)
  clear b
  have ar0 := Ka.out.c0; have ar1 := Ka.out.c1; have ar2 := Ka.out.c2; have alt := Ka.out.lt
  have br0 := Kb.out.c0; have br1 := Kb.out.c1; have br2 := Kb.out.c2; have blt := Kb.out.lt
  have D := Lib.hid (fits_walk _ qa.s qa.e Aa na ca _ p up (is_arg Ia.out) (HT.out.below BB.out))
  go_wp2_with fail
  refine D.out.mono ?_
  clear D
  clear ar0 ar1 ar2 alt br0 br1 br2 blt
  rintro _ w8 ⟨rfl, b⟩
  replace Ka := Lib.hid (Ka.out.step b)
  replace Ia := Lib.hid (Ia.out.step b)
  replace Kb := Lib.hid (Kb.out.step b)
  replace Ib := Lib.hid (Ib.out.step b)
  replace BB := Lib.hid (below_step BB.out b)
  clear b
  go_wp2
  go_ret
  exact ⟨rfl, BB.out⟩
end Go.Proofs.YtnkbamjjpdmbaaaDoor
