/- The laws of num, walked: NumDrawn. -/
import Derived.Test.YtimkifkikcohgaaDoorSeatC
import Derived.Test.YtimkifkikcohgaaDoorNumU
namespace Go.Proofs.YtimkifkikcohgaaDoor
open Go.RowKit Nx

set_option maxRecDepth 100000 in
set_option maxHeartbeats 8000000 in
theorem drawn_walk (hk : ∀ w : World, Tab w → Calls Tryd.prog 12 #[] w (BoolPost w true)) (w : World) (A : Option Addr) (n c : Nat) (xs : List Nat) (kk : Int) (ha : Arg w A n c xs) (ht : Tab w) :
    Calls Tryd.prog 8 #[.slice A n c, .int .i64 kk] w (LawPost w) := by
  have HA := Lib.hid ha; have HT := Lib.hid ht; have HK := Lib.hid hk
  have C := Lib.hid (hk _ ht)
  clear ha ht hk
  go_enter Tryd.func8, Tryd.ntmps8
  go_wp2_with fail
  refine C.out.mono ?_
  rintro _ w1 ⟨rfl, b⟩
  have BB := Lib.hid b
  have D := Lib.hid (sof_any w1 A n c)
  clear b C
  go_wp2_with fail
  refine D.out.mono ?_
  rintro _ w2 ⟨rfl, dk, b⟩
  obtain ⟨g, hg⟩ : ∃ g, g = w1.heap.size := ⟨_, rfl⟩
  rw [← hg] at dk ⊢
  have hwg : w.heap.size ≤ g := by rw [hg]; exact BB.out.size
  replace BB := Lib.hid (below_step BB.out b)
  have DK := Lib.hid dk
  have hg2 : g < w2.heap.size := dk.lt
  clear b D dk hg
  have D := Lib.hid (draw_any w2 g 0 w.heap.size A n c 0 xs DK.out (HA.out.1.below BB.out) HA.out.2 (by omega) BB.out.size hwg)
  go_wp2_with fail
  refine D.out.mono ?_
  clear D
  rintro _ w3 ⟨qa, _, ka, va, rfl, na', dk, hka, m⟩
  have Va := Lib.hid va; have Na := Lib.hid na'
  replace DK := Lib.hid dk
  replace BB := Lib.hid (Mv.below BB.out m hwg BB.out.size)
  have sz3 : w2.heap.size ≤ w3.heap.size := m.size
  clear va na' dk m
  have D := Lib.hid (draw_any w3 g 0 w.heap.size A n c ka xs DK.out (HA.out.1.below BB.out) HA.out.2 (by omega) BB.out.size hwg)
  go_wp2_with fail
  refine D.out.mono ?_
  clear D
  rintro _ w4 ⟨qb, _, kb, vb, rfl, nb', dk, hkb, m⟩
  have Vb := Lib.hid vb; have Nb := Lib.hid nb'
  replace Na := Lib.hid (Na.out.moved m (by omega))
  replace BB := Lib.hid (Mv.below BB.out m hwg BB.out.size)
  clear vb nb' dk m DK hka hkb sz3
  obtain ⟨Aa, na, ca, rfl, ia⟩ := Na.out
  obtain ⟨Ab, nb, cb, rfl, ib⟩ := Nb.out
  obtain ⟨k1, k2, b0⟩ := two_bx w4 qa.s qb.s qa.e qb.e Aa Ab na ca nb cb
  have K := Lib.hid k1; have L := Lib.hid k2
  have Ia := Lib.hid (Is.step (num_is ia) b0); have Ib := Lib.hid (Is.step (num_is ib) b0)
  replace BB := Lib.hid (below_step BB.out b0)
  clear k1 k2 b0 ia ib Na Nb
  obtain ⟨r, hr⟩ : ∃ r, r = ans1 qa.s qa.e na (digs B64 qa.m) kk := ⟨_, rfl⟩
  have VR := Lib.hid (show Valid r.1 by rw [hr]; exact res1_valid _ _ _ _ _)
  have D := Lib.hid (nscale_any _ qa.s qa.e kk Aa na ca _ (is_arg Ia.out) (v_arg Ia.out Va.out) (HT.out.below BB.out))
  have CR := fun w8 (i : Is w8 Aa na ca qa.m) => Lib.hid (rscale_any w8 qa.s qa.e kk Aa na ca _ (is_arg i) (v_arg i Va.out))
  rw [← hr] at D CR
  clear hr
  go_wp2_with fail
  refine D.out.mono ?_
  clear D
  rintro _ w5 ⟨_, rfl, ⟨Az, nz, cz, rfl, hz⟩, b⟩
  have ob := one_below w5 (.cells #[.bool r.1.s, .int .i64 r.1.e, .slice Az nz cz] 24)
  have Iz := Lib.hid (Is.step (num_is hz) ob); have Kz := Lib.hid (Bx.new w5 r.1.s r.1.e Az nz cz)
  replace K := Lib.hid (K.out.step b)
  replace L := Lib.hid (L.out.step b)
  replace Ia := Lib.hid (Ia.out.step (below_step b ob))
  replace Ib := Lib.hid (Ib.out.step (below_step b ob))
  replace BB := Lib.hid (below_step (below_step BB.out b) ob)
  have D := CR _ Ia.out
  clear hz b CR
  have K0 := K.out.c0; have K1 := K.out.c1; have K2 := K.out.c2; have Kl := K.out.lt
  go_wp2_with fail
  refine D.out.mono ?_
  clear D
  clear K0 K1 K2 Kl
  rintro _ w6 ⟨_, rfl, ⟨Aw, nw, cw, rfl, hw⟩, b⟩
  have ob' := one_below w6 (.cells #[.bool r.1.s, .int .i64 r.1.e, .slice Aw nw cw] 24)
  have Iw := Lib.hid (Is.step (num_is hw) ob'); have Kw := Lib.hid (Bx.new w6 r.1.s r.1.e Aw nw cw)
  replace K := Lib.hid (K.out.step (below_step ob (below_step b ob')))
  replace L := Lib.hid (L.out.step (below_step ob (below_step b ob')))
  replace Kz := Lib.hid (Kz.out.step (below_step b ob'))
  replace Iz := Lib.hid (Iz.out.step (below_step b ob'))
  replace Ia := Lib.hid (Ia.out.step (below_step b ob'))
  replace Ib := Lib.hid (Ib.out.step (below_step b ob'))
  replace BB := Lib.hid (below_step BB.out (below_step b ob'))
  clear hw b ob ob'
  go_wp2_with fail
  generalize hgw : w6.heap.size = gw at *
  generalize w6.alloc (.cells #[.bool r.1.s, .int .i64 r.1.e, .slice Aw nw cw] 24) = w7 at *
  generalize hgz : w5.heap.size = gz at *
  generalize hga : w4.heap.size = ga at *
  clear hgw hgz hga
  have KS := fun (wn : World) (h : Below w7.heap.size w7 wn) => And.intro (K.out.step h).c0 (And.intro (K.out.step h).c1 (And.intro (K.out.step h).c2 (And.intro (L.out.step h).c0 (And.intro (L.out.step h).c1 (And.intro (L.out.step h).c2 (And.intro (Kz.out.step h).c0 (And.intro (Kz.out.step h).c1 (And.intro (Kz.out.step h).c2 (And.intro (Kw.out.step h).c0 (And.intro (Kw.out.step h).c1 (Kw.out.step h).c2))))))))))
  have S0 := KS w7 (Below.refl _ _)
  have B9 := Lib.hid (bdr (Below.refl w7.heap.size w7))
  have f1 : (r.2 == r.2) = true := by simp
  have TT := fun w8 (h : Below w7.heap.size w7 w8) => Lib.hid (HT.out.below (below_step BB.out h))
  have D2 := fun w8 (h : Below w7.heap.size w7 w8) => Lib.hid (reckons_walk HK.out w8 qa.s qb.s qa.e qb.e Aa Ab na ca nb cb _ _ (is_arg (Ia.out.step h)) (is_arg (Ib.out.step h)) (TT w8 h).out)
  have D3 := fun w8 (h : Below w7.heap.size w7 w8) => Lib.hid (orders_walk HK.out w8 qa.s qb.s qa.e qb.e Aa Ab na ca nb cb _ _ (is_arg (Ia.out.step h)) (is_arg (Ib.out.step h)) (TT w8 h).out)
  have D4 := fun w8 (h : Below w7.heap.size w7 w8) => Lib.hid (nneg_v (a := qa) (Ia.out.step h) Va.out)
  have D5 := fun w8 (h : Below w7.heap.size w7 w8) (Am : Option Addr) (nm' cm : Nat) (i : Is w8 Am nm' cm qa.neg.m) => Lib.hid (reckons_walk HK.out w8 qa.s qa.neg.s qa.e qa.neg.e Aa Am na ca nm' cm _ _ (is_arg (Ia.out.step h)) (is_arg i) (TT w8 h).out)
  have D6 := fun w8 (h : Below w7.heap.size w7 w8) => Lib.hid (rsame_v (a := r.1) (b := r.1) (Iz.out.step h) (Iw.out.step h) VR.out VR.out)
  rw [sameb_self] at D6
  have C10 := Lib.hid (nright_v (a := qa) (Ia.out.step B9.out) Va.out)
  go_region_held3 (fun w' => w'.cell? ⟨ga, 0, none⟩ = some (.bool qa.s) ∧ w'.cell? ⟨ga, 1, none⟩ = some (.int .i64 qa.e) ∧ w'.cell? ⟨ga, 2, none⟩ = some (.slice Aa na ca) ∧ w'.cell? ⟨ga + 1, 0, none⟩ = some (.bool qb.s) ∧ w'.cell? ⟨ga + 1, 1, none⟩ = some (.int .i64 qb.e) ∧ w'.cell? ⟨ga + 1, 2, none⟩ = some (.slice Ab nb cb) ∧ w'.cell? ⟨gz, 0, none⟩ = some (.bool r.1.s) ∧ w'.cell? ⟨gz, 1, none⟩ = some (.int .i64 r.1.e) ∧ w'.cell? ⟨gz, 2, none⟩ = some (.slice Az nz cz) ∧ w'.cell? ⟨gw, 0, none⟩ = some (.bool r.1.s) ∧ w'.cell? ⟨gw, 1, none⟩ = some (.int .i64 r.1.e) ∧ w'.cell? ⟨gw, 2, none⟩ = some (.slice Aw nw cw))
        (first | exact S0 | assumption)
        (first
          | (go_at_call 14
             refine C10.out.mono ?_
             rintro _ w10 ⟨rfl, b⟩
             have B10 := Lib.hid (below_step B9.out b)
             have S10 := KS w10 B10.out
             have C11 := D2 _ B10.out
             clear b C10)
          | (go_at_call 7
             refine C11.out.mono ?_
             rintro _ w11 ⟨rfl, b⟩
             have B11 := Lib.hid (below_step B10.out b)
             have S11 := KS w11 B11.out
             have C12 := D3 _ B11.out
             clear b C11)
          | (go_at_call 6
             refine C12.out.mono ?_
             rintro _ w12 ⟨rfl, b⟩
             have B12 := Lib.hid (below_step B11.out b)
             have S12 := KS w12 B12.out
             have C13 := D4 _ B12.out
             clear b C12)
          | (go_at_call 27
             refine C13.out.mono ?_
             rintro _ w13 ⟨_, rfl, ⟨Am, nm2, cm, rfl, hm⟩, b⟩
             have B13 := Lib.hid (below_step B12.out b)
             have S13 := KS w13 B13.out
             have C14 := D5 _ B13.out Am nm2 cm (num_is hm)
             clear hm
             clear b C13)
          | (go_at_call 7
             refine C14.out.mono ?_
             rintro _ w14 ⟨rfl, b⟩
             have B14 := Lib.hid (below_step B13.out b)
             have S14 := KS w14 B14.out
             have C15 := D6 _ B14.out
             clear b C14)
          | (go_at_call 17
             refine C15.out.mono ?_
             rintro _ w15 ⟨rfl, b⟩
             have B15 := Lib.hid (below_step B14.out b)
             have S15 := KS w15 B15.out
             
             clear b C15))
  go_wp2
  go_ret
  exact ⟨rfl, below_step BB.out B15.out⟩
end Go.Proofs.YtimkifkikcohgaaDoor
