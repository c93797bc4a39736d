/- The laws of round, walked: RoundRises. -/
import Derived.Test.YtnkbamjjpdmbaaaDoorRndLO
import Derived.Test.YtnkbamjjpdmbaaaDoorRndS
import Derived.Test.YtnkbamjjpdmbaaaDoorMathS
namespace Go.Proofs.YtnkbamjjpdmbaaaDoor
open Go.RowKit Nx

theorem few_bits {q : Q} (h : Few q) : nbits q.m ≤ 6 := nbits_le h.2.1
theorem bx_far2 {w : World} {g h : Nat} {s : Bool} {e : Int} {A : Option Addr} {n c : Nat} (k : Bx w g s e A n c) (hh : g ≠ h) (x y z : Value) : Bx (put3 w h x y z) g s e A n c := by
  unfold put3
  exact Blk.far (Blk.far (Blk.far k hh _) hh _) hh _
/-- A slice whose words lie outside two variables. -/
def Out2 (S : Nat) (A : Option Addr) (n : Nat) : Prop := ∀ ad, 0 < n → A = some ad → ad.block < S ∨ S + 2 ≤ ad.block
theorem Out2.lo {S : Nat} {w : World} {A : Option Addr} {n c lo : Nat} {xs : List Nat} (h : Rd .u64 w lo S A n c xs) : Out2 S A n := fun ad h0 hA => by
  obtain ⟨ad', hA', _, hlt, _⟩ := h.2.2 h0
  rw [hA] at hA'; injection hA' with hA'; rw [hA']; exact .inl hlt
theorem is_put2 {S g : Nat} {w : World} {A : Option Addr} {n c N : Nat} (h : Is w A n c N) (ho : Out2 S A n) (h1 : S ≤ g) (h2 : g < S + 2) (x y z : Value) : Is (put3 w g x y z) A n c N := by
  unfold Is
  rw [size_put3]
  exact Rd.put_ne h (fun ad h0 hA => by have := ho ad h0 hA; omega) x y z

set_option maxRecDepth 100000 in
set_option maxHeartbeats 8000000 in
theorem rises_walk (w : World) (A : Option Addr) (n c : Nat) (xs : List Nat) (up : Bool) (ha : Arg w A n c xs) (ht : Tab w) :
    Calls Tryd.prog 8 #[.slice A n c, .bool up] w (LawPost w) := by
  have HA := Lib.hid ha; have HT := Lib.hid ht
  have C := Lib.hid (known_any _ ht)
  clear ha ht
  go_enter Tryd.func8, Tryd.ntmps8
  go_wp2_with fail
  refine C.out.mono ?_
  rintro _ w1 ⟨rfl, b⟩
  have BB := Lib.hid b
  have D := Lib.hid (sof_any w1 A n c)
  clear b C
  go_wp2_with fail
  refine D.out.mono ?_
  rintro _ w2 ⟨rfl, dk, b⟩
  obtain ⟨g, hg⟩ : ∃ g, g = w1.heap.size := ⟨_, rfl⟩
  rw [← hg] at dk ⊢
  have hwg : w.heap.size ≤ g := by rw [hg]; exact BB.out.size
  replace BB := Lib.hid (below_step BB.out b)
  have DK := Lib.hid dk
  have hg2 : g < w2.heap.size := dk.lt
  clear b D dk hg
  have D := Lib.hid (small_any w2 g 0 w.heap.size A n c 0 xs DK.out (HA.out.1.below BB.out) HA.out.2 (by omega) BB.out.size)
  go_wp2_with fail
  refine D.out.mono ?_
  clear D
  rintro _ w3 ⟨qa, _, fa, rfl, na', dk, m⟩
  have Fa := Lib.hid fa; have Na := Lib.hid na'
  replace DK := Lib.hid dk
  replace BB := Lib.hid (Mv.below BB.out m hwg BB.out.size)
  have sz3 : w2.heap.size ≤ w3.heap.size := m.size
  clear fa na' dk m
  have D := Lib.hid (small_any w3 g 0 w.heap.size A n c 1 xs DK.out (HA.out.1.below BB.out) HA.out.2 (by omega) BB.out.size)
  go_wp2_with fail
  refine D.out.mono ?_
  clear D
  rintro _ w4 ⟨qb, _, fb, rfl, nb', dk, m⟩
  have Fb := Lib.hid fb; have Nb := Lib.hid nb'
  replace DK := Lib.hid dk
  replace BB := Lib.hid (Mv.below BB.out m hwg BB.out.size)
  have sz4 : w3.heap.size ≤ w4.heap.size := m.size
  replace Na := Lib.hid (Na.out.moved m (by omega))
  clear fb nb' dk m
  have D := Lib.hid (dprec_any w4 g 0 w.heap.size A n c 2 xs DK.out (HA.out.1.below BB.out) HA.out.2 (by omega) BB.out.size hwg)
  go_wp2_with fail
  refine D.out.mono ?_
  clear D
  rintro _ w5 ⟨p, kc, hp, rfl, dk, hkc, m⟩
  have HP := Lib.hid hp
  replace DK := Lib.hid dk
  replace BB := Lib.hid (Mv.below BB.out m hwg BB.out.size)
  replace Na := Lib.hid (Na.out.moved m (by omega))
  replace Nb := Lib.hid (Nb.out.moved m (by omega))
  have sz5 : w4.heap.size ≤ w5.heap.size := m.size
  clear hp dk m
  obtain ⟨Aa, na, ca, rfl, ia⟩ := Na.out
  obtain ⟨Ab, nb, cb, rfl, ib⟩ := Nb.out
  obtain ⟨k1, k2, b0⟩ := two_bx w5 qa.s qb.s qa.e qb.e Aa Ab na ca nb cb
  have Ka := Lib.hid k1; have Kb := Lib.hid k2
  have Ia := Lib.hid (Is.step (num_is ia) b0); have Ib := Lib.hid (Is.step (num_is ib) b0)
  have Va := Lib.hid Fa.out.valid; have Vb := Lib.hid Fb.out.valid
  have B5 := Lib.hid BB.out
  have Ra := Lib.hid (rd_nextlo ia b0); have Rb := Lib.hid (rd_nextlo ib b0)
  have Oa := Lib.hid (Out2.lo ia); have Ob := Lib.hid (Out2.lo ib)
  have hsw : w.heap.size ≤ w5.heap.size := BB.out.size
  replace BB := Lib.hid (below_step BB.out b0)
  obtain ⟨P, hP⟩ : ∃ P : Nat, p = (P : Int) := ⟨p.toNat, by have := HP.out; omega⟩
  have hP1 : 8 ≤ P := by have := HP.out.1; omega
  have hPt : p.toNat = P := by omega
  have HPt := Lib.hid hPt
  have hsz : ((w5.alloc (.cells #[.bool qa.s, .int .i64 qa.e, .slice Aa na ca] 24)).alloc (.cells #[.bool qb.s, .int .i64 qb.e, .slice Ab nb cb] 24)).heap.size = w5.heap.size + 2 := by simp
  have DK0 := Lib.hid (DK.out.step b0)
  have hg5 : g < w5.heap.size := by omega
  have HR := Lib.hid (show Rd .u64 ((w5.alloc (.cells #[.bool qa.s, .int .i64 qa.e, .slice Aa na ca] 24)).alloc (.cells #[.bool qb.s, .int .i64 qb.e, .slice Ab nb cb] 24)) 0 w.heap.size A n c xs from (HA.out.1.below BB.out))
  have Hsmall := Lib.hid HA.out.2
  clear k1 k2 b0 ia ib Na Nb DK hP hPt HA
  go_wp2_with fail
  refine drawmul_stmt (w0 := ((w5.alloc (.cells #[.bool qa.s, .int .i64 qa.e, .slice Aa na ca] 24)).alloc (.cells #[.bool qb.s, .int .i64 qb.e, .slice Ab nb cb] 24))) (fr := (fun v9 v10 v29 v30 v31 v32 v33 v34 v35 => ⟨#[.slice A n c, .bool up, undef, undef, .bool false, .pointer (some ⟨g, 0, none⟩), .pointer (some ⟨w5.heap.size, 0, none⟩), .pointer (some ⟨w5.heap.size + 1, 0, none⟩), .int .i64 p, v9, v10, undef, undef, undef, undef, undef, undef, undef, undef, .bool true, .bool false, .slice A n c, .pointer (some ⟨g, 0, none⟩), .pointer (some ⟨g, 0, none⟩), .agg #[.bool qa.s, .int .i64 qa.e, .slice Aa na ca], .pointer (some ⟨g, 0, none⟩), .agg #[.bool qb.s, .int .i64 qb.e, .slice Ab nb cb], .pointer (some ⟨g, 0, none⟩), .int .i64 p, v29, v30, v31, v32, v33, v34, v35, undef, undef, undef, undef, undef, undef, undef, undef, undef, undef, undef, undef, undef, undef, undef, undef, undef, undef, undef, undef, undef, undef, undef, undef, undef, undef, undef, undef, undef, undef, undef, undef, undef, undef, undef, undef, undef, undef, undef, undef, undef, undef, undef, undef, undef, undef, undef, undef, undef, undef, undef, undef, undef, undef, undef, undef, undef, undef, undef, undef, undef, undef, undef, undef, undef, undef, undef, undef, undef, undef, undef, undef, undef, undef, undef, undef, undef, undef, undef, undef, undef, undef, undef, undef, undef, undef, undef, undef, undef, undef, undef], []⟩)) (g := g) (g6 := w5.heap.size) (qx := qa) (lo := w2.heap.size) (hi := w.heap.size) (t5 := 5) (t6 := 6) (d9 := 9) (d10 := 10) (d29 := 29) (d30 := 30) (d31 := 31) (d32 := 32) (d33 := 33) (d34 := 34) (d35 := 35) (ty1 := #[33]) (ty3 := #[24, 24]) (by kernel_rfl) (by kernel_rfl) (by kernel_rfl) (by kernel_rfl) (by kernel_rfl) (by kernel_rfl) (by kernel_rfl) (by kernel_rfl) (by kernel_rfl) (by kernel_rfl) (by kernel_rfl) (by kernel_rfl) (by kernel_rfl)
    ⟨by kernel_rfl, by kernel_rfl, by kernel_rfl⟩ ⟨by kernel_rfl, by kernel_rfl, by kernel_rfl⟩ ⟨by kernel_rfl, by kernel_rfl, by kernel_rfl⟩ ⟨by kernel_rfl, by kernel_rfl, by kernel_rfl⟩ ⟨by kernel_rfl, by kernel_rfl, by kernel_rfl⟩ ⟨by kernel_rfl, by kernel_rfl, by kernel_rfl⟩ ⟨by kernel_rfl, by kernel_rfl, by kernel_rfl⟩ ⟨by kernel_rfl, by kernel_rfl, by kernel_rfl⟩ ⟨by kernel_rfl, by kernel_rfl, by kernel_rfl⟩ ⟨by kernel_rfl, by kernel_rfl, by kernel_rfl⟩
    (fun _ _ _ _ _ _ _ _ _ _ => rfl) (fun _ _ _ _ _ _ _ _ _ _ => rfl) (fun _ _ _ _ _ _ _ _ _ _ => rfl) (fun _ _ _ _ _ _ _ _ _ _ => rfl) (fun _ _ _ _ _ _ _ _ _ _ => rfl) (fun _ _ _ _ _ _ _ _ _ _ => rfl) (fun _ _ _ _ _ _ _ _ _ _ => rfl) (fun _ _ _ _ _ _ _ _ _ _ => rfl) (fun _ _ _ _ _ _ _ _ _ _ => rfl)
    (fun _ _ _ _ _ _ _ _ _ => rfl) (fun _ _ _ _ _ _ _ _ _ => rfl) (fun _ _ _ _ _ _ _ _ _ => rfl) (fun _ _ _ _ _ _ _ _ _ => rfl) (fun _ _ _ _ _ _ _ _ _ => rfl) (fun _ _ _ _ _ _ _ _ _ => rfl) (fun _ _ _ _ _ _ _ _ _ => rfl) (fun _ _ _ _ _ _ _ _ _ => rfl) (fun _ _ _ _ _ _ _ _ _ => rfl) (fun _ _ _ _ _ _ _ _ _ => rfl) (fun _ _ _ _ _ _ _ _ _ => rfl) (fun _ _ _ _ _ _ _ _ _ => rfl) (fun _ _ _ _ _ _ _ _ _ => rfl)
    DK0.out (by omega) HR.out Hsmall.out (by rw [hsz]; omega) hwg Ka.out (by omega) Ra.out hg2 Va.out (fun W m => HT.out.below (Mv.below BB.out m hwg (by rw [hsz]; omega))) ?_
  intro hz qz Ar nr cr v29 v30 v31 v32 v33 v34 v35 w6 vz kz hzl iz oz m
  obtain ⟨r, hr⟩ : ∃ r, r = res (times qz qa) := ⟨_, rfl⟩
  rw [← hr] at kz iz ⊢
  have VR := Lib.hid (show Valid r.1 by rw [hr]; exact res_valid (ofz_canon _ _))
  rw [hsz] at hzl oz
  have Kz := Lib.hid kz; have Iz := Lib.hid iz
  have Oz := Lib.hid (show Out2 w5.heap.size Ar nr from fun ad h0 hA => .inr (oz ad h0 hA))
  replace Ka := Lib.hid (bx_mv Ka.out m (by omega))
  replace Kb := Lib.hid (bx_mv Kb.out m (by omega))
  have Ia := Lib.hid (num_is ((m.rd Ra.out (.inl hg2) (Nat.le_refl _)).more m.size))
  have Ib := Lib.hid (num_is ((m.rd Rb.out (.inl (show g < w3.heap.size by omega)) (Nat.le_refl _)).more m.size))
  replace BB := Lib.hid (Mv.below BB.out m hwg (by rw [hsz]; omega))
  have hsz6 : w5.heap.size + 2 ≤ w6.heap.size := by rw [← hsz]; exact m.size
  clear vz kz iz oz m hr Ra Rb DK0 HR Hsmall B5 hsz
  have D := Lib.hid (ncmp_v (a := qa) (b := qb) Ia.out Ib.out Va.out Vb.out)
  have ar0 := Ka.out.c0; have ar1 := Ka.out.c1; have ar2 := Ka.out.c2
  have br0 := Kb.out.c0; have br1 := Kb.out.c1; have br2 := Kb.out.c2
  dsimp only
  go_wp2_with fail
  refine D.out.mono ?_
  clear D ar0 ar1 ar2 br0 br1 br2
  rintro _ w7 ⟨rfl, b⟩
  replace Ka := Lib.hid (Ka.out.step b)
  replace Kb := Lib.hid (Kb.out.step b)
  replace Kz := Lib.hid (Kz.out.step b)
  replace Ia := Lib.hid (Ia.out.step b)
  replace Ib := Lib.hid (Ib.out.step b)
  replace Iz := Lib.hid (Iz.out.step b)
  replace BB := Lib.hid (below_step BB.out b)
  clear b
  by_cases hc : cmpq qa qb ≤ 0
  · have hle := hc
    have hcc : ¬ (0 < cmpq qa qb) := by omega
    obtain ⟨t0, ht0⟩ : ∃ t, t = cmpq qa qb := ⟨_, rfl⟩
    rw [← ht0] at hc hcc ⊢
    clear ht0
    have KL := Ka; have KH := Kb; have IL := Ia; have IH := Ib
    clear Ka Kb Ia Ib
    have RL := Lib.hid (show ∀ u, res (rnd p.toNat u qa) = (qa, 0) from fun u => by rw [HPt.out, rnd_id Fa.out.1 (by have := few_bits Fa.out; omega)]; exact res_ok Va.out.2)
    have RH := Lib.hid (show ∀ u, res (rnd p.toNat u qb) = (qb, 0) from fun u => by rw [HPt.out, rnd_id Fb.out.1 (by have := few_bits Fb.out; omega)]; exact res_ok Vb.out.2)
    obtain ⟨t1, ht1⟩ : ∃ t, t = cmpq qa qb := ⟨_, rfl⟩
    rw [← ht1] at hle
    have TT1 := Lib.hid ht1
    clear ht1
    have Lr0 := KL.out.c0; have Lr1 := KL.out.c1; have Lr2 := KL.out.c2; have Llt := KL.out.lt
    have Hr0 := KH.out.c0; have Hr1 := KH.out.c1; have Hr2 := KH.out.c2; have Hlt := KH.out.lt
    have zr0 := Kz.out.c0; have zr1 := Kz.out.c1; have zr2 := Kz.out.c2; have zlt := Kz.out.lt
    have D := Lib.hid (xfit_v (a := qa) p up IL.out Va.out HP.out (HT.out.below BB.out))
    rw [RL.out] at D
    go_wp2_with fail
    refine D.out.mono ?_
    clear D
    clear Lr0 Lr1 Lr2 Llt Hr0 Hr1 Hr2 Hlt zr0 zr1 zr2 zlt
    rintro _ wa ⟨_, rfl, ⟨Ad, nd, cd, rfl, hh⟩, b⟩
    replace KL := Lib.hid (KL.out.step b)
    replace IL := Lib.hid (IL.out.step b)
    replace KH := Lib.hid (KH.out.step b)
    replace IH := Lib.hid (IH.out.step b)
    replace Kz := Lib.hid (Kz.out.step b)
    replace Iz := Lib.hid (Iz.out.step b)
    replace BB := Lib.hid (below_step BB.out b)
    have obd := one_below wa (.cells #[.bool qa.s, .int .i64 qa.e, .slice Ad nd cd] 24)
    have Id := Lib.hid (Is.step (num_is hh) obd); have Kd := Lib.hid (Bx.new wa qa.s qa.e Ad nd cd)
    replace BB := Lib.hid (below_step BB.out obd)
    clear hh
    clear b
    have Lr0 := KL.out.c0; have Lr1 := KL.out.c1; have Lr2 := KL.out.c2; have Llt := KL.out.lt
    have Hr0 := KH.out.c0; have Hr1 := KH.out.c1; have Hr2 := KH.out.c2; have Hlt := KH.out.lt
    have zr0 := Kz.out.c0; have zr1 := Kz.out.c1; have zr2 := Kz.out.c2; have zlt := Kz.out.lt
    have D := Lib.hid (xfit_v (a := qb) p up (IH.out.step obd) Vb.out HP.out (HT.out.below BB.out))
    rw [RH.out] at D
    go_wp2_with fail
    refine D.out.mono ?_
    clear D
    clear Lr0 Lr1 Lr2 Llt Hr0 Hr1 Hr2 Hlt zr0 zr1 zr2 zlt
    rintro _ wb ⟨_, rfl, ⟨Ae, ne, ce, rfl, hh⟩, b⟩
    replace KL := Lib.hid (KL.out.step (below_step obd b))
    replace IL := Lib.hid (IL.out.step (below_step obd b))
    replace KH := Lib.hid (KH.out.step (below_step obd b))
    replace IH := Lib.hid (IH.out.step (below_step obd b))
    replace Kz := Lib.hid (Kz.out.step (below_step obd b))
    replace Iz := Lib.hid (Iz.out.step (below_step obd b))
    replace Kd := Lib.hid (Kd.out.step b)
    replace Id := Lib.hid (Id.out.step b)
    replace BB := Lib.hid (below_step BB.out b)
    clear obd
    have obe := one_below wb (.cells #[.bool qb.s, .int .i64 qb.e, .slice Ae ne ce] 24)
    have Ie := Lib.hid (Is.step (num_is hh) obe); have Ke := Lib.hid (Bx.new wb qb.s qb.e Ae ne ce)
    replace BB := Lib.hid (below_step BB.out obe)
    clear hh
    clear b
    have Lr0 := KL.out.c0; have Lr1 := KL.out.c1; have Lr2 := KL.out.c2; have Llt := KL.out.lt
    have Hr0 := KH.out.c0; have Hr1 := KH.out.c1; have Hr2 := KH.out.c2; have Hlt := KH.out.lt
    have zr0 := Kz.out.c0; have zr1 := Kz.out.c1; have zr2 := Kz.out.c2; have zlt := Kz.out.lt
    have dr0 := Kd.out.c0; have dr1 := Kd.out.c1; have dr2 := Kd.out.c2; have dlt := Kd.out.lt
    have D := Lib.hid (ncmp_v (a := qa) (b := qb) (Id.out.step obe) Ie.out Va.out Vb.out)
    rw [← TT1.out] at D
    go_wp2_with fail
    refine D.out.mono ?_
    clear D
    clear Lr0 Lr1 Lr2 Llt Hr0 Hr1 Hr2 Hlt zr0 zr1 zr2 zlt dr0 dr1 dr2 dlt
    rintro _ wc ⟨rfl, b⟩
    replace KL := Lib.hid (KL.out.step (below_step obe b))
    replace IL := Lib.hid (IL.out.step (below_step obe b))
    replace KH := Lib.hid (KH.out.step (below_step obe b))
    replace IH := Lib.hid (IH.out.step (below_step obe b))
    replace Kz := Lib.hid (Kz.out.step (below_step obe b))
    replace Iz := Lib.hid (Iz.out.step (below_step obe b))
    replace Kd := Lib.hid (Kd.out.step (below_step obe b))
    replace Id := Lib.hid (Id.out.step (below_step obe b))
    replace Ke := Lib.hid (Ke.out.step b)
    replace Ie := Lib.hid (Ie.out.step b)
    replace BB := Lib.hid (below_step BB.out b)
    clear obe
    clear b
    have Lr0 := KL.out.c0; have Lr1 := KL.out.c1; have Lr2 := KL.out.c2; have Llt := KL.out.lt
    have Hr0 := KH.out.c0; have Hr1 := KH.out.c1; have Hr2 := KH.out.c2; have Hlt := KH.out.lt
    have zr0 := Kz.out.c0; have zr1 := Kz.out.c1; have zr2 := Kz.out.c2; have zlt := Kz.out.lt
    have dr0 := Kd.out.c0; have dr1 := Kd.out.c1; have dr2 := Kd.out.c2; have dlt := Kd.out.lt
    have er0 := Ke.out.c0; have er1 := Ke.out.c1; have er2 := Ke.out.c2; have elt := Ke.out.lt
    have D := Lib.hid (nsame_v (a := qa) (b := qa) Id.out IL.out Va.out Va.out)
    rw [sameb_self] at D
    go_wp2_with fail
    refine D.out.mono ?_
    clear D
    clear Lr0 Lr1 Lr2 Llt Hr0 Hr1 Hr2 Hlt zr0 zr1 zr2 zlt dr0 dr1 dr2 dlt er0 er1 er2 elt
    rintro _ wd ⟨rfl, b⟩
    replace KL := Lib.hid (KL.out.step b)
    replace IL := Lib.hid (IL.out.step b)
    replace KH := Lib.hid (KH.out.step b)
    replace IH := Lib.hid (IH.out.step b)
    replace Kz := Lib.hid (Kz.out.step b)
    replace Iz := Lib.hid (Iz.out.step b)
    replace Kd := Lib.hid (Kd.out.step b)
    replace Id := Lib.hid (Id.out.step b)
    replace Ke := Lib.hid (Ke.out.step b)
    replace Ie := Lib.hid (Ie.out.step b)
    replace BB := Lib.hid (below_step BB.out b)
    clear b
    have Lr0 := KL.out.c0; have Lr1 := KL.out.c1; have Lr2 := KL.out.c2; have Llt := KL.out.lt
    have Hr0 := KH.out.c0; have Hr1 := KH.out.c1; have Hr2 := KH.out.c2; have Hlt := KH.out.lt
    have zr0 := Kz.out.c0; have zr1 := Kz.out.c1; have zr2 := Kz.out.c2; have zlt := Kz.out.lt
    have dr0 := Kd.out.c0; have dr1 := Kd.out.c1; have dr2 := Kd.out.c2; have dlt := Kd.out.lt
    have er0 := Ke.out.c0; have er1 := Ke.out.c1; have er2 := Ke.out.c2; have elt := Ke.out.lt
    have D := Lib.hid (nsame_v (a := qb) (b := qb) Ie.out IH.out Vb.out Vb.out)
    rw [sameb_self] at D
    go_wp2_with fail
    refine D.out.mono ?_
    clear D
    clear Lr0 Lr1 Lr2 Llt Hr0 Hr1 Hr2 Hlt zr0 zr1 zr2 zlt dr0 dr1 dr2 dlt er0 er1 er2 elt
    rintro _ we ⟨rfl, b⟩
    replace KL := Lib.hid (KL.out.step b)
    replace IL := Lib.hid (IL.out.step b)
    replace KH := Lib.hid (KH.out.step b)
    replace IH := Lib.hid (IH.out.step b)
    replace Kz := Lib.hid (Kz.out.step b)
    replace Iz := Lib.hid (Iz.out.step b)
    replace Kd := Lib.hid (Kd.out.step b)
    replace Id := Lib.hid (Id.out.step b)
    replace Ke := Lib.hid (Ke.out.step b)
    replace Ie := Lib.hid (Ie.out.step b)
    replace BB := Lib.hid (below_step BB.out b)
    clear b
    clear KL IL KH IH Kd Id Ke Ie RL RH TT1
    by_cases hr2 : r.2 = 0
    · have f0 : (r.2 == 0) = true := by simp [hr2]
      have f0' : (r.2 != 0) = false := by simp [hr2]
      obtain ⟨r3, hr3⟩ : ∃ r3, r3 = res (rnd p.toNat up r.1) := ⟨_, rfl⟩
      have R3 := Lib.hid hr3.symm
      have V3 := Lib.hid (show Valid r3.1 by rw [hr3]; exact res_valid (rnd_canon _ _ _))
      have E3 := Lib.hid (show (r3 = (rnd P up r.1, 0)) ∨ r3 = (q0, 2) by
        rw [hr3, HPt.out]
        by_cases hf : Fits (rnd P up r.1)
        · exact .inl (res_ok hf)
        · exact .inr (res_over hf))
      clear hr3 hr2
      have zr0 := Kz.out.c0; have zr1 := Kz.out.c1; have zr2 := Kz.out.c2; have zlt := Kz.out.lt
      have D := Lib.hid (xfit_v (a := r.1) p up Iz.out VR.out HP.out (HT.out.below BB.out))
      rw [R3.out] at D
      go_wp2_with fail
      refine D.out.mono ?_
      clear D
      clear zr0 zr1 zr2 zlt
      rintro _ wf ⟨_, rfl, ⟨Ak, nk, ck, rfl, hh⟩, b⟩
      replace Kz := Lib.hid (Kz.out.step b)
      replace Iz := Lib.hid (Iz.out.step b)
      replace BB := Lib.hid (below_step BB.out b)
      have obk := one_below wf (.cells #[.bool r3.1.s, .int .i64 r3.1.e, .slice Ak nk ck] 24)
      have Ik := Lib.hid (Is.step (num_is hh) obk); have Kk := Lib.hid (Bx.new wf r3.1.s r3.1.e Ak nk ck)
      replace BB := Lib.hid (below_step BB.out obk)
      clear hh
      clear b
      rcases E3.out with h3 | h3
      · obtain ⟨qk, hqk⟩ : ∃ q, q = rnd P up r.1 := ⟨_, rfl⟩
        rw [← hqk] at h3
        subst h3
        have R4 := Lib.hid (show res (rnd p.toNat (!up) qk) = (qk, 0) by rw [HPt.out, hqk, rnd_twice up (!up) r.1 (by omega), ← hqk]; exact res_ok V3.out.2)
        have CU := Lib.hid (show up = true → 0 ≤ cmpq qk r.1 from fun h => by rw [hqk, h]; exact rnd_cmp_up _ _)
        have CD := Lib.hid (show up = false → cmpq qk r.1 ≤ 0 from fun h => by rw [hqk, h]; exact rnd_cmp_down _ _)
        clear hqk E3 R3
        simp only at V3 Ik Kk obk BB
        have zr0 := Kz.out.c0; have zr1 := Kz.out.c1; have zr2 := Kz.out.c2; have zlt := Kz.out.lt
        have D := Lib.hid (xfit_v (a := qk) p (!up) Ik.out V3.out HP.out (HT.out.below BB.out))
        rw [R4.out] at D
        go_wp2_with fail
        refine D.out.mono ?_
        clear D
        clear zr0 zr1 zr2 zlt
        rintro _ wg ⟨_, rfl, ⟨Ao, no, co, rfl, hh⟩, b⟩
        replace Kz := Lib.hid (Kz.out.step (below_step obk b))
        replace Iz := Lib.hid (Iz.out.step (below_step obk b))
        replace Kk := Lib.hid (Kk.out.step b)
        replace Ik := Lib.hid (Ik.out.step b)
        replace BB := Lib.hid (below_step BB.out b)
        clear obk
        have obo := one_below wg (.cells #[.bool qk.s, .int .i64 qk.e, .slice Ao no co] 24)
        have Io := Lib.hid (Is.step (num_is hh) obo); have Ko := Lib.hid (Bx.new wg qk.s qk.e Ao no co)
        replace BB := Lib.hid (below_step BB.out obo)
        clear hh
        clear b
        have zr0 := Kz.out.c0; have zr1 := Kz.out.c1; have zr2 := Kz.out.c2; have zlt := Kz.out.lt
        have kr0 := Kk.out.c0; have kr1 := Kk.out.c1; have kr2 := Kk.out.c2; have klt := Kk.out.lt
        have D := Lib.hid (nsame_v (a := qk) (b := qk) Io.out (Ik.out.step obo) V3.out V3.out)
        rw [sameb_self] at D
        go_wp2_with fail
        refine D.out.mono ?_
        clear D
        clear zr0 zr1 zr2 zlt kr0 kr1 kr2 klt
        rintro _ wh ⟨rfl, b⟩
        replace Kz := Lib.hid (Kz.out.step (below_step obo b))
        replace Iz := Lib.hid (Iz.out.step (below_step obo b))
        replace Kk := Lib.hid (Kk.out.step (below_step obo b))
        replace Ik := Lib.hid (Ik.out.step (below_step obo b))
        replace Ko := Lib.hid (Ko.out.step b)
        replace Io := Lib.hid (Io.out.step b)
        replace BB := Lib.hid (below_step BB.out b)
        clear obo
        clear b
        obtain ⟨t2, ht2⟩ : ∃ t, t = cmpq qk r.1 := ⟨_, rfl⟩
        rw [← ht2] at CU CD
        have TT2 := Lib.hid ht2
        clear ht2
        cases up
        · have c3 := CD.out rfl
          clear CU CD
          have zr0 := Kz.out.c0; have zr1 := Kz.out.c1; have zr2 := Kz.out.c2; have zlt := Kz.out.lt
          have kr0 := Kk.out.c0; have kr1 := Kk.out.c1; have kr2 := Kk.out.c2; have klt := Kk.out.lt
          have D := Lib.hid (ncmp_v (a := qk) (b := r.1) Ik.out Iz.out V3.out VR.out)
          rw [← TT2.out] at D
          go_wp2_with fail
          refine D.out.mono ?_
          clear D
          clear zr0 zr1 zr2 zlt kr0 kr1 kr2 klt
          rintro _ wi ⟨rfl, b⟩
          replace Kz := Lib.hid (Kz.out.step b)
          replace Iz := Lib.hid (Iz.out.step b)
          replace Kk := Lib.hid (Kk.out.step b)
          replace Ik := Lib.hid (Ik.out.step b)
          replace BB := Lib.hid (below_step BB.out b)
          clear b
          go_wp2
          go_ret
          exact ⟨rfl, BB.out⟩
        · have c3 := CU.out rfl
          clear CU CD
          have zr0 := Kz.out.c0; have zr1 := Kz.out.c1; have zr2 := Kz.out.c2; have zlt := Kz.out.lt
          have kr0 := Kk.out.c0; have kr1 := Kk.out.c1; have kr2 := Kk.out.c2; have klt := Kk.out.lt
          have D := Lib.hid (ncmp_v (a := qk) (b := r.1) Ik.out Iz.out V3.out VR.out)
          rw [← TT2.out] at D
          go_wp2_with fail
          refine D.out.mono ?_
          clear D
          clear zr0 zr1 zr2 zlt kr0 kr1 kr2 klt
          rintro _ wi ⟨rfl, b⟩
          replace Kz := Lib.hid (Kz.out.step b)
          replace Iz := Lib.hid (Iz.out.step b)
          replace Kk := Lib.hid (Kk.out.step b)
          replace Ik := Lib.hid (Ik.out.step b)
          replace BB := Lib.hid (below_step BB.out b)
          clear b
          go_wp2
          go_ret
          exact ⟨rfl, BB.out⟩
      · subst h3
        clear E3 R3 V3 Kk Ik
        go_wp2
        go_ret
        exact ⟨rfl, BB.out⟩
    · have f0 : (r.2 == 0) = false := by simp [hr2]
      have f0' : (r.2 != 0) = true := by simp [hr2]
      go_wp2
      go_ret
      exact ⟨rfl, BB.out⟩
  · have hle : cmpq qb qa ≤ 0 := by
      have la : -((8 : Nat) : Int) ≤ qa.e := Fa.out.bd8.2.1
      have lb : -((8 : Nat) : Int) ≤ qb.e := Fb.out.bd8.2.1
      rw [cmp_le la lb] at hc
      rw [cmp_le lb la]; omega
    obtain ⟨t0, ht0⟩ : ∃ t, t = cmpq qa qb := ⟨_, rfl⟩
    rw [← ht0] at hc ⊢
    clear ht0
    have hc' : 0 < t0 := by omega
    clear hc
    have ar0 := Ka.out.c0; have ar1 := Ka.out.c1; have ar2 := Ka.out.c2
    have br0 := Kb.out.c0; have br1 := Kb.out.c1; have br2 := Kb.out.c2
    have y0 := Ka.out.fz 0; have y1 := Ka.out.fz 1; have y2 := Ka.out.fz 2
    have z0 := Kb.out.fz 0; have z1 := Kb.out.fz 1; have z2 := Kb.out.fz 2
    obtain ⟨w8, hw8⟩ : ∃ W, W = put3 (put3 w7 w5.heap.size (.bool qb.s) (.int .i64 qb.e) (.slice Ab nb cb)) (w5.heap.size + 1) (.bool qa.s) (.int .i64 qa.e) (.slice Aa na ca) := ⟨_, rfl⟩
    have KL : Hid (Bx w8 w5.heap.size qb.s qb.e Ab nb cb) := Lib.hid (by rw [hw8]; exact bx_far2 (show Bx (put3 w7 w5.heap.size _ _ _) _ _ _ _ _ _ from Blk.putted Ka.out _ _ _) (by omega) _ _ _)
    have KH : Hid (Bx w8 (w5.heap.size + 1) qa.s qa.e Aa na ca) := Lib.hid (by rw [hw8]; exact Blk.putted (bx_far2 Kb.out (show w5.heap.size + 1 ≠ w5.heap.size by omega) _ _ _) _ _ _)
    replace Kz : Hid (Bx w8 hz r.1.s r.1.e Ar nr cr) := Lib.hid (by rw [hw8]; exact bx_far2 (bx_far2 Kz.out (by omega) _ _ _) (by omega) _ _ _)
    have IL : Hid (Is w8 Ab nb cb qb.m) := Lib.hid (by rw [hw8]; exact is_put2 (is_put2 Ib.out Ob.out (Nat.le_refl _) (by omega) _ _ _) Ob.out (by omega) (by omega) _ _ _)
    have IH : Hid (Is w8 Aa na ca qa.m) := Lib.hid (by rw [hw8]; exact is_put2 (is_put2 Ia.out Oa.out (Nat.le_refl _) (by omega) _ _ _) Oa.out (by omega) (by omega) _ _ _)
    replace Iz : Hid (Is w8 Ar nr cr r.1.m) := Lib.hid (by rw [hw8]; exact is_put2 (is_put2 Iz.out Oz.out (Nat.le_refl _) (by omega) _ _ _) Oz.out (by omega) (by omega) _ _ _)
    replace BB : Hid (Below w.heap.size w w8) := Lib.hid (by rw [hw8]; exact below_put3 (below_put3 BB.out (by omega) _ _ _) (by omega) _ _ _)
    have HW8 := Lib.hid hw8
    clear hw8 Ka Kb Ia Ib
    have RL := Lib.hid (show ∀ u, res (rnd p.toNat u qb) = (qb, 0) from fun u => by rw [HPt.out, rnd_id Fb.out.1 (by have := few_bits Fb.out; omega)]; exact res_ok Vb.out.2)
    have RH := Lib.hid (show ∀ u, res (rnd p.toNat u qa) = (qa, 0) from fun u => by rw [HPt.out, rnd_id Fa.out.1 (by have := few_bits Fa.out; omega)]; exact res_ok Va.out.2)
    obtain ⟨t1, ht1⟩ : ∃ t, t = cmpq qb qa := ⟨_, rfl⟩
    rw [← ht1] at hle
    have TT1 := Lib.hid ht1
    clear ht1
    have D := Lib.hid (xfit_v (a := qb) p up IL.out Vb.out HP.out (HT.out.below BB.out))
    rw [RL.out] at D
    go_wp2_with fail
    change Calls _ _ _ (put3 (put3 w7 w5.heap.size (.bool qb.s) (.int .i64 qb.e) (.slice Ab nb cb)) (w5.heap.size + 1) (.bool qa.s) (.int .i64 qa.e) (.slice Aa na ca)) _
    rw [← HW8.out]
    refine D.out.mono ?_
    clear D HW8 ar0 ar1 ar2 br0 br1 br2 y0 y1 y2 z0 z1 z2
    rintro _ wa ⟨_, rfl, ⟨Ad, nd, cd, rfl, hh⟩, b⟩
    replace KL := Lib.hid (KL.out.step b)
    replace IL := Lib.hid (IL.out.step b)
    replace KH := Lib.hid (KH.out.step b)
    replace IH := Lib.hid (IH.out.step b)
    replace Kz := Lib.hid (Kz.out.step b)
    replace Iz := Lib.hid (Iz.out.step b)
    replace BB := Lib.hid (below_step BB.out b)
    have obd := one_below wa (.cells #[.bool qb.s, .int .i64 qb.e, .slice Ad nd cd] 24)
    have Id := Lib.hid (Is.step (num_is hh) obd); have Kd := Lib.hid (Bx.new wa qb.s qb.e Ad nd cd)
    replace BB := Lib.hid (below_step BB.out obd)
    clear hh b
    have Lr0 := KL.out.c0; have Lr1 := KL.out.c1; have Lr2 := KL.out.c2; have Llt := KL.out.lt
    have Hr0 := KH.out.c0; have Hr1 := KH.out.c1; have Hr2 := KH.out.c2; have Hlt := KH.out.lt
    have zr0 := Kz.out.c0; have zr1 := Kz.out.c1; have zr2 := Kz.out.c2; have zlt := Kz.out.lt
    have D := Lib.hid (xfit_v (a := qa) p up (IH.out.step obd) Va.out HP.out (HT.out.below BB.out))
    rw [RH.out] at D
    go_wp2_with fail
    refine D.out.mono ?_
    clear D
    clear Lr0 Lr1 Lr2 Llt Hr0 Hr1 Hr2 Hlt zr0 zr1 zr2 zlt
    rintro _ wb ⟨_, rfl, ⟨Ae, ne, ce, rfl, hh⟩, b⟩
    replace KL := Lib.hid (KL.out.step (below_step obd b))
    replace IL := Lib.hid (IL.out.step (below_step obd b))
    replace KH := Lib.hid (KH.out.step (below_step obd b))
    replace IH := Lib.hid (IH.out.step (below_step obd b))
    replace Kz := Lib.hid (Kz.out.step (below_step obd b))
    replace Iz := Lib.hid (Iz.out.step (below_step obd b))
    replace Kd := Lib.hid (Kd.out.step b)
    replace Id := Lib.hid (Id.out.step b)
    replace BB := Lib.hid (below_step BB.out b)
    clear obd
    have obe := one_below wb (.cells #[.bool qa.s, .int .i64 qa.e, .slice Ae ne ce] 24)
    have Ie := Lib.hid (Is.step (num_is hh) obe); have Ke := Lib.hid (Bx.new wb qa.s qa.e Ae ne ce)
    replace BB := Lib.hid (below_step BB.out obe)
    clear hh
    clear b
    have Lr0 := KL.out.c0; have Lr1 := KL.out.c1; have Lr2 := KL.out.c2; have Llt := KL.out.lt
    have Hr0 := KH.out.c0; have Hr1 := KH.out.c1; have Hr2 := KH.out.c2; have Hlt := KH.out.lt
    have zr0 := Kz.out.c0; have zr1 := Kz.out.c1; have zr2 := Kz.out.c2; have zlt := Kz.out.lt
    have dr0 := Kd.out.c0; have dr1 := Kd.out.c1; have dr2 := Kd.out.c2; have dlt := Kd.out.lt
    have D := Lib.hid (ncmp_v (a := qb) (b := qa) (Id.out.step obe) Ie.out Vb.out Va.out)
    rw [← TT1.out] at D
    go_wp2_with fail
    refine D.out.mono ?_
    clear D
    clear Lr0 Lr1 Lr2 Llt Hr0 Hr1 Hr2 Hlt zr0 zr1 zr2 zlt dr0 dr1 dr2 dlt
    rintro _ wc ⟨rfl, b⟩
    replace KL := Lib.hid (KL.out.step (below_step obe b))
    replace IL := Lib.hid (IL.out.step (below_step obe b))
    replace KH := Lib.hid (KH.out.step (below_step obe b))
    replace IH := Lib.hid (IH.out.step (below_step obe b))
    replace Kz := Lib.hid (Kz.out.step (below_step obe b))
    replace Iz := Lib.hid (Iz.out.step (below_step obe b))
    replace Kd := Lib.hid (Kd.out.step (below_step obe b))
    replace Id := Lib.hid (Id.out.step (below_step obe b))
    replace Ke := Lib.hid (Ke.out.step b)
    replace Ie := Lib.hid (Ie.out.step b)
    replace BB := Lib.hid (below_step BB.out b)
    clear obe
    clear b
    have Lr0 := KL.out.c0; have Lr1 := KL.out.c1; have Lr2 := KL.out.c2; have Llt := KL.out.lt
    have Hr0 := KH.out.c0; have Hr1 := KH.out.c1; have Hr2 := KH.out.c2; have Hlt := KH.out.lt
    have zr0 := Kz.out.c0; have zr1 := Kz.out.c1; have zr2 := Kz.out.c2; have zlt := Kz.out.lt
    have dr0 := Kd.out.c0; have dr1 := Kd.out.c1; have dr2 := Kd.out.c2; have dlt := Kd.out.lt
    have er0 := Ke.out.c0; have er1 := Ke.out.c1; have er2 := Ke.out.c2; have elt := Ke.out.lt
    have D := Lib.hid (nsame_v (a := qb) (b := qb) Id.out IL.out Vb.out Vb.out)
    rw [sameb_self] at D
    go_wp2_with fail
    refine D.out.mono ?_
    clear D
    clear Lr0 Lr1 Lr2 Llt Hr0 Hr1 Hr2 Hlt zr0 zr1 zr2 zlt dr0 dr1 dr2 dlt er0 er1 er2 elt
    rintro _ wd ⟨rfl, b⟩
    replace KL := Lib.hid (KL.out.step b)
    replace IL := Lib.hid (IL.out.step b)
    replace KH := Lib.hid (KH.out.step b)
    replace IH := Lib.hid (IH.out.step b)
    replace Kz := Lib.hid (Kz.out.step b)
    replace Iz := Lib.hid (Iz.out.step b)
    replace Kd := Lib.hid (Kd.out.step b)
    replace Id := Lib.hid (Id.out.step b)
    replace Ke := Lib.hid (Ke.out.step b)
    replace Ie := Lib.hid (Ie.out.step b)
    replace BB := Lib.hid (below_step BB.out b)
    clear b
    have Lr0 := KL.out.c0; have Lr1 := KL.out.c1; have Lr2 := KL.out.c2; have Llt := KL.out.lt
    have Hr0 := KH.out.c0; have Hr1 := KH.out.c1; have Hr2 := KH.out.c2; have Hlt := KH.out.lt
    have zr0 := Kz.out.c0; have zr1 := Kz.out.c1; have zr2 := Kz.out.c2; have zlt := Kz.out.lt
    have dr0 := Kd.out.c0; have dr1 := Kd.out.c1; have dr2 := Kd.out.c2; have dlt := Kd.out.lt
    have er0 := Ke.out.c0; have er1 := Ke.out.c1; have er2 := Ke.out.c2; have elt := Ke.out.lt
    have D := Lib.hid (nsame_v (a := qa) (b := qa) Ie.out IH.out Va.out Va.out)
    rw [sameb_self] at D
    go_wp2_with fail
    refine D.out.mono ?_
    clear D
    clear Lr0 Lr1 Lr2 Llt Hr0 Hr1 Hr2 Hlt zr0 zr1 zr2 zlt dr0 dr1 dr2 dlt er0 er1 er2 elt
    rintro _ we ⟨rfl, b⟩
    replace KL := Lib.hid (KL.out.step b)
    replace IL := Lib.hid (IL.out.step b)
    replace KH := Lib.hid (KH.out.step b)
    replace IH := Lib.hid (IH.out.step b)
    replace Kz := Lib.hid (Kz.out.step b)
    replace Iz := Lib.hid (Iz.out.step b)
    replace Kd := Lib.hid (Kd.out.step b)
    replace Id := Lib.hid (Id.out.step b)
    replace Ke := Lib.hid (Ke.out.step b)
    replace Ie := Lib.hid (Ie.out.step b)
    replace BB := Lib.hid (below_step BB.out b)
    clear b
    clear KL IL KH IH Kd Id Ke Ie RL RH TT1
    by_cases hr2 : r.2 = 0
    · have f0 : (r.2 == 0) = true := by simp [hr2]
      have f0' : (r.2 != 0) = false := by simp [hr2]
      obtain ⟨r3, hr3⟩ : ∃ r3, r3 = res (rnd p.toNat up r.1) := ⟨_, rfl⟩
      have R3 := Lib.hid hr3.symm
      have V3 := Lib.hid (show Valid r3.1 by rw [hr3]; exact res_valid (rnd_canon _ _ _))
      have E3 := Lib.hid (show (r3 = (rnd P up r.1, 0)) ∨ r3 = (q0, 2) by
        rw [hr3, HPt.out]
        by_cases hf : Fits (rnd P up r.1)
        · exact .inl (res_ok hf)
        · exact .inr (res_over hf))
      clear hr3 hr2
      have zr0 := Kz.out.c0; have zr1 := Kz.out.c1; have zr2 := Kz.out.c2; have zlt := Kz.out.lt
      have D := Lib.hid (xfit_v (a := r.1) p up Iz.out VR.out HP.out (HT.out.below BB.out))
      rw [R3.out] at D
      go_wp2_with fail
      refine D.out.mono ?_
      clear D
      clear zr0 zr1 zr2 zlt
      rintro _ wf ⟨_, rfl, ⟨Ak, nk, ck, rfl, hh⟩, b⟩
      replace Kz := Lib.hid (Kz.out.step b)
      replace Iz := Lib.hid (Iz.out.step b)
      replace BB := Lib.hid (below_step BB.out b)
      have obk := one_below wf (.cells #[.bool r3.1.s, .int .i64 r3.1.e, .slice Ak nk ck] 24)
      have Ik := Lib.hid (Is.step (num_is hh) obk); have Kk := Lib.hid (Bx.new wf r3.1.s r3.1.e Ak nk ck)
      replace BB := Lib.hid (below_step BB.out obk)
      clear hh
      clear b
      rcases E3.out with h3 | h3
      · obtain ⟨qk, hqk⟩ : ∃ q, q = rnd P up r.1 := ⟨_, rfl⟩
        rw [← hqk] at h3
        subst h3
        have R4 := Lib.hid (show res (rnd p.toNat (!up) qk) = (qk, 0) by rw [HPt.out, hqk, rnd_twice up (!up) r.1 (by omega), ← hqk]; exact res_ok V3.out.2)
        have CU := Lib.hid (show up = true → 0 ≤ cmpq qk r.1 from fun h => by rw [hqk, h]; exact rnd_cmp_up _ _)
        have CD := Lib.hid (show up = false → cmpq qk r.1 ≤ 0 from fun h => by rw [hqk, h]; exact rnd_cmp_down _ _)
        clear hqk E3 R3
        simp only at V3 Ik Kk obk BB
        have zr0 := Kz.out.c0; have zr1 := Kz.out.c1; have zr2 := Kz.out.c2; have zlt := Kz.out.lt
        have D := Lib.hid (xfit_v (a := qk) p (!up) Ik.out V3.out HP.out (HT.out.below BB.out))
        rw [R4.out] at D
        go_wp2_with fail
        refine D.out.mono ?_
        clear D
        clear zr0 zr1 zr2 zlt
        rintro _ wg ⟨_, rfl, ⟨Ao, no, co, rfl, hh⟩, b⟩
        replace Kz := Lib.hid (Kz.out.step (below_step obk b))
        replace Iz := Lib.hid (Iz.out.step (below_step obk b))
        replace Kk := Lib.hid (Kk.out.step b)
        replace Ik := Lib.hid (Ik.out.step b)
        replace BB := Lib.hid (below_step BB.out b)
        clear obk
        have obo := one_below wg (.cells #[.bool qk.s, .int .i64 qk.e, .slice Ao no co] 24)
        have Io := Lib.hid (Is.step (num_is hh) obo); have Ko := Lib.hid (Bx.new wg qk.s qk.e Ao no co)
        replace BB := Lib.hid (below_step BB.out obo)
        clear hh
        clear b
        have zr0 := Kz.out.c0; have zr1 := Kz.out.c1; have zr2 := Kz.out.c2; have zlt := Kz.out.lt
        have kr0 := Kk.out.c0; have kr1 := Kk.out.c1; have kr2 := Kk.out.c2; have klt := Kk.out.lt
        have D := Lib.hid (nsame_v (a := qk) (b := qk) Io.out (Ik.out.step obo) V3.out V3.out)
        rw [sameb_self] at D
        go_wp2_with fail
        refine D.out.mono ?_
        clear D
        clear zr0 zr1 zr2 zlt kr0 kr1 kr2 klt
        rintro _ wh ⟨rfl, b⟩
        replace Kz := Lib.hid (Kz.out.step (below_step obo b))
        replace Iz := Lib.hid (Iz.out.step (below_step obo b))
        replace Kk := Lib.hid (Kk.out.step (below_step obo b))
        replace Ik := Lib.hid (Ik.out.step (below_step obo b))
        replace Ko := Lib.hid (Ko.out.step b)
        replace Io := Lib.hid (Io.out.step b)
        replace BB := Lib.hid (below_step BB.out b)
        clear obo
        clear b
        obtain ⟨t2, ht2⟩ : ∃ t, t = cmpq qk r.1 := ⟨_, rfl⟩
        rw [← ht2] at CU CD
        have TT2 := Lib.hid ht2
        clear ht2
        cases up
        · have c3 := CD.out rfl
          clear CU CD
          have zr0 := Kz.out.c0; have zr1 := Kz.out.c1; have zr2 := Kz.out.c2; have zlt := Kz.out.lt
          have kr0 := Kk.out.c0; have kr1 := Kk.out.c1; have kr2 := Kk.out.c2; have klt := Kk.out.lt
          have D := Lib.hid (ncmp_v (a := qk) (b := r.1) Ik.out Iz.out V3.out VR.out)
          rw [← TT2.out] at D
          go_wp2_with fail
          refine D.out.mono ?_
          clear D
          clear zr0 zr1 zr2 zlt kr0 kr1 kr2 klt
          rintro _ wi ⟨rfl, b⟩
          replace Kz := Lib.hid (Kz.out.step b)
          replace Iz := Lib.hid (Iz.out.step b)
          replace Kk := Lib.hid (Kk.out.step b)
          replace Ik := Lib.hid (Ik.out.step b)
          replace BB := Lib.hid (below_step BB.out b)
          clear b
          go_wp2
          go_ret
          exact ⟨rfl, BB.out⟩
        · have c3 := CU.out rfl
          clear CU CD
          have zr0 := Kz.out.c0; have zr1 := Kz.out.c1; have zr2 := Kz.out.c2; have zlt := Kz.out.lt
          have kr0 := Kk.out.c0; have kr1 := Kk.out.c1; have kr2 := Kk.out.c2; have klt := Kk.out.lt
          have D := Lib.hid (ncmp_v (a := qk) (b := r.1) Ik.out Iz.out V3.out VR.out)
          rw [← TT2.out] at D
          go_wp2_with fail
          refine D.out.mono ?_
          clear D
          clear zr0 zr1 zr2 zlt kr0 kr1 kr2 klt
          rintro _ wi ⟨rfl, b⟩
          replace Kz := Lib.hid (Kz.out.step b)
          replace Iz := Lib.hid (Iz.out.step b)
          replace Kk := Lib.hid (Kk.out.step b)
          replace Ik := Lib.hid (Ik.out.step b)
          replace BB := Lib.hid (below_step BB.out b)
          clear b
          go_wp2
          go_ret
          exact ⟨rfl, BB.out⟩
      · subst h3
        clear E3 R3 V3 Kk Ik
        go_wp2
        go_ret
        exact ⟨rfl, BB.out⟩
    · have f0 : (r.2 == 0) = false := by simp [hr2]
      have f0' : (r.2 != 0) = true := by simp [hr2]
      go_wp2
      go_ret
      exact ⟨rfl, BB.out⟩
end Go.Proofs.YtnkbamjjpdmbaaaDoor
