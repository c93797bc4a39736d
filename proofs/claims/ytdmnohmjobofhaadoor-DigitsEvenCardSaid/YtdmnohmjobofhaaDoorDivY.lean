/- nat.guess, nat.subRow, nat.reduce. nat.subRow. nat.reduce. Plain arithmetic: long division in words, the outer loop. No program stands in it. -/
import Derived.Test.YtdmnohmjobofhaaDoorNatE
import Derived.Test.YtdmnohmjobofhaaDoorDivX
import Derived.Test.YtdmnohmjobofhaaDoorNatC
import Derived.Test.YtdmnohmjobofhaaDoorNatA
namespace Go.Proofs.YtdmnohmjobofhaaDoor
open Go.RowKit Nx

theorem Seg.rd {k : IntKind} {w : World} {g : Nat} {t : TypeId} {pre seg post : List Nat} (h : Seg k w g t pre seg post) {lo hi o n c : Nat} (ho : pre.length = o) (hn : seg.length = n) (hl : lo ≤ g) (hh : g < hi) (hc : n ≤ c) :
    Rd k w lo hi (some ⟨g, o, none⟩) n c seg := by
  have := Row.rd (zs := pre ++ seg ++ post) h (lo := lo) (hi := hi) (o := o) (n := n) (c := c) hl hh (by simp; omega) hc
  subst ho; subst hn
  rw [List.append_assoc, List.drop_left, List.take_left] at this
  exact this

/-- A word that is not below the quotient. -/
def GuessPost (w : World) (q : Nat) (e : Ending) (w' : World) : Prop := ∃ wd m : Nat, e = .returned (.int .u64 (wd : Int)) ∧ w' = w.drewN m ∧ wd < B64 ∧ q ≤ wd
theorem GuessPost.of {w w' : World} {q : Nat} {e : Ending} (wd : Nat) (he : e = .returned (.int .u64 (wd : Int))) (h : ∃ m, w' = w.drewN m) (h1 : wd < B64) (h2 : q ≤ wd) : GuessPost w q e w' := by
  obtain ⟨m, hm⟩ := h; exact ⟨wd, m, he, hm, h1, h2⟩

set_option maxRecDepth 100000 in
set_option maxHeartbeats 1000000 in
theorem guess_any (w : World) (lo hi lo' hi' : Nat) (A B : Option Addr) (n c cb t : Nat) (ps ds : List Nat) (hp : Rd .u64 w lo hi A (n + 1) c ps) (hd : Rd .u64 w lo' hi' B n cb ds) (hps : Small B64 ps) (hds : Small B64 ds)
    (hn0 : 0 < n) (hn : n ≤ 100000000) (ht : ds[n - 1]? = some t) (ht0 : t ≠ 0) (hlt : nval B64 ps < B64 * nval B64 ds) :
    Calls Tryd.prog 91 #[.slice A (n + 1) c, .slice B n cb] w (GuessPost w (nval B64 ps / nval B64 ds)) := by
  obtain ⟨ad, pn, hA, _, _, hpn, hcn⟩ := hp.get_ (j := n) (by omega)
  subst hA
  obtain ⟨ad', pm, hA, _, _, hpm, hcm⟩ := hp.get_ (j := n - 1) (by omega)
  obtain rfl : ad = ad' := by injection hA
  obtain ⟨bd, t', hA', _, _, ht', hct⟩ := hd.get_ (j := n - 1) (by omega)
  subst hA'
  obtain rfl : t = t' := by have := ht'.out; rw [ht] at this; injection this
  have htB := hds.get ht
  have hge := guess_ge (B := B64) B64_two hps hn0 hd.1 hp.1 ht hpn.out hpm.out ht0
  have hD0 : 0 < nval B64 ds := by
    rcases Nat.eq_zero_or_pos (nval B64 ds) with e | e
    · rw [e] at hlt; omega
    · exact e
  have hqB : nval B64 ps / nval B64 ds < B64 := by rw [Nat.div_lt_iff_lt_mul hD0]; exact hlt
  have hpmB := hps.get hpm.out
  have hpnB := hps.get hpn.out
  obtain ⟨Q, hQ⟩ : ∃ Q, Q = nval B64 ps / nval B64 ds := ⟨_, rfl⟩
  rw [← hQ] at hge hqB ⊢
  have HQB := Lib.hid hqB; have HGE := Lib.hid hge; have HPM := Lib.hid hpmB; have HTB := Lib.hid htB
  have i1 : ((n : Int) - 1).toNat = n - 1 := by omega
  have i2 : (0 : Int) ≤ (n : Int) - 1 := by omega
  have i3 : (n : Int) - 1 < (n : Int) := by omega
  have i4 : (n : Int) < (n : Int) + 1 := by omega
  have i5 : (n : Int) - 1 < (n : Int) + 1 := by omega
  clear hA ht hqB hge hpmB hpnB htB hlt hD0 hQ hps hds hp hd ht0
  rcases Nat.lt_or_ge pn t with hc | hc
  · have hcall := fun W => Lib.hid (div64_any pn pm t HPM.out HTB.out hc W)
    have hquo : (pn * B64 + pm) / t < B64 := by
      rw [Nat.div_lt_iff_lt_mul (by omega)]
      have h1 : (pn + 1) * B64 ≤ t * B64 := Nat.mul_le_mul_right _ hc
      have := HPM.out
      rw [Nat.add_mul, Nat.mul_comm t] at h1; omega
    have HQ2 := Lib.hid hquo
    have f1 : decide (t ≤ pn) = false := by simp; omega
    clear hquo
    go_enter Tryd.func91, Tryd.ntmps91
    have j1 : IntKind.i64.wrap ((n : Int) - 1) = (n : Int) - 1 := IntWalk.i64_in _ (by omega)
    go_wp2
    go_region_with (go_at_call 97; refine (hcall _).out.mono ?_; rintro e w' ⟨r, dn, rfl, rfl⟩)
    all_goals
      go_wp2
      go_ret
      exact GuessPost.of _ rfl (by first | exact ⟨_, rfl⟩ | exact dr1 _ _ _ | exact ⟨_, World.drewN_drew ..⟩) HQ2.out HGE.out
  · have f1 : decide (t ≤ pn) = true := by simp; omega
    go_enter Tryd.func91, Tryd.ntmps91
    go_wp2
    go_ret
    exact GuessPost.of 18446744073709551615 rfl ⟨0, rfl⟩ (by unfold B64; omega) (by have := HQB.out; unfold B64 at this; omega)
end Go.Proofs.YtdmnohmjobofhaaDoor

namespace Go.Proofs.YtdmnohmjobofhaaDoor
open Go.RowKit Nx

/-- The relation of subRow's loop. -/
def RedRel (w : World) (g : Nat) (pre seg post ys : List Nat) (f n m : Nat) (u c b : Value) (wr : World) : Prop :=
  ∃ (k cy bo : Nat) (cur : List Nat), k ≤ m ∧ u = .int .i64 (k : Int) ∧ c = .int .u64 (cy : Int) ∧ b = .int .u64 (bo : Int) ∧ bo ≤ 1 ∧
    Hid (RedI B64 n k cy bo f cur seg ys ∧ cy < B64) ∧ Hid (Seg .u64 wr g 41 pre cur post) ∧ Hid (w.grownBy wr (some g))

/-- What subRow leaves. -/
def RedPost (w : World) (g : Nat) (pre seg post ys : List Nat) (f m : Nat) (e : Ending) (w' : World) : Prop :=
  ∃ (bo : Nat) (out : List Nat), e = .returned (.int .u64 (bo : Int)) ∧ bo ≤ 1 ∧ out.length = m + 1 ∧ Small B64 out ∧ nval B64 out + f * nval B64 ys = nval B64 seg + B64 ^ (m + 1) * bo ∧
    Seg .u64 w' g 41 pre out post ∧ w.grownBy w' (some g)

set_option maxRecDepth 100000 in
set_option maxHeartbeats 1000000 in
theorem subRow_any (w : World) (lo hi g o m c cb f : Nat) (A : Option Addr) (pre seg post ys : List Nat) (hs : Seg .u64 w g 41 pre seg post) (ho : pre.length = o) (hn : seg.length = m + 1) (hnc : m + 1 ≤ c)
    (hb : Rd .u64 w lo hi A m cb ys) (hg : hi ≤ g) (hsm : Small B64 seg) (hys : Small B64 ys) (hf : f < B64) (hbig : m ≤ 1000000000) :
    Calls Tryd.prog 92 #[.slice (some ⟨g, o, none⟩) (m + 1) c, .slice A m cb, .int .u64 (f : Int)] w (RedPost w g pre seg post ys f m) := by
  have HS := Lib.hid hs; have HO := Lib.hid ho; have HN := Lib.hid hn; have HB := Lib.hid hb; have HM := Lib.hid hsm; have HY := Lib.hid hys; have HF := Lib.hid hf
  have HL := Lib.hid hb.1
  clear hs ho hn hb hsm hys hf
  go_enter Tryd.func92, Tryd.ntmps92
  go_wp2
  go_loopw [13, 7, 8] (fun u c b wr => RedRel w g pre seg post ys f (m + 1) m u c b wr) (fun u _ _ _ => m - (intOf u).toNat)
  case atStart => exact ⟨0, 0, 0, seg, Nat.zero_le _, rfl, rfl, rfl, Nat.zero_le _, Lib.hid ⟨RedI.start HN.out HM.out, by unfold B64; omega⟩, HS, Lib.hid (only_refl _ _)⟩
  case round =>
    obtain ⟨k, cy, bo, cur, hk, rfl, rfl, rfl, hbo, hI, hS, hG⟩ := hrel
    obtain ⟨x, hx⟩ : ∃ x, cur[k]? = some x := ⟨cur[k]'(by have := hI.out.1.1; omega), List.getElem?_eq_getElem _⟩
    have hcx := hS.out.cell HO.out hx
    have hfx := hS.out.frozen (o + k)
    have HX := Lib.hid hx
    clear hx
    have hxB := hI.out.1.2.1.get HX.out
    have i1 : (0 : Int) ≤ (k : Int) := by omega
    have i2 : (k : Int) < (m : Int) + 1 := by omega
    have hS2 := fun v => Lib.hid (hS.out.set_ HO.out (i := k) (by have := hI.out.1.1; omega) v)
    by_cases hlt : k < m
    · have i3 : (k : Int) < (m : Int) := by omega
      obtain ⟨ad, y, hA, _, hbl, hy, hcy0⟩ := HB.out.get_ (j := k) (by omega)
      subst hA
      have hcy1 : wr.cell? (ad.add k) = some (.int .u64 (y : Int)) := by
        rw [← hcy0]; exact World.cell?_of_block (hG.out.block _ (by rw [block_of_add]; have := HS.out.lt; omega) (by rw [block_of_add]; intro e; injection e with e; omega))
      have hyB := HY.out.get hy.out
      have hcall := fun W => Lib.hid (addProduct_any 0 y f cy (by unfold B64; omega) hyB HF.out hI.out.2 W)
      rw [show ((0 : Nat) : Int) = 0 from rfl] at hcall
      have hc2 := mul_carry (x := 0) (by unfold B64; omega) hyB HF.out hI.out.2
      have hdm := Nat.mod_add_div (0 + y * f + cy) B64
      have hlB : (0 + y * f + cy) % B64 < B64 := Nat.mod_lt _ (by unfold B64; omega)
      obtain ⟨l, hl⟩ : ∃ l, l = (0 + y * f + cy) % B64 := ⟨_, rfl⟩
      obtain ⟨d, hd⟩ : ∃ d, d = (0 + y * f + cy) / B64 := ⟨_, rfl⟩
      rw [← hl, ← hd] at hcall hdm
      rw [← hl] at hlB
      rw [← hd] at hc2
      obtain ⟨hw1, hw2⟩ := sub_word hxB hlB hbo
      have hsub := sub64_run x l bo hbo
      have hI2 := hI.out.1.step HX.out (getD_of hy.out) hw2 hw1 (by rw [hdm, Nat.zero_add])
      have hd1 : (if x < l + bo then 1 else 0) ≤ 1 := by split <;> omega
      obtain ⟨v, hv⟩ : ∃ v, v = (x + B64 - l - bo) % B64 := ⟨_, rfl⟩
      obtain ⟨b2, hb2⟩ : ∃ b2, b2 = (if x < l + bo then 1 else 0) := ⟨_, rfl⟩
      rw [← hv, ← hb2] at hsub hI2
      rw [← hb2] at hd1
      have HI2 := Lib.hid (And.intro hI2 hc2)
      have hS3 := hS2 v
      have HC := Lib.hid hcall
      clear hcy0 hl hd hv hb2 hw1 hw2 hI2 hc2 hdm hlB hxB hyB hS2 hcall
      go_wp2_with (go_at_call 77; refine (HC.out _).out.mono ?_; rintro e w' ⟨rfl, rfl⟩)
      go_roundw
      case rel => exact ⟨k + 1, d, b2, _, by omega, by go_num, rfl, rfl, hd1, HI2, Lib.hid hS3.out, Lib.hid (only_set hG.out (.inl rfl) _)⟩
      case measure => simp [intOf]; omega
    · have hkn : k = m := by omega
      subst hkn
      obtain ⟨hw1, hw2⟩ := sub_word hxB hI.out.2 hbo
      have hsub := sub64_run x cy bo hbo
      have hfin := hI.out.1.done HN.out HL.out HX.out hw1
      have hd1 : (if x < cy + bo then 1 else 0) ≤ 1 := by split <;> omega
      obtain ⟨v, hv⟩ : ∃ v, v = (x + B64 - cy - bo) % B64 := ⟨_, rfl⟩
      obtain ⟨b2, hb2⟩ : ∃ b2, b2 = (if x < cy + bo then 1 else 0) := ⟨_, rfl⟩
      rw [← hv, ← hb2] at hsub hfin
      rw [← hv] at hw2
      rw [← hb2] at hd1
      have HF2 := Lib.hid hfin
      have HV := Lib.hid hw2
      have hS3 := hS2 v
      clear hv hb2 hw1 hw2 hfin hxB hS2
      go_wp2
      go_ret
      exact ⟨b2, _, rfl, hd1, by simpa using hI.out.1.1, hI.out.1.2.1.set k HV.out, HF2.out, hS3.out, only_set hG.out (.inl rfl) _⟩
end Go.Proofs.YtdmnohmjobofhaaDoor

namespace Go.Proofs.YtdmnohmjobofhaaDoor
open Go.RowKit Nx

/-- The relation of reduce's loop. -/
def QuoRel (w : World) (g : Nat) (pre post : List Nat) (P D n : Nat) (u b : Value) (wr : World) : Prop :=
  ∃ (wd bo : Nat) (out : List Nat), u = .int .u64 (wd : Int) ∧ b = .int .u64 (bo : Int) ∧ bo ≤ 1 ∧
    Hid (wd < B64 ∧ out.length = n + 1 ∧ Small B64 out ∧ QuoI P D (B64 ^ (n + 1)) wd bo (nval B64 out)) ∧ Hid (Seg .u64 wr g 41 pre out post) ∧ Hid (w.grownBy wr (some g))

/-- What reduce leaves: the quotient's word; the rest in the row. -/
def ReducePost (w : World) (g : Nat) (pre post : List Nat) (P D n : Nat) (e : Ending) (w' : World) : Prop :=
  ∃ (out : List Nat), e = .returned (.int .u64 ((P / D : Nat) : Int)) ∧ P / D < B64 ∧ out.length = n + 1 ∧ Small B64 out ∧ nval B64 out = P % D ∧
    Seg .u64 w' g 41 pre out post ∧ w.grownBy w' (some g)

set_option maxRecDepth 100000 in
set_option maxHeartbeats 1000000 in
theorem reduce_any (w : World) (lo hi g o n c cb t : Nat) (A : Option Addr) (pre seg post ds : List Nat) (hs : Seg .u64 w g 41 pre seg post) (ho : pre.length = o) (hn : seg.length = n + 1) (hnc : n + 1 ≤ c)
    (hb : Rd .u64 w lo hi A n cb ds) (hg : hi ≤ g) (hsm : Small B64 seg) (hds : Small B64 ds) (hn0 : 0 < n) (hbig : n ≤ 100000000) (ht : ds[n - 1]? = some t) (ht0 : t ≠ 0) (hlt : nval B64 seg < B64 * nval B64 ds) :
    Calls Tryd.prog 79 #[.slice (some ⟨g, o, none⟩) (n + 1) c, .slice A n cb] w (ReducePost w g pre post (nval B64 seg) (nval B64 ds) n) := by
  have hlen := hb.1
  have hD0 : 0 < nval B64 ds := by
    rcases Nat.eq_zero_or_pos (nval B64 ds) with e | e
    · rw [e] at hlt; omega
    · exact e
  obtain ⟨P, hP⟩ : ∃ P, P = nval B64 seg := ⟨_, rfl⟩
  obtain ⟨D, hD⟩ : ∃ D, D = nval B64 ds := ⟨_, rfl⟩
  have hgu := fun W (h1 : Seg .u64 W g 41 pre seg post) (h2 : Rd .u64 W lo hi A n cb ds) =>
    guess_any W g (g + 1) lo hi (some ⟨g, o, none⟩) A n c cb t seg ds (h1.rd ho hn (Nat.le_refl _) (Nat.lt_succ_self _) hnc) h2 hsm hds hn0 hbig ht ht0 hlt
  rw [← hP, ← hD] at hgu ⊢
  have HS := Lib.hid hs; have HO := Lib.hid ho; have HN := Lib.hid hn; have HB := Lib.hid hb; have HM := Lib.hid hsm; have HY := Lib.hid hds
  have HG := Lib.hid hgu; have HP := Lib.hid hP; have HD := Lib.hid hD; have HD0 := Lib.hid (show 0 < D by omega); have HL := Lib.hid hlen
  clear hs ho hn hb hsm hds hgu hP hD hD0 ht ht0 hlt hlen
  go_enter Tryd.func79, Tryd.ntmps79
  go_wp2_with fail
  refine (HG.out w HS.out HB.out).mono ?_
  rintro e w' ⟨wd, dn, rfl, rfl, hwd, hge⟩
  have HW := Lib.hid (And.intro hwd hge)
  clear hwd hge
  go_wp2_with fail
  refine (subRow_any (w.drewN dn) lo hi g o n c cb wd A pre seg post ds HS.out HO.out HN.out hnc HB.out hg HM.out HY.out HW.out.1 (by omega)).mono ?_
  rintro e w2 ⟨bo, out, rfl, hbo, hol, hos, hov, hseg, hon⟩
  have hq : QuoI P D (B64 ^ (n + 1)) wd bo (nval B64 out) := by
    refine ⟨?_, hbo, HW.out.2, by rw [← hol]; exact nval_lt hos⟩
    rw [HP.out, HD.out]; exact hov
  have HQ := Lib.hid (And.intro HW.out.1 (And.intro hol (And.intro hos hq)))
  have HS2 := Lib.hid hseg
  have HO2 := Lib.hid (show w.grownBy w2 (some g) from only_trans (only_drewN (only_refl w (some g)) dn) hon)
  clear hol hos hov hseg hon hq
  go_wp2
  go_loopw [5, 6] (fun u b wr => QuoRel w g pre post P D n u b wr) (fun u _ _ => (intOf u).toNat)
  case atStart => exact ⟨wd, bo, out, rfl, rfl, hbo, HQ, HS2, HO2⟩
  case round =>
    obtain ⟨wx, bx, ox, rfl, rfl, hbx, hI, hS, hG⟩ := hrel
    rcases (show bx = 0 ∨ bx = 1 by omega) with e | e
    · have f1 : ((bx : Int) != 0) = false := by simp; omega
      have hd := QuoI.done HD0.out (by have := hI.out.2.2.2; rw [e] at this; exact this)
      have HDn := Lib.hid hd
      clear hd e
      go_wp2
      go_ret
      refine ⟨ox, ?_, ?_, hI.out.2.1, hI.out.2.2.1, HDn.out.2, hS.out, hG.out⟩
      · rw [← HDn.out.1]; rfl
      · rw [← HDn.out.1]; exact hI.out.1
    · subst e
      have hI1 := hI.out.2.2.2
      have hhi := hI1.high HD0.out
      have hw0 : 0 < wx := Nat.lt_of_lt_of_le (Nat.succ_pos _) hhi
      have hwB := hI.out.1
      have e1 : IntKind.u64.wrap ((wx : Int) - 1) = ((wx - 1 : Nat) : Int) := by
        rw [show (wx : Int) - 1 = ((wx - 1 : Nat) : Int) by omega, u64_fits _ (by unfold B64 at hwB; omega)]
      have hrd : Rd .u64 wr lo hi A n cb ds := HB.out.grown hG.out (by have := HS.out.lt; omega) (fun k hk => by injection hk with hk; omega)
      obtain ⟨w1, hw1⟩ : ∃ w1, w1 = wx - 1 := ⟨_, rfl⟩
      rw [← hw1] at e1
      have HW1 := Lib.hid hw1
      have hlt1 : w1 < wx := by omega
      have HH := Lib.hid hI1
      have HRd := Lib.hid hrd
      have HWB := Lib.hid hwB
      clear hI1 hhi hw0 hwB hrd hw1
      have f1 : (((1 : Nat) : Int) != 0) = true := by simp
      go_wp2_with fail
      refine (addTo_any wr lo hi g o (n + 1) c n cb A pre ox post ds hS.out HO.out hI.out.2.1 hnc HRd.out hg (by omega) hI.out.2.2.1 HY.out (by omega)).mono ?_
      rintro e w3 ⟨cy, o3, rfl, hcy, hol, hos, hov, hseg, hon⟩
      have hnx : QuoI P D (B64 ^ (n + 1)) w1 (1 - cy) (nval B64 o3) := by
        rw [HW1.out]
        refine HH.out.next HD0.out ?_ hcy ?_
        · rw [hI.out.2.1] at hov; rw [HD.out]; exact hov
        · have := nval_lt hos; rw [hol, hI.out.2.1] at this; exact this
      have e2 : IntKind.u64.wrap (((1 : Nat) : Int) - (cy : Int)) = ((1 - cy : Nat) : Int) := by
        rw [show ((1 : Nat) : Int) - (cy : Int) = ((1 - cy : Nat) : Int) by omega, u64_fits _ (by omega)]
      have e2' : IntKind.u64.wrap ((1 : Int) - (cy : Int)) = ((1 - cy : Nat) : Int) := e2
      have hb2 : 1 - cy ≤ 1 := by omega
      have HN2 := Lib.hid (And.intro (show w1 < B64 by have := HWB.out; omega) (And.intro (hol.trans hI.out.2.1) (And.intro hos hnx)))
      have HS3 := Lib.hid hseg
      have HO3 := Lib.hid (only_trans hG.out hon)
      clear hol hos hov hseg hon hnx
      generalize 1 - cy = b2 at *
      go_wp2
      go_roundw
      case rel => exact ⟨w1, b2, o3, rfl, rfl, hb2, HN2, HS3, HO3⟩
      case measure => simp [intOf]; omega
end Go.Proofs.YtdmnohmjobofhaaDoor

namespace Go.Proofs.YtdmnohmjobofhaaDoor.Nx

/-- After k words of the quotient, the highest first: R is left of X, Q holds the words so far. -/
def DivJ (B n m k X D : Nat) (R Q : List Nat) : Prop :=
  R.length = n + 1 ∧ Q.length = n - m + 1 ∧ Small B R ∧ Small B Q ∧ nval B R + D * (B ^ (n - m + 1 - k) * nval B (Q.drop (n - m + 1 - k))) = X ∧ nval B (R.drop (n - m + 1 - k)) < D

theorem nval_drop {B : Nat} {xs : List Nat} (h : Small B xs) (k : Nat) (hk : k ≤ xs.length) : nval B (xs.drop k) = nval B xs / B ^ k := by
  have h1 := nval_split B xs k hk
  have h2 := nval_lt (h.take k)
  rw [List.length_take, Nat.min_eq_left hk] at h2
  rw [h1, Nat.add_mul_div_left _ _ (by omega), Nat.div_eq_of_lt h2, Nat.zero_add]

theorem DivJ.start {B n m X Y D g : Nat} {R : List Nat} (hB : 2 ≤ B) (hmn : m ≤ n) (hm : 0 < m) (hX : X < B ^ n) (hY : B ^ (m - 1) ≤ Y) (hD : D = Y * 2 ^ g) (hR : R.length = n + 1) (hRs : Small B R) (hRv : nval B R = X * 2 ^ g) :
    DivJ B n m 0 (X * 2 ^ g) D R (List.replicate (n - m + 1) 0) := by
  refine ⟨hR, by simp, hRs, small_replicate (by omega), ?_, ?_⟩
  · rw [List.drop_of_length_le (by simp)]; simp [nval, hRv]
  · rw [nval_drop hRs _ (by omega), hRv, hD, Nat.sub_zero]
    rw [Nat.div_lt_iff_lt_mul (Nat.pow_pos (by omega))]
    have h1 : B ^ (m - 1) * B ^ (n - m + 1) = B ^ n := by rw [← Nat.pow_add]; congr 1; omega
    have h2 : B ^ (m - 1) * B ^ (n - m + 1) ≤ Y * B ^ (n - m + 1) := Nat.mul_le_mul_right _ hY
    have h3 : X < Y * B ^ (n - m + 1) := by omega
    have h4 : X * 2 ^ g < Y * B ^ (n - m + 1) * 2 ^ g := Nat.mul_lt_mul_of_pos_right h3 (Nat.two_pow_pos g)
    rw [Nat.mul_right_comm] at h4
    exact h4

theorem DivJ.parts {B n m k j X D : Nat} {R Q : List Nat} (hB : 2 ≤ B) (h : DivJ B n m k X D R Q) (hk : k < n - m + 1) (hj : j = n - m - k) (hmn : m ≤ n) (hDm : D < B ^ m) :
    ∃ pre seg post : List Nat, R = pre ++ seg ++ post ∧ pre.length = j ∧ seg.length = m + 1 ∧ Small B seg ∧ nval B seg < B * D ∧
      ∀ out : List Nat, out.length = m + 1 → Small B out → nval B out = nval B seg % D → nval B seg / D < B → DivJ B n m (k + 1) X D (pre ++ out ++ post) (Q.set j (nval B seg / D)) := by
  obtain ⟨h1, h2, h3, h4, h5, h6⟩ := h
  have e1 : n - m + 1 - k = j + 1 := by omega
  have e2 : n - m + 1 - (k + 1) = j := by omega
  rw [e1] at h5 h6
  have hD0 : 0 < D := by omega
  have hpost : nval B (R.drop (j + m + 1)) = 0 := by
    have a1 := nval_drop (h3.drop (j + 1)) m (by simp; omega)
    rw [List.drop_drop, show j + 1 + m = j + m + 1 by omega] at a1
    rw [a1]; exact Nat.div_eq_of_lt (by omega)
  have hsp := nval_split B (R.drop j) (m + 1) (by simp; omega)
  rw [List.drop_drop, show j + (m + 1) = j + m + 1 by omega, hpost, Nat.mul_zero, Nat.add_zero] at hsp
  have hseg : nval B (R.drop j) < B * D := by
    have a2 : R.drop j = R.getD j 0 :: R.drop (j + 1) := by
      rw [List.drop_eq_getElem_cons (by omega)]; simp [List.getD_eq_getElem?_getD, List.getElem?_eq_getElem (show j < R.length by omega)]
    rw [a2, nval]
    have a3 := getD_lt h3 (by omega) j
    have a4 : B * (nval B (R.drop (j + 1)) + 1) ≤ B * D := Nat.mul_le_mul_left _ h6
    rw [Nat.mul_add] at a4; omega
  refine ⟨R.take j, (R.drop j).take (m + 1), R.drop (j + m + 1), ?_, by simp; omega, by simp; omega, (h3.drop j).take _, by rw [← hsp]; exact hseg, ?_⟩
  · rw [List.append_assoc, show R.drop (j + m + 1) = (R.drop j).drop (m + 1) by rw [List.drop_drop, Nat.add_assoc], List.take_append_drop, List.take_append_drop]
  · intro out g1 g2 g3 g4
    have hdm := Nat.div_add_mod' (nval B ((R.drop j).take (m + 1))) D
    rw [← g3] at hdm
    have hlt : nval B out < D := by rw [g3]; exact Nat.mod_lt _ hD0
    have hRj := nval_split B R j (by omega)
    rw [hsp] at hRj
    have l1 : (R.take j).length = j := by simp; omega
    generalize nval B ((R.drop j).take (m + 1)) / D = q at *
    have hQ : (Q.set j q).drop j = q :: Q.drop (j + 1) := by
      rw [List.drop_eq_getElem_cons (by simp; omega)]; simp [List.drop_set]
    have hR' : nval B (R.take j ++ out ++ R.drop (j + m + 1)) = nval B (R.take j) + B ^ j * nval B out := by
      rw [List.append_assoc, nval_append, nval_append, hpost, l1, Nat.mul_zero, Nat.add_zero]
    have hRd : (R.take j ++ out ++ R.drop (j + m + 1)).drop j = out ++ R.drop (j + m + 1) := by
      rw [List.append_assoc, List.drop_append, l1, Nat.sub_self, List.drop_zero, List.drop_of_length_le (by omega), List.nil_append]
    refine ⟨by simp; omega, by simpa using h2, ((h3.take j).append g2).append (h3.drop _), h4.set j g4, ?_, ?_⟩
    · rw [e2, hQ, hR', nval, ← h5, hRj, ← hdm, Nat.pow_succ]
      generalize nval B (R.take j) = a at *
      generalize nval B (Q.drop (j + 1)) = b at *
      generalize nval B out = o at *
      generalize B ^ j = P at *
      clear h5 hRj hdm hR' hseg hsp g3 h6 hlt
      grind
    · rw [e2, hRd, nval_append, hpost, Nat.mul_zero, Nat.add_zero]; exact hlt

theorem DivJ.done {B n m X Y D g : Nat} {R Q : List Nat} (h : DivJ B n m (n - m + 1) (X * 2 ^ g) D R Q) (hD : D = Y * 2 ^ g) (hY : 0 < Y) :
    nval B Q = X / Y ∧ nval B R = X % Y * 2 ^ g := by
  obtain ⟨_, _, _, _, h5, h6⟩ := h
  rw [Nat.sub_self] at h5 h6
  rw [List.drop_zero, Nat.pow_zero, Nat.one_mul] at h5
  rw [List.drop_zero] at h6
  have hD0 : 0 < D := by rw [hD]; exact Nat.mul_pos hY (Nat.two_pow_pos g)
  have q1 : X * 2 ^ g / D = nval B Q := by rw [← h5, Nat.add_mul_div_left _ _ hD0, Nat.div_eq_of_lt h6, Nat.zero_add]
  have q2 : X * 2 ^ g % D = nval B R := by rw [← h5, Nat.add_mul_mod_self_left, Nat.mod_eq_of_lt h6]
  constructor
  · rw [← q1, hD, Nat.mul_div_mul_right _ _ (Nat.two_pow_pos g)]
  · rw [← q2, hD, Nat.mul_mod_mul_right]

/-- The divisor, shifted up until its highest bit is set, has as many words. -/
theorem len_shifted {B N m t : Nat} (hB : 2 ≤ B) (hBp : ∀ k, B ^ k = 2 ^ (64 * k)) (hm : (digs B N).length = m) (h0 : 0 < m) (ht : (digs B N)[m - 1]? = some t) : (digs B (N * 2 ^ (64 - nbits t))).length = m ∧ N * 2 ^ (64 - nbits t) < B ^ m ∧ t ≠ 0 := by
  have ht0 : t ≠ 0 := digs_last hB N t (by rw [List.getLast?_eq_getElem?, hm]; exact ht)
  have htB := (small_digs hB N).get ht
  have hb64 : nbits t ≤ 64 := nbits_le (by have := hBp 1; rw [Nat.pow_one, Nat.mul_one] at this; omega)
  have hs := nval_split B (digs B N) (m - 1) (by omega)
  have hd : (digs B N).drop (m - 1) = [t] := by
    rw [List.drop_eq_getElem_cons (by omega), show m - 1 + 1 = m by omega, List.drop_of_length_le (by omega)]
    rw [List.getElem?_eq_getElem (by omega)] at ht; injection ht with ht; rw [ht]
  have hl := nval_lt ((small_digs hB N).take (m - 1))
  rw [List.length_take, Nat.min_eq_left (by omega)] at hl
  rw [nval_digs hB, hd] at hs
  simp only [nval, Nat.mul_zero, Nat.add_zero] at hs
  have hlt := nbits_lt t
  have hN : N < B ^ (m - 1) * 2 ^ nbits t := by
    have : B ^ (m - 1) * (t + 1) ≤ B ^ (m - 1) * 2 ^ nbits t := Nat.mul_le_mul_left _ hlt
    rw [Nat.mul_add] at this; omega
  have hup : N * 2 ^ (64 - nbits t) < B ^ m := by
    have h1 : N * 2 ^ (64 - nbits t) < B ^ (m - 1) * 2 ^ nbits t * 2 ^ (64 - nbits t) := Nat.mul_lt_mul_of_pos_right hN (Nat.two_pow_pos _)
    rw [Nat.mul_assoc, ← Nat.pow_add, show nbits t + (64 - nbits t) = 64 * 1 by omega, ← hBp 1, ← Nat.pow_add, show m - 1 + 1 = m by omega] at h1
    exact h1
  refine ⟨?_, hup, ht0⟩
  have h1 := digs_len_le hB hup
  have hN0 : N ≠ 0 := by rintro rfl; rw [digs_zero] at hm; simp at hm; omega
  have h2 := digs_len_ge hB hN0
  rw [hm] at h2
  rcases Nat.lt_or_ge (digs B (N * 2 ^ (64 - nbits t))).length m with h3 | h3
  · have h4 := nval_lt (small_digs hB (N * 2 ^ (64 - nbits t)))
    rw [nval_digs hB] at h4
    have h5 : B ^ (digs B (N * 2 ^ (64 - nbits t))).length ≤ B ^ (m - 1) := Nat.pow_le_pow_right (by omega) (by omega)
    have h6 : N * 1 ≤ N * 2 ^ (64 - nbits t) := Nat.mul_le_mul_left _ (Nat.two_pow_pos _)
    omega
  · omega
end Go.Proofs.YtdmnohmjobofhaaDoor.Nx
