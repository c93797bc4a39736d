/- nat.reduce. -/
import Derived.Test.YtnkbamjjpdmbaaaDoorRedB
namespace Go.Proofs.YtnkbamjjpdmbaaaDoor
open Go.RowKit Nx

/-- The relation of reduce's loop. -/
def QuoRel (w : World) (g : Nat) (pre post : List Nat) (P D n : Nat) (u b : Value) (wr : World) : Prop :=
  ∃ (wd bo : Nat) (out : List Nat), u = .int .u64 (wd : Int) ∧ b = .int .u64 (bo : Int) ∧ bo ≤ 1 ∧
    Hid (wd < B64 ∧ out.length = n + 1 ∧ Small B64 out ∧ QuoI P D (B64 ^ (n + 1)) wd bo (nval B64 out)) ∧ Hid (Seg .u64 wr g 47 pre out post) ∧ Hid (w.grownBy wr (some g))

/-- What reduce leaves: the quotient's word; the rest in the row. -/
def ReducePost (w : World) (g : Nat) (pre post : List Nat) (P D n : Nat) (e : Ending) (w' : World) : Prop :=
  ∃ (out : List Nat), e = .returned (.int .u64 ((P / D : Nat) : Int)) ∧ P / D < B64 ∧ out.length = n + 1 ∧ Small B64 out ∧ nval B64 out = P % D ∧
    Seg .u64 w' g 47 pre out post ∧ w.grownBy w' (some g)

set_option maxRecDepth 100000 in
set_option maxHeartbeats 1000000 in
theorem reduce_any (w : World) (lo hi g o n c cb t : Nat) (A : Option Addr) (pre seg post ds : List Nat) (hs : Seg .u64 w g 47 pre seg post) (ho : pre.length = o) (hn : seg.length = n + 1) (hnc : n + 1 ≤ c)
    (hb : Rd .u64 w lo hi A n cb ds) (hg : hi ≤ g) (hsm : Small B64 seg) (hds : Small B64 ds) (hn0 : 0 < n) (hbig : n ≤ 100000000) (ht : ds[n - 1]? = some t) (ht0 : t ≠ 0) (hlt : nval B64 seg < B64 * nval B64 ds) :
    Calls Tryd.prog 104 #[.slice (some ⟨g, o, none⟩) (n + 1) c, .slice A n cb] w (ReducePost w g pre post (nval B64 seg) (nval B64 ds) n) := by
  have hlen := hb.1
  have hD0 : 0 < nval B64 ds := by
    rcases Nat.eq_zero_or_pos (nval B64 ds) with e | e
    · rw [e] at hlt; omega
    · exact e
  obtain ⟨P, hP⟩ : ∃ P, P = nval B64 seg := ⟨_, rfl⟩
  obtain ⟨D, hD⟩ : ∃ D, D = nval B64 ds := ⟨_, rfl⟩
  have hgu := fun W (h1 : Seg .u64 W g 47 pre seg post) (h2 : Rd .u64 W lo hi A n cb ds) =>
    guess_any W g (g + 1) lo hi (some ⟨g, o, none⟩) A n c cb t seg ds (h1.rd ho hn (Nat.le_refl _) (Nat.lt_succ_self _) hnc) h2 hsm hds hn0 hbig ht ht0 hlt
  rw [← hP, ← hD] at hgu ⊢
  have HS := Lib.hid hs; have HO := Lib.hid ho; have HN := Lib.hid hn; have HB := Lib.hid hb; have HM := Lib.hid hsm; have HY := Lib.hid hds
  have HG := Lib.hid hgu; have HP := Lib.hid hP; have HD := Lib.hid hD; have HD0 := Lib.hid (show 0 < D by omega); have HL := Lib.hid hlen
  clear hs ho hn hb hsm hds hgu hP hD hD0 ht ht0 hlt hlen
  go_enter Tryd.func104, Tryd.ntmps104
  go_wp2_with fail
  refine (HG.out w HS.out HB.out).mono ?_
  rintro e w' ⟨wd, dn, rfl, rfl, hwd, hge⟩
  have HW := Lib.hid (And.intro hwd hge)
  clear hwd hge
  go_wp2_with fail
  refine (subRow_any (w.drewN dn) lo hi g o n c cb wd A pre seg post ds HS.out HO.out HN.out hnc HB.out hg HM.out HY.out HW.out.1 (by omega)).mono ?_
  rintro e w2 ⟨bo, out, rfl, hbo, hol, hos, hov, hseg, hon⟩
  have hq : QuoI P D (B64 ^ (n + 1)) wd bo (nval B64 out) := by
    refine ⟨?_, hbo, HW.out.2, by rw [← hol]; exact nval_lt hos⟩
    rw [HP.out, HD.out]; exact hov
  have HQ := Lib.hid (And.intro HW.out.1 (And.intro hol (And.intro hos hq)))
  have HS2 := Lib.hid hseg
  have HO2 := Lib.hid (show w.grownBy w2 (some g) from only_trans (only_drewN (only_refl w (some g)) dn) hon)
  clear hol hos hov hseg hon hq
  go_wp2
  go_loopw [5, 6] (fun u b wr => QuoRel w g pre post P D n u b wr) (fun u _ _ => (intOf u).toNat)
  case atStart => exact ⟨wd, bo, out, rfl, rfl, hbo, HQ, HS2, HO2⟩
  case round =>
    obtain ⟨wx, bx, ox, rfl, rfl, hbx, hI, hS, hG⟩ := hrel
    rcases (show bx = 0 ∨ bx = 1 by omega) with e | e
    · have f1 : ((bx : Int) != 0) = false := by simp; omega
      have hd := QuoI.done HD0.out (by have := hI.out.2.2.2; rw [e] at this; exact this)
      have HDn := Lib.hid hd
      clear hd e
      go_wp2
      go_ret
      refine ⟨ox, ?_, ?_, hI.out.2.1, hI.out.2.2.1, HDn.out.2, hS.out, hG.out⟩
      · rw [← HDn.out.1]; rfl
      · rw [← HDn.out.1]; exact hI.out.1
    · subst e
      have hI1 := hI.out.2.2.2
      have hhi := hI1.high HD0.out
      have hw0 : 0 < wx := Nat.lt_of_lt_of_le (Nat.succ_pos _) hhi
      have hwB := hI.out.1
      have e1 : IntKind.u64.wrap ((wx : Int) - 1) = ((wx - 1 : Nat) : Int) := by
        rw [show (wx : Int) - 1 = ((wx - 1 : Nat) : Int) by omega, u64_fits _ (by unfold B64 at hwB; omega)]
      have hrd : Rd .u64 wr lo hi A n cb ds := HB.out.grown hG.out (by have := HS.out.lt; omega) (fun k hk => by injection hk with hk; omega)
      obtain ⟨w1, hw1⟩ : ∃ w1, w1 = wx - 1 := ⟨_, rfl⟩
      rw [← hw1] at e1
      have HW1 := Lib.hid hw1
      have hlt1 : w1 < wx := by omega
      have HH := Lib.hid hI1
      have HRd := Lib.hid hrd
      have HWB := Lib.hid hwB
      clear hI1 hhi hw0 hwB hrd hw1
      have f1 : (((1 : Nat) : Int) != 0) = true := by simp
      go_wp2_with fail
      refine (addTo_any wr lo hi g o (n + 1) c n cb A pre ox post ds hS.out HO.out hI.out.2.1 hnc HRd.out hg (by omega) hI.out.2.2.1 HY.out (by omega)).mono ?_
      rintro e w3 ⟨cy, o3, rfl, hcy, hol, hos, hov, hseg, hon⟩
      have hnx : QuoI P D (B64 ^ (n + 1)) w1 (1 - cy) (nval B64 o3) := by
        rw [HW1.out]
        refine HH.out.next HD0.out ?_ hcy ?_
        · rw [hI.out.2.1] at hov; rw [HD.out]; exact hov
        · have := nval_lt hos; rw [hol, hI.out.2.1] at this; exact this
      have e2 : IntKind.u64.wrap (((1 : Nat) : Int) - (cy : Int)) = ((1 - cy : Nat) : Int) := by
        rw [show ((1 : Nat) : Int) - (cy : Int) = ((1 - cy : Nat) : Int) by omega, u64_fits _ (by omega)]
      have e2' : IntKind.u64.wrap ((1 : Int) - (cy : Int)) = ((1 - cy : Nat) : Int) := e2
      have hb2 : 1 - cy ≤ 1 := by omega
      have HN2 := Lib.hid (And.intro (show w1 < B64 by have := HWB.out; omega) (And.intro (hol.trans hI.out.2.1) (And.intro hos hnx)))
      have HS3 := Lib.hid hseg
      have HO3 := Lib.hid (only_trans hG.out hon)
      clear hol hos hov hseg hon hnx
      generalize 1 - cy = b2 at *
      go_wp2
      go_roundw
      case rel => exact ⟨w1, b2, o3, rfl, rfl, hb2, HN2, HS3, HO3⟩
      case measure => simp [intOf]; omega
end Go.Proofs.YtnkbamjjpdmbaaaDoor
