/- nat.subFrom, nat.Sub. -/
import Derived.Test.YtimkifkikcohgaaDoorSmall
import Derived.RegionTactic
namespace Go.Proofs.YtimkifkikcohgaaDoor
open Go.RowKit Nx

/-- The relation of subFrom's loop: the first k words are taken. -/
def SubRel (w : World) (g : Nat) (pre seg post ys : List Nat) (n : Nat) (u c : Value) (wr : World) : Prop :=
  ∃ (k cy : Nat) (cur : List Nat), k ≤ n ∧ u = .int .i64 (k : Int) ∧ c = .int .u64 (cy : Int) ∧ cy ≤ 1 ∧
    Hid (SubI B64 n k cy cur seg ys) ∧ Hid (Seg .u64 wr g 54 pre cur post) ∧ Hid (w.grownBy wr (some g))

def SubPost (w : World) (g : Nat) (pre seg post ys : List Nat) (e : Ending) (w' : World) : Prop :=
  ∃ (cy : Nat) (out : List Nat), e = .returned (.tuple #[]) ∧ out.length = seg.length ∧ Small B64 out ∧ nval B64 out + nval B64 ys = nval B64 seg + B64 ^ seg.length * cy ∧
    Seg .u64 w' g 54 pre out post ∧ w.grownBy w' (some g)

set_option maxRecDepth 100000 in
set_option maxHeartbeats 1000000 in
theorem subFrom_any (w : World) (lo hi g o n c m cb : Nat) (A : Option Addr) (pre seg post ys : List Nat) (hs : Seg .u64 w g 54 pre seg post) (ho : pre.length = o) (hn : seg.length = n) (hnc : n ≤ c)
    (hb : Rd .u64 w lo hi A m cb ys) (hg : hi ≤ g) (hmn : m ≤ n) (hsm : Small B64 seg) (hys : Small B64 ys) (hbig : n ≤ 1000000000) :
    Calls Tryd.prog 84 #[.slice (some ⟨g, o, none⟩) n c, .slice A m cb] w (SubPost w g pre seg post ys) := by
  have HS := Lib.hid hs; have HO := Lib.hid ho; have HN := Lib.hid hn; have HB := Lib.hid hb; have HM := Lib.hid hsm; have HY := Lib.hid hys
  have HL := Lib.hid hb.1
  clear hs ho hn hb hsm hys
  go_enter Tryd.func84, Tryd.ntmps84
  go_wp2
  go_step3
  go_wp2
  go_step3
  go_wp2
  go_loopw [8, 4] (fun u c wr => SubRel w g pre seg post ys n u c wr) (fun u _ _ => n - (intOf u).toNat)
  case atStart => exact ⟨0, 0, seg, Nat.zero_le _, rfl, rfl, Nat.zero_le _, Lib.hid (SubI.start HN.out HM.out), HS, Lib.hid (only_refl _ _)⟩
  case round =>
    obtain ⟨k, cy, cur, hk, rfl, rfl, hcy, hI, hS, hG⟩ := hrel
    by_cases hlt : k < n
    · obtain ⟨x, hx⟩ : ∃ x, cur[k]? = some x := ⟨cur[k]'(by have := hI.out.1; omega), List.getElem?_eq_getElem _⟩
      have hcx := hS.out.cell HO.out hx
      have hfx := hS.out.frozen (o + k)
      have HX := Lib.hid hx
      clear hx
      have i1 : (0 : Int) ≤ (k : Int) := by omega
      have i2 : (k : Int) < (n : Int) := by omega
      have hxB := hI.out.2.1.get HX.out
      by_cases hkm : k < m
      · obtain ⟨ad, y, hA, _, hbl, hy, hcy0⟩ := HB.out.get_ (j := k) (by omega)
        subst hA
        have hcy1 : wr.cell? (ad.add k) = some (.int .u64 (y : Int)) := by
          rw [← hcy0]; exact World.cell?_of_block (hG.out.block _ (by rw [block_of_add]; have := HS.out.lt; omega) (by rw [block_of_add]; intro e; injection e with e; omega))
        have hyB := HY.out.get hy.out
        obtain ⟨hw1, hw2⟩ := sub_word hxB hyB hcy
        have hI2 := Lib.hid (hI.out.step HX.out (getD_of hy.out) hw2 hw1)
        have hd1 : (if x < y + cy then 1 else 0) ≤ 1 := by split <;> omega
        have hadd := sub64_run x y cy hcy
        have hS2 := fun v => Lib.hid (hS.out.set_ HO.out (i := k) (by have := hI.out.1; omega) v)
        obtain ⟨v, hv⟩ : ∃ v, v = (x + B64 - y - cy) % B64 := ⟨_, rfl⟩
        obtain ⟨d, hd⟩ : ∃ d, d = (if x < y + cy then 1 else 0) := ⟨_, rfl⟩
        rw [← hv, ← hd] at hadd hI2
        rw [← hd] at hd1
        have hS3 := hS2 v
        clear hcy0 hv hd hS2 hw1 hw2 hxB hyB
        have i3 : (k : Int) < (m : Int) := by omega
        go_wp2
        go_region
        go_wp2
        go_roundw
        case rel => exact ⟨k + 1, d, _, by omega, by go_num, rfl, hd1, hI2, Lib.hid hS3.out, Lib.hid (only_drew (only_set hG.out (.inl rfl) _))⟩
        case measure => simp [intOf]; omega
      · by_cases hc0 : cy = 0
        · subst hc0
          clear hxB
          go_wp2
          rw [Exit.noGoto_normal]
          go_end0
          have he := hI.out.early HN.out hk (by have := HL.out; omega)
          exact ⟨0, cur, rfl, by rw [hI.out.1, HN.out], hI.out.2.1, by rw [he]; simp, hS.out, hG.out⟩
        · have hc1 : ((cy : Int) != 0) = true := by simp; omega
          obtain ⟨hw1, hw2⟩ := sub_word (y := 0) hxB (by unfold B64; omega) hcy
          have hI2 := Lib.hid (hI.out.step HX.out (getD_out (xs := ys) (k := k) (by have := HL.out; omega)) hw2 hw1)
          have hd1 : (if x < 0 + cy then 1 else 0) ≤ 1 := by split <;> omega
          have hadd := sub64_run x 0 cy hcy
          rw [show ((0 : Nat) : Int) = 0 from rfl] at hadd
          have hS2 := fun v => Lib.hid (hS.out.set_ HO.out (i := k) (by have := hI.out.1; omega) v)
          obtain ⟨v, hv⟩ : ∃ v, v = (x + B64 - 0 - cy) % B64 := ⟨_, rfl⟩
          obtain ⟨d, hd⟩ : ∃ d, d = (if x < 0 + cy then 1 else 0) := ⟨_, rfl⟩
          rw [← hv, ← hd] at hadd hI2
          rw [← hd] at hd1
          have hS3 := hS2 v
          clear hv hd hS2 hw1 hw2 hxB
          go_wp2
          go_roundw
          case rel => exact ⟨k + 1, d, _, by omega, by go_num, rfl, hd1, hI2, Lib.hid hS3.out, Lib.hid (only_set hG.out (.inl rfl) _)⟩
          case measure => simp [intOf]; omega
    · have hkn : k = n := by omega
      subst hkn
      go_wp2
      rw [Exit.noGoto_normal]
      go_end0
      have he := hI.out.done HN.out (by have := HL.out; omega)
      exact ⟨cy, cur, rfl, by rw [hI.out.1, HN.out], hI.out.2.1, by rw [HN.out]; exact he, hS.out, hG.out⟩
end Go.Proofs.YtimkifkikcohgaaDoor
