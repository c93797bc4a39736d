/- nat.subRow. -/
import Derived.Test.YtnkbamjjpdmbaaaDoorRed
namespace Go.Proofs.YtnkbamjjpdmbaaaDoor
open Go.RowKit Nx

/-- The relation of subRow's loop. -/
def RedRel (w : World) (g : Nat) (pre seg post ys : List Nat) (f n m : Nat) (u c b : Value) (wr : World) : Prop :=
  ∃ (k cy bo : Nat) (cur : List Nat), k ≤ m ∧ u = .int .i64 (k : Int) ∧ c = .int .u64 (cy : Int) ∧ b = .int .u64 (bo : Int) ∧ bo ≤ 1 ∧
    Hid (RedI B64 n k cy bo f cur seg ys ∧ cy < B64) ∧ Hid (Seg .u64 wr g 47 pre cur post) ∧ Hid (w.grownBy wr (some g))

/-- What subRow leaves. -/
def RedPost (w : World) (g : Nat) (pre seg post ys : List Nat) (f m : Nat) (e : Ending) (w' : World) : Prop :=
  ∃ (bo : Nat) (out : List Nat), e = .returned (.int .u64 (bo : Int)) ∧ bo ≤ 1 ∧ out.length = m + 1 ∧ Small B64 out ∧ nval B64 out + f * nval B64 ys = nval B64 seg + B64 ^ (m + 1) * bo ∧
    Seg .u64 w' g 47 pre out post ∧ w.grownBy w' (some g)

set_option maxRecDepth 100000 in
set_option maxHeartbeats 1000000 in
theorem subRow_any (w : World) (lo hi g o m c cb f : Nat) (A : Option Addr) (pre seg post ys : List Nat) (hs : Seg .u64 w g 47 pre seg post) (ho : pre.length = o) (hn : seg.length = m + 1) (hnc : m + 1 ≤ c)
    (hb : Rd .u64 w lo hi A m cb ys) (hg : hi ≤ g) (hsm : Small B64 seg) (hys : Small B64 ys) (hf : f < B64) (hbig : m ≤ 1000000000) :
    Calls Tryd.prog 106 #[.slice (some ⟨g, o, none⟩) (m + 1) c, .slice A m cb, .int .u64 (f : Int)] w (RedPost w g pre seg post ys f m) := by
  have HS := Lib.hid hs; have HO := Lib.hid ho; have HN := Lib.hid hn; have HB := Lib.hid hb; have HM := Lib.hid hsm; have HY := Lib.hid hys; have HF := Lib.hid hf
  have HL := Lib.hid hb.1
  clear hs ho hn hb hsm hys hf
  go_enter Tryd.func106, Tryd.ntmps106
  go_wp2
  go_loopw [13, 7, 8] (fun u c b wr => RedRel w g pre seg post ys f (m + 1) m u c b wr) (fun u _ _ _ => m - (intOf u).toNat)
  case atStart => exact ⟨0, 0, 0, seg, Nat.zero_le _, rfl, rfl, rfl, Nat.zero_le _, Lib.hid ⟨RedI.start HN.out HM.out, by unfold B64; omega⟩, HS, Lib.hid (only_refl _ _)⟩
  case round =>
    obtain ⟨k, cy, bo, cur, hk, rfl, rfl, rfl, hbo, hI, hS, hG⟩ := hrel
    obtain ⟨x, hx⟩ : ∃ x, cur[k]? = some x := ⟨cur[k]'(by have := hI.out.1.1; omega), List.getElem?_eq_getElem _⟩
    have hcx := hS.out.cell HO.out hx
    have hfx := hS.out.frozen (o + k)
    have HX := Lib.hid hx
    clear hx
    have hxB := hI.out.1.2.1.get HX.out
    have i1 : (0 : Int) ≤ (k : Int) := by omega
    have i2 : (k : Int) < (m : Int) + 1 := by omega
    have hS2 := fun v => Lib.hid (hS.out.set_ HO.out (i := k) (by have := hI.out.1.1; omega) v)
    by_cases hlt : k < m
    · have i3 : (k : Int) < (m : Int) := by omega
      obtain ⟨ad, y, hA, _, hbl, hy, hcy0⟩ := HB.out.get_ (j := k) (by omega)
      subst hA
      have hcy1 : wr.cell? (ad.add k) = some (.int .u64 (y : Int)) := by
        rw [← hcy0]; exact World.cell?_of_block (hG.out.block _ (by rw [block_of_add]; have := HS.out.lt; omega) (by rw [block_of_add]; intro e; injection e with e; omega))
      have hyB := HY.out.get hy.out
      have hcall := fun W => Lib.hid (addProduct_any 0 y f cy (by unfold B64; omega) hyB HF.out hI.out.2 W)
      rw [show ((0 : Nat) : Int) = 0 from rfl] at hcall
      have hc2 := mul_carry (x := 0) (by unfold B64; omega) hyB HF.out hI.out.2
      have hdm := Nat.mod_add_div (0 + y * f + cy) B64
      have hlB : (0 + y * f + cy) % B64 < B64 := Nat.mod_lt _ (by unfold B64; omega)
      obtain ⟨l, hl⟩ : ∃ l, l = (0 + y * f + cy) % B64 := ⟨_, rfl⟩
      obtain ⟨d, hd⟩ : ∃ d, d = (0 + y * f + cy) / B64 := ⟨_, rfl⟩
      rw [← hl, ← hd] at hcall hdm
      rw [← hl] at hlB
      rw [← hd] at hc2
      obtain ⟨hw1, hw2⟩ := sub_word hxB hlB hbo
      have hsub := sub64_run x l bo hbo
      have hI2 := hI.out.1.step HX.out (getD_of hy.out) hw2 hw1 (by rw [hdm, Nat.zero_add])
      have hd1 : (if x < l + bo then 1 else 0) ≤ 1 := by split <;> omega
      obtain ⟨v, hv⟩ : ∃ v, v = (x + B64 - l - bo) % B64 := ⟨_, rfl⟩
      obtain ⟨b2, hb2⟩ : ∃ b2, b2 = (if x < l + bo then 1 else 0) := ⟨_, rfl⟩
      rw [← hv, ← hb2] at hsub hI2
      rw [← hb2] at hd1
      have HI2 := Lib.hid (And.intro hI2 hc2)
      have hS3 := hS2 v
      have HC := Lib.hid hcall
      clear hcy0 hl hd hv hb2 hw1 hw2 hI2 hc2 hdm hlB hxB hyB hS2 hcall
      go_wp2_with (go_at_call 92; refine (HC.out _).out.mono ?_; rintro e w' ⟨rfl, rfl⟩)
      go_roundw
      case rel => exact ⟨k + 1, d, b2, _, by omega, by go_num, rfl, rfl, hd1, HI2, Lib.hid hS3.out, Lib.hid (only_set hG.out (.inl rfl) _)⟩
      case measure => simp [intOf]; omega
    · have hkn : k = m := by omega
      subst hkn
      obtain ⟨hw1, hw2⟩ := sub_word hxB hI.out.2 hbo
      have hsub := sub64_run x cy bo hbo
      have hfin := hI.out.1.done HN.out HL.out HX.out hw1
      have hd1 : (if x < cy + bo then 1 else 0) ≤ 1 := by split <;> omega
      obtain ⟨v, hv⟩ : ∃ v, v = (x + B64 - cy - bo) % B64 := ⟨_, rfl⟩
      obtain ⟨b2, hb2⟩ : ∃ b2, b2 = (if x < cy + bo then 1 else 0) := ⟨_, rfl⟩
      rw [← hv, ← hb2] at hsub hfin
      rw [← hv] at hw2
      rw [← hb2] at hd1
      have HF2 := Lib.hid hfin
      have HV := Lib.hid hw2
      have hS3 := hS2 v
      clear hv hb2 hw1 hw2 hfin hxB hS2
      go_wp2
      go_ret
      exact ⟨b2, _, rfl, hd1, by simpa using hI.out.1.1, hI.out.1.2.1.set k HV.out, HF2.out, hS3.out, only_set hG.out (.inl rfl) _⟩
end Go.Proofs.YtnkbamjjpdmbaaaDoor
