/- nat.addProduct, nat.addRow. -/
import Derived.Test.YtimkifkikcohgaaDoorSubB
namespace Go.Proofs.YtimkifkikcohgaaDoor
open Go.RowKit Nx

/-- The parts of x + a b + c by two sums of words. -/
theorem prod_parts {B a b x c l0 h0 s1 c1 s2 c2 : Nat} (hB : 2 ≤ B) (ha : a < B) (hb : b < B) (hx : x < B) (hc : c < B) (hl : l0 = a * b % B) (hh : h0 = a * b / B) (h1 : s1 = (l0 + c + 0) % B) (h2 : c1 = (l0 + c + 0) / B)
    (h3 : s2 = (s1 + x + 0) % B) (h4 : c2 = (s1 + x + 0) / B) : s2 = (x + a * b + c) % B ∧ h0 + c1 + c2 = (x + a * b + c) / B ∧ h0 + c1 + c2 < B := by
  have e1 := Nat.mod_add_div (a * b) B
  have e2 := Nat.mod_add_div (l0 + c + 0) B
  have e3 := Nat.mod_add_div (s1 + x + 0) B
  rw [← hl, ← hh] at e1
  rw [← h1, ← h2] at e2
  rw [← h3, ← h4] at e3
  have hs2 : s2 < B := by rw [h3]; exact Nat.mod_lt _ (by omega)
  have hsum : x + a * b + c = s2 + B * (h0 + c1 + c2) := by
    rw [Nat.mul_add, Nat.mul_add]; omega
  have hbig : (x + b * a + c) / B < B := mul_carry hx hb ha hc
  rw [Nat.mul_comm b a] at hbig
  have q1 : (x + a * b + c) % B = s2 := by rw [hsum, Nat.add_mul_mod_self_left, Nat.mod_eq_of_lt hs2]
  have q2 : (x + a * b + c) / B = h0 + c1 + c2 := by rw [hsum, Nat.add_mul_div_left _ _ (by omega), Nat.div_eq_of_lt hs2, Nat.zero_add]
  exact ⟨q1.symm, q2.symm, by rw [← q2]; exact hbig⟩

set_option maxRecDepth 100000 in
set_option maxHeartbeats 1000000 in
theorem addProduct_any (x a b c : Nat) (hx : x < B64) (ha : a < B64) (hb : b < B64) (hc : c < B64) (w : World) :
    Calls Tryd.prog 85 #[.int .u64 (x : Int), .int .u64 (a : Int), .int .u64 (b : Int), .int .u64 (c : Int)] w
      fun e w' => e = .returned (.tuple #[.int .u64 (((x + a * b + c) % B64 : Nat) : Int), .int .u64 (((x + a * b + c) / B64 : Nat) : Int)]) ∧ w = w' := by
  obtain ⟨l0, hl⟩ : ∃ l0, l0 = a * b % B64 := ⟨_, rfl⟩
  obtain ⟨h0, hh⟩ : ∃ h0, h0 = a * b / B64 := ⟨_, rfl⟩
  obtain ⟨s1, h1⟩ : ∃ s1, s1 = (l0 + c + 0) % B64 := ⟨_, rfl⟩
  obtain ⟨c1, h2⟩ : ∃ c1, c1 = (l0 + c + 0) / B64 := ⟨_, rfl⟩
  obtain ⟨s2, h3⟩ : ∃ s2, s2 = (s1 + x + 0) % B64 := ⟨_, rfl⟩
  obtain ⟨c2, h4⟩ : ∃ c2, c2 = (s1 + x + 0) / B64 := ⟨_, rfl⟩
  obtain ⟨r1, r2, r3⟩ := prod_parts B64_two ha hb hx hc hl hh h1 h2 h3 h4
  have hm := mul64_any a b ha hb w
  rw [← hl, ← hh] at hm
  have HM := Lib.hid hm
  have ha1 := add64_run l0 c 0 (by omega)
  have ha2 := add64_run s1 x 0 (by omega)
  rw [← h1, ← h2, show ((0 : Nat) : Int) = 0 from rfl] at ha1
  rw [← h3, ← h4, show ((0 : Nat) : Int) = 0 from rfl] at ha2
  rw [← r1, ← r2]
  obtain ⟨H1, hH1⟩ : ∃ H1, H1 = h0 + c1 := ⟨_, rfl⟩
  obtain ⟨H2, hH2⟩ : ∃ H2, H2 = H1 + c2 := ⟨_, rfl⟩
  have r3' : h0 + c1 + c2 < 18446744073709551616 := r3
  have w1 : IntKind.u64.wrap ((h0 : Int) + (c1 : Int)) = (H1 : Int) := by rw [cast_add, u64_fits _ (by omega), hH1]
  have w2 : IntKind.u64.wrap ((H1 : Int) + (c2 : Int)) = (H2 : Int) := by rw [cast_add, u64_fits _ (by omega), hH2]
  rw [← hH1, ← hH2]
  clear hm hl hh h1 h2 h3 h4 r1 r2 r3 r3' hH1 hH2
  go_enter Tryd.func85, Tryd.ntmps85
  go_wp2_with (go_at_call 93; refine (HM.out).mono ?_; rintro e w' ⟨rfl, rfl⟩)
  go_ret2
  exact ⟨rfl, rfl⟩

/-- The relation of addRow's loop. -/
def RowRel (w : World) (g : Nat) (pre seg post ys : List Nat) (f n m : Nat) (u c : Value) (wr : World) : Prop :=
  ∃ (k cy : Nat) (cur : List Nat), k ≤ m ∧ u = .int .i64 (k : Int) ∧ c = .int .u64 (cy : Int) ∧
    Hid (MulI B64 n k cy f cur seg ys ∧ cy < B64) ∧ Hid (Seg .u64 wr g 54 pre cur post) ∧ Hid (w.grownBy wr (some g))

/-- What addRow leaves. -/
def RowPost (w : World) (g : Nat) (pre seg post ys : List Nat) (f m : Nat) (e : Ending) (w' : World) : Prop :=
  ∃ (out : List Nat), e = .returned (.tuple #[]) ∧ out.length = m + 1 ∧ Small B64 out ∧ nval B64 out = nval B64 (seg.take m) + f * nval B64 ys ∧
    Seg .u64 w' g 54 pre out post ∧ w.grownBy w' (some g)

set_option maxRecDepth 100000 in
set_option maxHeartbeats 1000000 in
theorem addRow_any (w : World) (lo hi g o m c cb f : Nat) (A : Option Addr) (pre seg post ys : List Nat) (hs : Seg .u64 w g 54 pre seg post) (ho : pre.length = o) (hn : seg.length = m + 1) (hnc : m + 1 ≤ c)
    (hb : Rd .u64 w lo hi A m cb ys) (hg : hi ≤ g) (hsm : Small B64 seg) (hys : Small B64 ys) (hf : f < B64) (hbig : m ≤ 1000000000) :
    Calls Tryd.prog 75 #[.slice (some ⟨g, o, none⟩) (m + 1) c, .slice A m cb, .int .u64 (f : Int)] w (RowPost w g pre seg post ys f m) := by
  have HS := Lib.hid hs; have HO := Lib.hid ho; have HN := Lib.hid hn; have HB := Lib.hid hb; have HM := Lib.hid hsm; have HY := Lib.hid hys; have HF := Lib.hid hf
  have HL := Lib.hid hb.1
  clear hs ho hn hb hsm hys hf
  go_enter Tryd.func75, Tryd.ntmps75
  go_wp2
  go_loopw [10, 6] (fun u c wr => RowRel w g pre seg post ys f (m + 1) m u c wr) (fun u _ _ => m - (intOf u).toNat)
  case atStart => exact ⟨0, 0, seg, Nat.zero_le _, rfl, rfl, Lib.hid ⟨MulI.start HN.out HM.out, by unfold B64; omega⟩, HS, Lib.hid (only_refl _ _)⟩
  case round =>
    obtain ⟨k, cy, cur, hk, rfl, rfl, hI, hS, hG⟩ := hrel
    by_cases hlt : k < m
    · obtain ⟨x, hx⟩ : ∃ x, cur[k]? = some x := ⟨cur[k]'(by have := hI.out.1.1; omega), List.getElem?_eq_getElem _⟩
      have hcx := hS.out.cell HO.out hx
      have hfx := hS.out.frozen (o + k)
      have HX := Lib.hid hx
      clear hx
      have i1 : (0 : Int) ≤ (k : Int) := by omega
      have i2 : (k : Int) < (m : Int) + 1 := by omega
      have i3 : (k : Int) < (m : Int) := by omega
      obtain ⟨ad, y, hA, _, hbl, hy, hcy0⟩ := HB.out.get_ (j := k) (by omega)
      subst hA
      have hcy1 : wr.cell? (ad.add k) = some (.int .u64 (y : Int)) := by
        rw [← hcy0]; exact World.cell?_of_block (hG.out.block _ (by rw [block_of_add]; have := HS.out.lt; omega) (by rw [block_of_add]; intro e; injection e with e; omega))
      have hI2 := Lib.hid (And.intro (hI.out.1.step B64_two HX.out (getD_of hy.out)) (mul_carry (hI.out.1.2.1.get HX.out) (HY.out.get hy.out) HF.out hI.out.2))
      have hcall := fun W => Lib.hid (addProduct_any x y f cy (hI.out.1.2.1.get HX.out) (HY.out.get hy.out) HF.out hI.out.2 W)
      have hS2 := fun v => Lib.hid (hS.out.set_ HO.out (i := k) (by have := hI.out.1.1; omega) v)
      obtain ⟨v, hv⟩ : ∃ v, v = (x + y * f + cy) % B64 := ⟨_, rfl⟩
      obtain ⟨d, hd⟩ : ∃ d, d = (x + y * f + cy) / B64 := ⟨_, rfl⟩
      rw [← hv, ← hd] at hcall hI2
      have hS3 := hS2 v
      clear hcy0 hv hd hS2
      go_wp2
      go_region_with (go_at_call 85; refine (hcall _).out.mono ?_; rintro e w' ⟨rfl, rfl⟩)
      all_goals
        go_wp2
        go_roundw
        case rel => exact ⟨k + 1, d, _, by omega, by go_num, rfl, hI2, Lib.hid hS3.out, Lib.hid (only_drew (only_set hG.out (.inl rfl) _))⟩
        case measure => simp [intOf]; omega
    · have hkn : k = m := by omega
      subst hkn
      obtain ⟨x, hx⟩ : ∃ x, cur[k]? = some x := ⟨cur[k]'(by have := hI.out.1.1; omega), List.getElem?_eq_getElem _⟩
      have hcx := hS.out.cell HO.out hx
      have hfx := hS.out.frozen (o + k)
      have hS3 := Lib.hid (hS.out.set_ HO.out (i := k) (by have := hI.out.1.1; omega) cy)
      have i2 : (k : Int) < (k : Int) + 1 := by omega
      clear hx
      go_wp2
      go_end0
      have hd := hI.out.1.done HL.out
      have hl := hI.out.1.1
      refine ⟨_, rfl, by simpa using hl, hI.out.1.2.1.set k hI.out.2, ?_, hS3.out, only_set hG.out (.inl rfl) _⟩
      rw [← hd, ← List.take_of_length_le (l := cur.set k cy) (i := k + 1) (by simp; omega), nval_take_succ, take_set_same, getD_set _ _ _ (by omega)]
end Go.Proofs.YtimkifkikcohgaaDoor
