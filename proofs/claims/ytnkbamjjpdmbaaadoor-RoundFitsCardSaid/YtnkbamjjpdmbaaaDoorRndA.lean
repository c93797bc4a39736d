/- round.right, round.direction; fathomlineref1.bad; light. -/
import Derived.Test.YtnkbamjjpdmbaaaDoorNumPR
import Derived.Test.YtnkbamjjpdmbaaaDoorMathR
import Derived.Test.YtnkbamjjpdmbaaaDoorDown
namespace Go.Proofs.YtnkbamjjpdmbaaaDoor
open Go.RowKit Nx

/-- Numbers side by side in a block: are they valid, one by one? -/
def NumsAt (w : World) (g n : Nat) (oks : List Bool) : Prop := oks.length = n ∧ g < w.heap.size ∧ ∀ i, i < n → ∃ (s : Bool) (e : Int) (A : Option Addr) (m c : Nat) (xs : List Nat),
  w.cell? ⟨g, i * 3, none⟩ = some (.bool s) ∧ w.cell? ⟨g, i * 3 + 1, none⟩ = some (.int .i64 e) ∧ w.cell? ⟨g, i * 3 + 2, none⟩ = some (.slice A m c) ∧ Arg w A m c xs ∧ m ≤ 100000 ∧ oks[i]? = some (okb s e m xs)
def precb (p : Int) : Bool := decide (8 ≤ p ∧ p ≤ 256)
theorem all_of {oks : List Bool} {n : Nat} (hl : oks.length = n) (h : ∀ j, j < n → oks[j]? = some true) : oks.all id = true := by
  rw [List.all_eq_true]
  intro b hb
  obtain ⟨j, hj⟩ := List.getElem?_of_mem hb
  have : j < oks.length := by
    rcases Nat.lt_or_ge j oks.length with a | a
    · exact a
    · rw [List.getElem?_eq_none a] at hj; cases hj
  have := h j (by omega)
  rw [hj] at this; injection this
theorem all_not {oks : List Bool} {j : Nat} (h : oks[j]? = some false) : oks.all id = false := by
  rw [List.all_eq_false]
  exact ⟨false, List.mem_of_getElem? h, by simp⟩
theorem Below.sz {B : Nat} {a w : World} (h : Below B a w) : a.heap.size ≤ w.heap.size := h.size

set_option maxRecDepth 100000 in
set_option maxHeartbeats 2000000 in
theorem prec_any (w : World) (g n : Nat) (p : Int) (oks : List Bool) (h : NumsAt w g n oks) (hs : n ≤ 10) :
    Calls Tryd.prog 33 #[.int .i64 p, .slice (some ⟨g, 0, none⟩) n n] w (BoolPost w (oks.all id && precb p)) := by
  obtain ⟨hl, hg, hc⟩ := h
  have HL := Lib.hid hl; have HC := Lib.hid hc
  clear hl hc
  obtain ⟨b, hb⟩ : ∃ b, b = (oks.all id && precb p) := ⟨_, rfl⟩
  rw [← hb]
  have HB := Lib.hid hb
  clear hb
  go_enter Tryd.func33, Tryd.ntmps33
  go_wp2
  go_loopw [9] (fun u wr => ∃ k : Nat, k ≤ n ∧ u = .int .i64 (k : Int) ∧ Hid (∀ j, j < k → oks[j]? = some true) ∧ Hid (Below w.heap.size w wr)) (fun u _ => n - (intOf u).toNat)
  case atStart => exact ⟨0, Nat.zero_le _, rfl, Lib.hid (fun j hj => absurd hj (by omega)), Lib.hid (Below.refl _ _)⟩
  case round =>
    obtain ⟨k, hk, rfl, hz, hB⟩ := hrel
    by_cases hlt : k < n
    · obtain ⟨s, e, A, m, c, xs, c0, c1, c2, ha, hm, ho⟩ := HC.out k hlt
      have c0' : wr.cell? ⟨g, k * 3, none⟩ = some (.bool s) := (hB.out.cell hg).trans c0
      have c1' : wr.cell? ⟨g, k * 3 + 1, none⟩ = some (.int .i64 e) := (hB.out.cell hg).trans c1
      have c2' : wr.cell? ⟨g, k * 3 + 2, none⟩ = some (.slice A m c) := (hB.out.cell hg).trans c2
      have i1 : (0 : Int) ≤ (k : Int) := by omega
      have i2 : (k : Int) < (n : Int) := by omega
      have hsz := hB.out.size
      have ob := one_below wr (.cells #[.bool s, .int .i64 e, .slice A m c] 24)
      have D := Lib.hid (nright_any _ s e A m c xs (ha.step (below_step hB.out ob)) hm)
      have HO := Lib.hid ho
      have HB1 := Lib.hid (below_step hB.out ob)
      clear c0 c1 c2 ha ho
      cases hv : okb s e m xs
      · rw [hv] at D HO
        go_wp2_with fail
        refine D.out.mono ?_
        rintro _ w2 ⟨rfl, b2⟩
        have HB2 := Lib.hid (below_step HB1.out b2)
        clear D b2
        go_wp2
        go_ret
        exact ⟨by rw [HB.out, all_not HO.out]; rfl, HB2.out⟩
      · rw [hv] at D HO
        go_wp2_with fail
        refine D.out.mono ?_
        rintro _ w2 ⟨rfl, b2⟩
        have HB2 := Lib.hid (below_step HB1.out b2)
        clear D b2
        go_wp2
        go_roundw
        case rel => exact ⟨k + 1, by omega, by go_num, Lib.hid (fun j hj => by
          rcases Nat.lt_or_ge j k with h1 | h1
          · exact hz.out j h1
          · obtain rfl : j = k := by omega
            exact HO.out), HB2⟩
        case measure => simp [intOf]; omega
    · obtain rfl : k = n := by omega
      have HA := Lib.hid (all_of HL.out hz.out)
      have hbp : b = precb p := by rw [HB.out, HA.out]; rfl
      have HBp := Lib.hid hbp
      clear hbp
      by_cases h1 : 8 ≤ p
      · by_cases h2 : p ≤ 256
        · go_wp2
          go_ret
          exact ⟨by rw [HBp.out]; simp [precb, h1, h2], hB.out⟩
        · go_wp2
          go_ret
          exact ⟨by rw [HBp.out]; simp [precb, h1, h2], hB.out⟩
      · go_wp2
        go_ret
        exact ⟨by rw [HBp.out]; simp [precb]; omega, hB.out⟩

set_option maxRecDepth 100000 in
set_option maxHeartbeats 2000000 in
theorem bad_any (w : World) (g n : Nat) (p : Int) (oks : List Bool) (h : NumsAt w g n oks) (hs : n ≤ 10) :
    Calls Tryd.prog 36 #[.int .i64 p, .slice (some ⟨g, 0, none⟩) n n] w (BoolPost w (!(oks.all id && precb p))) := by
  obtain ⟨hl, hg, hc⟩ := h
  have HL := Lib.hid hl; have HC := Lib.hid hc
  clear hl hc
  obtain ⟨b, hb⟩ : ∃ b, b = (!(oks.all id && precb p)) := ⟨_, rfl⟩
  rw [← hb]
  have HB := Lib.hid hb
  clear hb
  go_enter Tryd.func36, Tryd.ntmps36
  go_wp2
  go_loopw [5] (fun u wr => ∃ k : Nat, k ≤ n ∧ u = .int .i64 (k : Int) ∧ Hid (∀ j, j < k → oks[j]? = some true) ∧ Hid (Below w.heap.size w wr)) (fun u _ => n - (intOf u).toNat)
  case atStart => exact ⟨0, Nat.zero_le _, rfl, Lib.hid (fun j hj => absurd hj (by omega)), Lib.hid (Below.refl _ _)⟩
  case round =>
    obtain ⟨k, hk, rfl, hz, hB⟩ := hrel
    by_cases hlt : k < n
    · obtain ⟨s, e, A, m, c, xs, c0, c1, c2, ha, hm, ho⟩ := HC.out k hlt
      have c0' : wr.cell? ⟨g, k * 3, none⟩ = some (.bool s) := (hB.out.cell hg).trans c0
      have c1' : wr.cell? ⟨g, k * 3 + 1, none⟩ = some (.int .i64 e) := (hB.out.cell hg).trans c1
      have c2' : wr.cell? ⟨g, k * 3 + 2, none⟩ = some (.slice A m c) := (hB.out.cell hg).trans c2
      have i1 : (0 : Int) ≤ (k : Int) := by omega
      have i2 : (k : Int) < (n : Int) := by omega
      have D := Lib.hid (rright_any wr s e A m c xs (ha.step hB.out) hm)
      have HO := Lib.hid ho
      clear c0 c1 c2 ha ho
      cases hv : okb s e m xs
      · rw [hv] at D HO
        go_wp2_with fail
        refine D.out.mono ?_
        rintro _ w2 ⟨rfl, b2⟩
        have HB2 := Lib.hid (below_step hB.out b2)
        clear D b2
        go_wp2
        go_ret
        exact ⟨by rw [HB.out, all_not HO.out]; rfl, HB2.out⟩
      · rw [hv] at D HO
        go_wp2_with fail
        refine D.out.mono ?_
        rintro _ w2 ⟨rfl, b2⟩
        have HB2 := Lib.hid (below_step hB.out b2)
        clear D b2
        go_wp2
        go_roundw
        case rel => exact ⟨k + 1, by omega, by go_num, Lib.hid (fun j hj => by
          rcases Nat.lt_or_ge j k with h1 | h1
          · exact hz.out j h1
          · obtain rfl : j = k := by omega
            exact HO.out), HB2⟩
        case measure => simp [intOf]; omega
    · obtain rfl : k = n := by omega
      have HA := Lib.hid (all_of HL.out hz.out)
      have hbp : b = !(precb p) := by rw [HB.out, HA.out]; rfl
      have HBp := Lib.hid hbp
      clear hbp
      by_cases h1 : p < 8
      · have h3 : ¬ 8 ≤ p := by omega
        have HP := Lib.hid (show precb p = false by simp [precb, h3])
        clear h3
        go_wp2
        go_ret
        exact ⟨by rw [HBp.out, HP.out]; rfl, hB.out⟩
      · by_cases h2 : 256 < p
        · have HP := Lib.hid (show precb p = false by simp [precb]; omega)
          go_wp2
          go_ret
          exact ⟨by rw [HBp.out, HP.out]; rfl, hB.out⟩
        · have HP := Lib.hid (show precb p = true by simp [precb]; omega)
          go_wp2
          go_ret
          exact ⟨by rw [HBp.out, HP.out]; rfl, hB.out⟩

/-- A block of one cell that holds the direction. -/
def Ux (w : World) (g : Nat) (up : Bool) : Prop := Blk w g 4 #[.bool up]
theorem Ux.c0 {w : World} {g : Nat} {up : Bool} (h : Ux w g up) : w.cell? ⟨g, 0, none⟩ = some (.bool up) := by have := Blk.cell h 0; simpa using this
theorem Ux.step {w w' : World} {g : Nat} {up : Bool} (h : Ux w g up) (hb : Below w.heap.size w w') : Ux w' g up := Blk.below h hb h.lt
/-- The function that tells whether to go away from 0. -/
def awayf (g : Nat) : Value := .func (.func 58) #[] #[.pointer (some ⟨g, 0, none⟩)]
theorem dir_any (w : World) (up : Bool) : Calls Tryd.prog 35 #[.bool up] w fun e w' => e = .returned (awayf w.heap.size) ∧ Ux w' w.heap.size up ∧ Below w.heap.size w w' := by
  have h := Blk.new w 4 #[.bool up]
  have hmf : ∀ (fn : Fn) (first cap : Array Value) (w : World), (Instr.makeFunc fn first cap).run Tryd.prog w = .ok (.func fn first cap) w := fun _ _ _ _ => rfl
  go_enter Tryd.func35, Tryd.ntmps35
  go_wp2
  go_ret
  exact ⟨rfl, h, one_below _ _⟩
theorem away_any (w : World) (g : Nat) (s up : Bool) (h : Ux w g up) : Calls Tryd.prog 58 #[.bool s, .pointer (some ⟨g, 0, none⟩)] w fun e w' => e = .returned (.bool (s != up)) ∧ w = w' := by
  have c0 := h.c0
  clear h
  go_enter Tryd.func58, Tryd.ntmps58
  go_wp2
  go_ret
  exact ⟨by simp [bne], rfl⟩
end Go.Proofs.YtnkbamjjpdmbaaaDoor
