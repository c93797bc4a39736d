/- The last statement of NatKeeps: in whatever order its operations come, the three comparisons are true. -/
import Derived.Test.YtcjggdcichlanaaDoorKeepF
namespace Go.Proofs.YtcjggdcichlanaaDoor
open Go.RowKit Nx

set_option maxRecDepth 100000 in
set_option maxHeartbeats 4000000 in
theorem last_any {ops : Array Oper} (hops : ops = lastOf Tryd.f9) {Q : Exit → Act → World → Prop} {id : Nat} {a : Act} {W : World} {A B T : Option Addr} {n c m d n8 c8 gx cx gy cy X Y : Nat} {xs ys : List Nat}
    (hk : Kn 107 a [(0, .slice A n c), (1, .slice B m d), (7, .slice (some ⟨gx, 0, none⟩) n cx), (8, .slice (some ⟨gy, 0, none⟩) m cy), (10, .slice T n8 c8)])
    (KA : Rd .u64 W 0 W.heap.size A n c xs) (KB : Rd .u64 W 0 W.heap.size B m d ys) (KX : Rd .u64 W 0 W.heap.size (some ⟨gx, 0, none⟩) (n + 2) cx (xs ++ [77, 77])) (KY : Rd .u64 W 0 W.heap.size (some ⟨gy, 0, none⟩) (m + 2) cy (ys ++ [77, 77]))
    (KT : Rd .u64 W 0 W.heap.size T n8 c8 (digs B64 (X + Y))) (HA : Has W A n c X 40) (HB : Has W B m d Y 40) (hn : n ≤ 40) (hm : m ≤ 40) (hcx : n + 2 ≤ cx) (hcy : m + 2 ≤ cy) (hn8 : n8 ≤ 1000)
    (hQ : ∀ c a (d : Tmp) v w, Q (.panic c) (a.put (some d) v) w → Q (.panic c) a w)
    (h : ∀ a' w', a'.defers = [] → a'.eval (.tmp 6) = .bool true → Below W.heap.size W w' → Q .normal a' w') : (Code.region id ops true).wp Tryd.prog Q a W := by
  subst hops
  have hS : Region.noSelect (lastOf Tryd.f9) = true := by kernel_rfl
  refine wp_region_any (by kernel_rfl) ?_
  rw [show (lastOf Tryd.f9).size = 32 by kernel_rfl]
  have hB : Below W.heap.size W { W with drawn := W.drawn + 1 } := bdrew (Below.refl _ W)
  generalize ({ W with drawn := W.drawn + 1 } : World) = W1 at hB ⊢
  refine kn_take 0 76 (.slice (some ⟨gx, 0, none⟩) n cx) hk hS (by kernel_rfl) (by kernel_rfl) (by kernel_rfl) (by kernel_rfl) hQ (wanted_none (by kernel_rfl)) (kn_move hk (t := 7) (by kernel_rfl) (by simp)) (by decide) rfl ?_
  intro a0 k0
  refine kn_take 1 77 (.slice A n c) k0 hS (by kernel_rfl) (by kernel_rfl) (by kernel_rfl) (by kernel_rfl) hQ (wanted_none (by kernel_rfl)) (kn_move k0 (t := 0) (by kernel_rfl) (by simp)) (by decide) rfl ?_
  intro a1 k1
  clear k0
  refine kn_take 2 78 (.int .i64 (n : Int)) k1 hS (by kernel_rfl) (by kernel_rfl) (by kernel_rfl) (by kernel_rfl) hQ (wanted_none (by kernel_rfl)) (kn_len k1 (t := 77) (A := A) (n := n) (c := c) (by kernel_rfl) (by simp)) (by decide) rfl ?_
  intro a2 k2
  clear k1
  refine kn_take 3 79 (.int .i64 ((n : Int) + 2)) k2 hS (by kernel_rfl) (by kernel_rfl) (by kernel_rfl) (by kernel_rfl) hQ (wanted_none (by kernel_rfl)) (kn_add k2 (t := 78) (n := n) (by kernel_rfl) (by simp) (by omega)) (by decide) rfl ?_
  intro a3 k3
  clear k2
  refine kn_take 4 80 (.slice (some ⟨gx, 0, none⟩) (n + 2) cx) k3 hS (by kernel_rfl) (by kernel_rfl) (by kernel_rfl) (by kernel_rfl) hQ (wanted_none (by kernel_rfl)) (kn_slice k3 (t := 76) (u := 79) (g := gx) (n := n) (c := cx) (by kernel_rfl) (by simp) (by simp) hcx) (by decide) rfl ?_
  intro a4 k4
  clear k3
  refine kn_take 6 82 (.slice A n c) k4 hS (by kernel_rfl) (by kernel_rfl) (by kernel_rfl) (by kernel_rfl) hQ (wanted_none (by kernel_rfl)) (kn_move k4 (t := 0) (by kernel_rfl) (by simp)) (by decide) rfl ?_
  intro a6 k6
  clear k4
  refine kn_group (W0 := W) (i5 := 5) (i7 := 7) (i8 := 8) (i9 := 9) (d5 := 81) (d7 := 83) (d8 := 84) (d9 := 85) (sx := 82) (A := A) (n := n) (c := c) k6 ⟨by kernel_rfl, by kernel_rfl, by kernel_rfl, by kernel_rfl, by kernel_rfl, by kernel_rfl, by kernel_rfl, by kernel_rfl, by kernel_rfl, by kernel_rfl, by kernel_rfl, by kernel_rfl, by kernel_rfl, by kernel_rfl, by kernel_rfl, by kernel_rfl, by kernel_rfl, by kernel_rfl, by kernel_rfl, by kernel_rfl, ⟨by decide, by decide⟩, ⟨by decide, by decide, by decide⟩, ⟨by decide, by decide, by decide, by decide⟩, ⟨by rw [k6.1]; decide, by rw [k6.1]; decide, by rw [k6.1]; decide⟩, fun a' _ => ⟨wanted_none (by kernel_rfl), wanted_none (by kernel_rfl), wanted_none (by kernel_rfl), wanted_none (by kernel_rfl)⟩⟩ (by simp) KA (by omega) hB
    (by decide) (by decide) (by decide) (by decide) rfl rfl rfl rfl ⟨by decide, by decide, by decide, by decide, by decide, by decide⟩ ?_
  intro a9 Ax cx1 Wx k9 Rx Bx
  clear k6
  refine kn_call 10 86 (s := 80) (x := 85) (.slice (some ⟨gx, 0, none⟩) (n + 2) cx) (.slice Ax (n + 2) cx1) k9 enter_words (by kernel_rfl) (by kernel_rfl) (by kernel_rfl) (by kernel_rfl) (wanted_none (by kernel_rfl)) (by simp) (by simp) (by decide) rfl ((keep_words KX Bx Rx (by omega)).mono ?_)
  rintro e W2 ⟨rfl, B2⟩
  refine ⟨_, rfl, ?_⟩
  intro a10 k10
  clear k9 Rx Bx
  refine kn_take 11 87 (.bool true) k10 hS (by kernel_rfl) (by kernel_rfl) (by kernel_rfl) (by kernel_rfl) hQ (wanted_none (by kernel_rfl)) (kn_move k10 (t := 86) (by kernel_rfl) (by simp)) (by decide) rfl ?_
  intro a11 k11
  clear k10
  refine kn_take 12 88 (.slice (some ⟨gy, 0, none⟩) m cy) k11 hS (by kernel_rfl) (by kernel_rfl) (by kernel_rfl) (by kernel_rfl) hQ (wanted_if (j := 11) (d := 87) (by kernel_rfl) (by kernel_rfl) (k11.2.2 _ _ (by simp))) (kn_move k11 (t := 8) (by kernel_rfl) (by simp)) (by decide) rfl ?_
  intro a12 k12
  clear k11
  refine kn_take 13 89 (.slice B m d) k12 hS (by kernel_rfl) (by kernel_rfl) (by kernel_rfl) (by kernel_rfl) hQ (wanted_if (j := 11) (d := 87) (by kernel_rfl) (by kernel_rfl) (k12.2.2 _ _ (by simp))) (kn_move k12 (t := 1) (by kernel_rfl) (by simp)) (by decide) rfl ?_
  intro a13 k13
  clear k12
  refine kn_take 14 90 (.int .i64 (m : Int)) k13 hS (by kernel_rfl) (by kernel_rfl) (by kernel_rfl) (by kernel_rfl) hQ (wanted_if (j := 11) (d := 87) (by kernel_rfl) (by kernel_rfl) (k13.2.2 _ _ (by simp))) (kn_len k13 (t := 89) (A := B) (n := m) (c := d) (by kernel_rfl) (by simp)) (by decide) rfl ?_
  intro a14 k14
  clear k13
  refine kn_take 15 91 (.int .i64 ((m : Int) + 2)) k14 hS (by kernel_rfl) (by kernel_rfl) (by kernel_rfl) (by kernel_rfl) hQ (wanted_if (j := 11) (d := 87) (by kernel_rfl) (by kernel_rfl) (k14.2.2 _ _ (by simp))) (kn_add k14 (t := 90) (n := m) (by kernel_rfl) (by simp) (by omega)) (by decide) rfl ?_
  intro a15 k15
  clear k14
  refine kn_take 16 92 (.slice (some ⟨gy, 0, none⟩) (m + 2) cy) k15 hS (by kernel_rfl) (by kernel_rfl) (by kernel_rfl) (by kernel_rfl) hQ (wanted_if (j := 11) (d := 87) (by kernel_rfl) (by kernel_rfl) (k15.2.2 _ _ (by simp))) (kn_slice k15 (t := 88) (u := 91) (g := gy) (n := m) (c := cy) (by kernel_rfl) (by simp) (by simp) hcy) (by decide) rfl ?_
  intro a16 k16
  clear k15
  refine kn_take 18 94 (.slice B m d) k16 hS (by kernel_rfl) (by kernel_rfl) (by kernel_rfl) (by kernel_rfl) hQ (wanted_if (j := 11) (d := 87) (by kernel_rfl) (by kernel_rfl) (k16.2.2 _ _ (by simp))) (kn_move k16 (t := 1) (by kernel_rfl) (by simp)) (by decide) rfl ?_
  intro a18 k18
  clear k16
  refine kn_group (W0 := W) (i5 := 17) (i7 := 19) (i8 := 20) (i9 := 21) (d5 := 93) (d7 := 95) (d8 := 96) (d9 := 97) (sx := 94) (A := B) (n := m) (c := d) k18 ⟨by kernel_rfl, by kernel_rfl, by kernel_rfl, by kernel_rfl, by kernel_rfl, by kernel_rfl, by kernel_rfl, by kernel_rfl, by kernel_rfl, by kernel_rfl, by kernel_rfl, by kernel_rfl, by kernel_rfl, by kernel_rfl, by kernel_rfl, by kernel_rfl, by kernel_rfl, by kernel_rfl, by kernel_rfl, by kernel_rfl, ⟨by decide, by decide⟩, ⟨by decide, by decide, by decide⟩, ⟨by decide, by decide, by decide, by decide⟩, ⟨by rw [k18.1]; decide, by rw [k18.1]; decide, by rw [k18.1]; decide⟩, fun a' hN => by
      have ht : a'.tmps[87]? = some (.bool true) := (hN.2 87 (by decide) (by decide) (by decide) (by decide)).trans (k18.2.2 _ _ (by simp))
      exact ⟨wanted_if (j := 11) (d := 87) (by kernel_rfl) (by kernel_rfl) ht, wanted_if (j := 11) (d := 87) (by kernel_rfl) (by kernel_rfl) ht, wanted_if (j := 11) (d := 87) (by kernel_rfl) (by kernel_rfl) ht, wanted_if (j := 11) (d := 87) (by kernel_rfl) (by kernel_rfl) ht⟩⟩ (by simp) KB (by omega) B2
    (by decide) (by decide) (by decide) (by decide) rfl rfl rfl rfl ⟨by decide, by decide, by decide, by decide, by decide, by decide⟩ ?_
  intro a21 Ay cy1 Wy k21 Ry By
  clear k18
  refine kn_call 22 98 (s := 92) (x := 97) (.slice (some ⟨gy, 0, none⟩) (m + 2) cy) (.slice Ay (m + 2) cy1) k21 enter_words (by kernel_rfl) (by kernel_rfl) (by kernel_rfl) (by kernel_rfl) (wanted_if (j := 11) (d := 87) (by kernel_rfl) (by kernel_rfl) (k21.2.2 _ _ (by simp))) (by simp) (by simp) (by decide) rfl ((keep_words KY By Ry (by omega)).mono ?_)
  rintro e W3 ⟨rfl, B3⟩
  refine ⟨_, rfl, ?_⟩
  intro a22 k22
  clear k21 Ry By
  refine kn_take 23 99 (.bool true) k22 hS (by kernel_rfl) (by kernel_rfl) (by kernel_rfl) (by kernel_rfl) hQ (wanted_none (by kernel_rfl)) (kn_pick k22 (t := 87) (u := 98) (y := .const (.bool false)) (by kernel_rfl) (by simp) (by simp)) (by decide) rfl ?_
  intro a23 k23
  clear k22
  refine kn_take 24 100 (.bool true) k23 hS (by kernel_rfl) (by kernel_rfl) (by kernel_rfl) (by kernel_rfl) hQ (wanted_none (by kernel_rfl)) (kn_move k23 (t := 99) (by kernel_rfl) (by simp)) (by decide) rfl ?_
  intro a24 k24
  clear k23
  refine kn_take 25 101 (.slice T n8 c8) k24 hS (by kernel_rfl) (by kernel_rfl) (by kernel_rfl) (by kernel_rfl) hQ (wanted_if (j := 24) (d := 100) (by kernel_rfl) (by kernel_rfl) (k24.2.2 _ _ (by simp))) (kn_move k24 (t := 10) (by kernel_rfl) (by simp)) (by decide) rfl ?_
  intro a25 k25
  clear k24
  refine kn_take 26 102 (.slice A n c) k25 hS (by kernel_rfl) (by kernel_rfl) (by kernel_rfl) (by kernel_rfl) hQ (wanted_if (j := 24) (d := 100) (by kernel_rfl) (by kernel_rfl) (k25.2.2 _ _ (by simp))) (kn_move k25 (t := 0) (by kernel_rfl) (by simp)) (by decide) rfl ?_
  intro a26 k26
  clear k25
  refine kn_take 27 103 (.slice B m d) k26 hS (by kernel_rfl) (by kernel_rfl) (by kernel_rfl) (by kernel_rfl) hQ (wanted_if (j := 24) (d := 100) (by kernel_rfl) (by kernel_rfl) (k26.2.2 _ _ (by simp))) (kn_move k26 (t := 1) (by kernel_rfl) (by simp)) (by decide) rfl ?_
  intro a27 k27
  clear k26
  refine kn_call 28 104 (s := 102) (x := 103) (.slice A n c) (.slice B m d) k27 enter_add (by kernel_rfl) (by kernel_rfl) (by kernel_rfl) (by kernel_rfl) (wanted_if (j := 24) (d := 100) (by kernel_rfl) (by kernel_rfl) (k27.2.2 _ _ (by simp))) (by simp) (by simp) (by decide) rfl ((keep_add HA HB B3).mono ?_)
  rintro e W4 ⟨A9, n9, c9, rfl, R9, B4⟩
  refine ⟨_, rfl, ?_⟩
  intro a28 k28
  clear k27
  refine kn_call 29 105 (s := 101) (x := 104) (.slice T n8 c8) (.slice A9 n9 c9) k28 enter_words (by kernel_rfl) (by kernel_rfl) (by kernel_rfl) (by kernel_rfl) (wanted_if (j := 24) (d := 100) (by kernel_rfl) (by kernel_rfl) (k28.2.2 _ _ (by simp))) (by simp) (by simp) (by decide) rfl ((keep_words KT B4 R9 (by omega)).mono ?_)
  rintro e W5 ⟨rfl, B5⟩
  refine ⟨_, rfl, ?_⟩
  intro a29 k29
  clear k28 R9 B4
  refine kn_take 30 106 (.bool true) k29 hS (by kernel_rfl) (by kernel_rfl) (by kernel_rfl) (by kernel_rfl) hQ (wanted_none (by kernel_rfl)) (kn_pick k29 (t := 100) (u := 105) (y := .const (.bool false)) (by kernel_rfl) (by simp) (by simp)) (by decide) rfl ?_
  intro a30 k30
  clear k29
  refine kn_take 31 6 (.bool true) k30 hS (by kernel_rfl) (by kernel_rfl) (by kernel_rfl) (by kernel_rfl) hQ (wanted_none (by kernel_rfl)) (kn_assign k30 (t := 106) (by kernel_rfl) (by simp)) (by decide) rfl ?_
  intro a31 k31
  clear k30
  refine wpAny_done (by kernel_rfl) ?_ _
  exact h a31 W5 k31.2.1 (k31.ev (by simp)) B5
end Go.Proofs.YtcjggdcichlanaaDoor
