/- num.align. num.sum. num.Add, num.Sub: whatever the arguments. -/
import Derived.Test.YthhaelnildaemaaGreatDoorPNumAC
import Derived.Deep.RegionHeld3
namespace Go.Proofs.YthhaelnildaemaaGreatDoor
open Go.RowKit Nx
def Bx (w : World) (g : Nat) (s : Bool) (e : Int) (A : Option Addr) (n c : Nat) : Prop := Blk w g 28 #[.bool s, .int .i64 e, .slice A n c]
theorem Bx.new (w : World) (s : Bool) (e : Int) (A : Option Addr) (n c : Nat) : Bx (w.alloc (.cells #[.bool s, .int .i64 e, .slice A n c] 28)) w.heap.size s e A n c := Blk.new w _ _
theorem Bx.step {w w' : World} {g : Nat} {s : Bool} {e : Int} {A : Option Addr} {n c : Nat} (h : Bx w g s e A n c) (hb : Below w.heap.size w w') : Bx w' g s e A n c := Blk.below h hb h.lt
theorem Bx.c0 {w : World} {g : Nat} {s : Bool} {e : Int} {A : Option Addr} {n c : Nat} (h : Bx w g s e A n c) : w.cell? ⟨g, 0, none⟩ = some (.bool s) := by have := Blk.cell h 0; simpa using this
theorem Bx.c1 {w : World} {g : Nat} {s : Bool} {e : Int} {A : Option Addr} {n c : Nat} (h : Bx w g s e A n c) : w.cell? ⟨g, 1, none⟩ = some (.int .i64 e) := by have := Blk.cell h 1; simpa using this
theorem Bx.c2 {w : World} {g : Nat} {s : Bool} {e : Int} {A : Option Addr} {n c : Nat} (h : Bx w g s e A n c) : w.cell? ⟨g, 2, none⟩ = some (.slice A n c) := by have := Blk.cell h 2; simpa using this
theorem Bx.fz {w : World} {g : Nat} {s : Bool} {e : Int} {A : Option Addr} {n c : Nat} (h : Bx w g s e A n c) (i : Nat) : w.frozen? ⟨g, i, none⟩ = false := Blk.frozen h i
theorem shv_num {M : Nat} {e t : Int} (h1 : t ≤ e) (h2 : e - t ≤ 262144) : shv M (e - t) = M * 2 ^ (e - t).toNat := shv_up (by omega)
theorem two_bx (w : World) (s s' : Bool) (e e' : Int) (A B : Option Addr) (n c m d : Nat) :
    Bx ((w.alloc (.cells #[.bool s, .int .i64 e, .slice A n c] 28)).alloc (.cells #[.bool s', .int .i64 e', .slice B m d] 28)) w.heap.size s e A n c ∧
    Bx ((w.alloc (.cells #[.bool s, .int .i64 e, .slice A n c] 28)).alloc (.cells #[.bool s', .int .i64 e', .slice B m d] 28)) (w.heap.size + 1) s' e' B m d ∧
    Below w.heap.size w ((w.alloc (.cells #[.bool s, .int .i64 e, .slice A n c] 28)).alloc (.cells #[.bool s', .int .i64 e', .slice B m d] 28)) := by
  refine ⟨(Bx.new w s e A n c).step (one_below _ _), ?_, below_step (one_below w _) (one_below _ _)⟩
  have := Bx.new (w.alloc (.cells #[.bool s, .int .i64 e, .slice A n c] 28)) s' e' B m d
  rwa [show (w.alloc (.cells #[.bool s, .int .i64 e, .slice A n c] 28)).heap.size = w.heap.size + 1 by simp] at this
theorem bdr {B : Nat} {a w : World} (h : Below B a w) : Below B a w.drew := ⟨h.os, h.tape, h.output, h.size, h.block⟩
theorem i64_sub (a b : Int) (h1 : -1000000000 ≤ a - b) (h2 : a - b ≤ 1000000000) : IntKind.i64.wrap (a - b) = a - b := by rw [IntKind.wrap_i64]; omega
theorem i64_add (a b : Int) (h1 : -1000000000 ≤ a + b) (h2 : a + b ≤ 1000000000) : IntKind.i64.wrap (a + b) = a + b := by rw [IntKind.wrap_i64]; omega
def AlPost (w : World) (X Y : Nat) (t : Int) (e : Ending) (w' : World) : Prop :=
  ∃ (A B : Option Addr) (n c m d : Nat), e = .returned (.tuple #[.slice A n c, .slice B m d, .int .i64 t]) ∧ Is w' A n c X ∧ Is w' B m d Y ∧ Below w.heap.size w w'
set_option maxRecDepth 100000 in
set_option maxHeartbeats 1000000 in
theorem align_any (w : World) (s s' : Bool) (e e' : Int) (A B : Option Addr) (n c m d X Y k : Nat) (ha : Is w A n c X) (hb : Is w B m d Y) (hX : X < B64 ^ k) (hY : Y < B64 ^ k) (hk : k ≤ 100000)
    (h1 : -65536 ≤ e) (h2 : e ≤ 65536) (h3 : -65536 ≤ e') (h4 : e' ≤ 65536) :
    Calls Tryz.prog 141 #[.agg #[.bool s, .int .i64 e, .slice A n c], .agg #[.bool s', .int .i64 e', .slice B m d]] w (AlPost w (X * 2 ^ (e - min e e').toNat) (Y * 2 ^ (e' - min e e').toNat) (min e e')) := by
  obtain ⟨k1, k2, b2⟩ := two_bx w s s' e e' A B n c m d
  have ha2 := Lib.hid ((ha.step b2).has hX); have hb2 := Lib.hid ((hb.step b2).has hY)
  have B2 := Lib.hid b2; have K1 := Lib.hid k1; have K2 := Lib.hid k2
  clear k1 k2 b2 ha hb
  obtain ⟨t, ht⟩ : ∃ t, t = min e e' := ⟨_, rfl⟩
  have f1 : (if e ≤ e' then e else e') = t := by rw [ht]; split <;> omega
  have t1 : -65536 ≤ t := by omega
  have t2 : t ≤ e := by omega
  have t3 : t ≤ e' := by omega
  have q1 := Lib.hid (shv_num (M := X) t2 (by omega)); have q2 := Lib.hid (shv_num (M := Y) t3 (by omega))
  rw [← ht]
  go_enter Tryz.func141, Tryz.ntmps141
  go_wp2_with fail
  generalize (w.alloc (.cells #[.bool s, .int .i64 e, .slice A n c] 28)).alloc (.cells #[.bool s', .int .i64 e', .slice B m d] 28) = w2 at *
  have S0 : w2.cell? ⟨w.heap.size, 1, none⟩ = some (.int .i64 e) ∧ w2.cell? ⟨w.heap.size, 2, none⟩ = some (.slice A n c) ∧ w2.cell? ⟨w.heap.size + 1, 1, none⟩ = some (.int .i64 e') ∧ w2.cell? ⟨w.heap.size + 1, 2, none⟩ = some (.slice B m d) := ⟨K1.out.c1, K1.out.c2, K2.out.c1, K2.out.c2⟩
  rw [← ht]
  have x1 := i64_sub e t (by omega) (by omega)
  have x2 := i64_sub e' t (by omega) (by omega)
  have d2 := bdr (Below.refl w2.heap.size w2)
  have C1 := Lib.hid (shift_is (e - t) (ha2.out.step d2) hk)
  have K1d := Lib.hid (K1.out.step d2); have K2d := Lib.hid (K2.out.step d2); have B2d := Lib.hid (below_step B2.out d2); have hb2d := Lib.hid (hb2.out.step d2)
  rw [q1.out] at C1
  clear ht f1 d2 B2 K1 K2 ha2 hb2
  go_region_held3 (fun w' => w'.cell? ⟨w.heap.size, 1, none⟩ = some (.int .i64 e) ∧ w'.cell? ⟨w.heap.size, 2, none⟩ = some (.slice A n c) ∧ w'.cell? ⟨w.heap.size + 1, 1, none⟩ = some (.int .i64 e') ∧ w'.cell? ⟨w.heap.size + 1, 2, none⟩ = some (.slice B m d))
    (first | exact S0 | assumption)
    (first
      | (go_at_call 190
         refine C1.out.mono ?_
         rintro _ w3 ⟨A3, n3, c3, rfl, h3, b3⟩
         have K13 := Lib.hid (K1d.out.step b3); have K23 := Lib.hid (K2d.out.step b3)
         have S3 : w3.cell? ⟨w.heap.size, 1, none⟩ = some (.int .i64 e) ∧ w3.cell? ⟨w.heap.size, 2, none⟩ = some (.slice A n c) ∧ w3.cell? ⟨w.heap.size + 1, 1, none⟩ = some (.int .i64 e') ∧ w3.cell? ⟨w.heap.size + 1, 2, none⟩ = some (.slice B m d) := ⟨K13.out.c1, K13.out.c2, K23.out.c1, K23.out.c2⟩
         have C3 := Lib.hid (shift_is (e' - t) (hb2d.out.step b3) hk)
         have B3 := Lib.hid (below_step B2d.out b3); have H3 := Lib.hid h3
         rw [q2.out] at C3
         clear h3 b3 C1)
      | (go_at_call 190
         refine C3.out.mono ?_
         rintro _ w4 ⟨A4, n4, c4, rfl, h4, b4⟩
         have K14 := Lib.hid (K13.out.step b4); have K24 := Lib.hid (K23.out.step b4)
         have S4 : w4.cell? ⟨w.heap.size, 1, none⟩ = some (.int .i64 e) ∧ w4.cell? ⟨w.heap.size, 2, none⟩ = some (.slice A n c) ∧ w4.cell? ⟨w.heap.size + 1, 1, none⟩ = some (.int .i64 e') ∧ w4.cell? ⟨w.heap.size + 1, 2, none⟩ = some (.slice B m d) := ⟨K14.out.c1, K14.out.c2, K24.out.c1, K24.out.c2⟩
         have B4 := Lib.hid (below_step B3.out b4); have H34 := Lib.hid (H3.out.step b4); have H4 := Lib.hid h4
         clear h4 b4 C3))
  all_goals
    go_wp2
    exact bodyPost_ret (v := .tuple #[.slice A3 n3 c3, .slice A4 n4 c4, .int .i64 t]) (by simp [results, Tryz.results141, go_sem]) rfl ⟨A3, A4, n3, c3, n4, c4, rfl, H34.out, H4.out, B4.out⟩
theorem three_bx (w : World) (s s' : Bool) (e e' : Int) (A B : Option Addr) (n c m d : Nat) :
    Bx (((w.alloc (.cells #[.bool s, .int .i64 e, .slice A n c] 28)).alloc (.cells #[.bool s', .int .i64 e', .slice B m d] 28)).alloc (.cells #[.bool false, .int .i64 0, .slice none 0 0] 28)) w.heap.size s e A n c ∧
    Bx (((w.alloc (.cells #[.bool s, .int .i64 e, .slice A n c] 28)).alloc (.cells #[.bool s', .int .i64 e', .slice B m d] 28)).alloc (.cells #[.bool false, .int .i64 0, .slice none 0 0] 28)) (w.heap.size + 1) s' e' B m d ∧
    Bx (((w.alloc (.cells #[.bool s, .int .i64 e, .slice A n c] 28)).alloc (.cells #[.bool s', .int .i64 e', .slice B m d] 28)).alloc (.cells #[.bool false, .int .i64 0, .slice none 0 0] 28)) (w.heap.size + 1 + 1) false 0 none 0 0 ∧
    Below w.heap.size w (((w.alloc (.cells #[.bool s, .int .i64 e, .slice A n c] 28)).alloc (.cells #[.bool s', .int .i64 e', .slice B m d] 28)).alloc (.cells #[.bool false, .int .i64 0, .slice none 0 0] 28)) := by
  obtain ⟨k1, k2, b2⟩ := two_bx w s s' e e' A B n c m d
  refine ⟨k1.step (one_below _ _), k2.step (one_below _ _), ?_, below_step b2 (one_below _ _)⟩
  have := Bx.new ((w.alloc (.cells #[.bool s, .int .i64 e, .slice A n c] 28)).alloc (.cells #[.bool s', .int .i64 e', .slice B m d] 28)) false 0 none 0 0
  rwa [show ((w.alloc (.cells #[.bool s, .int .i64 e, .slice A n c] 28)).alloc (.cells #[.bool s', .int .i64 e', .slice B m d] 28)).heap.size = w.heap.size + 1 + 1 by simp] at this
theorem ret_num {w W W1 : World} {g : Nat} {A : Option Addr} {n c : Nat} {q : Q} {a : Value} {b : Value} {z : Value} (hB : Below w.heap.size w W) (hg : w.heap.size ≤ g) (hk : Blk W1 g 28 #[a, b, z]) (hgW : g < W.heap.size) (hW : Below W.heap.size W W1)
    (h : Rd .u64 W1 W.heap.size W1.heap.size A n c (digs B64 q.m)) :
    Bx (put3 W1 g (.bool q.s) (.int .i64 q.e) (.slice A n c)) g q.s q.e A n c ∧ NumV w.heap.size (put3 W1 g (.bool q.s) (.int .i64 q.e) (.slice A n c)) (.agg #[.bool q.s, .int .i64 q.e, .slice A n c]) q ∧
      Below w.heap.size w (put3 W1 g (.bool q.s) (.int .i64 q.e) (.slice A n c)) := by
  refine ⟨Blk.putted hk _ _ _, ⟨A, n, c, rfl, ?_⟩, below_put3 (below_step hB hW) hg _ _ _⟩
  have := h.putted (g := g) (.inl hgW) (.bool q.s) (.int .i64 q.e) (.slice A n c)
  rw [size_put3]
  exact this.less hB.size
theorem put3_far (w : World) (g h i : Nat) (x y z : Value) (hn : h ≠ g) : (((w.setCell ⟨g, 0, none⟩ x).setCell ⟨g, 1, none⟩ y).setCell ⟨g, 2, none⟩ z).cell? ⟨h, i, none⟩ = w.cell? ⟨h, i, none⟩ := by
  have hne : ∀ j, (⟨g, j, none⟩ : Addr) ≠ ⟨h, i, none⟩ := fun j e => by have := congrArg Addr.block e; simp at this; omega
  rw [World.cell?_setCell_other _ _ _ _ (hne 2), World.cell?_setCell_other _ _ _ _ (hne 1), World.cell?_setCell_other _ _ _ _ (hne 0)]
theorem up_eq {q : Q} {t : Int} : q.up t = if q.s then -((q.m * 2 ^ (q.e - t).toNat : Nat) : Int) else ((q.m * 2 ^ (q.e - t).toNat : Nat) : Int) := by
  unfold Q.up Q.z
  rw [Int.natCast_mul, Int.natCast_pow]
  cases q.s
  · rfl
  · simp only [if_true]; rw [Int.neg_mul]; rfl
section
variable {a b : Q} {X Y : Nat} (hX : X = a.m * 2 ^ (a.e - lowe a b).toNat) (hY : Y = b.m * 2 ^ (b.e - lowe a b).toNat)
include hX hY
theorem plus_same (h : a.s = b.s) : nm a.s (X + Y) (lowe a b) = plus a b := by
  unfold plus
  rw [nm_ofz, up_eq, up_eq, ← hX, ← hY, ← h]
  congr 1
  cases a.s <;> simp <;> omega
theorem plus_left (h : a.s ≠ b.s) (hle : Y ≤ X) : nm a.s (X - Y) (lowe a b) = plus a b := by
  unfold plus
  rw [nm_ofz, up_eq, up_eq, ← hX, ← hY]
  congr 1
  have hb : b.s = !a.s := by revert h; cases a.s <;> cases b.s <;> simp
  rw [hb]
  cases a.s <;> simp <;> omega
theorem plus_right (h : a.s ≠ b.s) (hle : ¬ Y ≤ X) : nm b.s (Y - X) (lowe a b) = plus a b := by
  unfold plus
  rw [nm_ofz, up_eq, up_eq, ← hX, ← hY]
  congr 1
  have hb : b.s = !a.s := by revert h; cases a.s <;> cases b.s <;> simp
  rw [hb]
  cases a.s <;> simp <;> omega
end
theorem is_arg {w : World} {A : Option Addr} {n c X : Nat} (h : Is w A n c X) : Arg w A n c (digs B64 X) := ⟨h, small_digs B64_two _⟩
theorem is_len {w : World} {A : Option Addr} {n c X k : Nat} (h : Is w A n c X) (hk : X < B64 ^ k) : n ≤ k := by rw [← h.1]; exact digs_len_le B64_two hk
theorem make_is {W : World} {A : Option Addr} {n c X k : Nat} (s : Bool) (e : Int) (h : Is W A n c X) (hX : X < B64 ^ k) (hk : k ≤ 100000) (ht : Tab W) :
    Calls Tryz.prog 87 #[.bool s, .slice A n c, .int .i64 e] W (NumPost2 W (res (nm s X e))) := by
  have := make_any W s e A n c _ (is_arg h) (by have := is_len h hX; omega) ht
  rwa [nval_digs B64_two] at this
theorem up_lt {X k : Nat} {t : Nat} (h : X < B64 ^ k) (ht : t ≤ 262144) : X * 2 ^ t < B64 ^ (k + 4096) := by
  obtain ⟨E, hE⟩ : ∃ E : Nat, E = 4096 := ⟨_, rfl⟩
  rw [← hE]
  have h1 : 2 ^ t ≤ B64 ^ E := by rw [pow64]; exact Nat.pow_le_pow_right (by omega) (by omega)
  rw [Nat.pow_add]
  exact Nat.lt_of_lt_of_le (Nat.mul_lt_mul_of_pos_right h (Nat.pow_pos (by omega))) (Nat.mul_le_mul_left _ h1)
def Valid (q : Q) : Prop := Canon q ∧ Fits q
theorem okb_true {w : World} {A : Option Addr} {n c : Nat} {xs : List Nat} {s : Bool} {e : Int} (ha : Arg w A n c xs) (h : okb s e n xs = true) : Is w A n c (nval B64 xs) ∧ Valid ⟨s, nval B64 xs, e⟩ := by
  have hl := ha.1.1
  unfold okb at h
  split at h
  · rename_i h0
    subst h0
    have hx : xs = [] := List.eq_nil_of_length_eq_zero hl
    subst hx
    simp only [Bool.and_eq_true, beq_iff_eq, Bool.not_eq_true'] at h
    obtain ⟨rfl, rfl⟩ := h
    refine ⟨?_, canon0, fits0⟩
    have h1 := ha.1
    unfold Is
    rw [show nval B64 [] = 0 from rfl, digs_zero]
    exact h1
  · rename_i h0
    simp only [Bool.and_eq_true, decide_eq_true_eq] at h
    obtain ⟨⟨⟨⟨h1, h2⟩, h3⟩, h4⟩, h5⟩ := h
    have hd : digs B64 (nval B64 xs) = xs := by
      have := digs_nval_take B64_two ha.2 n (fun j u hj hu => by rw [List.getElem?_eq_none (by omega)] at hu; cases hu) (fun u _ hu => by rw [getD_of hu] at h1; exact h1) (by omega)
      rw [this, List.take_of_length_le (by omega)]
    have hlt : nval B64 xs < B64 ^ n := by rw [← hl]; exact nval_lt ha.2
    have hodd : nval B64 xs % 2 = 1 := by
      match xs, hl with
      | [], hl => simp at hl; omega
      | x :: t, _ =>
        have h3 : x % 2 = 1 := by simpa using h3
        show (x + B64 * nval B64 t) % 2 = 1
        have : B64 * nval B64 t = 2 * (9223372036854775808 * nval B64 t) := by unfold B64; rw [← Nat.mul_assoc]
        omega
    refine ⟨by unfold Is; rw [hd]; exact ha.1, ⟨fun h => absurd h (by show ¬ nval B64 xs = 0; omega), fun _ => hodd⟩, lt_up hlt h2, h4, h5⟩
noncomputable def ans2 (f : Q → Q → Q) (s : Bool) (e : Int) (n : Nat) (xs : List Nat) (s' : Bool) (e' : Int) (m : Nat) (ys : List Nat) : Q × Int :=
  if okb s e n xs && okb s' e' m ys then res (f ⟨s, nval B64 xs, e⟩ ⟨s', nval B64 ys, e'⟩) else (q0, 1)
theorem ret_zero {w W : World} {g : Nat} {s : Bool} {e : Int} {A : Option Addr} {n c : Nat} (hB : Below w.heap.size w W) (hg : w.heap.size ≤ g) (hk : Bx W g s e A n c) :
    Bx (put3 W g (.bool false) (.int .i64 0) (.slice none 0 0)) g false 0 none 0 0 ∧ NumV w.heap.size (put3 W g (.bool false) (.int .i64 0) (.slice none 0 0)) (.agg #[.bool false, .int .i64 0, .slice none 0 0]) q0 ∧
      Below w.heap.size w (put3 W g (.bool false) (.int .i64 0) (.slice none 0 0)) := ⟨Blk.putted hk _ _ _, numv0 _ _, below_put3 hB hg _ _ _⟩
theorem up_zero {q : Q} {t : Int} (h : q.m = 0) : q.up t = 0 := by rw [up_eq, h]; simp
theorem plus_flip {a : Q} {s : Bool} {M : Nat} {e : Int} (h : Canon ⟨s, M, e⟩) : plus a ⟨!s, M, e⟩ = minus a ⟨s, M, e⟩ := by
  unfold minus Q.neg
  split
  · rename_i h0
    have h0 : M = 0 := h0
    have h1 := h.1 h0
    injection h1 with h2 h3 h4
    unfold plus
    rw [h0, h4]
    have e1 : lowe a ⟨!s, 0, 0⟩ = lowe a q0 := rfl
    rw [e1, up_zero (q := ⟨!s, 0, 0⟩) rfl, up_zero (q := q0) rfl]
  · rfl
end Go.Proofs.YthhaelnildaemaaGreatDoor
