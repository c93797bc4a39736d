/- fathomlineref1: Scale, Turned, Sign, By. fathomlineref1: By, Plus. fathomlineref1.Plus. -/
import Derived.Test.YtdmnohmjobofhaaDoorNumJL
namespace Go.Proofs.YtdmnohmjobofhaaDoor
open Go.RowKit Nx

theorem ret_empty {w W : World} {g lo : Nat} {A A' : Option Addr} {c n' c' : Nat} {s' : Bool} {e' : Int} (hB : Below w.heap.size w W) (hg : w.heap.size ≤ g) (hk : Bx W g s' e' A' n' c') :
    Bx (put3 W g (.bool false) (.int .i64 0) (.slice A 0 c)) g false 0 A 0 c ∧ NumV lo (put3 W g (.bool false) (.int .i64 0) (.slice A 0 c)) (.agg #[.bool false, .int .i64 0, .slice A 0 c]) q0 ∧
      Below w.heap.size w (put3 W g (.bool false) (.int .i64 0) (.slice A 0 c)) :=
  ⟨Blk.putted hk _ _ _, ⟨A, 0, c, rfl, by show Rd _ _ _ _ _ _ _ (digs B64 0); rw [digs_zero]; exact ⟨rfl, Nat.zero_le _, fun h => absurd h (by omega)⟩⟩, below_put3 hB hg _ _ _⟩
theorem Arg.has' {w : World} {A : Option Addr} {n c k : Nat} {xs : List Nat} (h : Arg w A n c xs) (hn : n ≤ k) : Has w A n c (nval B64 xs) k := ⟨xs, h.1, h.2, rfl, hn⟩
theorem nm_odd {s : Bool} {M : Nat} {e t : Int} (h : Canon ⟨s, M, e⟩) (h0 : M ≠ 0) : nm s M t = ⟨s, M, t⟩ := by
  unfold nm
  rw [if_neg h0, ntz_odd (h.2 h0)]
  apply Q.ext' <;> simp

theorem vals_bx (w : World) (s s' : Bool) (e e' : Int) (A B : Option Addr) (n c m d : Nat) :
    Vx ((w.alloc (.cells #[.bool s, .slice A n c, .int .i64 e] 34)).alloc (.cells #[.bool s', .slice B m d, .int .i64 e'] 34)) w.heap.size s A n c e ∧
    Vx ((w.alloc (.cells #[.bool s, .slice A n c, .int .i64 e] 34)).alloc (.cells #[.bool s', .slice B m d, .int .i64 e'] 34)) (w.heap.size + 1) s' B m d e' ∧
    Below w.heap.size w ((w.alloc (.cells #[.bool s, .slice A n c, .int .i64 e] 34)).alloc (.cells #[.bool s', .slice B m d, .int .i64 e'] 34)) := by
  refine ⟨(Vx.new w s A n c e).step (one_below _ _), ?_, below_step (one_below w _) (one_below _ _)⟩
  have := Vx.new (w.alloc (.cells #[.bool s, .slice A n c, .int .i64 e] 34)) s' B m d e'
  rwa [show (w.alloc (.cells #[.bool s, .slice A n c, .int .i64 e] 34)).heap.size = w.heap.size + 1 by simp] at this
theorem vals3_bx (w : World) (s s' : Bool) (e e' : Int) (A B : Option Addr) (n c m d : Nat) :
    Vx (((w.alloc (.cells #[.bool s, .slice A n c, .int .i64 e] 34)).alloc (.cells #[.bool s', .slice B m d, .int .i64 e'] 34)).alloc (.cells #[.bool false, .slice none 0 0, .int .i64 0] 34)) w.heap.size s A n c e ∧
    Vx (((w.alloc (.cells #[.bool s, .slice A n c, .int .i64 e] 34)).alloc (.cells #[.bool s', .slice B m d, .int .i64 e'] 34)).alloc (.cells #[.bool false, .slice none 0 0, .int .i64 0] 34)) (w.heap.size + 1) s' B m d e' ∧
    Vx (((w.alloc (.cells #[.bool s, .slice A n c, .int .i64 e] 34)).alloc (.cells #[.bool s', .slice B m d, .int .i64 e'] 34)).alloc (.cells #[.bool false, .slice none 0 0, .int .i64 0] 34)) (w.heap.size + 1 + 1) false none 0 0 0 ∧
    Below w.heap.size w (((w.alloc (.cells #[.bool s, .slice A n c, .int .i64 e] 34)).alloc (.cells #[.bool s', .slice B m d, .int .i64 e'] 34)).alloc (.cells #[.bool false, .slice none 0 0, .int .i64 0] 34)) := by
  obtain ⟨k1, k2, b2⟩ := vals_bx w s s' e e' A B n c m d
  refine ⟨k1.step (one_below _ _), k2.step (one_below _ _), ?_, below_step b2 (one_below _ _)⟩
  have := Vx.new ((w.alloc (.cells #[.bool s, .slice A n c, .int .i64 e] 34)).alloc (.cells #[.bool s', .slice B m d, .int .i64 e'] 34)) false none 0 0 0
  rwa [show ((w.alloc (.cells #[.bool s, .slice A n c, .int .i64 e] 34)).alloc (.cells #[.bool s', .slice B m d, .int .i64 e'] 34)).heap.size = w.heap.size + 1 + 1 by simp] at this

theorem ret_vzero {w W : World} {g H : Nat} {s : Bool} {e : Int} {A : Option Addr} {n c : Nat} (hB : Below w.heap.size w W) (hg : w.heap.size ≤ g) (hk : Vx W g s A n c e) :
    Vx (put3 W g (.bool false) (.slice none 0 0) (.int .i64 0)) g false none 0 0 0 ∧ ValV H w.heap.size (put3 W g (.bool false) (.slice none 0 0) (.int .i64 0)) (.agg #[.bool false, .slice none 0 0, .int .i64 0]) q0 ∧
      Below w.heap.size w (put3 W g (.bool false) (.slice none 0 0) (.int .i64 0)) := ⟨Blk.putted hk _ _ _, valv0 _ _ _, below_put3 hB hg _ _ _⟩
theorem times_zero {a b : Q} (ha : Canon a) (hb : Canon b) (h : a.m = 0 ∨ b.m = 0) : times a b = q0 := by
  unfold times
  rcases h with h | h
  · rw [ha.1 h, show q0.z = 0 from rfl, Int.zero_mul]; exact ofz_zero _
  · rw [hb.1 h, show q0.z = 0 from rfl, Int.mul_zero]; exact ofz_zero _
theorem times_odd {s s' : Bool} {M M' : Nat} {e e' : Int} (ha : Canon ⟨s, M, e⟩) (hb : Canon ⟨s', M', e'⟩) (h1 : M ≠ 0) (h2 : M' ≠ 0) : times ⟨s, M, e⟩ ⟨s', M', e'⟩ = ⟨s != s', M * M', e + e'⟩ := by
  rw [← nm_times]
  have ho : M * M' % 2 = 1 := by
    have a1 : M % 2 = 1 := ha.2 h1
    have a2 : M' % 2 = 1 := hb.2 h2
    rw [Nat.mul_mod, a1, a2]
  have h3 : M * M' ≠ 0 := fun h => by rw [h] at ho; omega
  unfold nm
  rw [if_neg h3, ntz_odd ho]
  apply Q.ext' <;> simp

theorem ValV.place {H L : Nat} {w : World} {v : Value} {q : Q} (h : ValV H L w v q) {A : Option Addr} {n c : Nat} (hv : v = .agg #[.bool q.s, .slice A n c, .int .i64 q.e]) : ∀ ad, 0 < n → A = some ad → ad.block < H ∨ L ≤ ad.block := by
  obtain ⟨A', n', c', e, _, h2⟩ := h
  rw [hv] at e
  injection e with e
  have e : [Value.bool q.s, .slice A n c, .int .i64 q.e] = [.bool q.s, .slice A' n' c', .int .i64 q.e] := congrArg Array.toList e
  injection e with _ e
  injection e with e _
  injection e with e1 e2 e3
  subst e1; subst e2; exact h2
theorem left_is {w : World} {A : Option Addr} {n c X k : Nat} (t : Int) (ha : Dg w A n c X) (hX : X < B64 ^ k) (hk : k ≤ 100000) (h0 : 0 ≤ t) (h1 : t ≤ 262144) :
    Calls Tryd.prog 10 #[.slice A n c, .int .i64 t] w (DigPost w (X * 2 ^ t.toNat)) := by
  obtain ⟨b, rfl⟩ : ∃ b : Nat, t = (b : Int) := ⟨t.toNat, by omega⟩
  have := left32_any w 0 _ A n c _ _ b _ ha (small_digs B32_two _) (by have := ha.len hX; omega) (Nat.le_refl _) (by omega) rfl rfl
  rw [nval_digs B32_two] at this
  exact this
theorem lowe_zero {a b : Q} (hb : Canon b) (ha : a = q0) : plus a b = b := by
  subst ha
  have hl : lowe q0 b ≤ b.e := by unfold lowe; omega
  unfold plus
  rw [up_zero (q := q0) rfl, Int.zero_add]
  have e1 : lowe q0 b = b.e - ((b.e - lowe q0 b).toNat : Nat) := by omega
  unfold Q.up
  conv => lhs; rhs; rw [e1]
  rw [ofz_shift, ofz_z hb]
theorem plus_comm (a b : Q) : plus a b = plus b a := by
  have : lowe a b = lowe b a := by unfold lowe; omega
  unfold plus
  rw [this, Int.add_comm]

theorem plus_none {a b : Q} {X Y : Nat} (hX : X = a.m * 2 ^ (a.e - lowe a b).toNat) (hY : Y = b.m * 2 ^ (b.e - lowe a b).toNat) (h : a.s ≠ b.s) (he : X = Y) : plus a b = q0 := by
  rw [← plus_left hX hY h (by omega), show X - Y = 0 by omega, nm_zero]
theorem cmpv_one {x y : Nat} : (cmpv x y == 1) = decide (y < x) := by
  unfold cmpv
  by_cases h1 : x < y
  · rw [if_pos h1, decide_eq_false (by omega)]; rfl
  · rw [if_neg h1]
    by_cases h2 : y < x
    · rw [if_pos h2, decide_eq_true h2]; rfl
    · rw [if_neg h2, decide_eq_false h2]; rfl
theorem cmpv_less {x y : Nat} : (cmpv x y == -1) = decide (x < y) := by
  unfold cmpv
  by_cases h1 : x < y
  · rw [if_pos h1, decide_eq_true h1]; rfl
  · rw [if_neg h1, decide_eq_false h1]
    by_cases h2 : y < x
    · rw [if_pos h2]; rfl
    · rw [if_neg h2]; rfl

end Go.Proofs.YtdmnohmjobofhaaDoor
