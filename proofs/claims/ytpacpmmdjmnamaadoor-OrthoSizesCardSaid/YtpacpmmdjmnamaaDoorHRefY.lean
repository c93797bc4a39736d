/- fathomlineref1: Cmp, Add, Sub. fathomlineref1: Sub. The digits of the document's answers: Cmp, Add, Sub. fathomlineref1: Left. fathomlineref1: Down. fathomlineref1: Mul. The digits of the document's answers: Mul. -/
import Derived.Test.YtpacpmmdjmnamaaDoorHRefX
namespace Go.Proofs.YtpacpmmdjmnamaaDoor
open Go.RowKit Nx
def CmpRel32 (w : World) (n : Nat) (p q : List Nat) (u : Value) (wr : World) : Prop :=
  ∃ k m : Nat, k ≤ n ∧ u = .int .i64 ((k : Int) - 1) ∧ wr = w.drewN m ∧ Hid (p.drop k = q.drop k)
theorem CmpRel32.of {w wr : World} {n : Nat} {p q : List Nat} {u : Value} (k : Nat) (hk : k ≤ n) (hu : u = .int .i64 ((k : Int) - 1)) (h : ∃ m, wr = w.drewN m) (hI : Hid (p.drop k = q.drop k)) : CmpRel32 w n p q u wr := by
  obtain ⟨m, hm⟩ := h; exact ⟨k, m, hk, hu, hm, hI⟩
def SumI (B k c : Nat) (out xs ys : List Nat) : Prop := out.length = k ∧ Small B out ∧ nval B out + B ^ k * c = nval B (xs.take k) + nval B (ys.take k)
theorem SumI.start {B : Nat} {xs ys : List Nat} : SumI B 0 0 [] xs ys := ⟨rfl, Small.nil, by simp [nval]⟩
theorem SumI.step {B k c T : Nat} {out xs ys : List Nat} (hB : 2 ≤ B) (h : SumI B k c out xs ys) (hT : T = c + (xs.getD k 0 + ys.getD k 0)) : SumI B (k + 1) (T / B) (out ++ [T % B]) xs ys := by
  obtain ⟨h1, h2, h3⟩ := h
  refine ⟨by simp [h1], h2.append (Small.cons (Nat.mod_lt _ (by omega)) Small.nil), ?_⟩
  rw [nval_snoc, h1, nval_take_succ, nval_take_succ, Nat.pow_succ]
  have hm := Nat.mod_add_div T B
  generalize T % B = v at *
  generalize T / B = d at *
  generalize nval B out = a at *
  generalize nval B (xs.take k) = b at *
  generalize nval B (ys.take k) = e at *
  generalize xs.getD k 0 = x at *
  generalize ys.getD k 0 = y at *
  generalize B ^ k = P at *
  have : P * v + P * B * d = P * c + (P * x + P * y) := by
    rw [← Nat.mul_add, ← Nat.mul_add, ← hT, ← hm]; grind
  omega
theorem SumI.done {B k : Nat} {out xs ys : List Nat} (h : SumI B k 0 out xs ys) (h1 : xs.length ≤ k) (h2 : ys.length ≤ k) : nval B out = nval B xs + nval B ys := by
  obtain ⟨_, _, h3⟩ := h
  rw [List.take_of_length_le h1, List.take_of_length_le h2] at h3
  simpa using h3
end Go.Proofs.YtpacpmmdjmnamaaDoor
namespace Go.Proofs.YtpacpmmdjmnamaaDoor
open Go.RowKit Nx
def LesI (B k c : Nat) (out xs ys : List Nat) : Prop := out.length = k ∧ Small B out ∧ nval B out + nval B (ys.take k) = nval B (xs.take k) + B ^ k * c
theorem LesI.start {B : Nat} {xs ys : List Nat} : LesI B 0 0 [] xs ys := ⟨rfl, Small.nil, by simp [nval]⟩
theorem LesI.step {B k c v d : Nat} {out xs ys : List Nat} (h : LesI B k c out xs ys) (hv : v < B) (he : v + (ys.getD k 0 + c) = xs.getD k 0 + B * d) : LesI B (k + 1) d (out ++ [v]) xs ys := by
  obtain ⟨h1, h2, h3⟩ := h
  refine ⟨by simp [h1], h2.append (Small.cons hv Small.nil), ?_⟩
  rw [nval_snoc, h1, nval_take_succ, nval_take_succ, Nat.pow_succ]
  generalize nval B out = a at *
  generalize nval B (xs.take k) = b at *
  generalize nval B (ys.take k) = e at *
  generalize xs.getD k 0 = x at *
  generalize ys.getD k 0 = y at *
  generalize B ^ k = P at *
  have : P * v + (P * y + P * c) = P * x + P * B * d := by
    rw [← Nat.mul_add, ← Nat.mul_add, he]; grind
  omega
theorem LesI.done {B n c : Nat} {out xs ys : List Nat} (h : LesI B n c out xs ys) (h1 : xs.length = n) (h2 : ys.length ≤ n) (hle : nval B ys ≤ nval B xs) : nval B out = nval B xs - nval B ys := by
  obtain ⟨g1, g2, g3⟩ := h
  rw [List.take_of_length_le (l := xs) (by omega), List.take_of_length_le h2] at g3
  have := nval_lt g2
  rw [g1] at this
  rcases Nat.eq_zero_or_pos c with e | e
  · subst e; omega
  · have h8 : B ^ n * 1 ≤ B ^ n * c := Nat.mul_le_mul_left _ e
    omega
end Go.Proofs.YtpacpmmdjmnamaaDoor
namespace Go.Proofs.YtpacpmmdjmnamaaDoor
open Go.RowKit Nx
section
variable {W : World} {A B : Option Addr} {n c m d X Y k l : Nat}
end
end Go.Proofs.YtpacpmmdjmnamaaDoor
namespace Go.Proofs.YtpacpmmdjmnamaaDoor
open Go.RowKit Nx
def UpJ (n s q k : Nat) (cur p : List Nat) : Prop :=
  cur.length = s + n + 1 ∧ Small B32 cur ∧ nval B32 cur = B32 ^ s * (2 ^ q * nval B32 (p.take k)) ∧ cur.getD (s + k) 0 < 2 ^ q ∧ cur.drop (s + k + 1) = List.replicate (n - k) 0
theorem UpJ.start {n s q : Nat} {p : List Nat} : UpJ n s q 0 (List.replicate (s + n + 1) 0) p := by
  refine ⟨by simp, small_replicate (by unfold B32; omega), by rw [nval_zeros]; simp [nval], ?_, ?_⟩
  · have : (List.replicate (s + n + 1) 0).getD (s + 0) 0 = 0 := by
      rw [List.getD_eq_getElem?_getD, List.getElem?_replicate]; split <;> rfl
    rw [this]; exact Nat.two_pow_pos q
  · rw [List.drop_replicate]; congr 1; omega
theorem up_digits {q x h lx hx : Nat} (hq : q < 32) (hxB : x < B32) (hh : h < 2 ^ q) (h1 : lx = x * 2 ^ q % B32) (h2 : hx = x * 2 ^ q / B32) :
    h ||| lx = h + lx ∧ h + lx < B32 ∧ lx < B32 ∧ hx < 2 ^ q ∧ lx + B32 * hx = x * 2 ^ q ∧ x * 2 ^ q < 18446744073709551616 := by
  have hp : 2 ^ (32 - q) * 2 ^ q = B32 := by rw [← Nat.pow_add, Nat.sub_add_cancel (by omega)]; rfl
  have hqp := Nat.two_pow_pos q
  have hm := Nat.mod_add_div (x * 2 ^ q) B32
  rw [← h1, ← h2] at hm
  have hl : lx = 2 ^ q * (x % 2 ^ (32 - q)) := by
    rw [h1, ← hp, Nat.mul_mod_mul_right, Nat.mul_comm]
  have hlt : x % 2 ^ (32 - q) < 2 ^ (32 - q) := Nat.mod_lt _ (Nat.two_pow_pos _)
  have hle : 2 ^ q * (x % 2 ^ (32 - q) + 1) ≤ 2 ^ q * 2 ^ (32 - q) := Nat.mul_le_mul_left _ hlt
  rw [Nat.mul_add, ← hl, Nat.mul_comm (2 ^ q) (2 ^ (32 - q)), hp] at hle
  have hxq : x * 2 ^ q < B32 * 2 ^ q := Nat.mul_lt_mul_of_pos_right hxB hqp
  have hq32 : 2 ^ q ≤ 2 ^ 32 := Nat.pow_le_pow_right (by omega) (by omega)
  refine ⟨?_, by omega, by omega, ?_, hm, ?_⟩
  · rw [Nat.or_comm, hl, ← Nat.two_pow_add_eq_or_of_lt hh, Nat.add_comm]
  · rw [h2, Nat.div_lt_iff_lt_mul (by unfold B32; omega), Nat.mul_comm (2 ^ q)]; exact hxq
  · unfold B32 at hxq; omega
theorem UpJ.step {n s q k x h lx hx : Nat} {cur p : List Nat} (hI : UpJ n s q k cur p) (hk : k < n) (hq : q < 32) (hp : p[k]? = some x) (hxB : x < B32) (hh : cur[s + k]? = some h) (h1 : lx = x * 2 ^ q % B32) (h2 : hx = x * 2 ^ q / B32) :
    UpJ n s q (k + 1) ((cur.set (s + k) (h + lx)).set (s + k + 1) hx) p := by
  obtain ⟨g1, g2, g3, g4, g5⟩ := hI
  have hg := getD_of hh
  rw [hg] at g4
  obtain ⟨_, w2, w3, w4, w5, _⟩ := up_digits hq hxB g4 h1 h2
  have hz : cur.drop (s + k + 1) = 0 :: List.replicate (n - k - 1) 0 := by
    rw [g5, show n - k = (n - k - 1) + 1 by omega, List.replicate_succ]; rfl
  have h0 : cur.getD (s + k + 1) 0 = 0 := by
    have : cur[s + k + 1]? = some 0 := by
      have e : (cur.drop (s + k + 1))[0]? = cur[s + k + 1]? := by simp
      rw [← e, hz]; rfl
    exact getD_of this
  have hqB : 2 ^ q ≤ B32 := by rw [show B32 = 2 ^ 32 from rfl]; exact Nat.pow_le_pow_right (by omega) (by omega)
  have n1 := nval_set B32 cur (s + k) (h + lx) (by omega)
  have n2 := nval_set B32 (cur.set (s + k) (h + lx)) (s + k + 1) hx (by simp; omega)
  have h0' : (cur.set (s + k) (h + lx)).getD (s + k + 1) 0 = 0 := by
    rw [List.getD_eq_getElem?_getD, List.getElem?_set_ne (by omega), ← List.getD_eq_getElem?_getD]; exact h0
  rw [h0', Nat.mul_zero, Nat.add_zero] at n2
  rw [hg] at n1
  refine ⟨by simpa using g1, (g2.set _ w2).set _ (by omega), ?_, ?_, ?_⟩
  · rw [n2, nval_take_succ, getD_of hp]
    have e1 : B32 ^ (s + k + 1) * hx = B32 ^ (s + k) * (B32 * hx) := by rw [Nat.pow_succ]; grind
    have e2 : B32 ^ s * (2 ^ q * (nval B32 (p.take k) + B32 ^ k * x)) = B32 ^ s * (2 ^ q * nval B32 (p.take k)) + B32 ^ (s + k) * (x * 2 ^ q) := by rw [Nat.pow_add]; grind
    rw [e2, ← g3, ← w5, e1, Nat.mul_add]
    rw [Nat.mul_add] at n1
    omega
  · rw [show s + (k + 1) = s + k + 1 by omega, getD_set _ _ _ (by simp; omega)]; exact w4
  · rw [show s + (k + 1) + 1 = s + k + 1 + 1 by omega, drop_set_succ]
    have e := congrArg (List.drop 1) hz
    rw [List.drop_drop] at e
    rw [List.drop_set, if_pos (by omega)]
    rw [show n - (k + 1) = n - k - 1 by omega]
    simpa using e
end Go.Proofs.YtpacpmmdjmnamaaDoor
namespace Go.Proofs.YtpacpmmdjmnamaaDoor
open Go.RowKit Nx
theorem down_digit {q x y z T d : Nat} (hq : q < 32) (hxB : x < B32) (hz : z = x + B32 * y) (hT : T = z / 2 ^ q) (hd : d = T % B32) :
    d < B32 ∧ 2 ^ q * d + x % 2 ^ q = x + B32 * (y % 2 ^ q) := by
  have hp : 2 ^ q * 2 ^ (32 - q) = B32 := by rw [← Nat.pow_add, Nat.add_sub_cancel' (by omega)]; rfl
  have hqp := Nat.two_pow_pos q
  have hPp := Nat.two_pow_pos (32 - q)
  generalize 2 ^ (32 - q) = P at *
  generalize 2 ^ q = Q at *
  have h1 : T = x / Q + P * y := by
    rw [hT, hz, ← hp, Nat.mul_assoc, Nat.add_mul_div_left _ _ hqp]
  have hy := Nat.mod_add_div y Q
  have hx := Nat.mod_add_div x Q
  have hxq : x / Q < P := by
    rw [Nat.div_lt_iff_lt_mul hqp, Nat.mul_comm, hp]; exact hxB
  have hyq : y % Q < Q := Nat.mod_lt _ hqp
  have h2 : T = (x / Q + P * (y % Q)) + B32 * (y / Q) := by
    rw [h1, ← hp]
    conv => lhs; rw [← hy]
    grind
  have h3 : x / Q + P * (y % Q) < B32 := by
    have : P * (y % Q + 1) ≤ P * Q := Nat.mul_le_mul_left _ hyq
    rw [Nat.mul_add, Nat.mul_comm P Q, hp] at this
    omega
  have h4 : d = x / Q + P * (y % Q) := by
    rw [hd, h2, Nat.add_mul_mod_self_left, Nat.mod_eq_of_lt h3]
  refine ⟨by omega, ?_⟩
  rw [h4, Nat.mul_add, ← Nat.mul_assoc, hp]
  omega
def DownI (q k : Nat) (out ys : List Nat) : Prop :=
  out.length = k ∧ Small B32 out ∧ 2 ^ q * nval B32 out + ys.getD 0 0 % 2 ^ q = nval B32 (ys.take k) + B32 ^ k * (ys.getD k 0 % 2 ^ q)
theorem DownI.start {q : Nat} {ys : List Nat} : DownI q 0 [] ys := ⟨rfl, Small.nil, by simp [nval]⟩
theorem DownI.step {q k z T d : Nat} {out ys : List Nat} (h : DownI q k out ys) (hq : q < 32) (hxB : ys.getD k 0 < B32) (hz : z = ys.getD k 0 + B32 * ys.getD (k + 1) 0) (hT : T = z / 2 ^ q) (hd : d = T % B32) :
    DownI q (k + 1) (out ++ [d]) ys := by
  obtain ⟨h1, h2, h3⟩ := h
  obtain ⟨g1, g2⟩ := down_digit hq hxB hz hT hd
  refine ⟨by simp [h1], h2.append (Small.cons g1 Small.nil), ?_⟩
  rw [nval_snoc, h1, nval_take_succ, Nat.pow_succ]
  generalize ys.getD (k + 1) 0 % 2 ^ q = l2 at *
  generalize ys.getD k 0 = x at *
  generalize hl1 : x % 2 ^ q = l1 at *
  generalize ys.getD 0 0 % 2 ^ q = l0 at *
  generalize 2 ^ q = Q at *
  generalize nval B32 out = a at *
  generalize nval B32 (ys.take k) = b at *
  generalize B32 ^ k = P at *
  have e1 : P * (Q * d) + P * l1 = P * x + P * (B32 * l2) := by rw [← Nat.mul_add, g2, Nat.mul_add]
  have e2 : Q * (a + P * d) = Q * a + P * (Q * d) := by grind
  have e3 : P * B32 * l2 = P * (B32 * l2) := by rw [Nat.mul_assoc]
  rw [e2, e3]
  omega
theorem DownI.done {q n : Nat} {out ys : List Nat} (h : DownI q n out ys) (hl : ys.length ≤ n) : nval B32 out = nval B32 ys / 2 ^ q := by
  obtain ⟨_, _, h3⟩ := h
  rw [List.take_of_length_le hl, getD_out (xs := ys) (k := n) (by omega)] at h3
  have hqp := Nat.two_pow_pos q
  have : ys.getD 0 0 % 2 ^ q < 2 ^ q := Nat.mod_lt _ hqp
  rw [Nat.zero_mod, Nat.mul_zero, Nat.add_zero] at h3
  rw [← h3, Nat.mul_add_div hqp, Nat.div_eq_of_lt this, Nat.add_zero]
theorem nval_drop {B : Nat} {xs : List Nat} (hB : 2 ≤ B) (hs : Small B xs) (s : Nat) (h : s ≤ xs.length) : nval B (xs.drop s) = nval B xs / B ^ s := by
  rw [nval_split B xs s h]
  have h1 := nval_lt (hs.take s)
  rw [List.length_take, Nat.min_eq_left h] at h1
  have hp : 0 < B ^ s := Nat.pow_pos (by omega)
  rw [Nat.add_mul_div_left _ _ hp, Nat.div_eq_of_lt h1, Nat.zero_add]
def DownPost (w : World) (N : Nat) (e : Ending) (w' : World) : Prop :=
  ∃ (A : Option Addr) (n c : Nat) (b : Bool), e = .returned (.tuple #[.slice A n c, .bool b]) ∧ Rd .u32 w' w.heap.size w'.heap.size A n c (digs B32 N) ∧ Below w.heap.size w w'
def DownRel (w : World) (n s q : Nat) (xs : List Nat) (u v : Value) (wr : World) : Prop :=
  ∃ (k : Nat) (out : List Nat), s ≤ k ∧ k ≤ n ∧ u = .int .i64 (k : Int) ∧ Hid (DownI q (k - s) out (xs.drop s)) ∧ Hid (OutL .u32 99 wr w.heap.size v out) ∧ Hid (Below w.heap.size w wr)
theorem getD_drop (xs : List Nat) (s j : Nat) : (xs.drop s).getD j 0 = xs.getD (s + j) 0 := by
  rw [List.getD_eq_getElem?_getD, List.getElem?_drop, ← List.getD_eq_getElem?_getD]
set_option maxRecDepth 100000 in
set_option maxHeartbeats 2000000 in
theorem down32_any (w : World) (lo hi : Nat) (A : Option Addr) (n c s q b : Nat) (xs : List Nat) (ha : Rd .u32 w lo hi A n c xs) (hxs : Small B32 xs) (hn : n ≤ 100000000) (hhi : hi ≤ w.heap.size)
    (hb : b ≤ 4000000) (hs : s = b / 32) (hq : q = b % 32) :
    Calls Tryd.prog 82 #[.slice A n c, .int .i64 (b : Int)] w (DownPost w (nval B32 xs / 2 ^ b)) := by
  have HA := Lib.hid ha; have HX := Lib.hid hxs
  have HL := Lib.hid ha.1
  have e1 : (b : Int) / 32 = (s : Int) := by omega
  have e2 : (b : Int) % 32 = (q : Int) := by omega
  have hq32 : q < 32 := by omega
  have hs32 : s ≤ 1000000 := by omega
  have HB := Lib.hid (show B32 ^ s * 2 ^ q = 2 ^ b by rw [pow32, ← Nat.pow_add]; congr 1; omega)
  clear ha hxs hs hq
  rcases Nat.lt_or_ge s n with hsn | hsn
  rotate_left
  · have hz : nval B32 xs / 2 ^ b = 0 := by
      apply Nat.div_eq_of_lt
      have h1 := nval_lt HX.out
      rw [HL.out] at h1
      have h2 : B32 ^ n ≤ B32 ^ s := Nat.pow_le_pow_right (by unfold B32; omega) hsn
      have h3 : B32 ^ s * 1 ≤ B32 ^ s * 2 ^ q := Nat.mul_le_mul_left _ (Nat.two_pow_pos q)
      have := HB.out
      omega
    have HZ := Lib.hid hz
    clear hz
    go_enter Tryd.func82, Tryd.ntmps82
    go_wp2
    go_ret2
    exact ⟨none, 0, 0, _, rfl, by rw [HZ.out, digs_zero]; exact Rd.none_, Below.refl _ _⟩
  · go_enter Tryd.func82, Tryd.ntmps82
    go_wp2
    go_loop [7, 6] (fun u v => ∃ (k : Nat) (l : Bool), k ≤ s ∧ u = .int .i64 (k : Int) ∧ v = .bool l) (fun u _ => s - (intOf u).toNat)
    case atStart => exact ⟨0, false, Nat.zero_le _, rfl, rfl⟩
    case round =>
      obtain ⟨k, l, hk, rfl, rfl⟩ := hrel
      by_cases hlt : k < s
      · obtain ⟨ad, x, hA, _, hbl, hx, hcx⟩ := HA.out.get_ (j := k) (by omega)
        subst hA
        have i1 : (0 : Int) ≤ (k : Int) := by omega
        have i2 : (k : Int) < (n : Int) := by omega
        cases l
        · go_wp2
          go_round
          case rel => exact ⟨k + 1, _, by omega, by go_num, rfl⟩
          case measure => simp [intOf]; omega
        · go_wp2
          go_round
          case rel => exact ⟨k + 1, _, by omega, by go_num, rfl⟩
          case measure => simp [intOf]; omega
      · obtain ⟨ad, x, hA, _, hbl, hx, hcx⟩ := HA.out.get_ (j := s) (by omega)
        subst hA
        have i1 : (0 : Int) ≤ (s : Int) := by omega
        have i2 : (s : Int) < (n : Int) := by omega
        have HX0 := hx
        clear hx
        have HSN := Lib.hid hsn
        obtain ⟨M, hM⟩ : ∃ M : Int, M = ((2 : Int) ^ q - 1) % 4294967296 := ⟨_, rfl⟩
        have m1 : ((2 : Int) ^ q - 1) % 4294967296 = M := hM.symm
        have m2 : IntKind.u32.wrap ((2 : Int) ^ q - 1) = M := by rw [IntKind.wrap_u32, hM]
        obtain ⟨V, hV⟩ : ∃ V : Int, V = bits .and .u32 (x : Int) M := ⟨_, rfl⟩
        have m3 : bits .and .u32 (x : Int) M = V := hV.symm
        obtain ⟨l2, hl2⟩ : ∃ l2 : Bool, l2 = (V != 0) := ⟨_, rfl⟩
        have m4 : (V != 0) = l2 := hl2.symm
        clear i1 hM hV hl2
        cases l
        all_goals
          go_wp2
          go_quiet (fail)
          go_wp2
          try rw [e2]
          try generalize Value.int IntKind.u32 ((2 : Int) ^ q % 4294967296) = va
          try generalize Value.int IntKind.u32 (((2 : Int) ^ q % 4294967296 - 1) % 4294967296) = vb
          go_loopw [9, 8] (fun u v wr => DownRel w n s q xs u v wr) (fun u _ _ => n - (intOf u).toNat)
          case atStart => exact ⟨s, [], Nat.le_refl _, by omega, rfl, Lib.hid (by rw [Nat.sub_self]; exact DownI.start), Lib.hid (OutL.nil _ _ _ _), Lib.hid (below_drewN (Below.refl _ _) _)⟩
          case round =>
            obtain ⟨k2, out, hks, hkn, rfl, hI, hO, hBw⟩ := hrel
            obtain ⟨A0, n0, c0, rfl, hn0, hrd0⟩ := hO.out.rdn
            clear hcx HX0
            by_cases hlt : k2 < n
            · obtain ⟨ad2, x2, hA, _, hbl2, hx2, hcx0⟩ := HA.out.get_ (j := k2) hlt
              obtain rfl : ad = ad2 := by injection hA
              have hcx : wr.cell? (ad.add k2) = some (.int .u32 (x2 : Int)) := by rw [← hcx0]; exact hBw.out.cell (by rw [block_of_add]; omega)
              have hxB := HX.out.get hx2.out
              have hyB := getD_lt HX.out (by unfold B32; omega) (k2 + 1)
              have hdig : ∀ (W : World) (t : Int), Rd .u32 W lo hi (some ad) n c xs → t = (k2 : Int) + 1 → Calls Tryd.prog 86 #[.slice (some ad) n c, .int .i64 t] W fun e w' => e = .returned (.int .u64 ((xs.getD (k2 + 1) 0 : Nat) : Int)) ∧ W = w' := by
                rintro W t h rfl
                exact digit_any W lo hi (some ad) n c (k2 + 1) xs h HX.out
              have hb1 := Lib.hid (HA.out.below (hBw.out.mono hhi))
              have hstep := fun z T d => hI.out.step (z := z) (T := T) (d := d) hq32
              rw [getD_drop, getD_drop, show s + (k2 - s) = k2 by omega, show s + (k2 - s + 1) = k2 + 1 by omega, getD_of hx2.out, show k2 - s + 1 = k2 + 1 - s by omega] at hstep
              have hlen := hI.out.1
              generalize xs.getD (k2 + 1) 0 = y at *
              have z0 := u64_of32 x2 hxB
              obtain ⟨z1, z2⟩ := pair_word x2 y hxB hyB
              unfold B32 at hxB hyB
              obtain ⟨yy, hyy⟩ : ∃ yy, yy = y * 4294967296 := ⟨_, rfl⟩
              obtain ⟨z, hz⟩ : ∃ z, z = x2 + 4294967296 * y := ⟨_, rfl⟩
              have hzB : z < 18446744073709551616 := by omega
              rw [← hyy] at z1 z2
              rw [← hz] at z2
              obtain ⟨T, hT⟩ : ∃ T, T = z / 2 ^ q := ⟨_, rfl⟩
              have z3 : (z : Int) / 2 ^ q = (T : Int) := by rw [hT]; simp
              have hTB : T < 18446744073709551616 := by
                have := Nat.div_le_self z (2 ^ q)
                omega
              have z4 := mask32 T hTB
              obtain ⟨d, hd⟩ : ∃ d, d = T % 4294967296 := ⟨_, rfl⟩
              rw [← hd] at z4
              have z5 : IntKind.u32.wrap (d : Int) = (d : Int) := by rw [IntKind.wrap_u32]; omega
              have hI2 := Lib.hid (hstep z T d hxB hz hT hd)
              obtain ⟨v', w', hrun, hO', hB'⟩ := out32 wr.drew w.heap.size _ _ [d] hO.out.drew_ hBw.out.size (by rw [hlen]; simp; omega)
              have HR := Lib.hid (show (Builtin.append_ #[86, 86] 86 #[.slice A0 n0 c0, .slice (some ⟨wr.heap.size, 0, none⟩) 1 1]).run Tryd.prog ((wr.alloc (.cells #[.int .u32 (d : Int)] 99)).drew) = .ok v' w' from hrun)
              have HO2 := Lib.hid hO'; have HB2 := Lib.hid (hBw.out.trans (show Below w.heap.size wr w' from ⟨hB'.os, hB'.tape, hB'.output, hB'.size, hB'.block⟩))
              have HC := Lib.hid hdig
              have i1 : (0 : Int) ≤ (k2 : Int) := by omega
              have i3 : (k2 : Int) < (n : Int) := by omega
              have j1 : IntKind.i64.wrap ((k2 : Int) + 1) = (k2 : Int) + 1 := IntWalk.i64_in _ (by omega)
              clear hcx0 hdig hstep hlen hrun hO' hB' hyy hz hT hd hxB hyB hzB hTB hA
              go_wp2
              go_region_with (go_at_call 86; refine (HC.out _ _ ?_ ?_).mono ?_; (exact hb1.out); (first | rfl | omega); rintro _ w3 ⟨rfl, rfl⟩)
              all_goals
                go_wp2_with (at_builtin; refine wpList_append_run rfl (.tmp 66) (.tmp 73) _ rfl _ _ _ _ rfl rfl HR.out ?_)
                go_roundw
                case rel => exact ⟨k2 + 1, _, by omega, by omega, by go_num, hI2, HO2, HB2⟩
                case measure => simp [intOf]; omega
            · obtain rfl : k2 = n := by omega
              have hN := hI.out.done (by rw [List.length_drop]; have := HL.out; omega)
              rw [nval_drop B32_two HX.out s (by have := HL.out; omega), Nat.div_div_eq_div_mul, HB.out] at hN
              have HN := Lib.hid hN
              have hlen : n0 ≤ k2 := by rw [← hn0.out, hI.out.1]; omega
              clear hN
              go_wp2_with fail
              refine (trim32_any wr w.heap.size wr.heap.size A0 n0 c0 out hrd0.out hI.out.2.1 (by omega)).mono ?_
              rintro e w' ⟨A3, c3, rfl, rfl, hA3, hc3⟩
              have hfin := hrd0.out.trim hI.out.2.1 hA3 hc3
              rw [HN.out] at hfin
              have HF := Lib.hid hfin
              clear hfin hA3 hc3
              go_wp2
              go_ret2
              exact ⟨_, _, _, _, rfl, HF.out, hBw.out⟩
end Go.Proofs.YtpacpmmdjmnamaaDoor
namespace Go.Proofs.YtpacpmmdjmnamaaDoor
open Go.RowKit Nx
end Go.Proofs.YtpacpmmdjmnamaaDoor
namespace Go.Proofs.YtpacpmmdjmnamaaDoor
open Go.RowKit Nx
section
variable {W : World} {A B : Option Addr} {n c m d X Y k l : Nat}
end
end Go.Proofs.YtpacpmmdjmnamaaDoor
