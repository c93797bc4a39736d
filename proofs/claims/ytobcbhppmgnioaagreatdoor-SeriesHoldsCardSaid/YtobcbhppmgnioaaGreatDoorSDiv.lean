/- math/bits.LeadingZeros64. Plain arithmetic: a quotient of two words by one, a half word at a time. No program stands in it. math/bits.Div64: the quotient. Plain arithmetic: long division in words. No program stands in it. -/
import Derived.Test.YtobcbhppmgnioaaGreatDoorSNatB
import Derived.Test.YtobcbhppmgnioaaGreatDoorSNatA
import Derived.LoopTactic
import Derived.Deep.QuietTactic
import Derived.BigQuiet
import Derived.Deep.DeepCutAuto
import Derived.Deep.CutBlock
import Derived.Test.YtobcbhppmgnioaaGreatDoorSNat1
namespace Go.Proofs.YtobcbhppmgnioaaGreatDoor
open Go.RowKit Nx
end Go.Proofs.YtobcbhppmgnioaaGreatDoor
namespace Go.Proofs.YtobcbhppmgnioaaGreatDoor.Nx
structure Guess (b Y y1 y0 U n q r : Nat) : Prop where
 hY : Y = y1 * b + y0
 h0 : y0 < b
 hr : q * y1 + r = U
 hn : n < b
 hU : U < Y
 up : (U * b + n) / Y ≤ q
theorem Guess.full {b Y y1 y0 U n q r : Nat} (g : Guess b Y y1 y0 U n q r) : q * Y + b * r = U * b + q * y0 := by
 rw [g.hY, ← g.hr]; grind
theorem Guess.lt {b Y y1 y0 U n q r : Nat} (g : Guess b Y y1 y0 U n q r) : (U * b + n) / Y < b := by
 have h1 := g.hU; have h2 := g.hn
 rw [Nat.div_lt_iff_lt_mul (by omega)]
 have : b * (U + 1) ≤ b * Y := Nat.mul_le_mul_left b h1
 rw [Nat.mul_add] at this
 rw [Nat.mul_comm U b]; omega
theorem Guess.done {b Y y1 y0 U n q r : Nat} (g : Guess b Y y1 y0 U n q r) (h : q * y0 ≤ b * r + n) : (U * b + n) / Y = q := by
 have h1 := g.full; have h2 := g.up; have h3 := g.hU
 have : q ≤ (U * b + n) / Y := by
  rw [Nat.le_div_iff_mul_le (by omega)]; omega
 omega
theorem Guess.first {b Y y1 y0 U n : Nat} (hY : Y = y1 * b + y0) (h0 : y0 < b) (hn : n < b) (hU : U < Y) (hy : 0 < y1) : Guess b Y y1 y0 U n (U / y1) (U % y1) := by
 refine ⟨hY, h0, Nat.div_add_mod' U y1, hn, hU, ?_⟩
 have hb : 0 < b := by omega
 have h1 : (U * b + n) / Y ≤ (U * b + n) / (y1 * b) := Nat.div_le_div_left (by omega) (Nat.mul_pos hy hb)
 have h2 : (U * b + n) / (y1 * b) = U / y1 := by
  rw [Nat.mul_comm y1 b, ← Nat.div_div_eq_div_mul, Nat.mul_comm U b, Nat.mul_add_div hb, Nat.div_eq_of_lt hn, Nat.add_zero]
 omega
end Go.Proofs.YtobcbhppmgnioaaGreatDoor.Nx
namespace Go.Proofs.YtobcbhppmgnioaaGreatDoor
open Go.RowKit Nx
end Go.Proofs.YtobcbhppmgnioaaGreatDoor
namespace Go.Proofs.YtobcbhppmgnioaaGreatDoor.Nx
def RedI (B n k c b f : Nat) (cur seg ys : List Nat) : Prop :=
 cur.length = n ∧ Small B cur ∧ cur.drop k = seg.drop k ∧ nval B (cur.take k) + f * nval B (ys.take k) = nval B (seg.take k) + B ^ k * (c + b)
theorem RedI.start {B n f : Nat} {seg ys : List Nat} (hn : seg.length = n) (hs : Small B seg) : RedI B n 0 0 0 f seg seg ys := ⟨hn, hs, rfl, by simp [nval]⟩
theorem RedI.step {B n k c b f x y v l c' b' : Nat} {cur seg ys : List Nat} (h : RedI B n k c b f cur seg ys) (hx : cur[k]? = some x) (hy : ys.getD k 0 = y) (hv : v < B) (he : v + l + b = x + B * b') (hm : l + B * c' = y * f + c) :
  RedI B n (k + 1) c' b' f (cur.set k v) seg ys := by
 obtain ⟨h1, h2, h3, h4⟩ := h
 have hk := lt_of_get hx
 refine ⟨by simpa using h1, h2.set k hv, by rw [drop_set_succ]; exact drop_succ_of h3, ?_⟩
 rw [nval_take_succ, nval_take_succ, nval_take_succ, take_set_same, getD_set _ _ _ hk, getD_of (get_drop h3 hx), hy, Nat.pow_succ]
 generalize nval B (cur.take k) = a at *
 generalize nval B (seg.take k) = s at *
 generalize nval B (ys.take k) = e at *
 generalize B ^ k = P at *
 have e1 : P * (v + l + b) = P * (x + B * b') := by rw [he]
 have e2 : P * (l + B * c') = P * (y * f + c) := by rw [hm]
 have e3 : f * (e + P * y) = f * e + P * (y * f) := by grind
 rw [e3]
 have e4 : P * B * (c' + b') = P * (B * c') + P * (B * b') := by grind
 rw [e4]
 simp only [Nat.mul_add] at e1 e2 h4 ⊢
 omega
theorem RedI.done {B m c b f x v b' : Nat} {cur seg ys : List Nat} (h : RedI B (m + 1) m c b f cur seg ys) (hn : seg.length = m + 1) (hm : ys.length = m) (hx : cur[m]? = some x) (he : v + c + b = x + B * b') :
  nval B (cur.set m v) + f * nval B ys = nval B seg + B ^ (m + 1) * b' := by
 obtain ⟨h1, h2, h3, h4⟩ := h
 have hk := lt_of_get hx
 rw [List.take_of_length_le (l := ys) (by omega)] at h4
 have e1 : nval B (cur.set m v) = nval B (cur.take m) + B ^ m * v := by
  have := nval_take_succ B (cur.set m v) m
  rw [List.take_of_length_le (by simp; omega), take_set_same, getD_set _ _ _ hk] at this; exact this
 have e2 : nval B seg = nval B (seg.take m) + B ^ m * x := by
  have := nval_take_succ B seg m
  rw [List.take_of_length_le (by omega), getD_of (get_drop h3 hx)] at this; exact this
 rw [e1, e2, Nat.pow_succ]
 have e3 : B ^ m * (v + c + b) = B ^ m * (x + B * b') := by rw [he]
 have e4 : B ^ m * B * b' = B ^ m * (B * b') := by grind
 rw [e4]
 simp only [Nat.mul_add] at e3 h4 ⊢
 omega
def QuoI (P D M wd bo V : Nat) : Prop := V + wd * D = P + M * bo ∧ bo ≤ 1 ∧ P / D ≤ wd ∧ V < M
theorem QuoI.done {P D M wd V : Nat} (hD : 0 < D) (h : QuoI P D M wd 0 V) : wd = P / D ∧ V = P % D := by
 obtain ⟨h1, _, h3, _⟩ := h
 have h4 : wd ≤ P / D := by rw [Nat.le_div_iff_mul_le hD]; omega
 have h5 : wd = P / D := by omega
 refine ⟨h5, ?_⟩
 have := Nat.div_add_mod' P D
 rw [← h5] at this; omega
end Go.Proofs.YtobcbhppmgnioaaGreatDoor.Nx
namespace Go.Proofs.YtobcbhppmgnioaaGreatDoor
open Go.RowKit Nx
theorem Seg.rd {k : IntKind} {w : World} {g : Nat} {t : TypeId} {pre seg post : List Nat} (h : Seg k w g t pre seg post) {lo hi o n c : Nat} (ho : pre.length = o) (hn : seg.length = n) (hl : lo ≤ g) (hh : g < hi) (hc : n ≤ c) :
  Rd k w lo hi (some ⟨g, o, none⟩) n c seg := by
 have := Row.rd (zs := pre ++ seg ++ post) h (lo := lo) (hi := hi) (o := o) (n := n) (c := c) hl hh (by simp; omega) hc
 subst ho; subst hn
 rw [List.append_assoc, List.drop_left, List.take_left] at this
 exact this
def GuessPost (w : World) (q : Nat) (e : Ending) (w' : World) : Prop := ∃ wd m : Nat, e = .returned (.int .u64 (wd : Int)) ∧ w' = w.drewN m ∧ wd < B64 ∧ q ≤ wd
theorem GuessPost.of {w w' : World} {q : Nat} {e : Ending} (wd : Nat) (he : e = .returned (.int .u64 (wd : Int))) (h : ∃ m, w' = w.drewN m) (h1 : wd < B64) (h2 : q ≤ wd) : GuessPost w q e w' := by
 obtain ⟨m, hm⟩ := h; exact ⟨wd, m, he, hm, h1, h2⟩
end Go.Proofs.YtobcbhppmgnioaaGreatDoor
namespace Go.Proofs.YtobcbhppmgnioaaGreatDoor
open Go.RowKit Nx
end Go.Proofs.YtobcbhppmgnioaaGreatDoor
namespace Go.Proofs.YtobcbhppmgnioaaGreatDoor
open Go.RowKit Nx
end Go.Proofs.YtobcbhppmgnioaaGreatDoor
namespace Go.Proofs.YtobcbhppmgnioaaGreatDoor.Nx
def DivJ (B n m k X D : Nat) (R Q : List Nat) : Prop :=
 R.length = n + 1 ∧ Q.length = n - m + 1 ∧ Small B R ∧ Small B Q ∧ nval B R + D * (B ^ (n - m + 1 - k) * nval B (Q.drop (n - m + 1 - k))) = X ∧ nval B (R.drop (n - m + 1 - k)) < D
theorem nval_drop {B : Nat} {xs : List Nat} (h : Small B xs) (k : Nat) (hk : k ≤ xs.length) : nval B (xs.drop k) = nval B xs / B ^ k := by
 have h1 := nval_split B xs k hk
 have h2 := nval_lt (h.take k)
 rw [List.length_take, Nat.min_eq_left hk] at h2
 rw [h1, Nat.add_mul_div_left _ _ (by omega), Nat.div_eq_of_lt h2, Nat.zero_add]
theorem DivJ.start {B n m X Y D g : Nat} {R : List Nat} (hB : 2 ≤ B) (hmn : m ≤ n) (hm : 0 < m) (hX : X < B ^ n) (hY : B ^ (m - 1) ≤ Y) (hD : D = Y * 2 ^ g) (hR : R.length = n + 1) (hRs : Small B R) (hRv : nval B R = X * 2 ^ g) :
  DivJ B n m 0 (X * 2 ^ g) D R (List.replicate (n - m + 1) 0) := by
 refine ⟨hR, by simp, hRs, small_replicate (by omega), ?_, ?_⟩
 ·rw [List.drop_of_length_le (by simp)]; simp [nval, hRv]
 ·rw [nval_drop hRs _ (by omega), hRv, hD, Nat.sub_zero]
  rw [Nat.div_lt_iff_lt_mul (Nat.pow_pos (by omega))]
  have h1 : B ^ (m - 1) * B ^ (n - m + 1) = B ^ n := by rw [← Nat.pow_add]; congr 1; omega
  have h2 : B ^ (m - 1) * B ^ (n - m + 1) ≤ Y * B ^ (n - m + 1) := Nat.mul_le_mul_right _ hY
  have h3 : X < Y * B ^ (n - m + 1) := by omega
  have h4 : X * 2 ^ g < Y * B ^ (n - m + 1) * 2 ^ g := Nat.mul_lt_mul_of_pos_right h3 (Nat.two_pow_pos g)
  rw [Nat.mul_right_comm] at h4
  exact h4
theorem DivJ.parts {B n m k j X D : Nat} {R Q : List Nat} (hB : 2 ≤ B) (h : DivJ B n m k X D R Q) (hk : k < n - m + 1) (hj : j = n - m - k) (hmn : m ≤ n) (hDm : D < B ^ m) :
  ∃ pre seg post : List Nat, R = pre ++ seg ++ post ∧ pre.length = j ∧ seg.length = m + 1 ∧ Small B seg ∧ nval B seg < B * D ∧
   ∀ out : List Nat, out.length = m + 1 → Small B out → nval B out = nval B seg % D → nval B seg / D < B → DivJ B n m (k + 1) X D (pre ++ out ++ post) (Q.set j (nval B seg / D)) := by
 obtain ⟨h1, h2, h3, h4, h5, h6⟩ := h
 have e1 : n - m + 1 - k = j + 1 := by omega
 have e2 : n - m + 1 - (k + 1) = j := by omega
 rw [e1] at h5 h6
 have hD0 : 0 < D := by omega
 have hpost : nval B (R.drop (j + m + 1)) = 0 := by
  have a1 := nval_drop (h3.drop (j + 1)) m (by simp; omega)
  rw [List.drop_drop, show j + 1 + m = j + m + 1 by omega] at a1
  rw [a1]; exact Nat.div_eq_of_lt (by omega)
 have hsp := nval_split B (R.drop j) (m + 1) (by simp; omega)
 rw [List.drop_drop, show j + (m + 1) = j + m + 1 by omega, hpost, Nat.mul_zero, Nat.add_zero] at hsp
 have hseg : nval B (R.drop j) < B * D := by
  have a2 : R.drop j = R.getD j 0 :: R.drop (j + 1) := by
   rw [List.drop_eq_getElem_cons (by omega)]; simp [List.getD_eq_getElem?_getD, List.getElem?_eq_getElem (show j < R.length by omega)]
  rw [a2, nval]
  have a3 := getD_lt h3 (by omega) j
  have a4 : B * (nval B (R.drop (j + 1)) + 1) ≤ B * D := Nat.mul_le_mul_left _ h6
  rw [Nat.mul_add] at a4; omega
 refine ⟨R.take j, (R.drop j).take (m + 1), R.drop (j + m + 1), ?_, by simp; omega, by simp; omega, (h3.drop j).take _, by rw [← hsp]; exact hseg, ?_⟩
 ·rw [List.append_assoc, show R.drop (j + m + 1) = (R.drop j).drop (m + 1) by rw [List.drop_drop, Nat.add_assoc], List.take_append_drop, List.take_append_drop]
 ·intro out g1 g2 g3 g4
  have hdm := Nat.div_add_mod' (nval B ((R.drop j).take (m + 1))) D
  rw [← g3] at hdm
  have hlt : nval B out < D := by rw [g3]; exact Nat.mod_lt _ hD0
  have hRj := nval_split B R j (by omega)
  rw [hsp] at hRj
  have l1 : (R.take j).length = j := by simp; omega
  generalize nval B ((R.drop j).take (m + 1)) / D = q at *
  have hQ : (Q.set j q).drop j = q :: Q.drop (j + 1) := by
   rw [List.drop_eq_getElem_cons (by simp; omega)]; simp [List.drop_set]
  have hR' : nval B (R.take j ++ out ++ R.drop (j + m + 1)) = nval B (R.take j) + B ^ j * nval B out := by
   rw [List.append_assoc, nval_append, nval_append, hpost, l1, Nat.mul_zero, Nat.add_zero]
  have hRd : (R.take j ++ out ++ R.drop (j + m + 1)).drop j = out ++ R.drop (j + m + 1) := by
   rw [List.append_assoc, List.drop_append, l1, Nat.sub_self, List.drop_zero, List.drop_of_length_le (by omega), List.nil_append]
  refine ⟨by simp; omega, by simpa using h2, ((h3.take j).append g2).append (h3.drop _), h4.set j g4, ?_, ?_⟩
  ·rw [e2, hQ, hR', nval, ← h5, hRj, ← hdm, Nat.pow_succ]
   generalize nval B (R.take j) = a at *
   generalize nval B (Q.drop (j + 1)) = b at *
   generalize nval B out = o at *
   generalize B ^ j = P at *
   clear h5 hRj hdm hR' hseg hsp g3 h6 hlt
   grind
  ·rw [e2, hRd, nval_append, hpost, Nat.mul_zero, Nat.add_zero]; exact hlt
theorem DivJ.done {B n m X Y D g : Nat} {R Q : List Nat} (h : DivJ B n m (n - m + 1) (X * 2 ^ g) D R Q) (hD : D = Y * 2 ^ g) (hY : 0 < Y) :
  nval B Q = X / Y ∧ nval B R = X % Y * 2 ^ g := by
 obtain ⟨_, _, _, _, h5, h6⟩ := h
 rw [Nat.sub_self] at h5 h6
 rw [List.drop_zero, Nat.pow_zero, Nat.one_mul] at h5
 rw [List.drop_zero] at h6
 have hD0 : 0 < D := by rw [hD]; exact Nat.mul_pos hY (Nat.two_pow_pos g)
 have q1 : X * 2 ^ g / D = nval B Q := by rw [← h5, Nat.add_mul_div_left _ _ hD0, Nat.div_eq_of_lt h6, Nat.zero_add]
 have q2 : X * 2 ^ g % D = nval B R := by rw [← h5, Nat.add_mul_mod_self_left, Nat.mod_eq_of_lt h6]
 constructor
 ·rw [← q1, hD, Nat.mul_div_mul_right _ _ (Nat.two_pow_pos g)]
 ·rw [← q2, hD, Nat.mul_mod_mul_right]
end Go.Proofs.YtobcbhppmgnioaaGreatDoor.Nx
namespace Go.Proofs.YtobcbhppmgnioaaGreatDoor
open Go.RowKit Nx
end Go.Proofs.YtobcbhppmgnioaaGreatDoor
namespace Go.Proofs.YtobcbhppmgnioaaGreatDoor
open Go.RowKit Nx
end Go.Proofs.YtobcbhppmgnioaaGreatDoor
namespace Go.Proofs.YtobcbhppmgnioaaGreatDoor
open Go.RowKit Nx
section
variable {W : World} {A B : Option Addr} {n c m d X Y k l : Nat}
end
end Go.Proofs.YtobcbhppmgnioaaGreatDoor
