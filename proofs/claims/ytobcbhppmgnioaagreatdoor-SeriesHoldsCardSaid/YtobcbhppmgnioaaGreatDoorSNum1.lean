/- num.Right and fathomlineref1.Right. num.Same and fathomlineref1.Same. num.dropLow, num.Make. -/
import Derived.Test.YtobcbhppmgnioaaGreatDoorSNat1
import Derived.Test.YtobcbhppmgnioaaGreatDoorSNatA
import Derived.Laws.BitsAllLaws
import Derived.Deep.RegionHeld3
namespace Go.Proofs.YtobcbhppmgnioaaGreatDoor
set_option maxHeartbeats 1000000
set_option maxRecDepth 100000
open Go.RowKit Nx
section
def okb (s : Bool) (e : Int) (n : Nat) (xs : List Nat) : Bool :=
 if n = 0 then (e == 0) && !s else decide (xs.getD (n - 1) 0 ≠ 0) && decide (n ≤ 64) && decide (xs.getD 0 0 % 2 = 1) && decide (-65536 ≤ e) && decide (e ≤ 65536)
def BoolPost (w : World) (b : Bool) (e : Ending) (w' : World) : Prop := e = .returned (.bool b) ∧ Below w.heap.size w w'
theorem BoolPost.of {w w' : World} {b b' : Bool} {e : Ending} (he : e = .returned (.bool b')) (hb : b' = b) (h : Below w.heap.size w w') : BoolPost w b e w' := ⟨by rw [he, hb], h⟩
theorem low_bit64 (y : Nat) (h : y < B64) : bits .and .u64 (y : Int) 1 = ((y % 2 : Nat) : Int) := by
 have := u64_and_nat y 1 h (by omega)
 rw [Nat.and_one_is_mod] at this
 exact this
theorem okb_none (s : Bool) (e : Int) (xs : List Nat) : okb s e 0 xs = ((e == 0) && !s) := rfl
theorem okb_some {s : Bool} {e : Int} {n x y : Nat} {xs : List Nat} (h : 0 < n) (hx : xs[0]? = some x) (hy : xs[n - 1]? = some y) :
  okb s e n xs = (decide (y ≠ 0) && decide (n ≤ 64) && decide (x % 2 = 1) && decide (-65536 ≤ e) && decide (e ≤ 65536)) := by
 unfold okb; rw [if_neg (by omega), getD_of hx, getD_of hy]
theorem nright_any (w : World) (s : Bool) (e : Int) (A : Option Addr) (n c : Nat) (xs : List Nat) (ha : Arg w A n c xs) (hn : n ≤ 100000) :
  Calls Tryz.prog 55 #[.agg #[.bool s, .int .i64 e, .slice A n c]] w (BoolPost w (okb s e n xs)) := by
 have HA := Lib.hid ha
 clear ha
 rcases Nat.eq_zero_or_pos n with e0 | e0
 ·subst e0
  rw [okb_none]
  go_enter Tryz.func55, Tryz.ntmps55
  by_cases he : e = 0
  ·subst he
   go_wp2
   go_ret
   exact ⟨by simp, one_below _ _⟩
  ·have f1 : (e == 0) = false := by simpa using he
   go_wp2
   go_ret
   exact ⟨by simp [f1], one_below _ _⟩
 ·obtain ⟨ad, x, hA, hl0, hlt, hx, hcx⟩ := HA.out.1.get_ (j := 0) (by omega)
  subst hA
  obtain ⟨y, hy⟩ : ∃ y, xs[n - 1]? = some y := ⟨_, List.getElem?_eq_getElem (by have := HA.out.1.1; omega)⟩
  have hcx' : w.cell? ad = some (.int .u64 (x : Int)) := by rw [← hcx]; congr 1
  have f3 := low_bit64 x (HA.out.2.get hx.out)
  have hr := right_any (w.alloc (.cells #[.bool s, .int .i64 e, .slice (some ad) n c] 26)) 0 _ (some ad) n c xs ((HA.out.1.alloc (Nat.le_refl _) _)) (by omega)
  rw [getD_of hy] at hr
  rw [okb_some e0 hx.out hy]
  have f0 : ((n : Int) == 0) = false := by simp; omega
  have HR := Lib.hid hr
  clear hr hy hx HA hcx
  go_enter Tryz.func55, Tryz.ntmps55
  go_wp2_with fail
  refine HR.out.mono ?_
  rintro _ w' ⟨rfl, rfl⟩
  clear HR
  by_cases c1 : y ≠ 0
  ·rw [show decide (n = 0 ∨ y ≠ 0) = true from decide_eq_true (.inr c1)]
   by_cases c3 : x % 2 = 1
   ·rw [c3] at f3
    go_wp2
    all_goals (go_ret; exact BoolPost.of rfl (by simp [c1, c3]; omega) (one_below _ _))
   ·rw [show x % 2 = 0 by omega] at f3
    go_wp2
    all_goals (go_ret; exact BoolPost.of rfl (by simp [c3]) (one_below _ _))
  ·rw [show decide (n = 0 ∨ y ≠ 0) = false from decide_eq_false (by omega)]
   go_wp2
   go_ret
   exact BoolPost.of rfl (by simp [c1]) (one_below _ _)
theorem rright_any (w : World) (s : Bool) (e : Int) (A : Option Addr) (n c : Nat) (xs : List Nat) (ha : Arg w A n c xs) (hn : n ≤ 100000) :
  Calls Tryz.prog 117 #[.agg #[.bool s, .int .i64 e, .slice A n c]] w (BoolPost w (okb s e n xs)) := by
 have HA := Lib.hid ha
 clear ha
 rcases Nat.eq_zero_or_pos n with e0 | e0
 ·subst e0
  rw [okb_none]
  go_enter Tryz.func117, Tryz.ntmps117
  cases s
  ·go_wp2
   go_ret
   exact ⟨by simp, one_below _ _⟩
  ·go_wp2
   go_ret
   exact ⟨by simp, one_below _ _⟩
 ·obtain ⟨ad, x, hA, hl0, hlt, hx, hcx⟩ := HA.out.1.get_ (j := 0) (by omega)
  subst hA
  obtain ⟨ad', y, hA, _, _, hy, hcy⟩ := HA.out.1.get_ (j := n - 1) (by omega)
  cases hA
  have hcx' : w.cell? ad = some (.int .u64 (x : Int)) := by rw [← hcx]; congr 1
  have f3 := low_bit64 x (HA.out.2.get hx.out)
  rw [okb_some e0 hx.out hy.out]
  have f0 : ((n : Int) == 0) = false := by simp; omega
  have i3 : ((n : Int) - 1).toNat = n - 1 := by omega
  have i1 : (0 : Int) ≤ (n : Int) - 1 := by omega
  have i2 : (n : Int) - 1 < (n : Int) := by omega
  have hyb : (ad.add (n - 1)).block < w.heap.size := by rw [block_of_add]; exact hlt
  clear hy hx HA hcx
  go_enter Tryz.func117, Tryz.ntmps117
  by_cases c2 : n ≤ 64
  ·by_cases c1 : y ≠ 0
   ·have f1 : ((y : Int) != 0) = true := by simp; omega
    by_cases c3 : x % 2 = 1
    ·rw [c3] at f3
     go_wp2
     all_goals (go_ret; exact BoolPost.of rfl (by simp [c1, c2, c3]; omega) (one_below _ _))
    ·rw [show x % 2 = 0 by omega] at f3
     go_wp2
     all_goals (go_ret; exact BoolPost.of rfl (by simp [c3]) (one_below _ _))
   ·have f1 : ((y : Int) != 0) = false := by simp; omega
    go_wp2
    all_goals (go_ret; exact BoolPost.of rfl (by simp [c1]) (one_below _ _))
  ·go_wp2
   all_goals (go_ret; exact BoolPost.of rfl (by simp) (one_below _ _))
def SmRel (w : World) (n : Nat) (xs ys : List Nat) (u : Value) (wr : World) : Prop := ∃ k m : Nat, k ≤ n ∧ u = .int .i64 (k : Int) ∧ wr = w.drewN m ∧ Hid (xs.take k = ys.take k)
theorem SmRel.of {w wr : World} {n : Nat} {xs ys : List Nat} {u : Value} (k : Nat) (hk : k ≤ n) (hu : u = .int .i64 (k : Int)) (h : ∃ m, wr = w.drewN m) (hI : Hid (xs.take k = ys.take k)) : SmRel w n xs ys u wr := by
 obtain ⟨m, hm⟩ := h; exact ⟨k, m, hk, hu, hm, hI⟩
theorem Rd.drop_ {k : IntKind} {w : World} {lo hi n c m : Nat} {ad : Addr} {xs : List Nat} (h : Rd k w lo hi (some ad) n c xs) (hm : m ≤ n) : Rd k w lo hi (some (ad.add m)) (n - m) (c - m) (xs.drop m) := by
 refine ⟨by rw [List.length_drop, h.1], by have := h.2.1; omega, fun hn => ?_⟩
 obtain ⟨ad', e, hl, hb, hc⟩ := h.2.2 (by omega)
 cases e
 refine ⟨_, rfl, by rw [block_of_add]; exact hl, by rw [block_of_add]; exact hb, fun j u hu => ?_⟩
 rw [add_of_add]
 exact hc (m + j) u (by rw [List.getElem?_drop] at hu; exact hu)
theorem nval_tail {B : Nat} {xs : List Nat} (hB : 2 ≤ B) (hs : Small B xs) (s : Nat) (h : s ≤ xs.length) : nval B (xs.drop s) = nval B xs / B ^ s := by
 have h1 := nval_split B xs s h
 have h2 := nval_lt (hs.take s)
 rw [List.length_take, Nat.min_eq_left h] at h2
 have hp : 0 < B ^ s := Nat.pow_pos (by omega)
 rw [h1, Nat.add_mul_div_left _ _ hp, Nat.div_eq_of_lt h2, Nat.zero_add]
theorem drop_any (W : World) (A : Option Addr) (n c z : Nat) (xs : List Nat) (ha : Arg W A n c xs) (hk : n ≤ 100000) (hz : z / 64 < n) :
  Calls Tryz.prog 150 #[.slice A n c, .int .i64 (z : Int)] W (NumPost W (nval B64 xs / 2 ^ z)) := by
 obtain ⟨ad, hA, _, hlt, _⟩ := ha.1.2.2 (by omega)
 subst hA
 have hnc := ha.1.2.1
 have HA := Lib.hid ha
 clear ha
 have hv : shv (nval B64 (xs.drop (z / 64))) (-((z : Int) % 64)) = nval B64 xs / 2 ^ z := by
  have hp : nval B64 xs / 2 ^ z = nval B64 (xs.drop (z / 64)) / 2 ^ (z % 64) := by
   rw [nval_tail B64_two HA.out.2 _ (by have := HA.out.1.1; omega), pow64, Nat.div_div_eq_div_mul, ← Nat.pow_add]
   congr 2; omega
  rw [hp]
  rcases Nat.eq_zero_or_pos (z % 64) with e | e
  ·rw [e, shv_up (b := 0) (by omega)]; simp
  ·exact shv_down (b := z % 64) (by omega) e
 have HD := Lib.hid (shift_any W 0 _ _ _ _ (-((z : Int) % 64)) _ (HA.out.1.drop_ (m := z / 64) (by omega)) (HA.out.2.drop _) (by omega) (Nat.le_refl _))
 rw [hv] at HD
 clear HA hv
 generalize nval B64 xs / 2 ^ z = R at *
 go_enter Tryz.func150, Tryz.ntmps150
 go_wp2_with fail
 refine HD.out.mono ?_
 rintro _ w' ⟨A', n', c', rfl, h1, h2, h3⟩
 go_wp2
 go_ret
 exact ⟨A', n', c', rfl, h1, h2, h3⟩
def NumV (lo : Nat) (w : World) (v : Value) (q : Q) : Prop := ∃ (A : Option Addr) (n c : Nat), v = .agg #[.bool q.s, .int .i64 q.e, .slice A n c] ∧ Rd .u64 w lo w.heap.size A n c (digs B64 q.m)
theorem rd_nextlo {k : IntKind} {W W' : World} {lo n c : Nat} {A : Option Addr} {xs : List Nat} (h : Rd k W lo W.heap.size A n c xs) (h' : Below W.heap.size W W') : Rd k W' lo W'.heap.size A n c xs := (h.below h').more h'.size
theorem NumV.step {lo : Nat} {w w' : World} {v : Value} {q : Q} (h : NumV lo w v q) (hb : Below w.heap.size w w') : NumV lo w' v q := by
 obtain ⟨A, n, c, e, h1⟩ := h; exact ⟨A, n, c, e, rd_nextlo h1 hb⟩
theorem NumV.low {lo lo' : Nat} {w : World} {v : Value} {q : Q} (h : NumV lo w v q) (hb : lo' ≤ lo) : NumV lo' w v q := by
 obtain ⟨A, n, c, e, h1⟩ := h; exact ⟨A, n, c, e, h1.less hb⟩
def put3 (w : World) (g : Nat) (x y z : Value) : World := ((w.setCell ⟨g, 0, none⟩ x).setCell ⟨g, 1, none⟩ y).setCell ⟨g, 2, none⟩ z
theorem size_put3 (w : World) (g : Nat) (x y z : Value) : (put3 w g x y z).heap.size = w.heap.size := by simp [put3]
theorem Blk.putted {w : World} {g : Nat} {t : TypeId} {a b c : Value} (h : Blk w g t #[a, b, c]) (x y z : Value) : Blk (put3 w g x y z) g t #[x, y, z] := by
 have := ((h.set_ 0 x).set_ 1 y).set_ 2 z
 unfold put3
 simpa using this
theorem Rd.putted {k : IntKind} {w : World} {lo hi g n c : Nat} {A : Option Addr} {xs : List Nat} (h : Rd k w lo hi A n c xs) (hg : g < lo ∨ hi ≤ g) (x y z : Value) : Rd k (put3 w g x y z) lo hi A n c xs :=
 ⟨h.1, h.2.1, fun hn => by
  obtain ⟨ad, e, hl, hb, hc⟩ := h.2.2 hn
  refine ⟨ad, e, hl, hb, fun j u hu => ?_⟩
  rw [← hc j u hu]
  have hne : ∀ i, (ad.add j) ≠ ⟨g, i, none⟩ := fun i e => by have := congrArg Addr.block e; rw [block_of_add] at this; simp at this; omega
  unfold put3
  rw [World.cell?_setCell_other _ _ _ _ (hne 2).symm, World.cell?_setCell_other _ _ _ _ (hne 1).symm, World.cell?_setCell_other _ _ _ _ (hne 0).symm]⟩
theorem below_put3 {B : Nat} {w w2 : World} {g : Nat} (h : Below B w w2) (hg : B ≤ g) (x y z : Value) : Below B w (put3 w2 g x y z) := by
 unfold put3
 exact ((h.setCell hg _).setCell hg _).setCell hg _
def Fits (q : Q) : Prop := q.m < B64 ^ 64 ∧ -65536 ≤ q.e ∧ q.e ≤ 65536
noncomputable def res (q : Q) : Q × Int := open Classical in if Fits q then (q, 0) else (q0, 2)
theorem res_ok {q : Q} (h : Fits q) : res q = (q, 0) := by unfold res; rw [if_pos h]
theorem res_over {q : Q} (h : ¬ Fits q) : res q = (q0, 2) := by unfold res; rw [if_neg h]
theorem fits0 : Fits q0 := ⟨by show 0 < B64 ^ 64; exact Nat.pow_pos (by unfold B64; omega), by show -65536 ≤ (0 : Int); omega, by show (0 : Int) ≤ 65536; omega⟩
def NumPost2 (w : World) (r : Q × Int) (e : Ending) (w' : World) : Prop := ∃ v, e = .returned (.tuple #[v, .int .i64 r.2]) ∧ NumV w.heap.size w' v r.1 ∧ Below w.heap.size w w'
def NumPost1 (w : World) (q : Q) (e : Ending) (w' : World) : Prop := ∃ v, e = .returned v ∧ NumV w.heap.size w' v q ∧ Below w.heap.size w w'
theorem numv0 (lo : Nat) (w : World) : NumV lo w (.agg #[.bool false, .int .i64 0, .slice none 0 0]) q0 := ⟨none, 0, 0, rfl, by show Rd .u64 w lo _ none 0 0 (digs B64 0); rw [digs_zero]; exact Rd.none_⟩
theorem fits_bits {X : Nat} (h : X ≠ 0) : X / 2 ^ ntz X < B64 ^ 64 ↔ nbits X - ntz X ≤ 4096 := by
 have h1 := (odd_part h).1
 have h2 := (odd_part h).2
 have h3 : nbits X = ntz X + nbits (X / 2 ^ ntz X) := nbits_cut rfl (by
  have : 0 < 2 ^ ntz X := Nat.pow_pos (by omega)
  rcases Nat.lt_or_ge X (2 ^ ntz X) with a | a
  ·rw [Nat.div_eq_of_lt a] at h2; omega
  ·exact a)
 obtain ⟨F, hF⟩ : ∃ F, F = 4096 := ⟨_, rfl⟩
 rw [h3, Nat.add_sub_cancel_left, pow64, ← hF, show 64 * 64 = F by rw [hF]]
 generalize X / 2 ^ ntz X = Y at *
 constructor
 ·exact nbits_le
 ·intro h; exact Nat.lt_of_lt_of_le (nbits_lt Y) (Nat.pow_le_pow_right (by omega) h)
theorem make_any (W : World) (s : Bool) (e : Int) (A : Option Addr) (n c : Nat) (xs : List Nat) (ha : Arg W A n c xs) (hk : n ≤ 100000) (ht : Tab W) :
  Calls Tryz.prog 137 #[.bool s, .slice A n c, .int .i64 e] W (NumPost2 W (res (nm s (nval B64 xs) e))) := by
 have HT := Lib.hid ht; have HA := Lib.hid ha
 clear ha ht
 obtain ⟨X, hX⟩ : ∃ X, X = nval B64 xs := ⟨_, rfl⟩
 rw [← hX]
 have HX := Lib.hid hX
 clear hX
 have B1 := Lib.hid (one_below W (.cells #[.bool false, .int .i64 0, .slice none 0 0] 26))
 have H1 := Lib.hid (HA.out.step B1.out); have T1 := Lib.hid (HT.out.below B1.out)
 have K1 := Lib.hid (Blk.new W 26 #[.bool false, .int .i64 0, .slice none 0 0])
 have hb := bits_any _ 0 _ A n c xs H1.out.1 H1.out.2 (by omega)
 have hz := zeros_any _ 0 _ A n c xs H1.out.1 H1.out.2 (by omega) T1.out
 rw [← HX.out] at hb hz
 have HBits := Lib.hid hb; have HZeros := Lib.hid hz
 have hXlt := Lib.hid (show X < B64 ^ n by rw [HX.out, ← H1.out.1.1]; exact nval_lt H1.out.2)
 clear hb hz HA HT
 by_cases h0 : X = 0
 ·have hb0 : nbits X = 0 := by rw [h0]; rfl
  rw [h0, nm_zero, res_ok fits0]
  rw [h0] at HBits HZeros
  rw [nbits_zero] at HBits
  rw [ntz_zero] at HZeros
  go_enter Tryz.func137, Tryz.ntmps137
  go_wp2_with fail
  refine HBits.out.mono ?_
  rintro _ w' ⟨rfl, rfl⟩
  go_wp2_with fail
  refine HZeros.out.mono ?_
  rintro _ w' ⟨rfl, rfl⟩
  go_wp2
  refine bodyPost_ret (v := .tuple #[.agg #[.bool false, .int .i64 0, .slice none 0 0], .int .i64 0]) (by simp [results, Tryz.results137, go_sem]) rfl ⟨_, rfl, numv0 _ _, B1.out⟩
 ·have hn0 : 0 < n := by
   rcases Nat.eq_zero_or_pos n with e | e
   ·subst e; have := hXlt.out; simp at this; omega
   ·exact e
  have hbits : nbits X ≤ 64 * n := nbits_le (by rw [← pow64]; exact hXlt.out)
  have hz : ntz X < 64 * n := ntz_lt h0 (by rw [← pow64]; exact hXlt.out)
  have hdr := drop_any _ A n c (ntz X) xs H1.out hk (by omega)
  rw [← HX.out] at hdr
  have HDrop := Lib.hid hdr
  have hfit := fits_bits h0
  have hle : ntz X ≤ nbits X := by
   rcases Nat.lt_or_ge (nbits X) (ntz X) with a | a
   ·have := ntz_lt h0 (nbits_lt X); omega
   ·exact a
  have hnm : nm s X e = ⟨s, X / 2 ^ ntz X, e + ntz X⟩ := by unfold nm; rw [if_neg h0]
  rw [hnm]
  clear hdr hnm
  have hbp := nbits_pos h0
  generalize nbits X = b at *
  generalize ntz X = z at *
  generalize X / 2 ^ z = Y at *
  go_enter Tryz.func137, Tryz.ntmps137
  go_wp2_with fail
  refine HBits.out.mono ?_
  rintro _ w' ⟨rfl, rfl⟩
  go_wp2_with fail
  refine HZeros.out.mono ?_
  rintro _ w' ⟨rfl, rfl⟩
  by_cases hF : b - z ≤ 4096 ∧ -65536 - (z : Int) ≤ e ∧ e ≤ 65536 - (z : Int)
  ·have hfits : Fits ⟨s, Y, e + z⟩ := ⟨hfit.2 hF.1, by show -65536 ≤ e + z; omega, by show e + z ≤ 65536; omega⟩
   have hF1 := hF.1; have hF2 := hF.2.1; have hF3 := hF.2.2
   clear hF hfit HBits HZeros H1 T1
   go_wp2_with fail
   refine HDrop.out.mono ?_
   rintro _ w2 ⟨A2, n2, c2, rfl, h2, b2, _⟩
   have k2 := K1.out.below b2 (by simp)
   have c0 := k2.cell 0; have c1 := k2.cell 1; have c3 := k2.cell 2
   have z0 := k2.frozen 0; have z1 := k2.frozen 1; have z2 := k2.frozen 2
   simp at c0 c1 c3
   have k3 := k2.putted (.bool s) (.int .i64 (e + z)) (.slice A2 n2 c2)
   have h3 := Lib.hid (h2.putted (g := W.heap.size) (.inl (by simp)) (.bool s) (.int .i64 (e + z)) (.slice A2 n2 c2))
   have b3 := Lib.hid (below_put3 (below_step B1.out b2) (Nat.le_refl _) (.bool s) (.int .i64 (e + z)) (.slice A2 n2 c2))
   have hsz := size_put3 w2 W.heap.size (.bool s) (.int .i64 (e + z)) (.slice A2 n2 c2)
   have HF := Lib.hid hfits
   clear hfits h2 b2 k2 HDrop K1
   go_wp2
   refine bodyPost_ret (v := .tuple #[.agg #[.bool s, .int .i64 (e + z), .slice A2 n2 c2], .int .i64 0]) ?_ rfl ?_
   ·have r0 := k3.cell 0; have r1 := k3.cell 1; have r2 := k3.cell 2
    simp at r0 r1 r2
    unfold put3 at r0 r1 r2
    simp [results, Tryz.results137, go_sem, r0, r1, r2]
   ·rw [res_ok HF.out]
    exact ⟨_, rfl, ⟨A2, n2, c2, rfl, by have := h3.out; rw [← hsz] at this; exact this.less (by simp)⟩, b3.out⟩
  ·have hfits : ¬ Fits ⟨s, Y, e + z⟩ := fun ⟨h1, h2, h3⟩ => hF ⟨hfit.1 h1, by have h2 : -65536 ≤ e + z := h2; omega, by have h3 : e + z ≤ 65536 := h3; omega⟩
   have HF := Lib.hid hfits
   clear hfits hfit HBits HZeros H1 T1 HDrop
   go_wp2
   all_goals refine bodyPost_ret (v := .tuple #[.agg #[.bool false, .int .i64 0, .slice none 0 0], .int .i64 2]) (by simp [results, Tryz.results137, go_sem]) rfl (by rw [res_over HF.out]; exact ⟨_, rfl, numv0 _ _, B1.out⟩)
end
section
def bx (s : Bool) (e : Int) (A : Option Addr) (n c : Nat) : Obj := .cells #[.bool s, .int .i64 e, .slice A n c] 26
def Bx (w : World) (g : Nat) (s : Bool) (e : Int) (A : Option Addr) (n c : Nat) : Prop := Blk w g 26 #[.bool s, .int .i64 e, .slice A n c]
theorem Bx.new (w : World) (s : Bool) (e : Int) (A : Option Addr) (n c : Nat) : Bx (w.alloc (.cells #[.bool s, .int .i64 e, .slice A n c] 26)) w.heap.size s e A n c := Blk.new w _ _
theorem Bx.step {w w' : World} {g : Nat} {s : Bool} {e : Int} {A : Option Addr} {n c : Nat} (h : Bx w g s e A n c) (hb : Below w.heap.size w w') : Bx w' g s e A n c := Blk.below h hb h.lt
theorem Bx.c0 {w : World} {g : Nat} {s : Bool} {e : Int} {A : Option Addr} {n c : Nat} (h : Bx w g s e A n c) : w.cell? ⟨g, 0, none⟩ = some (.bool s) := by have := Blk.cell h 0; simpa using this
theorem Bx.c1 {w : World} {g : Nat} {s : Bool} {e : Int} {A : Option Addr} {n c : Nat} (h : Bx w g s e A n c) : w.cell? ⟨g, 1, none⟩ = some (.int .i64 e) := by have := Blk.cell h 1; simpa using this
theorem Bx.c2 {w : World} {g : Nat} {s : Bool} {e : Int} {A : Option Addr} {n c : Nat} (h : Bx w g s e A n c) : w.cell? ⟨g, 2, none⟩ = some (.slice A n c) := by have := Blk.cell h 2; simpa using this
theorem Bx.fz {w : World} {g : Nat} {s : Bool} {e : Int} {A : Option Addr} {n c : Nat} (h : Bx w g s e A n c) (i : Nat) : w.frozen? ⟨g, i, none⟩ = false := Blk.frozen h i
theorem shv_num {M : Nat} {e t : Int} (h1 : t ≤ e) (h2 : e - t ≤ 262144) : shv M (e - t) = M * 2 ^ (e - t).toNat := shv_up (by omega)
theorem two_bx (w : World) (s s' : Bool) (e e' : Int) (A B : Option Addr) (n c m d : Nat) :
  Bx ((w.alloc (.cells #[.bool s, .int .i64 e, .slice A n c] 26)).alloc (.cells #[.bool s', .int .i64 e', .slice B m d] 26)) w.heap.size s e A n c ∧
  Bx ((w.alloc (.cells #[.bool s, .int .i64 e, .slice A n c] 26)).alloc (.cells #[.bool s', .int .i64 e', .slice B m d] 26)) (w.heap.size + 1) s' e' B m d ∧
  Below w.heap.size w ((w.alloc (.cells #[.bool s, .int .i64 e, .slice A n c] 26)).alloc (.cells #[.bool s', .int .i64 e', .slice B m d] 26)) := by
 refine ⟨(Bx.new w s e A n c).step (one_below _ _), ?_, below_step (one_below w _) (one_below _ _)⟩
 have := Bx.new (w.alloc (.cells #[.bool s, .int .i64 e, .slice A n c] 26)) s' e' B m d
 rwa [show (w.alloc (.cells #[.bool s, .int .i64 e, .slice A n c] 26)).heap.size = w.heap.size + 1 by simp] at this
theorem bdr {B : Nat} {a w : World} (h : Below B a w) : Below B a w.drew := ⟨h.os, h.tape, h.output, h.size, h.block⟩
theorem i64_sub (a b : Int) (h1 : -1000000000 ≤ a - b) (h2 : a - b ≤ 1000000000) : IntKind.i64.wrap (a - b) = a - b := by rw [IntKind.wrap_i64]; omega
theorem i64_add (a b : Int) (h1 : -1000000000 ≤ a + b) (h2 : a + b ≤ 1000000000) : IntKind.i64.wrap (a + b) = a + b := by rw [IntKind.wrap_i64]; omega
def AlPost (w : World) (X Y : Nat) (t : Int) (e : Ending) (w' : World) : Prop :=
 ∃ (A B : Option Addr) (n c m d : Nat), e = .returned (.tuple #[.slice A n c, .slice B m d, .int .i64 t]) ∧ Is w' A n c X ∧ Is w' B m d Y ∧ Below w.heap.size w w'
theorem align_any (w : World) (s s' : Bool) (e e' : Int) (A B : Option Addr) (n c m d X Y k : Nat) (ha : Is w A n c X) (hb : Is w B m d Y) (hX : X < B64 ^ k) (hY : Y < B64 ^ k) (hk : k ≤ 100000)
  (h1 : -65536 ≤ e) (h2 : e ≤ 65536) (h3 : -65536 ≤ e') (h4 : e' ≤ 65536) :
  Calls Tryz.prog 130 #[.agg #[.bool s, .int .i64 e, .slice A n c], .agg #[.bool s', .int .i64 e', .slice B m d]] w (AlPost w (X * 2 ^ (e - min e e').toNat) (Y * 2 ^ (e' - min e e').toNat) (min e e')) := by
 obtain ⟨k1, k2, b2⟩ := two_bx w s s' e e' A B n c m d
 have ha2 := Lib.hid ((ha.step b2).has hX); have hb2 := Lib.hid ((hb.step b2).has hY)
 have B2 := Lib.hid b2; have K1 := Lib.hid k1; have K2 := Lib.hid k2
 clear k1 k2 b2 ha hb
 obtain ⟨t, ht⟩ : ∃ t, t = min e e' := ⟨_, rfl⟩
 have f1 : (if e ≤ e' then e else e') = t := by rw [ht]; split <;> omega
 have t1 : -65536 ≤ t := by omega
 have t2 : t ≤ e := by omega
 have t3 : t ≤ e' := by omega
 have q1 := Lib.hid (shv_num (M := X) t2 (by omega)); have q2 := Lib.hid (shv_num (M := Y) t3 (by omega))
 rw [← ht]
 go_enter Tryz.func130, Tryz.ntmps130
 go_wp2_with fail
 generalize (w.alloc (.cells #[.bool s, .int .i64 e, .slice A n c] 26)).alloc (.cells #[.bool s', .int .i64 e', .slice B m d] 26) = w2 at *
 have S0 : w2.cell? ⟨w.heap.size, 1, none⟩ = some (.int .i64 e) ∧ w2.cell? ⟨w.heap.size, 2, none⟩ = some (.slice A n c) ∧ w2.cell? ⟨w.heap.size + 1, 1, none⟩ = some (.int .i64 e') ∧ w2.cell? ⟨w.heap.size + 1, 2, none⟩ = some (.slice B m d) := ⟨K1.out.c1, K1.out.c2, K2.out.c1, K2.out.c2⟩
 rw [← ht]
 have x1 := i64_sub e t (by omega) (by omega)
 have x2 := i64_sub e' t (by omega) (by omega)
 have d2 := bdr (Below.refl w2.heap.size w2)
 have C1 := Lib.hid (shift_is (e - t) (ha2.out.step d2) hk)
 have K1d := Lib.hid (K1.out.step d2); have K2d := Lib.hid (K2.out.step d2); have B2d := Lib.hid (below_step B2.out d2); have hb2d := Lib.hid (hb2.out.step d2)
 rw [q1.out] at C1
 clear ht f1 d2 B2 K1 K2 ha2 hb2
 go_region_held3 (fun w' => w'.cell? ⟨w.heap.size, 1, none⟩ = some (.int .i64 e) ∧ w'.cell? ⟨w.heap.size, 2, none⟩ = some (.slice A n c) ∧ w'.cell? ⟨w.heap.size + 1, 1, none⟩ = some (.int .i64 e') ∧ w'.cell? ⟨w.heap.size + 1, 2, none⟩ = some (.slice B m d))
  (first | exact S0 | assumption)
  (first
   | (go_at_call 138
      refine C1.out.mono ?_
      rintro _ w3 ⟨A3, n3, c3, rfl, h3, b3⟩
      have K13 := Lib.hid (K1d.out.step b3); have K23 := Lib.hid (K2d.out.step b3)
      have S3 : w3.cell? ⟨w.heap.size, 1, none⟩ = some (.int .i64 e) ∧ w3.cell? ⟨w.heap.size, 2, none⟩ = some (.slice A n c) ∧ w3.cell? ⟨w.heap.size + 1, 1, none⟩ = some (.int .i64 e') ∧ w3.cell? ⟨w.heap.size + 1, 2, none⟩ = some (.slice B m d) := ⟨K13.out.c1, K13.out.c2, K23.out.c1, K23.out.c2⟩
      have C3 := Lib.hid (shift_is (e' - t) (hb2d.out.step b3) hk)
      have B3 := Lib.hid (below_step B2d.out b3); have H3 := Lib.hid h3
      rw [q2.out] at C3
      clear h3 b3 C1)
   | (go_at_call 138
      refine C3.out.mono ?_
      rintro _ w4 ⟨A4, n4, c4, rfl, h4, b4⟩
      have K14 := Lib.hid (K13.out.step b4); have K24 := Lib.hid (K23.out.step b4)
      have S4 : w4.cell? ⟨w.heap.size, 1, none⟩ = some (.int .i64 e) ∧ w4.cell? ⟨w.heap.size, 2, none⟩ = some (.slice A n c) ∧ w4.cell? ⟨w.heap.size + 1, 1, none⟩ = some (.int .i64 e') ∧ w4.cell? ⟨w.heap.size + 1, 2, none⟩ = some (.slice B m d) := ⟨K14.out.c1, K14.out.c2, K24.out.c1, K24.out.c2⟩
      have B4 := Lib.hid (below_step B3.out b4); have H34 := Lib.hid (H3.out.step b4); have H4 := Lib.hid h4
      clear h4 b4 C3))
 all_goals
  go_wp2
  exact bodyPost_ret (v := .tuple #[.slice A3 n3 c3, .slice A4 n4 c4, .int .i64 t]) (by simp [results, Tryz.results130, go_sem]) rfl ⟨A3, A4, n3, c3, n4, c4, rfl, H34.out, H4.out, B4.out⟩
theorem three_bx (w : World) (s s' : Bool) (e e' : Int) (A B : Option Addr) (n c m d : Nat) :
  Bx (((w.alloc (.cells #[.bool s, .int .i64 e, .slice A n c] 26)).alloc (.cells #[.bool s', .int .i64 e', .slice B m d] 26)).alloc (.cells #[.bool false, .int .i64 0, .slice none 0 0] 26)) w.heap.size s e A n c ∧
  Bx (((w.alloc (.cells #[.bool s, .int .i64 e, .slice A n c] 26)).alloc (.cells #[.bool s', .int .i64 e', .slice B m d] 26)).alloc (.cells #[.bool false, .int .i64 0, .slice none 0 0] 26)) (w.heap.size + 1) s' e' B m d ∧
  Bx (((w.alloc (.cells #[.bool s, .int .i64 e, .slice A n c] 26)).alloc (.cells #[.bool s', .int .i64 e', .slice B m d] 26)).alloc (.cells #[.bool false, .int .i64 0, .slice none 0 0] 26)) (w.heap.size + 1 + 1) false 0 none 0 0 ∧
  Below w.heap.size w (((w.alloc (.cells #[.bool s, .int .i64 e, .slice A n c] 26)).alloc (.cells #[.bool s', .int .i64 e', .slice B m d] 26)).alloc (.cells #[.bool false, .int .i64 0, .slice none 0 0] 26)) := by
 obtain ⟨k1, k2, b2⟩ := two_bx w s s' e e' A B n c m d
 refine ⟨k1.step (one_below _ _), k2.step (one_below _ _), ?_, below_step b2 (one_below _ _)⟩
 have := Bx.new ((w.alloc (.cells #[.bool s, .int .i64 e, .slice A n c] 26)).alloc (.cells #[.bool s', .int .i64 e', .slice B m d] 26)) false 0 none 0 0
 rwa [show ((w.alloc (.cells #[.bool s, .int .i64 e, .slice A n c] 26)).alloc (.cells #[.bool s', .int .i64 e', .slice B m d] 26)).heap.size = w.heap.size + 1 + 1 by simp] at this
theorem ret_num {w W W1 : World} {g : Nat} {A : Option Addr} {n c : Nat} {q : Q} {a : Value} {b : Value} {z : Value} (hB : Below w.heap.size w W) (hg : w.heap.size ≤ g) (hk : Blk W1 g 26 #[a, b, z]) (hgW : g < W.heap.size) (hW : Below W.heap.size W W1)
  (h : Rd .u64 W1 W.heap.size W1.heap.size A n c (digs B64 q.m)) :
  Bx (put3 W1 g (.bool q.s) (.int .i64 q.e) (.slice A n c)) g q.s q.e A n c ∧ NumV w.heap.size (put3 W1 g (.bool q.s) (.int .i64 q.e) (.slice A n c)) (.agg #[.bool q.s, .int .i64 q.e, .slice A n c]) q ∧
   Below w.heap.size w (put3 W1 g (.bool q.s) (.int .i64 q.e) (.slice A n c)) := by
 refine ⟨Blk.putted hk _ _ _, ⟨A, n, c, rfl, ?_⟩, below_put3 (below_step hB hW) hg _ _ _⟩
 have := h.putted (g := g) (.inl hgW) (.bool q.s) (.int .i64 q.e) (.slice A n c)
 rw [size_put3]
 exact this.less hB.size
theorem put3_far (w : World) (g h i : Nat) (x y z : Value) (hn : h ≠ g) : (((w.setCell ⟨g, 0, none⟩ x).setCell ⟨g, 1, none⟩ y).setCell ⟨g, 2, none⟩ z).cell? ⟨h, i, none⟩ = w.cell? ⟨h, i, none⟩ := by
 have hne : ∀ j, (⟨g, j, none⟩ : Addr) ≠ ⟨h, i, none⟩ := fun j e => by have := congrArg Addr.block e; simp at this; omega
 rw [World.cell?_setCell_other _ _ _ _ (hne 2), World.cell?_setCell_other _ _ _ _ (hne 1), World.cell?_setCell_other _ _ _ _ (hne 0)]
theorem up_eq {q : Q} {t : Int} : q.up t = if q.s then -((q.m * 2 ^ (q.e - t).toNat : Nat) : Int) else ((q.m * 2 ^ (q.e - t).toNat : Nat) : Int) := by
 unfold Q.up Q.z
 rw [Int.natCast_mul, Int.natCast_pow]
 cases q.s
 ·rfl
 ·simp only [if_true]; rw [Int.neg_mul]; rfl
section
variable {a b : Q} {X Y : Nat} (hX : X = a.m * 2 ^ (a.e - lowe a b).toNat) (hY : Y = b.m * 2 ^ (b.e - lowe a b).toNat)
include hX hY
theorem plus_same (h : a.s = b.s) : nm a.s (X + Y) (lowe a b) = plus a b := by
 unfold plus
 rw [nm_ofz, up_eq, up_eq, ← hX, ← hY, ← h]
 congr 1
 cases a.s <;> simp <;> omega
theorem plus_left (h : a.s ≠ b.s) (hle : Y ≤ X) : nm a.s (X - Y) (lowe a b) = plus a b := by
 unfold plus
 rw [nm_ofz, up_eq, up_eq, ← hX, ← hY]
 congr 1
 have hb : b.s = !a.s := by revert h; cases a.s <;> cases b.s <;> simp
 rw [hb]
 cases a.s <;> simp <;> omega
theorem plus_right (h : a.s ≠ b.s) (hle : ¬ Y ≤ X) : nm b.s (Y - X) (lowe a b) = plus a b := by
 unfold plus
 rw [nm_ofz, up_eq, up_eq, ← hX, ← hY]
 congr 1
 have hb : b.s = !a.s := by revert h; cases a.s <;> cases b.s <;> simp
 rw [hb]
 cases a.s <;> simp <;> omega
end
theorem is_arg {w : World} {A : Option Addr} {n c X : Nat} (h : Is w A n c X) : Arg w A n c (digs B64 X) := ⟨h, small_digs B64_two _⟩
theorem is_len {w : World} {A : Option Addr} {n c X k : Nat} (h : Is w A n c X) (hk : X < B64 ^ k) : n ≤ k := by rw [← h.1]; exact digs_len_le B64_two hk
theorem make_is {W : World} {A : Option Addr} {n c X k : Nat} (s : Bool) (e : Int) (h : Is W A n c X) (hX : X < B64 ^ k) (hk : k ≤ 100000) (ht : Tab W) :
  Calls Tryz.prog 137 #[.bool s, .slice A n c, .int .i64 e] W (NumPost2 W (res (nm s X e))) := by
 have := make_any W s e A n c _ (is_arg h) (by have := is_len h hX; omega) ht
 rwa [nval_digs B64_two] at this
theorem up_lt {X k : Nat} {t : Nat} (h : X < B64 ^ k) (ht : t ≤ 262144) : X * 2 ^ t < B64 ^ (k + 4096) := by
 obtain ⟨E, hE⟩ : ∃ E : Nat, E = 4096 := ⟨_, rfl⟩
 rw [← hE]
 have h1 : 2 ^ t ≤ B64 ^ E := by rw [pow64]; exact Nat.pow_le_pow_right (by omega) (by omega)
 rw [Nat.pow_add]
 exact Nat.lt_of_lt_of_le (Nat.mul_lt_mul_of_pos_right h (Nat.pow_pos (by omega))) (Nat.mul_le_mul_left _ h1)
def Valid (q : Q) : Prop := Canon q ∧ Fits q
theorem okb_true {w : World} {A : Option Addr} {n c : Nat} {xs : List Nat} {s : Bool} {e : Int} (ha : Arg w A n c xs) (h : okb s e n xs = true) : Is w A n c (nval B64 xs) ∧ Valid ⟨s, nval B64 xs, e⟩ := by
 have hl := ha.1.1
 unfold okb at h
 split at h
 ·rename_i h0
  subst h0
  have hx : xs = [] := List.eq_nil_of_length_eq_zero hl
  subst hx
  simp only [Bool.and_eq_true, beq_iff_eq, Bool.not_eq_true'] at h
  obtain ⟨rfl, rfl⟩ := h
  refine ⟨?_, canon0, fits0⟩
  have h1 := ha.1
  unfold Is
  rw [show nval B64 [] = 0 from rfl, digs_zero]
  exact h1
 ·rename_i h0
  simp only [Bool.and_eq_true, decide_eq_true_eq] at h
  obtain ⟨⟨⟨⟨h1, h2⟩, h3⟩, h4⟩, h5⟩ := h
  have hd : digs B64 (nval B64 xs) = xs := by
   have := digs_nval_take B64_two ha.2 n (fun j u hj hu => by rw [List.getElem?_eq_none (by omega)] at hu; cases hu) (fun u _ hu => by rw [getD_of hu] at h1; exact h1) (by omega)
   rw [this, List.take_of_length_le (by omega)]
  have hlt : nval B64 xs < B64 ^ n := by rw [← hl]; exact nval_lt ha.2
  have hodd : nval B64 xs % 2 = 1 := by
   match xs, hl with
   | [], hl => simp at hl; omega
   | x :: t, _ =>
    have h3 : x % 2 = 1 := by simpa using h3
    show (x + B64 * nval B64 t) % 2 = 1
    have : B64 * nval B64 t = 2 * (9223372036854775808 * nval B64 t) := by unfold B64; rw [← Nat.mul_assoc]
    omega
  refine ⟨by unfold Is; rw [hd]; exact ha.1, ⟨fun h => absurd h (by show ¬ nval B64 xs = 0; omega), fun _ => hodd⟩, lt_up hlt h2, h4, h5⟩
theorem ret_zero {w W : World} {g : Nat} {s : Bool} {e : Int} {A : Option Addr} {n c : Nat} (hB : Below w.heap.size w W) (hg : w.heap.size ≤ g) (hk : Bx W g s e A n c) :
  Bx (put3 W g (.bool false) (.int .i64 0) (.slice none 0 0)) g false 0 none 0 0 ∧ NumV w.heap.size (put3 W g (.bool false) (.int .i64 0) (.slice none 0 0)) (.agg #[.bool false, .int .i64 0, .slice none 0 0]) q0 ∧
   Below w.heap.size w (put3 W g (.bool false) (.int .i64 0) (.slice none 0 0)) := ⟨Blk.putted hk _ _ _, numv0 _ _, below_put3 hB hg _ _ _⟩
theorem up_zero {q : Q} {t : Int} (h : q.m = 0) : q.up t = 0 := by rw [up_eq, h]; simp
end
end Go.Proofs.YtobcbhppmgnioaaGreatDoor
