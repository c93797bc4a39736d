/- fathomlineref1: trim, digit, Bits, Zeros. Slices that a call builds by append. fathomlineref1: Part, Words. The digits of the document's answers: Part, Words, Bits, Zeros. -/
import Derived.Test.YtobcbhppmgnioaaGreatDoorSNat1
import Derived.Laws.BitsAllLaws
import Derived.Maps.AppendAt
namespace Go.Proofs.YtobcbhppmgnioaaGreatDoor
set_option maxHeartbeats 1000000
set_option maxRecDepth 100000
open Go.RowKit Nx
section
theorem B32_two : 2 ≤ B32 := by unfold B32; omega
def tlen (xs : List Nat) : Nat := (digs B32 (nval B32 xs)).length
theorem tlen_of {xs : List Nat} (hs : Small B32 xs) (m : Nat) (hz : ∀ j u, m ≤ j → xs[j]? = some u → u = 0)
  (hl : ∀ u, 0 < m → xs[m - 1]? = some u → u ≠ 0) (hm : m ≤ xs.length) : tlen xs = m := by
 unfold tlen
 rw [digs_nval_take B32_two hs m hz hl hm, List.length_take]; omega
theorem tlen_le {xs : List Nat} (hs : Small B32 xs) : tlen xs ≤ xs.length := digs_len_le B32_two (nval_lt hs)
theorem digs_take32 {xs : List Nat} (hs : Small B32 xs) : digs B32 (nval B32 xs) = xs.take (tlen xs) := by
 have : ∀ m, m ≤ xs.length → (∀ j u, m ≤ j → xs[j]? = some u → u = 0) → digs B32 (nval B32 xs) = xs.take (tlen xs) := by
  intro m
  induction m with
  | zero =>
   intro hm hz
   have e := tlen_of hs 0 hz (fun u h => absurd h (by omega)) hm
   rw [digs_nval_take B32_two hs 0 hz (fun u h => absurd h (by omega)) hm, e]
  | succ m ih =>
   intro hm hz
   by_cases h0 : xs[m]? = some 0
   ·refine ih (by omega) (fun j u hj hu => ?_)
    rcases Nat.eq_or_lt_of_le hj with e | e
    ·subst e; rw [h0] at hu; injection hu with hu; exact hu.symm
    ·exact hz j u e hu
   ·have hl : ∀ u, 0 < m + 1 → xs[m + 1 - 1]? = some u → u ≠ 0 := by
     rintro u _ hu rfl; exact h0 hu
    rw [digs_nval_take B32_two hs (m + 1) hz hl hm, tlen_of hs (m + 1) hz hl hm]
 exact this xs.length (Nat.le_refl _) (fun j u hj hu => by rw [List.getElem?_eq_none hj] at hu; cases hu)
theorem Rd.trim {w : World} {lo hi n c c' : Nat} {A A' : Option Addr} {xs : List Nat} (h : Rd .u32 w lo hi A n c xs) (hs : Small B32 xs) (hA : 0 < tlen xs → A' = A) (hc : tlen xs ≤ c') :
  Rd .u32 w lo hi A' (tlen xs) c' (digs B32 (nval B32 xs)) := by
 rw [digs_take32 hs]
 exact (h.take_ (by have := tlen_le hs; have := h.1; omega)).addr hA hc
theorem trim32_any (w : World) (lo hi : Nat) (A : Option Addr) (n c : Nat) (xs : List Nat) (h : Rd .u32 w lo hi A n c xs) (hs : Small B32 xs) (hn : n ≤ 1000000000) :
  Calls Tryz.prog 100 #[.slice A n c] w (UsedPost w A (tlen xs)) := by
 have H := Lib.hid h
 have hnc := h.2.1
 have HL := Lib.hid h.1
 have HS := Lib.hid hs
 clear h hs
 go_enter Tryz.func100, Tryz.ntmps100
 go_wp2
 go_loop [3] (fun i => ∃ k : Nat, k ≤ n ∧ i = .int .i64 k ∧ Hid (∀ j u, k ≤ j → xs[j]? = some u → u = 0)) (fun i => (intOf i).toNat)
 case atStart => exact ⟨n, Nat.le_refl _, rfl, Lib.hid (fun j u hj hu => by have := HL.out; rw [List.getElem?_eq_none (by omega)] at hu; cases hu)⟩
 case round =>
  obtain ⟨k, hk, rfl, hz⟩ := hrel
  by_cases hlt : 0 < k
  ·obtain ⟨ad, v, hA, _, _, hv, hc⟩ := H.out.get_ (j := k - 1) (by omega)
   subst hA
   have i1 : ((k : Int) - 1).toNat = k - 1 := by omega
   have f0 : decide ((0 : Int) < (k : Int)) = true := by simp; omega
   by_cases hv0 : v = 0
   ·have f1 : ((v : Int) == 0) = true := by simp; omega
    go_wp2
    go_round
    case rel => exact ⟨k - 1, by omega, by go_num, Lib.hid (fun j u hj hu => by
     rcases Nat.lt_or_ge j k with h1 | h1
     ·have h2 : j = k - 1 := by omega
      subst h2
      have := hv.out; rw [hu] at this; injection this with this; omega
     ·exact hz.out j u h1 hu)⟩
    case measure => simp [intOf]; omega
   ·have f1 : ((v : Int) == 0) = false := by simp; omega
    have e : tlen xs = k := tlen_of HS.out k hz.out (fun u _ hu => by
     have := hv.out; rw [hu] at this; injection this with this; omega) (by have := HL.out; omega)
    have HE := Lib.hid e
    clear e
    go_wp2
    go_ret
    rw [HE.out]
    exact ⟨_, _, rfl, rfl, fun _ => rfl, Nat.le_refl _⟩
  ·have f0 : decide ((0 : Int) < (k : Int)) = false := by simp; omega
   have e : tlen xs = 0 := tlen_of HS.out 0 (fun j u hj hu => hz.out j u (by omega) hu) (fun u h => absurd h (by omega)) (Nat.zero_le _)
   have HE := Lib.hid e
   clear e
   obtain rfl : k = 0 := by omega
   go_wp2
   go_ret
   rw [HE.out]
   exact ⟨_, _, rfl, rfl, fun h => absurd h (by omega), Nat.le_refl _⟩
theorem u64_of32 (x : Nat) (h : x < B32) : IntKind.u64.wrap (x : Int) = (x : Int) := u64_fits x (by unfold B32 at h; omega)
theorem digit_any (w : World) (lo hi : Nat) (A : Option Addr) (n c k : Nat) (xs : List Nat) (h : Rd .u32 w lo hi A n c xs) (hs : Small B32 xs) :
  Calls Tryz.prog 103 #[.slice A n c, .int .i64 (k : Int)] w fun e w' => e = .returned (.int .u64 ((xs.getD k 0 : Nat) : Int)) ∧ w = w' := by
 have hl := h.1
 rcases Nat.lt_or_ge k n with hlt | hge
 ·obtain ⟨ad, x, hA, _, _, hx, hcx⟩ := h.get_ hlt
  subst hA
  rw [getD_of hx.out]
  have e1 := u64_of32 x (hs.get hx.out)
  clear h hs hl
  go_enter Tryz.func103, Tryz.ntmps103
  go_wp2
  go_ret
  exact ⟨rfl, rfl⟩
 ·rw [getD_out (by omega)]
  clear h hs hl
  go_enter Tryz.func103, Tryz.ntmps103
  go_wp2
  go_ret
  exact ⟨rfl, rfl⟩
def ZerRel (xs : List Nat) (n : Nat) (u v : Value) : Prop := ∃ k : Nat, k ≤ n ∧ u = .int .i64 (k : Int) ∧ v = .int .i64 ((32 * k : Nat) : Int) ∧ Hid (∀ (j u : Nat), j < k → xs[j]? = some u → u = 0)
def ZinRel (N b : Nat) (u v : Value) : Prop := ∃ y c : Nat, u = .int .u32 (y : Int) ∧ v = .int .i64 (c : Int) ∧ Hid (N = c + ntz y) ∧ c ≤ b ∧ Hid (y ≠ 0 ∧ y < B32)
theorem low_bit (y : Nat) (h : y < B32) : bits .and .u32 (y : Int) 1 = ((y % 2 : Nat) : Int) := by
 have := u32_and_nat y 1 h (by omega)
 rw [Nat.and_one_is_mod] at this
 exact this
theorem zeros32_any (w : World) (lo hi : Nat) (A : Option Addr) (n c : Nat) (xs : List Nat) (h : Rd .u32 w lo hi A n c xs) (hs : Small B32 xs) (hn : n ≤ 100000000) :
  Calls Tryz.prog 101 #[.slice A n c] w fun e w' => e = .returned (.int .i64 (ntz (nval B32 xs) : Int)) ∧ w = w' := by
 have H := Lib.hid h; have HS := Lib.hid hs; have HL := Lib.hid h.1
 clear h hs
 obtain ⟨M, hM⟩ : ∃ M, M = ntz (nval B32 xs) := ⟨_, rfl⟩
 rw [← hM]
 have HM := Lib.hid hM
 clear hM
 go_enter Tryz.func101, Tryz.ntmps101
 go_wp2
 go_loop [4, 3] (fun u v => ZerRel xs n u v) (fun u _ => n - (intOf u).toNat)
 case atStart => exact ⟨0, Nat.zero_le _, rfl, rfl, Lib.hid (fun j u hj => absurd hj (by omega))⟩
 case round =>
  obtain ⟨k, hk, rfl, rfl, hz⟩ := hrel
  by_cases hlt : k < n
  ·obtain ⟨ad, x, hA, _, _, hx, hcx⟩ := H.out.get_ (j := k) hlt
   subst hA
   by_cases hx0 : x = 0
   ·have f0 : ((x : Int) == 0) = true := by simp; omega
    go_wp2
    go_round
    case rel => exact ⟨k + 1, by omega, by go_num, by go_num, Lib.hid (fun j u hj hu => by
     rcases Nat.lt_or_ge j k with h1 | h1
     ·exact hz.out j u h1 hu
     ·obtain rfl : j = k := by omega
      have := hx.out; rw [hu] at this; injection this with this; omega)⟩
    case measure => simp [intOf]; omega
   ·have f0 : ((x : Int) == 0) = false := by simp; omega
    have hxB := HS.out.get hx.out
    have hMv := Lib.hid (HM.out.trans (ntz_digs pow32 HS.out hz.out hx.out hx0))
    have hlt32 : ntz x < 32 := ntz_lt hx0 (show x < 2 ^ 32 from hxB)
    have hM32 : M ≤ 32 * k + 32 := by have := hMv.out; omega
    have HX0 := Lib.hid (And.intro hx0 hxB)
    clear hx0 hxB hlt32
    go_wp2
    go_loop [5, 3] (fun u v => ZinRel M (32 * k + 32) u v) (fun u _ => (intOf u).toNat)
    case atStart => exact ⟨x, 32 * k, rfl, by go_num, hMv, by omega, HX0⟩
    case round =>
     obtain ⟨y, cc, rfl, rfl, hI, hcc, hy⟩ := hrel
     have e1 := low_bit y hy.out.2
     rcases (show y % 2 = 0 ∨ y % 2 = 1 by omega) with h2 | h2
     ·rw [h2] at e1
      have hI2 := hI.out
      rw [ntz_even hy.out.1 h2] at hI2
      have hI3 := Lib.hid (show M = cc + 1 + ntz (y / 2) by omega)
      have hcM : cc + 1 ≤ 32 * k + 32 := by omega
      have hy2 := Lib.hid (show y / 2 ≠ 0 ∧ y / 2 < B32 by have := hy.out; omega)
      have hm2 : y / 2 < y := by have := hy.out.1; omega
      clear hI2 h2
      go_wp2
      go_round
      case rel => exact ⟨y / 2, cc + 1, by go_num, by go_num, hI3, by omega, hy2⟩
      case measure => simp [intOf]; omega
     ·have hMc : M = cc := by have := hI.out; rw [ntz_odd h2] at this; omega
      rw [h2] at e1
      have HMc := Lib.hid hMc
      clear hMc h2
      go_wp2
      go_ret
      exact ⟨by rw [HMc.out]; rfl, rfl⟩
  ·go_wp2
   go_ret
   have : M = 0 := by
    rw [HM.out, nval_all_zero (fun j u hu => hz.out j u (by have := lt_of_get hu; have := HL.out; omega) hu), ntz_zero]
   exact ⟨by rw [this]; rfl, rfl⟩
end
section
def OutL (k : IntKind) (t : TypeId) (w : World) (base : Nat) (v : Value) (xs : List Nat) : Prop := w.ownsRow base t 1 v xs.length (ints k xs)
theorem OutL.nil (k : IntKind) (t : TypeId) (w : World) (base : Nat) : OutL k t w base (.slice none 0 0) [] := ⟨rfl, .inl ⟨rfl, rfl⟩⟩
theorem OutL.rd {k : IntKind} {t : TypeId} {w : World} {base : Nat} {v : Value} {xs : List Nat} (h : OutL k t w base v xs) : ∃ (A : Option Addr) (c : Nat), v = .slice A xs.length c ∧ Rd k w base w.heap.size A xs.length c xs := by
 rcases h.2 with ⟨hv, hx⟩ | ⟨g, cap, cur, hv, hg, hh, hn, hcap, hsz, htake⟩
 ·have : xs = [] := List.eq_nil_of_length_eq_zero (by simpa [ints] using hx)
  subst this
  exact ⟨none, 0, hv, Rd.none_⟩
 ·refine ⟨_, cap, hv, rfl, hn, fun _ => ⟨_, rfl, hg, ?_, fun j u hu => ?_⟩⟩
  ·exact Blk.lt (t := t) (cs := cur) hh
  ·exact h.cells (g := g) (by rw [hv]; rfl) j _ (by rw [ints_get, hu]; rfl)
theorem OutL.rdn {k : IntKind} {t : TypeId} {w : World} {base : Nat} {v : Value} {xs : List Nat} (h : OutL k t w base v xs) : ∃ (A : Option Addr) (n c : Nat), v = .slice A n c ∧ Hid (xs.length = n) ∧ Hid (Rd k w base w.heap.size A n c xs) := by
 obtain ⟨A, c, hv, hr⟩ := h.rd
 exact ⟨A, _, c, hv, Lib.hid rfl, Lib.hid hr⟩
theorem OutL.keep {k : IntKind} {t : TypeId} {w w' : World} {base : Nat} {v : Value} {xs : List Nat} (h : OutL k t w base v xs) (hb : Below w.heap.size w w') : OutL k t w' base v xs := by
 refine ⟨h.1, ?_⟩
 rcases h.2 with h1 | ⟨g, cap, cur, hv, hg, hh, r⟩
 ·exact .inl h1
 ·exact .inr ⟨g, cap, cur, hv, hg, (hb.block g (Blk.lt (t := t) (cs := cur) hh)).trans hh, r⟩
theorem OutL.drew_ {k : IntKind} {t : TypeId} {w : World} {base : Nat} {v : Value} {xs : List Nat} (h : OutL k t w base v xs) : OutL k t w.drew base v xs := h
theorem OutL.own {k : IntKind} {t : TypeId} {w : World} {base : Nat} {v : Value} {xs : List Nat} (h : OutL k t w base v xs) : ∀ g, v.ownBlock = some g → base ≤ g := by
 intro g hg
 rcases h.2 with ⟨hv, _⟩ | ⟨g', cap, cur, hv, hb, _⟩
 ·rw [hv] at hg; simp [Value.ownBlock] at hg
 ·rw [hv] at hg
  have : g' = g := by simpa [Value.ownBlock] using hg
  omega
theorem out_append (k : IntKind) (T t : TypeId) (b : Nat) (z : Value) (hT : Tryz.prog.underlying T = some (.slice t)) (hi : (Tryz.prog.info? t).map (fun i => (i.zero, i.size, i.bytes)) = some (some z, 1, b)) (hz : z.cells.size = 1) (hb8 : b ≤ 8)
  (w : World) (base : Nat) (v : Value) (xs news : List Nat) (h : OutL k t w base v xs) (hbase : base ≤ w.heap.size) (hl : xs.length + news.length ≤ 1000000000) :
  ∃ v' w', (Builtin.append_ #[T, T] T #[v, .slice (some ⟨w.heap.size, 0, none⟩) news.length news.length]).run Tryz.prog (w.alloc (.cells (ints k news).toArray t)) = .ok v' w' ∧ OutL k t w' base v' (xs ++ news) ∧ Below base w w' := by
 obtain ⟨i, h1, h2, h3, h4⟩ := info_parts hi
 have hw : Row k (w.alloc (.cells (ints k news).toArray t)) w.heap.size t news := Blk.new w t _
 have hn : ∀ j u, (ints k news)[j]? = some u → (w.alloc (.cells (ints k news).toArray t)).cell? ((⟨w.heap.size, 0, none⟩ : Addr).add j) = some u := by
  intro j u hu
  rw [addr_add, Nat.zero_add, Blk.cell hw]
  simpa using hu
 obtain ⟨v', w', hr, hown, hg, _, hat⟩ := run_append_own_at (P := Tryz.prog) (w.alloc (.cells (ints k news).toArray t)) base T T t i z 1 b hT h1 h2 h3 h4 hz (by omega) v xs.length (ints k xs) (World.ownsRow.alloc h _) ⟨w.heap.size, 0, none⟩ news.length news.length (ints k news)
  (by rw [ints_length]; omega) hn (ints_one _ _) (by unfold maxLen; omega) (by have : (xs.length + news.length) * b ≤ (xs.length + news.length) * 8 := Nat.mul_le_mul_left _ hb8
                                                                               omega) (by simp; omega)
 refine ⟨v', w', hr, ?_, ?_⟩
 ·unfold OutL
  rw [List.length_append]
  have : ints k (xs ++ news) = ints k xs ++ ints k news := by simp [ints]
  rw [this]; exact hown
 ·exact ((Below.refl base w).alloc hbase _).grown hg (by simp; omega) (fun g hgg => h.own g hgg)
section
variable {P : Program} {w : World}
theorem wp_append_run {o : Oper} {a : Act} {K : Act → World → Prop} {Q : Exit → Act → World → Prop} (s x : Operand) (t : TypeId)
  (ho : o.op = .call { callee := .builtin .append, args := #[s, x], argTypes := #[t, t] }) (v u v' : Value) (w' : World) (hs : a.eval s = v) (hx : a.eval x = u)
  (hr : (Builtin.append_ #[t, t] o.type #[v, u]).run P w = .ok v' w') (h : K (a.put o.dst v') w') : o.wp P a w K Q := by
 unfold Oper.wp execOp
 simp only [ho, resolve, invoke, builtin, Sem.run_bind, Sem.run_pure, Result.andThen_ok, List.map_toArray, List.map_cons, List.map_nil, hs, hx, hr]
 exact h
theorem wpList_append_run {ops : Array Oper} {rest : List Oper} {o : Oper} {a : Act} {Q : Exit → Act → World → Prop} (hgd : o.guard = none) (s x : Operand) (t : TypeId)
  (ho : o.op = .call { callee := .builtin .append, args := #[s, x], argTypes := #[t, t] }) (v u v' : Value) (w' : World) (hs : a.eval s = v) (hx : a.eval x = u)
  (hr : (Builtin.append_ #[t, t] o.type #[v, u]).run P w = .ok v' w') (h : wpList P ops Q rest (a.put o.dst v') w') : wpList P ops Q (o :: rest) a w :=
 wpList_plain hgd fun _ hK => wp_append_run s x t ho v u v' w' hs hx hr (hK _ _ h)
theorem step_append_run {ops : Array Oper} {o : Oper} {a : Act} {K : Act → World → Prop} {Q : Exit → Act → World → Prop} {E : Prop} (hgd : o.guard = none) (s x : Operand) (t : TypeId)
  (ho : o.op = .call { callee := .builtin .append, args := #[s, x], argTypes := #[t, t] }) (v u v' : Value) (w' : World) (hs : a.eval s = v) (hx : a.eval x = u)
  (hr : (Builtin.append_ #[t, t] o.type #[v, u]).run P w = .ok v' w') (h : K (a.put o.dst v') w') : if Region.wanted o (yielded ops a.tmps) = true then Oper.wp P o a w K Q else E := by
 have hw : Region.wanted o (yielded ops a.tmps) = true := by simp [Region.wanted, hgd]
 rw [if_pos hw]
 exact wp_append_run s x t ho v u v' w' hs hx hr h
end
end
section
theorem out32 (w : World) (base : Nat) (v : Value) (xs news : List Nat) (h : OutL .u32 122 w base v xs) (hbase : base ≤ w.heap.size) (hl : xs.length + news.length ≤ 1000000000) :
  ∃ v' w', (Builtin.append_ #[54, 54] 54 #[v, .slice (some ⟨w.heap.size, 0, none⟩) news.length news.length]).run Tryz.prog (w.alloc (.cells (ints .u32 news).toArray 122)) = .ok v' w' ∧ OutL .u32 122 w' base v' (xs ++ news) ∧ Below base w w' :=
 out_append .u32 54 122 4 (.int .u32 0) Tryz.underlying54 info32 rfl (by omega) w base v xs news h hbase hl
theorem out64 (w : World) (base : Nat) (v : Value) (xs news : List Nat) (h : OutL .u64 66 w base v xs) (hbase : base ≤ w.heap.size) (hl : xs.length + news.length ≤ 1000000000) :
  ∃ v' w', (Builtin.append_ #[24, 24] 24 #[v, .slice (some ⟨w.heap.size, 0, none⟩) news.length news.length]).run Tryz.prog (w.alloc (.cells (ints .u64 news).toArray 66)) = .ok v' w' ∧ OutL .u64 66 w' base v' (xs ++ news) ∧ Below base w w' :=
 out_append .u64 24 66 8 (.int .u64 0) Tryz.underlying24 info64 rfl (by omega) w base v xs news h hbase hl
def DigPost (w : World) (N : Nat) (e : Ending) (w' : World) : Prop :=
 ∃ (A : Option Addr) (n c : Nat), e = .returned (.slice A n c) ∧ Rd .u32 w' w.heap.size w'.heap.size A n c (digs B32 N) ∧ Below w.heap.size w w'
def PartRel (w : World) (xs : List Nat) (n : Nat) (u v : Value) (wr : World) : Prop :=
 ∃ k : Nat, k ≤ n ∧ u = .int .i64 (k : Int) ∧ Hid (OutL .u32 122 wr w.heap.size v (halves (xs.take k))) ∧ Hid (Below w.heap.size w wr)
theorem halves_small {xs : List Nat} (h : Small B64 xs) : Small B32 (halves xs) := small_halves h
theorem halves_val (xs : List Nat) : nval B32 (halves xs) = nval B64 xs := nval_halves xs
theorem part_any (w : World) (lo hi : Nat) (A : Option Addr) (n c : Nat) (xs : List Nat) (h : Rd .u64 w lo hi A n c xs) (hs : Small B64 xs) (hn : n ≤ 100000000) (hhi : hi ≤ w.heap.size) :
  Calls Tryz.prog 63 #[.slice A n c] w (DigPost w (nval B64 xs)) := by
 have H := Lib.hid h; have HS := Lib.hid hs; have HL := Lib.hid h.1
 clear h hs
 go_enter Tryz.func63, Tryz.ntmps63
 go_wp2
 go_loopw [4, 3] (fun u v wr => PartRel w xs n u v wr) (fun u _ _ => n - (intOf u).toNat)
 case atStart => exact ⟨0, Nat.zero_le _, rfl, Lib.hid (OutL.nil _ _ _ _), Lib.hid (Below.refl _ _)⟩
 case round =>
  obtain ⟨k, hk, rfl, hO, hB⟩ := hrel
  obtain ⟨A0, n0, c0, rfl, hn0, hrd0⟩ := hO.out.rdn
  by_cases hlt : k < n
  ·obtain ⟨ad, x, hA, _, hbl, hx, hcx0⟩ := H.out.get_ (j := k) hlt
   subst hA
   have hcx : wr.cell? (ad.add k) = some (.int .u64 (x : Int)) := by rw [← hcx0]; exact hB.out.cell (by rw [block_of_add]; omega)
   have hxB : x < 18446744073709551616 := HS.out.get hx.out
   have e1 := mask32 x hxB
   have hlen : (halves (xs.take k)).length = 2 * k := by rw [halves_length, List.length_take]; have := HL.out; omega
   obtain ⟨v', w', hrun, hO', hB'⟩ := out32 wr.drew w.heap.size _ _ [x % 4294967296, x / 4294967296] hO.out.drew_ hB.out.size (by rw [hlen]; simp; omega)
   have hO2 : OutL .u32 122 w' w.heap.size v' (halves (xs.take (k + 1))) := by
    rw [List.take_succ_eq_append_getElem (by have := HL.out; omega), halves_snoc]
    have := hx.out
    rw [List.getElem?_eq_getElem (by have := HL.out; omega)] at this
    injection this with this
    rw [this]; exact hO'
   obtain ⟨a, ha⟩ : ∃ a, a = x % 4294967296 := ⟨_, rfl⟩
   obtain ⟨b, hb⟩ : ∃ b, b = x / 4294967296 := ⟨_, rfl⟩
   rw [← ha] at e1 hrun
   rw [← hb] at hrun
   have e2 : IntKind.u32.wrap (a : Int) = (a : Int) := by rw [IntKind.wrap_u32]; omega
   have e3 : (x : Int) / 4294967296 = (b : Int) := by omega
   have e4 : IntKind.u32.wrap (b : Int) = (b : Int) := by rw [IntKind.wrap_u32]; omega
   have HR' := Lib.hid (show (Builtin.append_ #[54, 54] 54 #[.slice A0 n0 c0, .slice (some ⟨wr.heap.size, 0, none⟩) 2 2]).run Tryz.prog ((wr.alloc (.cells #[.int .u32 (a : Int), .int .u32 (b : Int)] 122)).drew) = .ok v' w' from hrun)
   have hB2 := Lib.hid (hB.out.trans (show Below w.heap.size wr w' from ⟨hB'.os, hB'.tape, hB'.output, hB'.size, hB'.block⟩))
   have HO2 := Lib.hid hO2
   have i1 : (0 : Int) ≤ (k : Int) := by omega
   have i2 : (k : Int) < (n : Int) := by omega
   clear hcx0 hxB hlen hrun hO' hB' hO2 ha hb
   go_wp2
   go_region_law ((refine step_append_run (by rfl) (.tmp 11) (.tmp 24) _ (by rfl) _ _ _ _ (by rfl) (by rfl) HR'.out ?_))
   all_goals
    go_wp2
    go_roundw
    case rel => exact ⟨k + 1, by omega, by go_num, HO2, hB2⟩
    case measure => simp [intOf]; omega
  ·have hkn : k = n := by omega
   subst hkn
   have htk : xs.take k = xs := List.take_of_length_le (by have := HL.out; omega)
   have hlen : n0 ≤ 2 * k := by rw [← hn0.out, halves_length, List.length_take]; omega
   have hrd := hrd0.out
   rw [htk] at hrd
   have HRD := Lib.hid hrd
   clear htk hrd
   go_wp2_with fail
   refine (trim32_any wr w.heap.size wr.heap.size A0 n0 c0 (halves xs) HRD.out (halves_small HS.out) (by omega)).mono ?_
   rintro e w' ⟨A3, c3, rfl, rfl, hA3, hc3⟩
   have hfin := HRD.out.trim (halves_small HS.out) hA3 hc3
   rw [halves_val] at hfin
   have HF := Lib.hid hfin
   clear hfin hA3 hc3
   go_wp2
   go_ret
   exact ⟨_, _, _, rfl, HF.out, hB.out⟩
def WrdRel (w : World) (ds : List Nat) (n : Nat) (u v : Value) (wr : World) : Prop :=
 ∃ j : Nat, 2 * j ≤ n + 1 ∧ u = .int .i64 ((2 * j : Nat) : Int) ∧ Hid (OutL .u64 66 wr w.heap.size v (pairs (ds.take (2 * j)))) ∧ Hid (Below w.heap.size w wr)
theorem pair_word (x y : Nat) (hx : x < B32) (hy : y < B32) : IntKind.u64.wrap ((y : Int) * 4294967296) = ((y * 4294967296 : Nat) : Int) ∧ bits .or .u64 (x : Int) ((y * 4294967296 : Nat) : Int) = ((x + 4294967296 * y : Nat) : Int) := by
 unfold B32 at hx hy
 constructor
 ·rw [show (y : Int) * 4294967296 = ((y * 4294967296 : Nat) : Int) by omega, u64_fits _ (by omega)]
 ·rw [bits_or_u64_nat _ _ (by omega) (by omega)]
  congr 1
  have := Nat.two_pow_add_eq_or_of_lt (show x < 2 ^ 32 from hx) y
  rw [Nat.or_comm, Nat.mul_comm y, show (4294967296 : Nat) = 2 ^ 32 from rfl, ← this, Nat.add_comm]
theorem words32_any (w : World) (lo hi : Nat) (A : Option Addr) (n c N : Nat) (h : Rd .u32 w lo hi A n c (digs B32 N)) (hn : n ≤ 100000000) (hhi : hi ≤ w.heap.size) :
  Calls Tryz.prog 82 #[.slice A n c] w (NumPost w N) := by
 have H := Lib.hid h; have HS := Lib.hid (small_digs B32_two N); have HL := Lib.hid h.1
 clear h
 have hpd := Lib.hid (show pairs (digs B32 N) = digs B64 N from pairs_digs N)
 obtain ⟨ds, hds⟩ : ∃ ds, ds = digs B32 N := ⟨_, rfl⟩
 rw [← hds] at H HS HL hpd
 clear hds
 go_enter Tryz.func82, Tryz.ntmps82
 go_wp2
 go_loopw [4, 3] (fun u v wr => WrdRel w ds n u v wr) (fun u _ _ => n + 2 - (intOf u).toNat)
 case atStart => exact ⟨0, by omega, rfl, Lib.hid (OutL.nil _ _ _ _), Lib.hid (Below.refl _ _)⟩
 case round =>
  obtain ⟨j, hj, rfl, hO, hB⟩ := hrel
  obtain ⟨A0, n0, c0, rfl, hn0, hrd0⟩ := hO.out.rdn
  obtain ⟨k, hk⟩ : ∃ k, k = 2 * j := ⟨_, rfl⟩
  rw [← hk] at hj hO hn0 hrd0 ⊢
  by_cases hlt : k < n
  ·obtain ⟨ad, x, hA, _, hbl, hx, hcx0⟩ := H.out.get_ (j := k) hlt
   subst hA
   have hcx : wr.cell? (ad.add k) = some (.int .u32 (x : Int)) := by rw [← hcx0]; exact hB.out.cell (by rw [block_of_add]; omega)
   have hxB := HS.out.get hx.out
   have e1 := u64_of32 x hxB
   have hstep := pairs_take_two ds k (by have := HL.out; omega) ⟨j, hk⟩
   rw [getD_of hx.out] at hstep
   have hlen : (pairs (ds.take k)).length ≤ k := by rw [pairs_length, List.length_take]; omega
   rcases Nat.lt_or_ge (k + 1) n with hlt2 | hge2
   ·obtain ⟨ad', y, hA, _, hbl', hy, hcy0⟩ := H.out.get_ (j := k + 1) hlt2
    obtain rfl : ad = ad' := by injection hA
    have hcy : wr.cell? (ad.add (k + 1)) = some (.int .u32 (y : Int)) := by rw [← hcy0]; exact hB.out.cell (by rw [block_of_add]; omega)
    have hcy' : wr.cell? ⟨ad.block, ad.off + (k + 1), none⟩ = some (.int .u32 (y : Int)) := by rw [← hcy]; rfl
    have hyB := HS.out.get hy.out
    have e2 := u64_of32 y hyB
    obtain ⟨e3, e4⟩ := pair_word x y hxB hyB
    rw [getD_of hy.out] at hstep
    obtain ⟨v', w', hrun, hO', hB'⟩ := out64 wr w.heap.size _ _ [x + 4294967296 * y] hO.out hB.out.size (by simp; omega)
    rw [← hstep] at hO'
    obtain ⟨q, hq⟩ : ∃ q, q = y * 4294967296 := ⟨_, rfl⟩
    obtain ⟨z, hz⟩ : ∃ z, z = x + 4294967296 * y := ⟨_, rfl⟩
    rw [← hq] at e3 e4
    rw [← hz] at e4 hrun
    have HR := Lib.hid (show (Builtin.append_ #[24, 24] 24 #[.slice A0 n0 c0, .slice (some ⟨wr.heap.size, 0, none⟩) 1 1]).run Tryz.prog (wr.alloc (.cells #[.int .u64 (z : Int)] 66)) = .ok v' w' from hrun)
    have HO2 : Hid (OutL .u64 66 w' w.heap.size v' (pairs (ds.take (2 * (j + 1))))) := by
     rw [show 2 * (j + 1) = k + 2 by omega]; exact Lib.hid hO'
    have hB2 := Lib.hid (hB.out.trans hB')
    have HK := Lib.hid hk
    clear hcx0 hcy0 hxB hyB hstep hlen hrun hO' hB' hq hz hk hA
    go_wp2_with (at_builtin; refine wpList_append_run rfl (.tmp 31) (.tmp 33) _ rfl _ _ _ _ rfl rfl HR.out ?_)
    go_roundw
    case rel => exact ⟨j + 1, by have := HK.out; omega, by have := HK.out; go_num, HO2, hB2⟩
    case measure => simp [intOf]; omega
   ·rw [getD_out (xs := ds) (k := k + 1) (by have := HL.out; omega)] at hstep
    simp only [Nat.mul_zero, Nat.add_zero] at hstep
    obtain ⟨v', w', hrun, hO', hB'⟩ := out64 wr w.heap.size _ _ [x] hO.out hB.out.size (by simp; omega)
    rw [← hstep] at hO'
    have HR := Lib.hid (show (Builtin.append_ #[24, 24] 24 #[.slice A0 n0 c0, .slice (some ⟨wr.heap.size, 0, none⟩) 1 1]).run Tryz.prog (wr.alloc (.cells #[.int .u64 (x : Int)] 66)) = .ok v' w' from hrun)
    have HO2 : Hid (OutL .u64 66 w' w.heap.size v' (pairs (ds.take (2 * (j + 1))))) := by
     rw [show 2 * (j + 1) = k + 2 by omega]; exact Lib.hid hO'
    have hB2 := Lib.hid (hB.out.trans hB')
    have HK := Lib.hid hk
    clear hcx0 hxB hstep hlen hrun hO' hB' hk
    go_wp2_with (at_builtin; refine wpList_append_run rfl (.tmp 31) (.tmp 33) _ rfl _ _ _ _ rfl rfl HR.out ?_)
    go_roundw
    case rel => exact ⟨j + 1, by have := HK.out; omega, by have := HK.out; go_num, HO2, hB2⟩
    case measure => simp [intOf]; omega
  ·have htk : ds.take k = ds := List.take_of_length_le (by have := HL.out; omega)
   have hrd := hrd0.out
   have hOut := hO.out
   rw [htk, hpd.out] at hrd hOut
   have HRD := Lib.hid hrd
   have HOut := Lib.hid hOut
   clear htk hrd hOut hk
   go_wp2
   go_ret
   refine ⟨_, _, _, rfl, HRD.out, hB.out, ?_⟩
   rcases HOut.out.2 with ⟨hv, _⟩ | ⟨g, cap, cur, hv, hg, hh, _⟩
   ·injection hv with h1 h2 h3
    subst h2
    exact fun _ i _ hi => absurd hi (by omega)
   ·injection hv with h1 h2 h3
    intro ad i hA hi
    rw [h1] at hA
    injection hA with hA
    subst hA
    rw [addr_add]
    exact Blk.frozen (t := 66) (cs := cur) hh _
end
section
def Dg (w : World) (A : Option Addr) (n c N : Nat) : Prop := Rd .u32 w 0 w.heap.size A n c (digs B32 N)
theorem Dg.step {w w' : World} {A : Option Addr} {n c N : Nat} (h : Dg w A n c N) (hb : Below w.heap.size w w') : Dg w' A n c N := rd_step h hb
theorem pow_64_32 (k : Nat) : B64 ^ k = B32 ^ (2 * k) := by rw [pow64, pow32]; congr 1; omega
theorem Dg.len {w : World} {A : Option Addr} {n c N k : Nat} (h : Dg w A n c N) (hk : N < B64 ^ k) : n ≤ 2 * k := by
 rw [← h.1]; exact digs_len_le B32_two (by rw [← pow_64_32]; exact hk)
def NewDg (W : World) (N : Nat) (e : Ending) (w' : World) : Prop := ∃ (A : Option Addr) (n c : Nat), e = .returned (.slice A n c) ∧ Dg w' A n c N ∧ Below W.heap.size W w'
theorem NewDg.of {W w' : World} {N M : Nat} {e : Ending} (h : DigPost W N e w') (hN : N = M) : NewDg W M e w' := by
 obtain ⟨A, n, c, he, h1, h2⟩ := h
 subst hN
 exact ⟨A, n, c, he, h1.less (Nat.zero_le _), h2⟩
theorem bits_has {W : World} {A : Option Addr} {n c X k : Nat} (ha : Has W A n c X k) (hk : k ≤ 100000) : Calls Tryz.prog 136 #[.slice A n c] W fun e w' => e = .returned (.int .i64 (nbits X : Int)) ∧ W = w' := by
 obtain ⟨xs, a1, a2, rfl, a4⟩ := ha
 exact bits_any W 0 _ A n c xs a1 a2 (by omega)
theorem zeros_has {W : World} {A : Option Addr} {n c X k : Nat} (ha : Has W A n c X k) (hk : k ≤ 100000) (ht : Tab W) : Calls Tryz.prog 139 #[.slice A n c] W fun e w' => e = .returned (.int .i64 (ntz X : Int)) ∧ W = w' := by
 obtain ⟨xs, a1, a2, rfl, a4⟩ := ha
 exact zeros_any W 0 _ A n c xs a1 a2 (by omega) ht
theorem rzeros_is {W : World} {A : Option Addr} {n c N k : Nat} (ha : Dg W A n c N) (hN : N < B64 ^ k) (hk : k ≤ 100000) : Calls Tryz.prog 101 #[.slice A n c] W fun e w' => e = .returned (.int .i64 (ntz N : Int)) ∧ W = w' := by
 have := zeros32_any W 0 _ A n c _ ha (small_digs B32_two _) (by have := ha.len hN; omega)
 rwa [nval_digs B32_two] at this
end
end Go.Proofs.YtobcbhppmgnioaaGreatDoor
