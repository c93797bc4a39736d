/- Words for memory: a slice of integers that reads as a list of numbers; a block that is known whole. nat.used: the part of a slice below its zero words. math/bits: the contracts of LeadingZeros64, TrailingZeros64, Mul64; the runs of Add64, Sub64. math/bits.TrailingZeros64, by its table. -/
import Derived.Test.YtobcbhppmgnioaaGreatDoorProg
import Derived.Test.YtobcbhppmgnioaaGreatDoorSNatA
import Derived.WalkKit
import Derived.Below
import Derived.Laws.OwnMore
import Derived.Deep.AppendLies
import Derived.Deep.Draws
import Derived.Laws.Rows
import Derived.Lib.Hide
import Derived.LoopTactic
import Derived.Test.YtobcbhppmgnioaaGreatDoorSLen
import Derived.Laws.Bits64b
import Derived.Laws.Externs
namespace Go.Proofs.YtobcbhppmgnioaaGreatDoor
set_option maxHeartbeats 1000000
set_option maxRecDepth 100000
open Go.RowKit Nx
section
def B64 : Nat := 18446744073709551616
def B32 : Nat := 4294967296
theorem block_of_add (a : Addr) (n : Nat) : (a.add n).block = a.block := by unfold Addr.add; split <;> rfl
theorem add_of_add (a : Addr) (i j : Nat) : (a.add i).add j = a.add (i + j) := by
 unfold Addr.add
 by_cases hi : i = 0 <;> by_cases hj : j = 0 <;> simp [hi, hj, Nat.add_assoc]
def Rd (k : IntKind) (w : World) (lo hi : Nat) (A : Option Addr) (n c : Nat) (xs : List Nat) : Prop :=
 xs.length = n ∧ n ≤ c ∧ (0 < n → ∃ ad, A = some ad ∧ lo ≤ ad.block ∧ ad.block < hi ∧ ∀ (j u : Nat), xs[j]? = some u → w.cell? (ad.add j) = some (.int k (u : Int)))
section
variable {k : IntKind} {w w' : World} {lo hi hi' n c : Nat} {A : Option Addr} {xs : List Nat}
theorem Rd.at_ {j : Nat} (h : Rd k w lo hi A n c xs) (hj : j < n) : ∃ ad, A = some ad ∧ lo ≤ ad.block ∧ ad.block < hi ∧ w.cell? (ad.add j) = some (.int k ((xs.getD j 0 : Nat) : Int)) := by
 obtain ⟨ad, e, hl, hb, hc⟩ := h.2.2 (by omega)
 have hx : j < xs.length := by have := h.1; omega
 refine ⟨ad, e, hl, hb, hc j _ ?_⟩
 rw [List.getD_eq_getElem?_getD, List.getElem?_eq_getElem hx]; rfl
theorem Rd.get_ {j : Nat} (h : Rd k w lo hi A n c xs) (hj : j < n) : ∃ (ad : Addr) (u : Nat), A = some ad ∧ lo ≤ ad.block ∧ ad.block < hi ∧ Hid (xs[j]? = some u) ∧ w.cell? (ad.add j) = some (.int k (u : Int)) := by
 obtain ⟨ad, e, hl, hb, hc⟩ := h.2.2 (by omega)
 have hx : j < xs.length := by have := h.1; omega
 exact ⟨ad, xs[j], e, hl, hb, Lib.hid (List.getElem?_eq_getElem hx), hc j _ (List.getElem?_eq_getElem hx)⟩
theorem Rd.keep (h : Rd k w lo hi A n c xs) (hk : ∀ p : Addr, p.block < hi → w'.cell? p = w.cell? p) : Rd k w' lo hi A n c xs :=
 ⟨h.1, h.2.1, fun hn => by
  obtain ⟨ad, e, hl, hb, hc⟩ := h.2.2 hn
  exact ⟨ad, e, hl, hb, fun j u hu => (hk _ (by rw [block_of_add]; exact hb)).trans (hc j u hu)⟩⟩
theorem Rd.more (h : Rd k w lo hi A n c xs) (hB : hi ≤ hi') : Rd k w lo hi' A n c xs :=
 ⟨h.1, h.2.1, fun hn => by
  obtain ⟨ad, e, hl, hb, hc⟩ := h.2.2 hn
  exact ⟨ad, e, hl, by omega, hc⟩⟩
theorem Rd.less {lo' : Nat} (h : Rd k w lo hi A n c xs) (hB : lo' ≤ lo) : Rd k w lo' hi A n c xs :=
 ⟨h.1, h.2.1, fun hn => by
  obtain ⟨ad, e, hl, hb, hc⟩ := h.2.2 hn
  exact ⟨ad, e, by omega, hb, hc⟩⟩
theorem Rd.below (h : Rd k w lo hi A n c xs) (hb : Below hi w w') : Rd k w' lo hi A n c xs := h.keep fun _ hp => hb.cell hp
theorem Rd.drew (h : Rd k w lo hi A n c xs) : Rd k w.drew lo hi A n c xs := h
theorem Rd.drewN (h : Rd k w lo hi A n c xs) (m : Nat) : Rd k (w.drewN m) lo hi A n c xs := h
theorem Rd.alloc (h : Rd k w lo hi A n c xs) (hB : hi ≤ w.heap.size) (o : Obj) : Rd k (w.alloc o) lo hi A n c xs := h.keep fun p hp => World.cell?_alloc_lt w o p (by omega)
theorem Rd.setCell (h : Rd k w lo hi A n c xs) {p : Addr} (hB : hi ≤ p.block) (u : Value) : Rd k (w.setCell p u) lo hi A n c xs :=
 h.keep fun q hq => World.cell?_setCell_other w p q u (fun e => by subst e; omega)
theorem Rd.grown (h : Rd k w lo hi A n c xs) {row : Option Nat} (hg : w.grownBy w' row) (hB : hi ≤ w.heap.size) (hr : ∀ g, row = some g → hi ≤ g) : Rd k w' lo hi A n c xs :=
 h.keep fun p hp => World.cell?_of_block (hg.block p.block (by omega) (fun e => by have := hr _ e.symm; omega))
theorem Rd.none_ : Rd k w lo hi none 0 0 [] := ⟨rfl, Nat.le_refl _, fun h => absurd h (by omega)⟩
theorem Rd.len (h : Rd k w lo hi A n c xs) : xs.length = n := h.1
theorem Rd.take_ (h : Rd k w lo hi A n c xs) {m : Nat} (hm : m ≤ n) : Rd k w lo hi A m c (xs.take m) := by
 refine ⟨by rw [List.length_take]; have := h.1; omega, by have := h.2.1; omega, fun hp => ?_⟩
 obtain ⟨ad, e, hl, hb, hc⟩ := h.2.2 (by omega)
 refine ⟨ad, e, hl, hb, fun j u hu => hc j u ?_⟩
 rw [List.getElem?_take] at hu
 split at hu
 ·exact hu
 ·cases hu
theorem Rd.addr {A' : Option Addr} {c' : Nat} (h : Rd k w lo hi A n c xs) (e : 0 < n → A' = A) (hc' : n ≤ c') : Rd k w lo hi A' n c' xs :=
 ⟨h.1, hc', fun hn => by rw [e hn]; exact h.2.2 hn⟩
end
def Blk (w : World) (g : Nat) (t : TypeId) (cs : Array Value) : Prop := w.heap[g]? = some (.cells cs t (0, 0))
section
variable {w w' : World} {g : Nat} {t : TypeId} {cs : Array Value}
theorem Blk.lt (h : Blk w g t cs) : g < w.heap.size := by
 rcases Nat.lt_or_ge g w.heap.size with hlt | hge
 ·exact hlt
 ·unfold Blk at h; rw [Array.getElem?_eq_none hge] at h; cases h
theorem Blk.cell (h : Blk w g t cs) (i : Nat) : w.cell? ⟨g, i, none⟩ = cs[i]? := cell_of_row w g i cs t (0, 0) h
theorem Blk.frozen (h : Blk w g t cs) (i : Nat) : w.frozen? ⟨g, i, none⟩ = false := by
 unfold Blk at h
 simp [World.frozen?, h]
theorem Blk.new (w : World) (t : TypeId) (cs : Array Value) : Blk (w.alloc (.cells cs t)) w.heap.size t cs := heap_alloc_new w _
theorem Blk.drew (h : Blk w g t cs) : Blk w.drew g t cs := h
theorem Blk.drewN (h : Blk w g t cs) (n : Nat) : Blk (w.drewN n) g t cs := h
theorem Blk.alloc (h : Blk w g t cs) (o : Obj) : Blk (w.alloc o) g t cs := (Below.heap_alloc w o g h.lt).trans h
theorem Blk.set_ (h : Blk w g t cs) (i : Nat) (u : Value) : Blk (w.setCell ⟨g, i, none⟩ u) g t (cs.setIfInBounds i u) := by
 unfold Blk at h ⊢
 simp [World.setCell, Array.getElem?_modify, h]
theorem Blk.far (h : Blk w g t cs) {p : Addr} (hp : g ≠ p.block) (u : Value) : Blk (w.setCell p u) g t cs := (Below.heap_setCell w p u g hp).trans h
theorem Blk.below {B : Nat} (h : Blk w g t cs) (hb : Below B w w') (hg : g < B) : Blk w' g t cs := (hb.block g hg).trans h
theorem Blk.grown {row : Option Nat} (h : Blk w g t cs) (hb : w.grownBy w' row) (hg : some g ≠ row) : Blk w' g t cs := (hb.block g h.lt hg).trans h
end
def ints (k : IntKind) (xs : List Nat) : List Value := xs.map fun (x : Nat) => Value.int k (x : Int)
theorem ints_length (k : IntKind) (xs : List Nat) : (ints k xs).length = xs.length := by simp [ints]
theorem ints_get (k : IntKind) (xs : List Nat) (i : Nat) : (ints k xs)[i]? = (xs[i]?).map (fun (x : Nat) => Value.int k (x : Int)) := by simp [ints]
theorem ints_set (k : IntKind) (xs : List Nat) (i v : Nat) : (ints k xs).set i (.int k (v : Int)) = ints k (xs.set i v) := by simp [ints, List.map_set]
def Row (k : IntKind) (w : World) (g : Nat) (t : TypeId) (zs : List Nat) : Prop := Blk w g t (ints k zs).toArray
section
variable {k : IntKind} {w w' : World} {g : Nat} {t : TypeId} {zs : List Nat}
theorem Row.cell (h : Row k w g t zs) {i : Nat} (hi : i < zs.length) : w.cell? ⟨g, i, none⟩ = some (.int k ((zs.getD i 0 : Nat) : Int)) := by
 rw [Blk.cell h i]
 simp [ints, List.getD_eq_getElem?_getD, List.getElem?_eq_getElem hi]
theorem Row.frozen (h : Row k w g t zs) (i : Nat) : w.frozen? ⟨g, i, none⟩ = false := Blk.frozen h i
theorem Row.lt (h : Row k w g t zs) : g < w.heap.size := Blk.lt h
theorem Row.set_ (h : Row k w g t zs) (i v : Nat) : Row k (w.setCell ⟨g, i, none⟩ (.int k (v : Int))) g t (zs.set i v) := by
 have := Blk.set_ h i (.int k (v : Int))
 unfold Row
 rw [← ints_set]
 simpa using this
theorem Row.drewN (h : Row k w g t zs) (n : Nat) : Row k (w.drewN n) g t zs := h
theorem Row.drew (h : Row k w g t zs) : Row k w.drew g t zs := h
theorem Row.rd (h : Row k w g t zs) {lo hi o n c : Nat} (hl : lo ≤ g) (hh : g < hi) (hon : o + n ≤ zs.length) (hc : n ≤ c) : Rd k w lo hi (some ⟨g, o, none⟩) n c ((zs.drop o).take n) := by
 refine ⟨by simp; omega, hc, fun _ => ⟨_, rfl, hl, hh, fun j u hu => ?_⟩⟩
 rw [List.getElem?_take] at hu
 split at hu
 ·rename_i hj
  rw [List.getElem?_drop] at hu
  have e : (⟨g, o, none⟩ : Addr).add j = ⟨g, o + j, none⟩ := by
   unfold Addr.add; split
   ·subst_vars; rfl
   ·rfl
  rw [e, Blk.cell h]
  simp [ints, hu]
 ·cases hu
theorem Row.rd0 (h : Row k w g t zs) {lo hi c : Nat} (hl : lo ≤ g) (hh : g < hi) (hc : zs.length ≤ c) : Rd k w lo hi (some ⟨g, 0, none⟩) zs.length c zs := by
 have := h.rd (o := 0) (n := zs.length) hl hh (by omega) hc
 simpa using this
end
def Seg (k : IntKind) (w : World) (g : Nat) (t : TypeId) (pre seg post : List Nat) : Prop := Row k w g t (pre ++ seg ++ post)
section
variable {k : IntKind} {w w' : World} {g : Nat} {t : TypeId} {pre seg post : List Nat}
theorem Seg.cell (h : Seg k w g t pre seg post) {o i u : Nat} (ho : pre.length = o) (hi : seg[i]? = some u) : w.cell? ⟨g, o + i, none⟩ = some (.int k (u : Int)) := by
 have hl : i < seg.length := by
  rcases Nat.lt_or_ge i seg.length with a | a
  ·exact a
  ·rw [List.getElem?_eq_none a] at hi; cases hi
 rw [Row.cell h (i := o + i) (by simp; omega)]
 subst ho
 rw [List.getD_eq_getElem?_getD, List.append_assoc, List.getElem?_append_right (by omega), Nat.add_sub_cancel_left, List.getElem?_append_left hl, hi]
 rfl
theorem Seg.frozen (h : Seg k w g t pre seg post) (i : Nat) : w.frozen? ⟨g, i, none⟩ = false := Row.frozen h i
theorem Seg.lt (h : Seg k w g t pre seg post) : g < w.heap.size := Row.lt h
theorem Seg.set_ (h : Seg k w g t pre seg post) {o i : Nat} (ho : pre.length = o) (hi : i < seg.length) (v : Nat) :
  Seg k (w.setCell ⟨g, o + i, none⟩ (.int k (v : Int))) g t pre (seg.set i v) post := by
 have := Row.set_ h (o + i) v
 subst ho
 unfold Seg
 rw [List.append_assoc, List.set_append_right _ _ (by omega), Nat.add_sub_cancel_left, List.set_append_left _ _ hi, ← List.append_assoc] at this
 exact this
theorem Seg.drewN (h : Seg k w g t pre seg post) (n : Nat) : Seg k (w.drewN n) g t pre seg post := h
theorem Seg.drew (h : Seg k w g t pre seg post) : Seg k w.drew g t pre seg post := h
theorem Row.toSeg {zs : List Nat} (h : Row k w g t zs) (e : zs = pre ++ seg ++ post) : Seg k w g t pre seg post := by subst e; exact h
end
section
variable {a w : World} {row : Option Nat}
theorem only_refl (a : World) (row : Option Nat) : a.grownBy a row := World.grownBy.refl a row
theorem only_drewN (h : a.grownBy w row) (n : Nat) : a.grownBy (w.drewN n) row := ⟨h.os, h.tape, h.output, h.size, h.block⟩
theorem only_drew (h : a.grownBy w row) : a.grownBy w.drew row := ⟨h.os, h.tape, h.output, h.size, h.block⟩
theorem only_set {g : Nat} (h : a.grownBy w (some g)) {p : Addr} (hp : p.block = g ∨ a.heap.size ≤ p.block) (u : Value) : a.grownBy (w.setCell p u) (some g) :=
 ⟨h.os, h.tape, h.output, by simpa [World.setCell] using h.size, fun i hi hne => (Below.heap_setCell w p u i (by
  rintro rfl
  rcases hp with hp | hp
  ·exact hne (by rw [hp])
  ·omega)).trans (h.block i hi hne)⟩
theorem only_below {g B : Nat} (h : a.grownBy w (some g)) (hB : B ≤ a.heap.size) (hg : B ≤ g) : Below B a w :=
 (Below.refl B a).grown h hB (fun k hk => by injection hk with hk; omega)
end
theorem addr_add (g o j : Nat) : (⟨g, o, none⟩ : Addr).add j = ⟨g, o + j, none⟩ := by
 unfold Addr.add; split
 ·subst_vars; rfl
 ·rfl
end
section
def UsedPost (w : World) (A : Option Addr) (m : Nat) (e : Ending) (w' : World) : Prop :=
 ∃ (A' : Option Addr) (c' : Nat), e = .returned (.slice A' m c') ∧ w = w' ∧ (0 < m → A' = A) ∧ m ≤ c'
def ulen (xs : List Nat) : Nat := (digs B64 (nval B64 xs)).length
theorem ulen_of {xs : List Nat} (hs : Small B64 xs) (m : Nat) (hz : ∀ j u, m ≤ j → xs[j]? = some u → u = 0)
  (hl : ∀ u, 0 < m → xs[m - 1]? = some u → u ≠ 0) (hm : m ≤ xs.length) : ulen xs = m := by
 unfold ulen
 rw [digs_nval_take (by unfold B64; omega) hs m hz hl hm, List.length_take]; omega
theorem ulen_le {xs : List Nat} (hs : Small B64 xs) : ulen xs ≤ xs.length := digs_len_le (by unfold B64; omega) (nval_lt hs)
theorem digs_take {xs : List Nat} (hs : Small B64 xs) : digs B64 (nval B64 xs) = xs.take (ulen xs) := by
 have hB : 2 ≤ B64 := by unfold B64; omega
 have : ∀ m, m ≤ xs.length → (∀ j u, m ≤ j → xs[j]? = some u → u = 0) → digs B64 (nval B64 xs) = xs.take (ulen xs) := by
  intro m
  induction m with
  | zero =>
   intro hm hz
   have e := ulen_of hs 0 hz (fun u h => absurd h (by omega)) hm
   rw [digs_nval_take hB hs 0 hz (fun u h => absurd h (by omega)) hm, e]
  | succ m ih =>
   intro hm hz
   by_cases h0 : xs[m]? = some 0
   ·refine ih (by omega) (fun j u hj hu => ?_)
    rcases Nat.eq_or_lt_of_le hj with e | e
    ·subst e; rw [h0] at hu; injection hu with hu; exact hu.symm
    ·exact hz j u e hu
   ·have hl : ∀ u, 0 < m + 1 → xs[m + 1 - 1]? = some u → u ≠ 0 := by
     rintro u _ hu rfl; exact h0 hu
    rw [digs_nval_take hB hs (m + 1) hz hl hm, ulen_of hs (m + 1) hz hl hm]
 exact this xs.length (Nat.le_refl _) (fun j u hj hu => by rw [List.getElem?_eq_none hj] at hu; cases hu)
theorem Rd.used {w : World} {lo hi n c c' : Nat} {A A' : Option Addr} {xs : List Nat} (h : Rd .u64 w lo hi A n c xs) (hs : Small B64 xs) (hA : 0 < ulen xs → A' = A) (hc : ulen xs ≤ c') :
  Rd .u64 w lo hi A' (ulen xs) c' (digs B64 (nval B64 xs)) := by
 rw [digs_take hs]
 exact (h.take_ (by have := ulen_le hs; have := h.1; omega)).addr hA hc
theorem used_any (w : World) (lo hi : Nat) (A : Option Addr) (n c : Nat) (xs : List Nat) (h : Rd .u64 w lo hi A n c xs) (hs : Small B64 xs) (hn : n ≤ 1000000000) :
  Calls Tryz.prog 146 #[.slice A n c] w (UsedPost w A (ulen xs)) := by
 have H := Lib.hid h
 have hnc := h.2.1
 have HL := Lib.hid h.1
 clear h
 have HS := Lib.hid hs
 clear hs
 go_enter Tryz.func146, Tryz.ntmps146
 go_wp2
 go_loop [7] (fun i => ∃ k : Nat, k ≤ n ∧ i = .int .i64 k ∧ Hid (∀ j u, n - k ≤ j → xs[j]? = some u → u = 0)) (fun i => n - (intOf i).toNat)
 case atStart => exact ⟨0, Nat.zero_le _, rfl, Lib.hid (fun j u hj hu => by have := HL.out; rw [List.getElem?_eq_none (by omega)] at hu; cases hu)⟩
 case round =>
  obtain ⟨k, hk, rfl, hz⟩ := hrel
  by_cases hlt : k < n
  ·obtain ⟨ad, v, hA, _, _, hv, hc⟩ := H.out.get_ (j := n - k - 1) (by omega)
   subst hA
   go_wp2
   ·rename_i hne _
    go_ret
    have hne' : v ≠ 0 := by simpa using hne
    have e : ulen xs = n - k := ulen_of HS.out (n - k) hz.out (fun u _ hu => by
     have := hv.out; rw [hu] at this; injection this with this; omega) (by have := HL.out; omega)
    rw [e]
    exact ⟨_, _, rfl, rfl, fun _ => rfl, by omega⟩
   ·rename_i hne
    have hv0 : v = 0 := by simpa using hne
    go_round
    case rel => exact ⟨k + 1, by omega, by go_num, Lib.hid (fun j u hj hu => by
     rcases Nat.lt_or_ge j (n - k) with h1 | h1
     ·have h2 : j = n - k - 1 := by omega
      subst h2
      have := hv.out; rw [hu] at this; injection this with this; omega
     ·exact hz.out j u h1 hu)⟩
    case measure => simp [intOf]; omega
  ·go_wp2
   go_ret
   have e : ulen xs = 0 := ulen_of HS.out 0 (fun j u hj hu => hz.out j u (by omega) hu) (fun u h => absurd h (by omega)) (Nat.zero_le _)
   rw [e]
   exact ⟨_, _, rfl, rfl, fun h => absurd h (by omega), Nat.le_refl _⟩
end
section
theorem len64_any (x : Nat) (w : World) (h : x < B64) : Calls Tryz.prog 149 #[.int .u64 (x : Int)] w fun e w' => e = .returned (.int .i64 (nbits x : Int)) ∧ w = w' :=
 len64_nat x w h
def subEntry : Array Value → Sem Value := fun args => do
 let (x, y, b) ← Extern.MathBitsCarry.three "Sub64" args
 pure (Extern.MathBitsCarry.pair ((x + Extern.MathBitsCarry.m64 - y - b) % Extern.MathBitsCarry.m64) (if x < y + b then 1 else 0))
theorem run_sub (x y b : Nat) (hb : b ≤ 1) (w : World) :
  (subEntry #[.int .u64 (x : Int), .int .u64 (y : Int), .int .u64 (b : Int)]).run Tryz.prog w =
   .ok (.tuple #[.int .u64 (((x + B64 - y - b) % B64 : Nat) : Int), .int .u64 ((if x < y + b then 1 else 0 : Nat) : Int)]) w := by
 rcases (show b = 0 ∨ b = 1 by omega) with rfl | rfl <;> rfl
theorem add64_run (x y c : Nat) (hc : c ≤ 1) (w : World) :
  (callFunc 158 #[.int .u64 (x : Int), .int .u64 (y : Int), .int .u64 (c : Int)]).run Tryz.prog w =
   .ok (.value (.tuple #[.int .u64 (((x + y + c) % B64 : Nat) : Int), .int .u64 (((x + y + c) / B64 : Nat) : Int)])) w := by
 rw [run_callFunc_extern Tryz.func158 (by kernel_rfl) (by kernel_rfl) (by kernel_rfl) (e := add64Entry) (by kernel_rfl), run_add64 x y c (by omega) (by omega) (by omega) (by omega)]
 simp only [Result.andThen]
 unfold B64
 congr 5 <;> omega
theorem sub64_run (x y b : Nat) (hb : b ≤ 1) (w : World) :
  (callFunc 160 #[.int .u64 (x : Int), .int .u64 (y : Int), .int .u64 (b : Int)]).run Tryz.prog w =
   .ok (.value (.tuple #[.int .u64 (((x + B64 - y - b) % B64 : Nat) : Int), .int .u64 ((if x < y + b then 1 else 0 : Nat) : Int)])) w := by
 rw [run_callFunc_extern Tryz.func160 (by kernel_rfl) (by kernel_rfl) (by kernel_rfl) (e := subEntry) (by kernel_rfl), run_sub x y b hb]
 rfl
theorem mask32 (a : Nat) (ha : a < 18446744073709551616) : bits .and .u64 (a : Int) 4294967295 = ((a % 4294967296 : Nat) : Int) := by
 have h := bits_and_u64_nat a 4294967295 ha (by omega)
 rw [show a &&& 4294967295 = a % 4294967296 from Nat.and_two_pow_sub_one_eq_mod a 32] at h
 exact h
theorem u64_fits (a : Nat) (ha : a < 18446744073709551616) : IntKind.u64.wrap (a : Int) = (a : Int) := by rw [IntKind.wrap_u64]; omega
theorem u64_wraps (a : Nat) : IntKind.u64.wrap (a : Int) = ((a % 18446744073709551616 : Nat) : Int) := by rw [IntKind.wrap_u64]; omega
theorem cast_div (a : Nat) : (a : Int) / 4294967296 = ((a / 4294967296 : Nat) : Int) := by omega
theorem cast_mul (a b : Nat) : (a : Int) * (b : Int) = ((a * b : Nat) : Int) := (Int.natCast_mul a b).symm
theorem cast_add (a b : Nat) : (a : Int) + (b : Int) = ((a + b : Nat) : Int) := (Int.natCast_add a b).symm
theorem mul64_any (x y : Nat) (hx : x < B64) (hy : y < B64) (w : World) :
  Calls Tryz.prog 161 #[.int .u64 (x : Int), .int .u64 (y : Int)] w fun e w' => e = .returned (.tuple #[.int .u64 ((x * y / B64 : Nat) : Int), .int .u64 ((x * y % B64 : Nat) : Int)]) ∧ w = w' := by
 obtain ⟨p1, p2, p3, p4⟩ := Lib.mul64_hi x y hx hy
 have q1 := Lib.half_mul_le (a := x / 4294967296) (b := y / 4294967296) (by unfold B64 at hx; omega) (by unfold B64 at hy; omega)
 have q2 := Lib.half_mul_le (a := x / 4294967296) (b := y % 4294967296) (by unfold B64 at hx; omega) (by omega)
 have q3 := Lib.half_mul_le (a := x % 4294967296) (b := y / 4294967296) (by omega) (by unfold B64 at hy; omega)
 have r1 : x / 4294967296 * (y / 4294967296) < 18446744073709551616 := by omega
 have r2 : x / 4294967296 * (y % 4294967296) < 18446744073709551616 := by omega
 have r3 : x % 4294967296 * (y / 4294967296) < 18446744073709551616 := by omega
 have r4 : x / 4294967296 * (y / 4294967296) + (x / 4294967296 * (y % 4294967296) + x % 4294967296 * (y % 4294967296) / 4294967296) / 4294967296 < 18446744073709551616 := by omega
 have r5 : x / 4294967296 * (y / 4294967296) + (x / 4294967296 * (y % 4294967296) + x % 4294967296 * (y % 4294967296) / 4294967296) / 4294967296 + ((x / 4294967296 * (y % 4294967296) + x % 4294967296 * (y % 4294967296) / 4294967296) % 4294967296 + x % 4294967296 * (y / 4294967296)) / 4294967296 < 18446744073709551616 := by omega
 have P4 := Lib.hid p4
 clear p4
 go_enter Tryz.func161, Tryz.ntmps161
 go_wp2
 simp only [mask32 x hx, mask32 y hy, cast_div, cast_mul, cast_add, u64_fits _ p1, u64_fits _ r2, u64_fits _ p2, mask32 _ p2, u64_fits _ r3, u64_fits _ p3, u64_fits _ r1, u64_fits _ r4, u64_fits _ r5, u64_wraps (x * y)]
 rw [P4.out]
 go_ret2
 exact ⟨rfl, rfl⟩
end
section
def deb : List Nat := [0, 1, 56, 2, 57, 49, 28, 3, 61, 58, 42, 50, 38, 29, 17, 4, 62, 47, 59, 36, 45, 43, 51, 22, 53, 39, 33, 30, 24, 18, 12, 5, 63, 55, 48, 27, 60, 41, 37, 16, 46, 35, 44, 21, 52, 32, 23, 11, 54, 26, 40, 15, 34, 20, 31, 10, 25, 14, 19, 9, 13, 8, 7, 6]
def Tab (w : World) : Prop := ∀ i : Nat, i < 64 → w.cell? ⟨0, i, none⟩ = some (.int .u8 ((deb.getD i 0 : Nat) : Int))
theorem deb_at : ∀ k : Fin 64, deb.getD (2 ^ k.val * 285870213051353865 % 18446744073709551616 / 288230376151711744) 0 = k.val := by decide +kernel
theorem trail_index (x : Nat) (hx0 : x ≠ 0) (h : x < B64) : ∃ i : Nat, i < 64 ∧ deb.getD i 0 = ntz x ∧
  IntKind.u64.wrap (bits .and .u64 (x : Int) (IntKind.u64.wrap (-(x : Int))) * 285870213051353865) / 288230376151711744 = (i : Int) := by
 have hk : ntz x < 64 := ntz_lt hx0 (show x < 2 ^ 64 from h)
 have hand : x &&& (18446744073709551616 - x) = 2 ^ ntz x := and_neg 64 x hx0 h
 have hdb := deb_at ⟨ntz x, hk⟩
 unfold B64 at h
 refine ⟨_, ?_, hdb, ?_⟩
 ·rw [Nat.div_lt_iff_lt_mul (by omega)]; omega
 ·have e1 : IntKind.u64.wrap (-(x : Int)) = ((18446744073709551616 - x : Nat) : Int) := by rw [IntKind.wrap_u64]; omega
  rw [e1, bits_and_u64_nat x _ h (by omega), hand, IntKind.wrap_u64]
  generalize (2 : Nat) ^ ntz x = p
  show ((p : Int) * 285870213051353865) % 18446744073709551616 / 288230376151711744 = ((p * 285870213051353865 % 18446744073709551616 / 288230376151711744 : Nat) : Int)
  omega
theorem trail64_any (x : Nat) (hx0 : x ≠ 0) (h : x < B64) (w : World) (ht : Tab w) :
  Calls Tryz.prog 153 #[.int .u64 (x : Int)] w fun e w' => e = .returned (.int .i64 (ntz x : Int)) ∧ w = w' := by
 have hk : ntz x < 64 := ntz_lt hx0 (show x < 2 ^ 64 from h)
 have hne : ((x : Int) == 0) = false := by simp; omega
 obtain ⟨i, hi, hd, he⟩ := trail_index x hx0 h
 have hc := ht i hi
 rw [hd] at hc
 have hi' : (i : Int) < 64 := by omega
 clear hd ht hx0
 go_enter Tryz.func153, Tryz.ntmps153
 go_wp2
 go_ret
 exact ⟨rfl, rfl⟩
end
end Go.Proofs.YtobcbhppmgnioaaGreatDoor
