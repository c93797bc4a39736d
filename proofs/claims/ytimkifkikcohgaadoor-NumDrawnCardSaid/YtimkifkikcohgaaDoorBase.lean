/- Words for memory: a slice of integers that reads as a list of numbers; a block that is known whole. -/
import Derived.Test.YtimkifkikcohgaaDoorProg
import Derived.Test.YtimkifkikcohgaaDoorMathA
import Derived.WalkKit
import Derived.Below
import Derived.Laws.OwnMore
import Derived.Deep.AppendLies
import Derived.Deep.Draws
import Derived.Laws.Rows
import Derived.Lib.Hide
namespace Go.Proofs.YtimkifkikcohgaaDoor
open Go.RowKit Nx

/-- The base of the words. -/
def B64 : Nat := 18446744073709551616
def B32 : Nat := 4294967296

theorem block_of_add (a : Addr) (n : Nat) : (a.add n).block = a.block := by unfold Addr.add; split <;> rfl
theorem add_of_add (a : Addr) (i j : Nat) : (a.add i).add j = a.add (i + j) := by
  unfold Addr.add
  by_cases hi : i = 0 <;> by_cases hj : j = 0 <;> simp [hi, hj, Nat.add_assoc]

/-- The slice '.slice A n c' reads as the numbers xs; its block lies from lo on and below hi. -/
def Rd (k : IntKind) (w : World) (lo hi : Nat) (A : Option Addr) (n c : Nat) (xs : List Nat) : Prop :=
  xs.length = n ∧ n ≤ c ∧ (0 < n → ∃ ad, A = some ad ∧ lo ≤ ad.block ∧ ad.block < hi ∧ ∀ (j u : Nat), xs[j]? = some u → w.cell? (ad.add j) = some (.int k (u : Int)))

section
variable {k : IntKind} {w w' : World} {lo hi hi' n c : Nat} {A : Option Addr} {xs : List Nat}
theorem Rd.at_ {j : Nat} (h : Rd k w lo hi A n c xs) (hj : j < n) : ∃ ad, A = some ad ∧ lo ≤ ad.block ∧ ad.block < hi ∧ w.cell? (ad.add j) = some (.int k ((xs.getD j 0 : Nat) : Int)) := by
  obtain ⟨ad, e, hl, hb, hc⟩ := h.2.2 (by omega)
  have hx : j < xs.length := by have := h.1; omega
  refine ⟨ad, e, hl, hb, hc j _ ?_⟩
  rw [List.getD_eq_getElem?_getD, List.getElem?_eq_getElem hx]; rfl
theorem Rd.get_ {j : Nat} (h : Rd k w lo hi A n c xs) (hj : j < n) : ∃ (ad : Addr) (u : Nat), A = some ad ∧ lo ≤ ad.block ∧ ad.block < hi ∧ Hid (xs[j]? = some u) ∧ w.cell? (ad.add j) = some (.int k (u : Int)) := by
  obtain ⟨ad, e, hl, hb, hc⟩ := h.2.2 (by omega)
  have hx : j < xs.length := by have := h.1; omega
  exact ⟨ad, xs[j], e, hl, hb, Lib.hid (List.getElem?_eq_getElem hx), hc j _ (List.getElem?_eq_getElem hx)⟩
theorem Rd.keep (h : Rd k w lo hi A n c xs) (hk : ∀ p : Addr, p.block < hi → w'.cell? p = w.cell? p) : Rd k w' lo hi A n c xs :=
  ⟨h.1, h.2.1, fun hn => by
    obtain ⟨ad, e, hl, hb, hc⟩ := h.2.2 hn
    exact ⟨ad, e, hl, hb, fun j u hu => (hk _ (by rw [block_of_add]; exact hb)).trans (hc j u hu)⟩⟩
theorem Rd.more (h : Rd k w lo hi A n c xs) (hB : hi ≤ hi') : Rd k w lo hi' A n c xs :=
  ⟨h.1, h.2.1, fun hn => by
    obtain ⟨ad, e, hl, hb, hc⟩ := h.2.2 hn
    exact ⟨ad, e, hl, by omega, hc⟩⟩
theorem Rd.less {lo' : Nat} (h : Rd k w lo hi A n c xs) (hB : lo' ≤ lo) : Rd k w lo' hi A n c xs :=
  ⟨h.1, h.2.1, fun hn => by
    obtain ⟨ad, e, hl, hb, hc⟩ := h.2.2 hn
    exact ⟨ad, e, by omega, hb, hc⟩⟩
theorem Rd.below (h : Rd k w lo hi A n c xs) (hb : Below hi w w') : Rd k w' lo hi A n c xs := h.keep fun _ hp => hb.cell hp
theorem Rd.drew (h : Rd k w lo hi A n c xs) : Rd k w.drew lo hi A n c xs := h
theorem Rd.drewN (h : Rd k w lo hi A n c xs) (m : Nat) : Rd k (w.drewN m) lo hi A n c xs := h
theorem Rd.alloc (h : Rd k w lo hi A n c xs) (hB : hi ≤ w.heap.size) (o : Obj) : Rd k (w.alloc o) lo hi A n c xs := h.keep fun p hp => World.cell?_alloc_lt w o p (by omega)
theorem Rd.setCell (h : Rd k w lo hi A n c xs) {p : Addr} (hB : hi ≤ p.block) (u : Value) : Rd k (w.setCell p u) lo hi A n c xs :=
  h.keep fun q hq => World.cell?_setCell_other w p q u (fun e => by subst e; omega)
theorem Rd.grown (h : Rd k w lo hi A n c xs) {row : Option Nat} (hg : w.grownBy w' row) (hB : hi ≤ w.heap.size) (hr : ∀ g, row = some g → hi ≤ g) : Rd k w' lo hi A n c xs :=
  h.keep fun p hp => World.cell?_of_block (hg.block p.block (by omega) (fun e => by have := hr _ e.symm; omega))
theorem Rd.none_ : Rd k w lo hi none 0 0 [] := ⟨rfl, Nat.le_refl _, fun h => absurd h (by omega)⟩
theorem Rd.len (h : Rd k w lo hi A n c xs) : xs.length = n := h.1
theorem Rd.take_ (h : Rd k w lo hi A n c xs) {m : Nat} (hm : m ≤ n) : Rd k w lo hi A m c (xs.take m) := by
  refine ⟨by rw [List.length_take]; have := h.1; omega, by have := h.2.1; omega, fun hp => ?_⟩
  obtain ⟨ad, e, hl, hb, hc⟩ := h.2.2 (by omega)
  refine ⟨ad, e, hl, hb, fun j u hu => hc j u ?_⟩
  rw [List.getElem?_take] at hu
  split at hu
  · exact hu
  · cases hu
theorem Rd.addr {A' : Option Addr} {c' : Nat} (h : Rd k w lo hi A n c xs) (e : 0 < n → A' = A) (hc' : n ≤ c') : Rd k w lo hi A' n c' xs :=
  ⟨h.1, hc', fun hn => by rw [e hn]; exact h.2.2 hn⟩
end

/-- Block g is just the cells cs of element type t, none frozen. -/
def Blk (w : World) (g : Nat) (t : TypeId) (cs : Array Value) : Prop := w.heap[g]? = some (.cells cs t (0, 0))
section
variable {w w' : World} {g : Nat} {t : TypeId} {cs : Array Value}
theorem Blk.lt (h : Blk w g t cs) : g < w.heap.size := by
  rcases Nat.lt_or_ge g w.heap.size with hlt | hge
  · exact hlt
  · unfold Blk at h; rw [Array.getElem?_eq_none hge] at h; cases h
theorem Blk.cell (h : Blk w g t cs) (i : Nat) : w.cell? ⟨g, i, none⟩ = cs[i]? := cell_of_row w g i cs t (0, 0) h
theorem Blk.frozen (h : Blk w g t cs) (i : Nat) : w.frozen? ⟨g, i, none⟩ = false := by
  unfold Blk at h
  simp [World.frozen?, h]
theorem Blk.new (w : World) (t : TypeId) (cs : Array Value) : Blk (w.alloc (.cells cs t)) w.heap.size t cs := heap_alloc_new w _
theorem Blk.drew (h : Blk w g t cs) : Blk w.drew g t cs := h
theorem Blk.drewN (h : Blk w g t cs) (n : Nat) : Blk (w.drewN n) g t cs := h
theorem Blk.alloc (h : Blk w g t cs) (o : Obj) : Blk (w.alloc o) g t cs := (Below.heap_alloc w o g h.lt).trans h
theorem Blk.set_ (h : Blk w g t cs) (i : Nat) (u : Value) : Blk (w.setCell ⟨g, i, none⟩ u) g t (cs.setIfInBounds i u) := by
  unfold Blk at h ⊢
  simp [World.setCell, Array.getElem?_modify, h]
theorem Blk.far (h : Blk w g t cs) {p : Addr} (hp : g ≠ p.block) (u : Value) : Blk (w.setCell p u) g t cs := (Below.heap_setCell w p u g hp).trans h
theorem Blk.below {B : Nat} (h : Blk w g t cs) (hb : Below B w w') (hg : g < B) : Blk w' g t cs := (hb.block g hg).trans h
theorem Blk.grown {row : Option Nat} (h : Blk w g t cs) (hb : w.grownBy w' row) (hg : some g ≠ row) : Blk w' g t cs := (hb.block g h.lt hg).trans h
end

/-- A list of numbers as the cells of a block. -/
def ints (k : IntKind) (xs : List Nat) : List Value := xs.map fun (x : Nat) => Value.int k (x : Int)
theorem ints_length (k : IntKind) (xs : List Nat) : (ints k xs).length = xs.length := by simp [ints]
theorem ints_get (k : IntKind) (xs : List Nat) (i : Nat) : (ints k xs)[i]? = (xs[i]?).map (fun (x : Nat) => Value.int k (x : Int)) := by simp [ints]
theorem ints_set (k : IntKind) (xs : List Nat) (i v : Nat) : (ints k xs).set i (.int k (v : Int)) = ints k (xs.set i v) := by simp [ints, List.map_set]

/-- A block that holds the numbers zs. -/
def Row (k : IntKind) (w : World) (g : Nat) (t : TypeId) (zs : List Nat) : Prop := Blk w g t (ints k zs).toArray
section
variable {k : IntKind} {w w' : World} {g : Nat} {t : TypeId} {zs : List Nat}
theorem Row.cell (h : Row k w g t zs) {i : Nat} (hi : i < zs.length) : w.cell? ⟨g, i, none⟩ = some (.int k ((zs.getD i 0 : Nat) : Int)) := by
  rw [Blk.cell h i]
  simp [ints, List.getD_eq_getElem?_getD, List.getElem?_eq_getElem hi]
theorem Row.frozen (h : Row k w g t zs) (i : Nat) : w.frozen? ⟨g, i, none⟩ = false := Blk.frozen h i
theorem Row.lt (h : Row k w g t zs) : g < w.heap.size := Blk.lt h
theorem Row.set_ (h : Row k w g t zs) (i v : Nat) : Row k (w.setCell ⟨g, i, none⟩ (.int k (v : Int))) g t (zs.set i v) := by
  have := Blk.set_ h i (.int k (v : Int))
  unfold Row
  rw [← ints_set]
  simpa using this
theorem Row.drewN (h : Row k w g t zs) (n : Nat) : Row k (w.drewN n) g t zs := h
theorem Row.drew (h : Row k w g t zs) : Row k w.drew g t zs := h
theorem Row.rd (h : Row k w g t zs) {lo hi o n c : Nat} (hl : lo ≤ g) (hh : g < hi) (hon : o + n ≤ zs.length) (hc : n ≤ c) : Rd k w lo hi (some ⟨g, o, none⟩) n c ((zs.drop o).take n) := by
  refine ⟨by simp; omega, hc, fun _ => ⟨_, rfl, hl, hh, fun j u hu => ?_⟩⟩
  rw [List.getElem?_take] at hu
  split at hu
  · rename_i hj
    rw [List.getElem?_drop] at hu
    have e : (⟨g, o, none⟩ : Addr).add j = ⟨g, o + j, none⟩ := by
      unfold Addr.add; split
      · subst_vars; rfl
      · rfl
    rw [e, Blk.cell h]
    simp [ints, hu]
  · cases hu
theorem Row.rd0 (h : Row k w g t zs) {lo hi c : Nat} (hl : lo ≤ g) (hh : g < hi) (hc : zs.length ≤ c) : Rd k w lo hi (some ⟨g, 0, none⟩) zs.length c zs := by
  have := h.rd (o := 0) (n := zs.length) hl hh (by omega) hc
  simpa using this
end
/-- A block of which a middle part is spoken of. -/
def Seg (k : IntKind) (w : World) (g : Nat) (t : TypeId) (pre seg post : List Nat) : Prop := Row k w g t (pre ++ seg ++ post)
section
variable {k : IntKind} {w w' : World} {g : Nat} {t : TypeId} {pre seg post : List Nat}
theorem Seg.cell (h : Seg k w g t pre seg post) {o i u : Nat} (ho : pre.length = o) (hi : seg[i]? = some u) : w.cell? ⟨g, o + i, none⟩ = some (.int k (u : Int)) := by
  have hl : i < seg.length := by
    rcases Nat.lt_or_ge i seg.length with a | a
    · exact a
    · rw [List.getElem?_eq_none a] at hi; cases hi
  rw [Row.cell h (i := o + i) (by simp; omega)]
  subst ho
  rw [List.getD_eq_getElem?_getD, List.append_assoc, List.getElem?_append_right (by omega), Nat.add_sub_cancel_left, List.getElem?_append_left hl, hi]
  rfl
theorem Seg.frozen (h : Seg k w g t pre seg post) (i : Nat) : w.frozen? ⟨g, i, none⟩ = false := Row.frozen h i
theorem Seg.lt (h : Seg k w g t pre seg post) : g < w.heap.size := Row.lt h
theorem Seg.set_ (h : Seg k w g t pre seg post) {o i : Nat} (ho : pre.length = o) (hi : i < seg.length) (v : Nat) :
    Seg k (w.setCell ⟨g, o + i, none⟩ (.int k (v : Int))) g t pre (seg.set i v) post := by
  have := Row.set_ h (o + i) v
  subst ho
  unfold Seg
  rw [List.append_assoc, List.set_append_right _ _ (by omega), Nat.add_sub_cancel_left, List.set_append_left _ _ hi, ← List.append_assoc] at this
  exact this
theorem Seg.drewN (h : Seg k w g t pre seg post) (n : Nat) : Seg k (w.drewN n) g t pre seg post := h
theorem Seg.drew (h : Seg k w g t pre seg post) : Seg k w.drew g t pre seg post := h
theorem Row.toSeg {zs : List Nat} (h : Row k w g t zs) (e : zs = pre ++ seg ++ post) : Seg k w g t pre seg post := by subst e; exact h
end

/-! Only block g, and what is new, has turned. -/
section
variable {a w : World} {row : Option Nat}
theorem only_refl (a : World) (row : Option Nat) : a.grownBy a row := World.grownBy.refl a row
theorem only_drewN (h : a.grownBy w row) (n : Nat) : a.grownBy (w.drewN n) row := ⟨h.os, h.tape, h.output, h.size, h.block⟩
theorem only_drew (h : a.grownBy w row) : a.grownBy w.drew row := ⟨h.os, h.tape, h.output, h.size, h.block⟩
theorem only_alloc (h : a.grownBy w row) (o : Obj) : a.grownBy (w.alloc o) row :=
  ⟨h.os, h.tape, h.output, Nat.le_trans h.size (by simp), fun i hi hne => (Below.heap_alloc w o i (Nat.lt_of_lt_of_le hi h.size)).trans (h.block i hi hne)⟩
theorem only_set {g : Nat} (h : a.grownBy w (some g)) {p : Addr} (hp : p.block = g ∨ a.heap.size ≤ p.block) (u : Value) : a.grownBy (w.setCell p u) (some g) :=
  ⟨h.os, h.tape, h.output, by simpa [World.setCell] using h.size, fun i hi hne => (Below.heap_setCell w p u i (by
    rintro rfl
    rcases hp with hp | hp
    · exact hne (by rw [hp])
    · omega)).trans (h.block i hi hne)⟩
theorem only_below {g B : Nat} (h : a.grownBy w (some g)) (hB : B ≤ a.heap.size) (hg : B ≤ g) : Below B a w :=
  (Below.refl B a).grown h hB (fun k hk => by injection hk with hk; omega)
end

theorem addr_add (g o j : Nat) : (⟨g, o, none⟩ : Addr).add j = ⟨g, o + j, none⟩ := by
  unfold Addr.add; split
  · subst_vars; rfl
  · rfl
end Go.Proofs.YtimkifkikcohgaaDoor
