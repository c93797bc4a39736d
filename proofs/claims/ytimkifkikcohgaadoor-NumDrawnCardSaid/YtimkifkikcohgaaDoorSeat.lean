/- fathomlineseat: the deck, Next. -/
import Derived.Test.YtimkifkikcohgaaDoorNumDF
namespace Go.Proofs.YtimkifkikcohgaaDoor
open Go.RowKit Nx

/-- A deck in block g: its numbers, and how many were drawn. -/
def Dk (w : World) (g : Nat) (A : Option Addr) (n c k : Nat) : Prop := Blk w g 69 #[.slice A n c, .int .i64 (k : Int)]
theorem Dk.c0 {w : World} {g : Nat} {A : Option Addr} {n c k : Nat} (h : Dk w g A n c k) : w.cell? ⟨g, 0, none⟩ = some (.slice A n c) := by have := Blk.cell h 0; simpa using this
theorem Dk.c1 {w : World} {g : Nat} {A : Option Addr} {n c k : Nat} (h : Dk w g A n c k) : w.cell? ⟨g, 1, none⟩ = some (.int .i64 (k : Int)) := by have := Blk.cell h 1; simpa using this
theorem Dk.fz {w : World} {g : Nat} {A : Option Addr} {n c k : Nat} (h : Dk w g A n c k) (i : Nat) : w.frozen? ⟨g, i, none⟩ = false := Blk.frozen h i
theorem Dk.step {w w' : World} {g : Nat} {A : Option Addr} {n c k : Nat} (h : Dk w g A n c k) (hb : Below w.heap.size w w') : Dk w' g A n c k := Blk.below h hb h.lt
/-- No block that was there is another, but for g. -/
structure Mv (g : Nat) (w w' : World) : Prop where
  os : w'.os = w.os
  tape : w'.tape = w.tape
  output : w'.output = w.output
  size : w.heap.size ≤ w'.heap.size
  block : ∀ i, i < w.heap.size → i ≠ g → w'.heap[i]? = w.heap[i]?
theorem Mv.of {g : Nat} {w w' : World} (h : Below w.heap.size w w') : Mv g w w' := ⟨h.os, h.tape, h.output, h.size, fun i hi _ => h.block i hi⟩
theorem Mv.trans {g : Nat} {a b c : World} (h : Mv g a b) (h' : Mv g b c) : Mv g a c :=
  ⟨h'.os.trans h.os, h'.tape.trans h.tape, h'.output.trans h.output, Nat.le_trans h.size h'.size, fun i hi hg => (h'.block i (Nat.lt_of_lt_of_le hi h.size) hg).trans (h.block i hi hg)⟩
theorem Mv.below {g B : Nat} {w0 w w' : World} (h : Below B w0 w) (h' : Mv g w w') (hg : B ≤ g) (hB : B ≤ w.heap.size) : Below B w0 w' :=
  ⟨h'.os.trans h.os, h'.tape.trans h.tape, h'.output.trans h.output, Nat.le_trans h.size h'.size, fun i hi => (h'.block i (by omega) (by omega)).trans (h.block i hi)⟩
theorem Mv.rd {k : IntKind} {g : Nat} {w w' : World} {lo hi n c : Nat} {A : Option Addr} {xs : List Nat} (h' : Mv g w w') (h : Rd k w lo hi A n c xs) (hg : g < lo ∨ hi ≤ g) (hh : hi ≤ w.heap.size) : Rd k w' lo hi A n c xs :=
  ⟨h.1, h.2.1, fun hn => by
    obtain ⟨ad, e, hl, hb, hc⟩ := h.2.2 hn
    refine ⟨ad, e, hl, hb, fun j u hu => ?_⟩
    rw [← hc j u hu]
    exact World.cell?_of_block (by rw [block_of_add]; exact h'.block _ (by omega) (by omega))⟩

/-- What Next leaves. -/
def NextPost (w : World) (g : Nat) (A : Option Addr) (n c k : Nat) (e : Ending) (w' : World) : Prop := ∃ v : Nat, v < B64 ∧ e = .returned (.int .u64 (v : Int)) ∧ Dk w' g A n c (k + 1) ∧ Mv g w w'

theorem next_end {w : World} {g : Nat} {A : Option Addr} {n c k m : Nat} (h : Dk w g A n c k) : Dk ((w.drewN m).setCell ⟨g, 1, none⟩ (.int .i64 ((k : Int) + 1))) g A n c (k + 1) ∧ Mv g w ((w.drewN m).setCell ⟨g, 1, none⟩ (.int .i64 ((k : Int) + 1))) := by
  refine ⟨?_, ?_⟩
  · have h1 : Blk (w.drewN m) g 69 #[.slice A n c, .int .i64 (k : Int)] := Blk.drewN h m
    have := Blk.set_ h1 1 (.int .i64 ((k : Int) + 1))
    unfold Dk
    simpa using this
  · have b0 : Below w.heap.size w (w.drewN m) := below_drewN (Below.refl _ _) m
    refine ⟨?_, ?_, ?_, ?_, fun i hi hg => ?_⟩
    · exact b0.os
    · exact b0.tape
    · exact b0.output
    · simp
    · exact (Below.heap_setCell (w.drewN m) ⟨g, 1, none⟩ _ i (by simpa using hg)).trans (b0.block i hi)

set_option maxRecDepth 100000 in
set_option maxHeartbeats 2000000 in
theorem next_any (w : World) (g lo hi : Nat) (A : Option Addr) (n c k : Nat) (xs : List Nat) (hd : Dk w g A n c k) (hr : Rd .u64 w lo hi A n c xs) (hs : Small B64 xs) (hk : k ≤ 1000) :
    Calls Tryd.prog 58 #[.pointer (some ⟨g, 0, none⟩)] w (NextPost w g A n c k) := by
  have HD := Lib.hid hd; have HR := Lib.hid hr; have HS := Lib.hid hs
  have c0 := hd.c0; have c1 := hd.c1
  have z1 := hd.fz 1
  have g1 : IntKind.i64.wrap ((k : Int) + 1) = (k : Int) + 1 := by rw [IntKind.wrap_i64]; omega
  clear hd hr hs
  go_enter Tryd.func58, Tryd.ntmps58
  by_cases hlt : k < n
  · obtain ⟨ad, x, hA, _, _, hx, hcx⟩ := HR.out.get_ (j := k) hlt
    subst hA
    have i1 : (0 : Int) ≤ (k : Int) := by omega
    have i2 : (k : Int) < (n : Int) := by omega
    have hxB := Lib.hid (HS.out.get hx.out)
    go_wp2
    go_quiet (fail)
    go_wp2
    go_quiet (fail)
    go_wp2
    go_ret
    obtain ⟨h1, h2⟩ := next_end HD.out
    exact ⟨x, hxB.out, rfl, h1, h2⟩
  · have i2 : ¬ (k : Int) < (n : Int) := by omega
    go_wp2
    go_quiet (fail)
    go_wp2
    go_ret
    obtain ⟨h1, h2⟩ := next_end HD.out
    exact ⟨0, by unfold B64; omega, rfl, h1, h2⟩
end Go.Proofs.YtimkifkikcohgaaDoor
