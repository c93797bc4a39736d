/- make, copy: the runs and laws as the walks below use them; what a function that makes a number leaves. -/
import Derived.Test.YtimkifkikcohgaaDoorUsed
import Derived.Test.YtimkifkikcohgaaDoorMathC
import Derived.Laws.MakeOwn
import Derived.Laws.CopyOwn
namespace Go.Proofs.YtimkifkikcohgaaDoor
open Go.RowKit Nx

theorem info64 : (Tryd.prog.info? 54).map (fun i => (i.zero, i.size, i.bytes)) = some (some (.int .u64 0), 1, 8) := by kernel_rfl
theorem info32 : (Tryd.prog.info? 75).map (fun i => (i.zero, i.size, i.bytes)) = some (some (.int .u32 0), 1, 4) := by kernel_rfl
theorem size64 : (Tryd.prog.info? 54).map (·.size) = some 1 := by kernel_rfl
theorem size32 : (Tryd.prog.info? 75).map (·.size) = some 1 := by kernel_rfl

/-- A new row of n zero words. -/
def zrow (k : IntKind) (t : TypeId) (n : Nat) : Obj := .cells (ints k (List.replicate n 0)).toArray t
theorem zrow_row (k : IntKind) (t : TypeId) (n : Nat) (w : World) : Row k (w.alloc (zrow k t n)) w.heap.size t (List.replicate n 0) := Blk.new w t _

theorem made_zero (k : IntKind) (n : Nat) : madeCells #[.int k 0] n = (ints k (List.replicate n 0)).toArray := by
  apply Array.ext'
  rw [toList_madeCells_one]
  simp [ints]

theorem make64 (l : Int) (n : Nat) (hl : l = (n : Int)) (hn : n ≤ 4000000000) (w : World) :
    (Instr.makeSlice 22 (.int .i64 l) (.int .i64 l)).run Tryd.prog w = .ok (.slice (some ⟨w.heap.size, 0, none⟩) n n) (w.alloc (zrow .u64 54 n)) := by
  obtain ⟨i, hi, hz, h1, h2⟩ := info_parts info64
  subst hl
  rw [run_make w 22 54 i (.int .u64 0) Tryd.underlying22 hi hz .i64 .i64 n n (by omega) (by omega) (by rw [h2]; omega) (by omega), h1, Nat.mul_one, Int.toNat_natCast]
  show Result.ok _ (w.alloc (Obj.cells (madeCells #[.int .u64 0] n) 54)) = _
  rw [made_zero]; rfl
theorem make32 (l : Int) (n : Nat) (hl : l = (n : Int)) (hn : n ≤ 4000000000) (w : World) :
    (Instr.makeSlice 34 (.int .i64 l) (.int .i64 l)).run Tryd.prog w = .ok (.slice (some ⟨w.heap.size, 0, none⟩) n n) (w.alloc (zrow .u32 75 n)) := by
  obtain ⟨i, hi, hz, h1, h2⟩ := info_parts info32
  subst hl
  rw [run_make w 34 75 i (.int .u32 0) Tryd.underlying34 hi hz .i64 .i64 n n (by omega) (by omega) (by rw [h2]; omega) (by omega), h1, Nat.mul_one, Int.toNat_natCast]
  show Result.ok _ (w.alloc (Obj.cells (madeCells #[.int .u32 0] n) 75)) = _
  rw [made_zero]; rfl

/-- A part of a slice that lies at the head of a block. -/
theorem slice64 (g n c l h : Nat) (l' h' : Int) (hl : l' = (l : Int)) (hh : h' = (h : Int)) (hlh : l ≤ h) (hhc : h ≤ c) (hlc : l < c) (w : World) :
    (Instr.slice 22 (.slice (some ⟨g, 0, none⟩) n c) (some (.int .i64 l')) (some (.int .i64 h')) none).run Tryd.prog w = .ok (.slice (some ⟨g, l, none⟩) (h - l) (c - l)) w := by
  obtain ⟨i, hi, hz, h1, h2⟩ := info_parts info64
  have he : Tryd.prog.elem 22 = 54 := by kernel_rfl
  subst hl; subst hh
  rw [run_slice_lh (P := Tryd.prog) w 22 (some ⟨g, 0, none⟩) n c (by rw [he]; exact Tryd.underlying22) .i64 .i64 l h (by omega) (by omega) (by omega), he]
  have hs : (sizeOf 54).run Tryd.prog w = .ok 1 w := by simp [sizeOf, typeInfo, hi, h1]
  rw [hs]
  simp only [Result.andThen, sliced, Int.toNat_natCast, Nat.mul_one]
  rw [if_neg (by omega), Option.map_some, addr_add, Nat.zero_add]

/-- No cell of the slice is frozen. -/
def Fr (w : World) (A : Option Addr) (n : Nat) : Prop := ∀ (ad : Addr) (j : Nat), A = some ad → j < n → w.frozen? (ad.add j) = false

/-- A new slice that reads as the words of N. -/
def NumPost (w : World) (N : Nat) (e : Ending) (w' : World) : Prop :=
  ∃ (A : Option Addr) (n c : Nat), e = .returned (.slice A n c) ∧ Rd .u64 w' w.heap.size w'.heap.size A n c (digs B64 N) ∧ Below w.heap.size w w' ∧ Fr w' A n

theorem Row.fr {k : IntKind} {w : World} {g : Nat} {t : TypeId} {zs : List Nat} (h : Row k w g t zs) {A : Option Addr} {n o : Nat} (hA : 0 < n → A = some ⟨g, o, none⟩) : Fr w A n := by
  intro ad j e hj
  have := hA (by omega)
  rw [this] at e
  injection e with e
  subst e
  rw [addr_add]
  exact Row.frozen h _

theorem ints_one (k : IntKind) (xs : List Nat) : ∀ v ∈ ints k xs, v.oneCell' = true := by
  intro v hv
  unfold ints at hv
  rw [List.mem_map] at hv
  obtain ⟨x, _, rfl⟩ := hv
  rfl
/-- A copy of the words xs into the head of a row that is known whole. -/
theorem copy64 (w : World) (lo hi g dc n c : Nat) (A : Option Addr) (zs xs : List Nat) (hz : Row .u64 w g 54 zs) (hx : Rd .u64 w lo hi A n c xs) (hn : n ≤ zs.length) :
    ∃ w', (Builtin.copy_ #[22, 22] 3 #[.slice (some ⟨g, 0, none⟩) zs.length dc, .slice A n c]).run Tryd.prog w = .ok (goInt n) w' ∧
      Row .u64 w' g 54 (xs ++ zs.drop n) ∧ w.grownBy w' (some g) := by
  rcases Nat.eq_zero_or_pos n with e | e
  · subst e
    have : xs = [] := List.eq_nil_of_length_eq_zero hx.1
    subst this
    exact ⟨w, run_copy_none w _ _ _ 54 _ _ _ _ _ _ Tryd.underlying22 size64 (Nat.zero_min _), by simpa using hz, only_refl _ _⟩
  · obtain ⟨ad, rfl, _, _, hc⟩ := hx.2.2 e
    have hl := hx.1
    have hrun := run_copy_row (P := Tryd.prog) w 22 22 3 54 g 0 zs.length dc ad n c (ints .u64 zs).toArray 54 (ints .u64 xs) Tryd.underlying22 size64 hz
      (by rw [ints_length, hl]; exact (Nat.min_eq_left hn).symm) (fun j v hv => by
        rw [ints_get] at hv
        cases hx' : xs[j]? with
        | none => rw [hx'] at hv; cases hv
        | some u => rw [hx'] at hv; injection hv with hv; subst hv; exact hc j u hx') (by simp [ints]; omega) (ints_one _ _)
    rw [ints_length, hl] at hrun
    refine ⟨_, hrun, ?_, ⟨rfl, rfl, rfl, by simp [World.setRow], fun k _ hne => setRow_other w g k _ (fun e => hne (by rw [e]))⟩⟩
    unfold Row Blk
    rw [setRow_heap w g _ _ 54 (0, 0) hz]
    simp [ints]
end Go.Proofs.YtimkifkikcohgaaDoor
