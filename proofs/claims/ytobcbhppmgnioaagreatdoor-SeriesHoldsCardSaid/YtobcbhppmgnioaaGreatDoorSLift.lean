/- From a law's walk to its statement: the arguments opened, the table, the witness's world. -/
import Derived.Test.YtobcbhppmgnioaaGreatDoorSRefZ
import Derived.Test.YtobcbhppmgnioaaGreatDoorSNumPR
import Derived.Test.YtobcbhppmgnioaaGreatDoorSRnd1
import Derived.Deep.DeepCutAuto
import Derived.Test.YtobcbhppmgnioaaGreatDoorCards
import Derived.Test.YtobcbhppmgnioaaGreatDoorTie
import Derived.Test.YtobcbhppmgnioaaGreatDoorSNat1
import Derived.WalkKit
import Derived.ProofKit
import Derived.OpenShut
import Derived.Deep.DeepHandedRow
import Derived.Lib.LaidTab
namespace Go.Proofs.YtobcbhppmgnioaaGreatDoor
section
open Go.RowKit Nx
section
theorem count_set {l : List Bool} {i : Nat} (h : l[i]? = some false) : (l.set i true).count false + 1 = l.count false := by
 induction l generalizing i with
 | nil => simp at h
 | cons b t ih =>
  cases i with
  | zero => simp at h; subst h; simp
  | succ i =>
   simp at h
   have := ih h
   rw [List.set_cons_succ, List.count_cons, List.count_cons]
   omega
theorem region_inv {P : Program} {ops : Array Oper} {Q : Exit → Act → World → Prop} {id N : Nat} {a : Act} {w : World} (hm : P.follows .mixedOrders = true) (hN : ops.size = N) (J : Array Bool → Act → World → Prop) (h0 : J (Array.replicate N false) a w.drew)
  (hcnt : ∀ L a w, L.size = N → J L a w → ∀ i ∈ Region.ready .any ops L, L[i]? = some false)
  (hstep : ∀ L a w, L.size = N → J L a w → ∀ i ∈ Region.ready .any ops L, wpOp P ops Q i (fun a' w' => J (L.setIfInBounds i true) a' w') a w)
  (hdone : ∀ L a w, L.size = N → J L a w → Region.ready .any ops L = [] → Q .normal a w) : (Code.region id ops true).wp P Q a w := by
 refine wp_region_any hm ?_
 rw [hN]
 have key : ∀ (n : Nat) (L : Array Bool) (a : Act) (w : World), L.size = N → L.toList.count false ≤ n → J L a w → wpAny P .any ops Q n L a w := by
  intro n
  induction n with
  | zero =>
   intro L a w hs hc hJ
   have hr : Region.ready .any ops L = [] := by
    cases hr : Region.ready .any ops L with
    | nil => rfl
    | cons i t =>
     have h1 := hcnt L a w hs hJ i (by rw [hr]; simp)
     have h2 : false ∈ L.toList := by rw [← Array.getElem?_toList] at h1; exact List.mem_of_getElem? h1
     have := List.count_pos_iff.2 h2
     omega
   exact ⟨hr, hdone L a w hs hJ hr⟩
  | succ n ih =>
   intro L a w hs hc hJ
   refine ⟨fun hr => hdone L a w hs hJ hr, fun i hi => ?_⟩
   have h1 := hcnt L a w hs hJ i hi
   refine wpOp_mono (fun a' w' h' => ih _ a' w' (by simp [hs]) ?_ h') (hstep L a w hs hJ i hi)
   rw [← Array.getElem?_toList] at h1
   have := count_set h1
   rw [Array.toList_setIfInBounds]
   omega
 refine key N _ a _ (by simp) ?_ h0
 simp [Array.toList_replicate]
def ptr (g : Nat) : Value := .pointer (some ⟨g, 0, none⟩)
theorem ptr_inj {g h : Nat} (e : ptr g = ptr h) : g = h := by simpa [ptr] using e
def ValAt (w : World) (v : Value) (q : Q) (b : Bool) (x : Value) (b' : Bool) (y : Value) : Prop :=
 ∃ (A : Option Addr) (n c : Nat), v = .agg #[.bool q.s, .slice A n c, .int .i64 q.e] ∧ Dg w A n c q.m ∧ ∀ ad, 0 < n → A = some ad → (b = true → x ≠ ptr ad.block) ∧ (b' = true → y ≠ ptr ad.block)
def VarAt (w4 w : World) (v : Value) (b : Bool) (x : Value) : Prop :=
 ∃ g, v = ptr g ∧ w4.heap.size ≤ g ∧ ∃ (s : Bool) (A : Option Addr) (n c : Nat) (e : Int), Vx w g s A n c e ∧ (b = true → x = .agg #[.bool s, .slice A n c, .int .i64 e])
theorem ValAt.step {w w' : World} {v x y : Value} {q : Q} {b b' : Bool} (h : ValAt w v q b x b' y) (hb : Below w.heap.size w w') : ValAt w' v q b x b' y := by
 obtain ⟨A, n, c, e, h1, h2⟩ := h; exact ⟨A, n, c, e, h1.step hb, h2⟩
theorem VarAt.step {w4 w w' : World} {v x : Value} {b : Bool} (h : VarAt w4 w v b x) (hb : Below w.heap.size w w') : VarAt w4 w' v b x := by
 obtain ⟨g, e, hg, s, A, n, c, ee, k, hx⟩ := h; exact ⟨g, e, hg, s, A, n, c, ee, k.step hb, hx⟩
theorem VarAt.far {w4 w : World} {v x : Value} {b : Bool} {g : Nat} (h : VarAt w4 w v b x) (hv : v ≠ ptr g) (p q r : Value) : VarAt w4 (put3 w g p q r) v b x := by
 obtain ⟨g', e, hg, s, A, n, c, ee, k, hx⟩ := h
 have hne : g' ≠ g := fun h => hv (by rw [e, h])
 refine ⟨g', e, hg, s, A, n, c, ee, ?_, hx⟩
 unfold put3
 exact Blk.far (Blk.far (Blk.far k hne _) hne _) hne _
theorem VarAt.new (w4 w : World) (h : w4.heap.size ≤ w.heap.size) (x : Value) : VarAt w4 (w.alloc (.cells #[.bool false, .slice none 0 0, .int .i64 0] 56)) (ptr w.heap.size) false x := ⟨_, rfl, h, false, none, 0, 0, 0, Vx.new w false none 0 0 0, fun h => by cases h⟩
theorem VarAt.lt {w4 w : World} {v x : Value} {b : Bool} (h : VarAt w4 w v b x) : v ≠ ptr w.heap.size := by
 obtain ⟨g, e, _, s, A, n, c, ee, k, _⟩ := h
 rw [e]; intro h
 have := ptr_inj h; have := k.lt; omega
theorem ValPost.at_ {w w' : World} {q : Q} {e : Ending} {x y : Value} {b b' : Bool} (h : ValPost w 0 q e w') (hx : b = true → ∃ g, x = ptr g ∧ g < w.heap.size) (hy : b' = true → ∃ g, y = ptr g ∧ g < w.heap.size) : ∃ v, e = .returned v ∧ ValAt w' v q b x b' y ∧ Below w.heap.size w w' := by
 obtain ⟨v, he, ⟨A, n, c, rfl, h1, h2⟩, hb⟩ := h
 refine ⟨_, he, ⟨A, n, c, rfl, h1, fun ad h0 hA => ?_⟩, hb⟩
 have h3 := h2 ad h0 hA
 refine ⟨fun hbt e => ?_, fun hbt e => ?_⟩
 ·obtain ⟨g, e1, hg⟩ := hx hbt
  rw [e1] at e
  have := ptr_inj e; omega
 ·obtain ⟨g, e1, hg⟩ := hy hbt
  rw [e1] at e
  have := ptr_inj e; omega
theorem VarAt.old {w4 w : World} {v x : Value} {b : Bool} (h : VarAt w4 w v b x) : ∃ g, v = ptr g ∧ g < w.heap.size := by
 obtain ⟨g, e, _, s, A, n, c, ee, k, _⟩ := h
 exact ⟨g, e, k.lt⟩
end
section
theorem ev_of {a : Act} {t : Nat} {v : Value} (h : a.tmps[t]? = some v) : a.eval (.tmp t) = v := by
 simp only [Act.eval, Array.getD_eq_getD_getElem?]; rw [h]; rfl
end
end
section
section
open Go.RowKit Nx
section
theorem bits_words {M P k : Nat} (h : nbits M ≤ P) (hP : P ≤ 64 * k) : M < B64 ^ k := by
 rw [pow64]; exact Nat.lt_of_lt_of_le (lt_of_nbits h) (Nat.pow_le_pow_right (by omega) hP)
end
section
theorem ofz_bd {Z e : Int} {k : Nat} {b : Int} (hZ : Z.natAbs < B64 ^ k) (h1 : -b ≤ e) (h2 : e ≤ b) (hb : 0 ≤ b) : (ofz Z e).m < B64 ^ k ∧ -b ≤ (ofz Z e).e ∧ (ofz Z e).e ≤ b + 64 * k :=
 ⟨Nat.lt_of_le_of_lt (ofz_le _ _) hZ, nm_e_bd hZ h1 h2 hb⟩
end
section
section
variable {w : World} {a b : Q} {A B : Option Addr} {n c m d : Nat}
end
theorem ansr_v1 {g : Q → Q → Q × Int} (hg : ∀ a b, Valid (g a b).1) (p : Int) (s : Bool) (e : Int) (n : Nat) (xs : List Nat) (s' : Bool) (e' : Int) (m : Nat) (ys : List Nat) : Valid (ansr g p s e n xs s' e' m ys).1 := by
 unfold ansr; split
 ·exact hg _ _
 ·exact valid0
theorem gadd_v (p : Int) (up : Bool) (a b : Q) : Valid (gadd p up a b).1 := res_valid (rnd_canon _ _ _)
theorem gmul_v (p : Int) (up : Bool) (a b : Q) : Valid (gmul p up a b).1 := res_valid (rnd_canon _ _ _)
def n1 : Q := ⟨false, 1, 0⟩
def n3 : Q := ⟨false, 3, 0⟩
end
section
def n4 : Q := ⟨false, 1, 2⟩
theorem Kno.nil {s : Nat} {a : Act} {l : List (Nat × Value)} (h : Kno s a l) : Kno s a [] := ⟨h.1, h.2.1, fun _ _ hm => by cases hm⟩
theorem Kno.add {s : Nat} {a : Act} {l l' : List (Nat × Value)} {t : Nat} {v : Value} (h' : Kno s a l') (h : Kno s a l) (hm : (t, v) ∈ l) : Kno s a ((t, v) :: l') := ⟨h.1, h.2.1, fun t' v' hm' => by
 rcases List.mem_cons.1 hm' with e | e
 ·injection e with e1 e2
  subst e1; subst e2
  exact h.2.2 _ _ hm
 ·exact h'.2.2 t' v' e⟩
section
variable {ops : Array Oper} {QQ : Exit → Act → World → Prop} {sz n : Nat} {a : Act} {w : World} {l : List (Nat × Value)}
end
end
end
section
open Go.ChangeShapes Go.WideShapes Go.ChangeAt Go.RowKit Nx
theorem own : ownKnob Tryz.prog.godebug = none := by kernel_rfl
theorem laidOut : laidOutB Tryz.prog = true := by kernel_rfl
theorem gTab : Tryz.prog.globalNamed "math/bits.deBruijn64tab" = some 0 := by kernel_rfl
theorem gTabType : (Tryz.prog.globals[0]?).map (·.type) = some 166 := by kernel_rfl
theorem cellsTab : Tryz.prog.cellsOf 166 = 64 := by kernel_rfl
theorem cells8 : Tryz.prog.cellsOf 5 = 1 := by kernel_rfl
theorem cells64 : Tryz.prog.cellsOf 66 = 1 := by kernel_rfl
theorem tab_of {W : World} (h : laidMetH Tryz.prog [("math/bits.deBruijn64tab", Rows.laid_math_bits_deBruijn64tab)] W) : Tab W := by
 have ht : Lib.TabIs Tryz.prog W "math/bits.deBruijn64tab" .u8 (deb.map fun (x : Nat) => (x : Int)) :=
  Lib.tabIs_of_head (rest := []) gTab gTabType Tryz.underlying166 Tryz.underlying5 cells8 cellsTab h
 intro i hi
 have hl : i < deb.length := hi
 have := ht.cell gTab i (by simpa using hl)
 rw [this]
 congr 2
 simp [List.getD_eq_getElem?_getD, List.getElem?_eq_getElem hl]
theorem view {H : Type} {enc : TypeId × Value → H} {W : World} {fuel : Nat} {a0 : Option Addr} {len cap : Nat} {d : DataW H} {p : List MemPlace}
  (hf : DataW.trod enc Tryz.prog W 0 (fun _ => true) true fuel 24 (Value.slice a0 len cap).cells.toList = some (d, p)) : ∃ xs : List Nat, Arg W a0 len cap xs := by
 rcases open_ints Tryz.underlying24 Tryz.underlying66 cells64 hf with ⟨hcs, hx⟩ | ⟨a, len', cap', zs, hcs, _, hl, hm, hz, hx, hcell, hwz⟩
 ·simp [Value.cells] at hcs
  obtain ⟨rfl, rfl, rfl⟩ := hcs
  exact ⟨[], Rd.none_, Small.nil⟩
 ·simp [Value.cells] at hcs
  obtain ⟨rfl, rfl, rfl⟩ := hcs
  simp only [if_true] at hz
  have hb : ∀ z ∈ zs, 0 ≤ z ∧ z < 18446744073709551616 := fun z hzm => by
   have := hwz z hzm
   simp only [Lit.wf, Bool.and_eq_true, decide_eq_true_iff] at this
   have h1 : IntKind.u64.min = 0 := rfl
   have h2 : IntKind.u64.max = 18446744073709551615 := rfl
   omega
  refine ⟨(zs.take len).map Int.toNat, ⟨by simp; omega, hl, fun hp => ⟨a, rfl, Nat.zero_le _, ?_, fun j u hu => ?_⟩⟩, ?_⟩
  ·have := hcell 0 (by omega)
   have := World.block_lt_of_cell? W _ this
   rwa [block_of_add] at this
  ·rw [List.getElem?_map, Option.map_eq_some_iff] at hu
   obtain ⟨z, hz1, rfl⟩ := hu
   rw [List.getElem?_take] at hz1
   split at hz1
   ·have hj := (List.getElem?_eq_some_iff.1 hz1).1
    rw [hcell j hj, List.getD_eq_getElem?_getD, hz1]
    have := hb z (List.mem_of_getElem? hz1)
    simp only [Option.getD_some]
    congr 2
    omega
   ·cases hz1
  ·intro x hx'
   rw [List.mem_map] at hx'
   obtain ⟨z, hz1, rfl⟩ := hx'
   have := hb z (List.mem_of_mem_take hz1)
   unfold B64; omega
noncomputable def laidWorld (os : Os) : World :=
 { World.holding Tryz.prog os ⟨#[], #[], []⟩ with heap := (World.holding Tryz.prog os ⟨#[], #[], []⟩).heap.modify 0 fun
   | .cells _ t frozen => .cells (deb.map fun (x : Nat) => Value.int .u8 (x : Int)).toArray t frozen
   | o => o }
end
end
end Go.Proofs.YtobcbhppmgnioaaGreatDoor
