/- The library's functions on texts, in this place's words: FormatInt, FormatUint, ParseInt, ParseUint at base 10, Repeat of one zero, CutPrefix of one byte. -/
import Derived.Test.YtdmnohmjobofhaaDoorDgA
import Derived.Test.YtdmnohmjobofhaaDoorShelf
import Derived.Lib.SmallJoins
namespace Go.Proofs.YtdmnohmjobofhaaDoor
open Go.RowKit Nx Go.Sort

/-- The table of the powers of ten. -/
def Pw (w : World) : Prop := Lib.TabIs Tryd.prog w "internal/strconv.uint64pow10" .u64 Lib.pow10Tab
theorem Pw.below {w W : World} (h : Pw w) (hb : Below w.heap.size w W) : Pw W := Go.Joins.tab_stays (show Tryd.prog.globalNamed "internal/strconv.uint64pow10" = some 1 by kernel_rfl) h hb (Nat.le_refl _)
/-- A text is handed back. -/
def StrPost (w : World) (L : List UInt8) (e : Ending) (w' : World) : Prop := ∃ t : ByteArray, e = .returned (.string t) ∧ t.toList = L ∧ Below w.heap.size w w'
theorem StrPost.mk {w w' : World} {L M : List UInt8} (h : L = M) (hb : Below w.heap.size w w') : StrPost w M (.returned (.string ⟨L.toArray⟩)) w' := ⟨_, rfl, by rw [ByteArray.toList_mk, h], hb⟩
theorem size_of (s : ByteArray) : s.size = s.toList.length := by rw [Lib.toList_data, Lib.size_eq]
theorem below_grow (w : World) (k : Nat) (os : Array Obj) : Below w.heap.size w (grow (w.drewN k) os) := by
  refine ⟨rfl, rfl, rfl, ?_, fun i hi => ?_⟩
  · simp [grow, World.drewN]
  · simp only [grow]
    rw [Array.getElem?_append_left (by simpa [World.drewN] using hi)]
    rfl
theorem fmtint_any (w : World) (n : Int) (h0 : -9223372036854775808 ≤ n) (h1 : n ≤ 9223372036854775807) (hp : Pw w) : Calls Tryd.prog 27 #[.int .i64 n, .int .i64 10] w (StrPost w (Lib.itoa n)) := by
  refine (Tryd.strconv_FormatInt_10 n h0 h1 w hp).mono ?_
  rintro e w' ⟨rfl, k, os, rfl⟩
  exact StrPost.mk rfl (below_grow w k os)
theorem below_bytes (w : World) (t : TypeId) (s : ByteArray) : Below w.heap.size w (Lib.bytesWorld w t s) :=
   Go.Joins.below_bytesWorld _ w t s (Nat.le_refl _)
theorem parseint_any (w : World) (s : ByteArray) (v : Int) (hs : s.size ≤ 1000000) (h : Lib.parseIntB 64 s.toList = .ok v) :
    Calls Tryd.prog 30 #[.string s, .int .i64 10, .int .i64 64] w fun e w' => e = .returned (.tuple #[.int .i64 v, .nilIface]) ∧ Below w.heap.size w w' := by
  refine (Tryd.strconv_ParseInt_10_at64_ok s (by omega) v (by rw [← Lib.toList_data]; exact h) w).mono ?_
  rintro e w' ⟨rfl, rfl | ⟨t, rfl⟩⟩
  · exact ⟨rfl, Below.refl _ _⟩
  · exact ⟨rfl, below_bytes _ _ _⟩
theorem parseuint_any (w : World) (s : ByteArray) (u : Nat) (hs : s.size ≤ 1000000) (h : Lib.parseUintB 64 s.toList = .ok u) :
    Calls Tryd.prog 31 #[.string s, .int .i64 10, .int .i64 64] w fun e w' => e = .returned (.tuple #[.int .u64 (u : Int), .nilIface]) ∧ Below w.heap.size w w' := by
  refine (Tryd.strconv_ParseUint_10_at64_ok s (by omega) u (by rw [← Lib.toList_data]; exact h) w).mono ?_
  rintro e w' ⟨rfl, rfl | rfl⟩
  · exact ⟨rfl, Below.refl _ _⟩
  · exact ⟨rfl, below_bytes _ _ _⟩
theorem repeatL_one' (c : Nat) : Lib.repeatL [48] c = List.replicate c 48 := by
  induction c with
  | zero => rfl
  | succ c ih => rw [Lib.repeatL, ih, List.replicate_succ]; rfl
theorem repeat_any (w : World) (c : Nat) (hc : c ≤ 1000000) : Calls Tryd.prog 45 #[.string ⟨#[48]⟩, .int .i64 (c : Int)] w (StrPost w (List.replicate c 48)) := by
  refine (Tryd.strings_Repeat ⟨#[48]⟩ c w (by omega) (by have : (⟨#[48]⟩ : ByteArray).size = 1 := rfl; rw [this]; omega)).mono ?_
  rintro e w' ⟨rfl, hb⟩
  exact StrPost.mk (repeatL_one' c) hb
theorem pre_one (l : List UInt8) (c : UInt8) : Lib.hasPrefix l [c] = (l.head? == some c) ∧ Lib.trimPrefix l [c] = if (l.head? == some c) = true then l.tail else l := by
  have h : Lib.hasPrefix l [c] = (l.head? == some c) := by
    unfold Lib.hasPrefix
    cases l with
    | nil => rfl
    | cons x r => simp [List.isPrefixOf, Bool.beq_comm]
  refine ⟨h, ?_⟩
  unfold Lib.trimPrefix
  rw [h]
  split <;> simp
/-- strings.CutPrefix of one byte. -/
def CutPost (w : World) (c : UInt8) (l : List UInt8) (e : Ending) (w' : World) : Prop :=
  ∃ t : ByteArray, e = .returned (.tuple #[.string t, .bool (l.head? == some c)]) ∧ t.toList = (if (l.head? == some c) = true then l.tail else l) ∧ w = w'
theorem cutprefix_any (w : World) (s : ByteArray) (c : UInt8) : Calls Tryd.prog 28 #[.string s, .string ⟨#[c]⟩] w (CutPost w c s.toList) := by
  refine (Tryd.strings_CutPrefix s ⟨#[c]⟩ w).mono ?_
  rintro e w' ⟨rfl, rfl⟩
  obtain ⟨h1, h2⟩ := pre_one s.toList c
  rw [← Lib.toList_data]
  refine ⟨_, by rw [h1], ?_, rfl⟩
  rw [ByteArray.toList_mk, h2]

/-! FormatUint at base 10. -/
theorem holds_zero0 (w : World) (T : TypeId) (nd : Nat) (hs : nd ≤ 24) : Holds (fun (b : UInt8) => Value.int .u8 (b.toNat : Int)) (w.alloc (.cells Lib.zeros24 T)) w.heap.size 0 (Array.replicate nd (0 : UInt8)) := fun j hj => by
  have hj' : j < nd := by simpa using hj
  refine ⟨?_, World.frozen?_alloc_new _ _ _ _⟩
  rw [World.cell?_alloc_new, Lib.zeros24_at _ (by omega), getElem!_pos _ j hj]
  simp
theorem fin_pos0 (w : World) (o : Obj) (dk : Array UInt8) (k : Nat) : ∃ os, (putRow (fun (b : UInt8) => Value.int .u8 (b.toNat : Int)) (w.alloc o) w.heap.size 0 dk).drewN k = grow (w.drewN k) os := by
  rw [alloc_eq_grow]
  obtain ⟨os', _, e⟩ := putRow_grow_new (fun (b : UInt8) => Value.int .u8 (b.toNat : Int)) w #[o] w.heap.size 0 dk (Nat.le_refl _)
  exact ⟨os', by rw [e]; rfl⟩
set_option maxHeartbeats 6400000 in
set_option maxRecDepth 100000 in
theorem ifmtuint_any (w : World) (u : Nat) (hu64 : u < 18446744073709551616) (htab : Pw w) : Calls Tryd.prog 58 #[.int .u64 (u : Int), .int .i64 10] w (StrPost w (Lib.decDigits u)) := by
  by_cases hi : u < 100
  · go_enter Tryd.func58, Tryd.ntmps58
    go_wp2_with (go_at_call 65; refine (Tryd.internal_strconv_small u hi _).mono ?_; rintro e w' ⟨rfl, rfl⟩)
    go_ret
    exact StrPost.mk rfl (Below.refl _ _)
  · have hu1 : 1 ≤ u := by omega
    have hnd20 : Lib.nDigits u ≤ 20 := by have := Lib.numDigits_eq u hu1 hu64; split at this <;> omega
    have hal : Tryd.prog.arrayLen 103 = 24 := by kernel_rfl
    have hsl1 : ∀ W, (Instr.sliceAt 103 (.pointer (some ⟨w.heap.size, 0, none⟩)) none (some (.int .i64 ((Lib.nDigits u : Nat) : Int))) none).run Tryd.prog W = .ok (.slice (some ⟨w.heap.size, 0, none⟩) (Lib.nDigits u) 24) W := fun W => by
      rw [run_sliceAt_array_h W 103 ⟨w.heap.size, 0, none⟩ (by simp [Program.arrayLen, Program.elem, Tryd.underlying103]) .i64 ((Lib.nDigits u : Nat) : Int) (by omega) (by rw [hal]; omega)]
      rw [hal]
      go_simp
    have hH0 := holds_zero0 w 103 (Lib.nDigits u) (by omega)
    have hfmt := Tryd.internal_strconv_formatBase10 w.heap.size 0 24 u (Array.replicate (Lib.nDigits u) 0) (w.alloc (.cells Lib.zeros24 103)) hH0 (by rw [Array.size_replicate]; exact Lib.lt_pow_nDigits u) hu64 (by rw [Array.size_replicate]; omega)
    rw [Array.size_replicate] at hfmt
    have HH0 := Lib.hid hH0
    clear hH0 hal
    go_enter Tryd.func58, Tryd.ntmps58
    go_wp2_with (first
      | (go_at_call 66; refine (Tryd.internal_strconv_numDigits u hu1 hu64 _ (Lib.tabIs_alloc htab _)).mono ?_; rintro e w' ⟨rfl, rfl⟩))
    go_at_call 67
    refine hfmt.mono ?_
    rintro e w' ⟨rfl, k, v', dk, rfl, hF⟩
    have hcv : (convert 25 9 (.slice (some ⟨w.heap.size, 0, none⟩) (Lib.nDigits u) 24)).run Tryd.prog ((putRow (fun (b : UInt8) => Value.int .u8 (b.toNat : Int)) (w.alloc (.cells Lib.zeros24 103)) w.heap.size 0 dk).drewN k) = .ok (.string ⟨(Lib.decDigits u).toArray⟩) ((putRow (fun (b : UInt8) => Value.int .u8 (b.toNat : Int)) (w.alloc (.cells Lib.zeros24 103)) w.heap.size 0 dk).drewN k) := by
      have h := run_convert_bytes_back (P := Tryd.prog) ((putRow (fun (b : UInt8) => Value.int .u8 (b.toNat : Int)) (w.alloc (.cells Lib.zeros24 103)) w.heap.size 0 dk).drewN k) 25 9 5 ⟨w.heap.size, 0, none⟩ 24 (Lib.decDigits u) Tryd.underlying25 Tryd.underlying5 Tryd.underlying9 (fun j hj => by
        rw [Lib.row_is_numeral hF j hj, Lib.add_plain, World.cell?_drewN]
        exact cell?_putRow (fun (b : UInt8) => Value.int .u8 (b.toNat : Int)) _ w.heap.size 0 _ dk HH0.out (by rw [hF.size, Array.size_replicate]) j (by rw [hF.size]; rw [Lib.decDigits_length] at hj; exact hj))
      rw [Lib.decDigits_length] at h
      exact h
    go_wp2
    go_ret
    obtain ⟨os, eo⟩ := fin_pos0 w (.cells Lib.zeros24 103) dk k
    refine StrPost.mk rfl ?_
    first
    | (rw [eo]; exact below_grow w k os)
    | exact eo ▸ below_grow w k os
set_option maxRecDepth 100000 in
theorem fmtuint_any (w : World) (u : Nat) (hu : u < B64) (hp : Pw w) : Calls Tryd.prog 43 #[.int .u64 (u : Int), .int .i64 10] w (StrPost w (Lib.decDigits u)) := by
  go_enter Tryd.func43, Tryd.ntmps43
  go_wp2_with (go_at_call 58; refine (ifmtuint_any w u hu hp).mono ?_; rintro e w' ⟨t, rfl, ht, hb⟩)
  go_ret
  exact ⟨t, rfl, ht, hb⟩

/-! digits.lowest -/
set_option maxRecDepth 100000 in
theorem lowest_any (w : World) (A : Option Addr) (n c N : Nat) (h : Is w A n c N) (hN : N < B64) :
    Calls Tryd.prog 44 #[.slice A n c] w fun e w' => e = .returned (.int .u64 (N : Int)) ∧ w = w' := by
  by_cases h0 : N = 0
  · subst h0
    unfold Is at h
    rw [digs_zero] at h
    have hn := h.1
    simp at hn
    subst hn
    clear h
    go_enter Tryd.func44, Tryd.ntmps44
    go_wp2
    go_ret
    exact ⟨rfl, rfl⟩
  · unfold Is at h
    rw [digs1 hN h0] at h
    have hn := h.1
    simp at hn
    subst hn
    obtain ⟨ad, rfl, _, _, hc⟩ := h.2.2 (by omega)
    have hc0 := hc 0 N rfl
    rw [show ad.add 0 = ad by simp [Addr.add]] at hc0
    clear hc h
    go_enter Tryd.func44, Tryd.ntmps44
    go_wp2
    go_ret
    exact ⟨rfl, rfl⟩
end Go.Proofs.YtdmnohmjobofhaaDoor
