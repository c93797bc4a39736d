/- What the law DigitsLong asks of texts; a slice of bytes filled and turned into a text. -/
import Derived.Test.YtdmnohmjobofhaaDoorDgT
namespace Go.Proofs.YtdmnohmjobofhaaDoor
open Go.RowKit Nx

theorem ten_big : B64 ^ 64 ≤ 10 ^ 1289 := by unfold B64; decide +kernel
theorem ones_val {n : Nat} (h : 1290 ≤ n) : B64 ^ 64 ≤ dval (List.replicate n 49) ∧ dval (List.replicate n 49) % 2 = 1 := by
  obtain ⟨m, rfl⟩ : ∃ m, n = m + 1 := ⟨n - 1, by omega⟩
  constructor
  · have e : List.replicate (m + 1) (49 : UInt8) = [49] ++ List.replicate m 49 := by rw [List.replicate_succ]; rfl
    rw [e, dval_append, dval_one, List.length_replicate, show dv 49 = 1 from rfl]
    have := Nat.pow_le_pow_right (show 0 < 10 by omega) (show 1289 ≤ m by omega)
    have := ten_big
    omega
  · rw [List.replicate_succ', dval_snoc, show dv 49 = 1 from rfl]; omega
theorem all_ones (n : Nat) : AllD (List.replicate n 49) := fun c hc => by rw [(List.mem_replicate.1 hc).2]; rfl
theorem prs_ones {n : Nat} (h : 1290 ≤ n) : prs (List.replicate n 49) = if n ≤ 1300 then (q0, 2) else (q0, 5) := by
  obtain ⟨m, rfl⟩ : ∃ m, n = m + 1 := ⟨n - 1, by omega⟩
  have hsg : sg (List.replicate (m + 1) (49 : UInt8)) = false := by rw [List.replicate_succ]; rfl
  have hun : un (List.replicate (m + 1) (49 : UInt8)) = List.replicate (m + 1) 49 := by unfold un; rw [hsg]; rfl
  obtain ⟨d1, d2⟩ := dsp_append (all_ones (m + 1)) (b := []) (fun c hc => by cases hc)
  rw [List.append_nil] at d1 d2
  have hh : (List.replicate (m + 1) (49 : UInt8)).head? = some 49 := by rw [List.replicate_succ]; rfl
  by_cases hl : m + 1 ≤ 1300
  · rw [if_pos hl]
    have hg : gd 1300 false (List.replicate (m + 1) 49) = true := gd_iff.2 ⟨by rw [List.replicate_succ]; simp, by simpa using hl, fun h => by rw [hh] at h; cases h⟩
    have hp := prs_some (l := List.replicate (m + 1) 49) (e := 0) (by rw [hsg, hun, d1]; exact hg) (by rw [hun, d1, d2]; exact fun _ => rfl) (by rw [hun, d2]; exact exs_nil)
    rw [hp, hsg, hun, d1]
    obtain ⟨v1, v2⟩ := ones_val h
    have hnm := nm_of (q := ⟨false, dval (List.replicate (m + 1) 49), 0⟩) ⟨fun h0 => by simp only at h0; omega, fun _ => v2⟩
    simp only at hnm
    rw [hnm, res_over (fun hf => by have := hf.1; simp only at this; omega)]
  · rw [if_neg hl]
    refine prs_bad ?_
    rw [hsg, hun, d1]
    cases hg : gd 1300 false (List.replicate (m + 1) 49)
    · rfl
    · have := (gd_iff.1 hg).2.1
      rw [List.length_replicate] at this
      omega
theorem prs_3p (n : Nat) (low : Bool) (hn : n < 3000000) : prs ([51, 112] ++ (if low then [45] else []) ++ Lib.decDigits n) =
    if n = 0 ∨ 6 < (Lib.decDigits n).length then (q0, 5) else if 65536 < n then (q0, 2) else (⟨false, 3, sgn low n⟩, 0) := by
  obtain ⟨u, hu⟩ : ∃ u, u = (if low then [45] else []) ++ Lib.decDigits n := ⟨_, rfl⟩
  have e : [51, 112] ++ (if low then [45] else []) ++ Lib.decDigits n = Lib.decDigits 3 ++ 112 :: u := by
    rw [hu, show Lib.decDigits 3 = [51] by rw [dec_small (by omega)]; rfl]; simp
  have hun := un_dec 3 (112 :: u)
  obtain ⟨d1, d2⟩ := dsp_append (dec_all 3) (b := 112 :: u) (fun c hc => by simp at hc; subst hc; rfl)
  have huu : un u = Lib.decDigits n := by
    rw [hu]; cases low
    · have := un_dec n []
      simpa using this
    · rfl
  obtain ⟨e1, e2⟩ := dsp_append (dec_all n) (b := []) (fun c hc => by cases hc)
  rw [List.append_nil] at e1 e2
  rw [e]
  by_cases hbad : n = 0 ∨ 6 < (Lib.decDigits n).length
  · rw [if_pos hbad]
    refine prs_none ?_
    rw [hun, d2]
    refine exs_no (by simp) (fun h => ?_)
    simp only [List.tail_cons] at h
    rw [huu, e1] at h
    rcases hbad with h0 | h0
    · subst h0
      exact h.2.2.1 (by rw [dec_zero]; rfl)
    · have := (gd_iff.1 h.2.1).2.1
      omega
  · rw [if_neg hbad]
    have hn0 : n ≠ 0 := fun h => hbad (.inl h)
    have hl6 : (Lib.decDigits n).length ≤ 6 := by rcases Nat.lt_or_ge 6 (Lib.decDigits n).length with h | h; exact absurd (.inr h) hbad; exact h
    have hn6 : n < 1000000 := by
      have := dval_lt (dec_all n)
      rw [dec_val] at this
      have h2 : 10 ^ (Lib.decDigits n).length ≤ 10 ^ 6 := Nat.pow_le_pow_right (by omega) hl6
      omega
    obtain ⟨z, hz⟩ : ∃ z, z = sgn low n := ⟨_, rfl⟩
    have hui : u = Lib.itoa z := by
      rw [hu, hz]; cases low
      · show [] ++ Lib.decDigits n = Lib.itoa (n : Int)
        rw [Lib.itoa_nonneg]; rfl
      · show [45] ++ Lib.decDigits n = Lib.itoa (-(n : Int))
        rw [Lib.itoa_neg n (by omega)]; rfl
    have hz1 : z ≠ 0 ∧ -999999 ≤ z ∧ z ≤ 999999 ∧ (65536 < n ↔ (z < -65536 ∨ 65536 < z)) := by
      rw [hz]; cases low
      · show (n : Int) ≠ 0 ∧ -999999 ≤ (n : Int) ∧ (n : Int) ≤ 999999 ∧ (65536 < n ↔ ((n : Int) < -65536 ∨ 65536 < (n : Int)))
        omega
      · show -(n : Int) ≠ 0 ∧ -999999 ≤ -(n : Int) ∧ -(n : Int) ≤ 999999 ∧ (65536 < n ↔ (-(n : Int) < -65536 ∨ 65536 < -(n : Int)))
        omega
    rw [← hz]
    have h3 : (3 : Nat) < B64 := by unfold B64; omega
    have h := prs_dec (s := false) (M := 3) (r := 112 :: u) (e := z) (Nat.lt_of_lt_of_le (lt_b64 h3) b64_ten) (fun h => by cases h) (fun c hc => by simp at hc; subst hc; rfl) (fun h => by cases h) (by rw [hui]; exact exs_itoa hz1.2.1 hz1.2.2.1 hz1.1)
    simp only [Bool.false_eq_true, if_false, List.nil_append] at h
    have hnm := nm_of (q := ⟨false, 3, z⟩) ⟨fun h0 => (by cases h0), fun _ => (show 3 % 2 = 1 by decide)⟩
    simp only at hnm
    rw [h, hnm]
    by_cases hbig : 65536 < n
    · rw [if_pos hbig, res_over (fun hf => by
        have f1 : -65536 ≤ z := hf.2.1
        have f2 : z ≤ 65536 := hf.2.2
        have := hz1.2.2.2.1 hbig
        omega)]
    · rw [if_neg hbig, res_ok ⟨lt_b64 h3, (by show -65536 ≤ z; have := hz1.2.2.2; omega), (by show z ≤ 65536; have := hz1.2.2.2; omega)⟩]

theorem info8 : (Tryd.prog.info? 5).map (fun i => (i.zero, i.size, i.bytes)) = some (some (.int .u8 0), 1, 1) := by kernel_rfl
theorem make8 (l : Int) (n : Nat) (hl : l = (n : Int)) (hn : n ≤ 4000000000) (w : World) :
    (Instr.makeSlice 25 (.int .i64 l) (.int .i64 l)).run Tryd.prog w = .ok (.slice (some ⟨w.heap.size, 0, none⟩) n n) (w.alloc (zrow .u8 5 n)) := by
  obtain ⟨i, hi, hz, h1, h2⟩ := info_parts info8
  subst hl
  rw [run_make w 25 5 i (.int .u8 0) Tryd.underlying25 hi hz .i64 .i64 n n (by omega) (by omega) (by rw [h2]; omega) (by omega), h1, Nat.mul_one, Int.toNat_natCast]
  show Result.ok _ (w.alloc (Obj.cells (madeCells #[.int .u8 0] n) 5)) = _
  rw [made_zero]; rfl
theorem set_ones (k r : Nat) : (List.replicate k 49 ++ List.replicate (r + 1) 0).set k 49 = List.replicate (k + 1) 49 ++ List.replicate r 0 := by
  rw [List.set_append_right _ _ (by simp), List.length_replicate, Nat.sub_self, List.replicate_succ, List.set_cons_zero, List.replicate_succ' (n := k), List.append_assoc]
  rfl
def OneRel (w0 : World) (g n : Nat) (u : Value) (wr : World) : Prop :=
  ∃ k : Nat, k ≤ n ∧ u = .int .i64 (k : Int) ∧ Hid (Row .u8 wr g 5 (List.replicate k 49 ++ List.replicate (n - k) 0)) ∧ Hid (w0.grownBy wr (some g))
theorem conv_ones {w : World} {g n : Nat} (h : Row .u8 w g 5 (List.replicate n 49)) : (convert 25 9 (.slice (some ⟨g, 0, none⟩) n n)).run Tryd.prog w = .ok (.string ⟨(List.replicate n 49).toArray⟩) w := by
  have hc := run_convert_bytes_back (P := Tryd.prog) w 25 9 5 ⟨g, 0, none⟩ n (List.replicate n 49) Tryd.underlying25 Tryd.underlying5 Tryd.underlying9 (fun j hj => by
    have hj' : j < n := by simpa using hj
    rw [Lib.add_plain, Nat.zero_add, Row.cell h (by simpa using hj')]
    simp [List.getD_eq_getElem?_getD, hj'])
  rw [List.length_replicate] at hc
  exact hc
end Go.Proofs.YtdmnohmjobofhaaDoor
