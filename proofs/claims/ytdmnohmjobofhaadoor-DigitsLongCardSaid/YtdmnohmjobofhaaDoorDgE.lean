/- fathomlineref1.Decimal: the decimal digits of a number, one by one. -/
import Derived.Test.YtdmnohmjobofhaaDoorDgD
namespace Go.Proofs.YtdmnohmjobofhaaDoor
open Go.RowKit Nx

/-- Of a round of Decimal: the digits from k on are divided by ten. -/
def DtI (n k cy : Nat) (cur xs : List Nat) : Prop :=
  ∃ hi : List Nat, cur = List.replicate k 0 ++ hi ∧ hi.length = n - k ∧ Small B32 hi ∧ nval B32 hi * 10 + cy = nval B32 (xs.drop k) ∧ cy < 10
theorem DtI.start {n : Nat} {xs : List Nat} (h : xs.length = n) : DtI n n 0 (List.replicate n 0) xs :=
  ⟨[], by simp, by simp, Small.nil, by rw [List.drop_eq_nil_of_le (by omega)]; rfl, by omega⟩
theorem set_rep (k v : Nat) (hi : List Nat) : (List.replicate (k + 1) 0 ++ hi).set k v = List.replicate k 0 ++ (v :: hi) := by
  rw [List.replicate_succ', List.append_assoc, List.set_append_right _ _ (by simp)]
  simp
theorem DtI.step {n k cy x : Nat} {cur xs : List Nat} (h : DtI n (k + 1) cy cur xs) (hk : k + 1 ≤ n) (hx : xs[k]? = some x) (hxB : x < B32) :
    DtI n k ((x + 4294967296 * cy) % 10) (cur.set k ((x + 4294967296 * cy) / 10)) xs ∧ (x + 4294967296 * cy) / 10 < B32 := by
  obtain ⟨hi, rfl, h2, h3, h4, h5⟩ := h
  have hq : (x + 4294967296 * cy) / 10 < B32 := by unfold B32 at hxB ⊢; omega
  refine ⟨⟨(x + 4294967296 * cy) / 10 :: hi, set_rep _ _ _, by simp; omega, Small.cons hq h3, ?_, by omega⟩, hq⟩
  have e : xs.drop k = x :: xs.drop (k + 1) := by
    obtain ⟨hl, hg⟩ := List.getElem?_eq_some_iff.1 hx
    rw [List.drop_eq_getElem_cons hl, hg]
  rw [e]
  simp only [nval]
  rw [← h4]
  unfold B32
  omega
theorem DtI.done {n cy : Nat} {cur xs : List Nat} (h : DtI n 0 cy cur xs) : Small B32 cur ∧ cur.length = n ∧ nval B32 cur = nval B32 xs / 10 ∧ cy = nval B32 xs % 10 := by
  obtain ⟨hi, rfl, h2, h3, h4, h5⟩ := h
  simp only [List.drop_zero] at *
  exact ⟨h3, by omega, by omega, by omega⟩
def DtRel (w0 : World) (g n : Nat) (xs : List Nat) (u c : Value) (wr : World) : Prop :=
  ∃ (k cy : Nat) (cur : List Nat), k ≤ n ∧ u = .int .i64 ((k : Int) - 1) ∧ c = .int .u64 (cy : Int) ∧ cy < 10 ∧ Hid (DtI n k cy cur xs) ∧ Hid (Row .u32 wr g 23 cur) ∧ Hid (w0.grownBy wr (some g))
/-- What is left, shown. -/
def rest_ (M : Nat) : List UInt8 := if M = 0 then [] else Lib.decDigits M
theorem rest_next {M : Nat} (h : M ≠ 0) : rest_ M = rest_ (M / 10) ++ [UInt8.ofNat (48 + M % 10)] := by
  unfold rest_
  rw [if_neg h]
  by_cases h10 : M < 10
  · rw [if_pos (by omega), dec_small h10, List.nil_append, Nat.mod_eq_of_lt h10]
  · rw [if_neg (by omega), dec_big h10]
def RDecRel (w : World) (N : Nat) (u v : Value) (wr : World) : Prop :=
  ∃ (A : Option Addr) (n c M : Nat) (t : ByteArray), u = .slice A n c ∧ v = .string t ∧ t.size ≤ 1300 ∧ n ≤ 128 ∧ Hid (Dg wr A n c M ∧ M ≤ N) ∧ Hid (Lib.decDigits N = rest_ M ++ t.toList) ∧ Hid (Below w.heap.size w wr)
theorem one_byte (w : World) (b : UInt8) : (convert 25 9 (.slice (some ⟨w.heap.size, 0, none⟩) 1 1)).run Tryd.prog (w.alloc (.cells #[.int .u8 (b.toNat : Int)] 5)) = .ok (.string ⟨#[b]⟩) (w.alloc (.cells #[.int .u8 (b.toNat : Int)] 5)) :=
  run_convert_bytes_back (P := Tryd.prog) (w.alloc (.cells #[.int .u8 (b.toNat : Int)] 5)) 25 9 5 ⟨w.heap.size, 0, none⟩ 1 [b] Tryd.underlying25 Tryd.underlying5 Tryd.underlying9 (fun j hj => by
    have h0 : j = 0 := by simp at hj; omega
    subst h0
    rw [Lib.add_plain, World.cell?_alloc_new]
    rfl)

set_option maxRecDepth 100000 in
set_option maxHeartbeats 4000000 in
theorem rdecimal_any (w : World) (A : Option Addr) (n c N : Nat) (h : Dg w A n c N) (hN : N < B64 ^ 64) :
    Calls Tryd.prog 9 #[.slice A n c] w (StrPost w (Lib.decDigits N)) := by
  have hz := dg_zero h
  have hn := h.len hN
  have H := Lib.hid h; have HN := Lib.hid hN
  have hD := Lib.hid (dec_len_le (Nat.lt_of_lt_of_le hN b64_ten) (by omega))
  clear h hN
  by_cases h0 : N = 0
  · have hn0 : n = 0 := hz.2 h0
    subst h0 hn0
    clear hz
    go_enter Tryd.func9, Tryd.ntmps9
    go_wp2
    go_ret
    exact ⟨_, rfl, by rw [dec_zero]; exact ByteArray.toList_mk [48], Below.refl _ _⟩
  · have hn0 : n ≠ 0 := fun h => h0 (hz.1 h)
    have f0 : ((n : Int) == 0) = false := by simp; omega
    have H0 := Lib.hid h0
    clear hz h0 hn0
    go_enter Tryd.func9, Tryd.ntmps9
    go_wp2
    clear f0
    go_loopw [0, 3] (fun u v wr => RDecRel w N u v wr) (fun _ v _ => 2000 - slen v)
    case atStart => exact ⟨A, n, c, N, _, rfl, rfl, by decide, by omega, Lib.hid ⟨H.out, Nat.le_refl _⟩, Lib.hid (by unfold rest_; rw [if_neg H0.out]; simp), Lib.hid (Below.refl _ _)⟩
    case round =>
      obtain ⟨A1, n1, c1, M, t, rfl, rfl, ht, hn1, hM, hT, hB⟩ := hrel
      have hz := dg_zero hM.out.1
      by_cases hM0 : M = 0
      · have hn0 : n1 = 0 := hz.2 hM0
        subst hn0
        have HM0 := Lib.hid hM0
        clear hz hM0
        go_wp2
        go_ret
        refine ⟨_, rfl, ?_, hB.out⟩
        rw [hT.out, HM0.out]; simp [rest_]
      · have hn0 : 0 < n1 := by rcases Nat.eq_zero_or_pos n1 with e | e; exact absurd (hz.1 e) hM0; exact e
        have HM0 := Lib.hid hM0
        clear hz hM0
        have hmk := fun W => make32 (n1 : Int) n1 rfl (by omega) W
        generalize wr = W at *
        have HRow := Lib.hid (zrow_row .u32 23 n1 W)
        have HB0 := Lib.hid (one_below W (zrow .u32 23 n1))
        have HSz := Lib.hid (show W.heap.size < (W.alloc (zrow .u32 23 n1)).heap.size by simp)
        go_wp2
        generalize hw0 : W.alloc (zrow .u32 23 n1) = w0 at *
        clear hw0
        go_loopw [6, 5] (fun u c wr => DtRel w0 W.heap.size n1 (digs B32 M) u c wr) (fun u _ _ => (intOf u + 1).toNat)
        case atStart => exact ⟨n1, 0, _, Nat.le_refl _, rfl, rfl, by omega, Lib.hid (DtI.start hM.out.1.1), HRow, Lib.hid (only_refl _ _)⟩
        case round =>
          obtain ⟨k, cy, cur, hk, rfl, rfl, hcy, hI, hR, hG⟩ := hrel
          have hbw : Below W.heap.size W wr := HB0.out.trans (only_below hG.out (by have := HSz.out; omega) (Nat.le_refl _))
          rcases Nat.eq_zero_or_pos k with hk0 | hk0
          · subst hk0
            obtain ⟨d1, d2, d3, d4⟩ := hI.out.done
            rw [nval_digs B32_two] at d3 d4
            have hRd : Rd .u32 wr 0 wr.heap.size (some ⟨W.heap.size, 0, none⟩) n1 n1 cur := by
              have := Row.rd0 (lo := 0) (hi := wr.heap.size) (c := n1) hR.out (Nat.zero_le _) hR.out.lt (by omega)
              rwa [d2] at this
            obtain ⟨b, hb⟩ : ∃ b : UInt8, b = UInt8.ofNat (48 + cy) := ⟨_, rfl⟩
            have hbn : (48 : Int) + (cy : Int) = (b.toNat : Int) := by rw [hb, ofNat_toNat hcy]; omega
            have g1 : IntKind.u64.wrap ((48 : Int) + (cy : Int)) = (b.toNat : Int) := by rw [hbn, u64_fits _ (by have := b.toNat_lt; omega)]
            have g2 : IntKind.u8.wrap (b.toNat : Int) = (b.toNat : Int) := by rw [IntKind.wrap_u8]; have := b.toNat_lt; omega
            have hcv := one_byte wr b
            have ob := one_below wr (.cells #[.int .u8 (b.toNat : Int)] 5)
            have C2 := Lib.hid (trim32_any _ 0 wr.heap.size _ n1 n1 cur (hRd.below ob) d1 (by omega))
            have hT2 : Lib.decDigits N = rest_ (M / 10) ++ ((⟨#[b]⟩ : ByteArray) ++ t).toList := by
              rw [cat_list, hT.out, rest_next HM0.out, ← d4, ← hb]
              simp
            have hs5 : ((⟨#[b]⟩ : ByteArray) ++ t).size ≤ 1300 := by
              have := hD.out; rw [hT2, List.length_append] at this
              rw [size_of]; omega
            have Q : Hid (∀ (A' : Option Addr) (c' : Nat), (0 < tlen cur → A' = some ⟨W.heap.size, 0, none⟩) → tlen cur ≤ c' → Dg (wr.alloc (.cells #[.int .u8 (b.toNat : Int)] 5)) A' (tlen cur) c' (M / 10)) := Lib.hid (fun A' c' h1 h2 => by
              have := (hRd.below ob).trim d1 h1 h2
              rw [d3] at this
              exact this.more ob.size)
            have hl : tlen cur ≤ 128 := by have := tlen_le d1; omega
            have HT2 := Lib.hid hT2; have HS5 := Lib.hid hs5; have HBW := Lib.hid (below_step hB.out (below_step hbw ob))
            have HDM := Lib.hid (Nat.div_le_self M 10)
            clear d1 d2 d3 d4 hRd hb hbn hT2 hs5 ob hbw hI hR hG HSz HB0 HRow
            go_wp2_with fail
            refine C2.out.mono ?_
            rintro _ w6 ⟨A6, c6, rfl, rfl, e6, e7⟩
            have Q6 := Lib.hid (Q.out A6 c6 e6 e7)
            clear e6 e7 Q C2
            go_wp2
            go_roundw
            case rel => exact ⟨A6, _, c6, M / 10, _, rfl, rfl, HS5.out, hl, Lib.hid ⟨Q6.out, Nat.le_trans HDM.out hM.out.2⟩, HT2, HBW⟩
            case measure =>
              have := HS5.out
              rw [cat_size] at this
              simp only [slen]
              rw [cat_size]
              have : (⟨#[b]⟩ : ByteArray).size = 1 := rfl
              omega
          · obtain ⟨j, rfl⟩ : ∃ j, k = j + 1 := ⟨k - 1, by omega⟩
            have ej : ((j + 1 : Nat) : Int) - 1 = (j : Int) := by omega
            rw [ej]
            obtain ⟨ad, x, hA, _, hbl, hx, hcx0⟩ := hM.out.1.get_ (j := j) (by omega)
            subst hA
            have hcx : wr.cell? (ad.add j) = some (.int .u32 (x : Int)) := by rw [← hcx0]; exact hbw.cell (by rw [block_of_add]; omega)
            have hxB := (small_digs B32_two M).get hx.out
            obtain ⟨hI2, hqB⟩ := hI.out.step hk hx.out hxB
            obtain ⟨o0, ho0⟩ : ∃ o0, cur[j]? = some o0 := by
              obtain ⟨hi, rfl, h2, _⟩ := hI.out
              exact ⟨_, List.getElem?_eq_getElem (by simp; omega)⟩
            have hco := Seg.cell (pre := []) (post := []) (Row.toSeg hR.out (by simp)) (o := 0) rfl ho0
            have hfo := hR.out.frozen j
            rw [Nat.zero_add] at hco
            obtain ⟨e3, e4⟩ := pair_word x cy hxB (by unfold B32; omega)
            have e2 := u64_of32 x hxB
            obtain ⟨q4, hq4⟩ : ∃ q, q = cy * 4294967296 := ⟨_, rfl⟩
            obtain ⟨z, hz⟩ : ∃ z, z = x + 4294967296 * cy := ⟨_, rfl⟩
            have e5 : bits .or .u64 ((cy * 4294967296 : Nat) : Int) (x : Int) = ((x + 4294967296 * cy : Nat) : Int) := by
              rw [bits_or_u64_nat _ _ (by omega) (by unfold B32 at hxB; omega)]
              rw [bits_or_u64_nat _ _ (by unfold B32 at hxB; omega) (by omega)] at e4
              rw [Nat.or_comm]; exact e4
            rw [← hq4] at e3 e5
            rw [← hz] at e5 hI2 hqB
            have hzB : z < 18446744073709551616 := by unfold B32 at hxB; omega
            obtain ⟨v, hv⟩ : ∃ v, v = z / 10 := ⟨_, rfl⟩
            obtain ⟨d, hd⟩ : ∃ d, d = z % 10 := ⟨_, rfl⟩
            rw [← hv] at hI2 hqB
            rw [← hd] at hI2
            have z1 : (z : Int) / 10 = (v : Int) := by omega
            have z1' : (z : Int).tdiv 10 = (v : Int) := by rw [hv]; rfl
            have z2 : (z : Int) % 10 = (d : Int) := by omega
            have z2' : (z : Int).tmod 10 = (d : Int) := by rw [hd]; rfl
            have z3 : IntKind.u32.wrap (v : Int) = (v : Int) := by unfold B32 at hqB; rw [IntKind.wrap_u32]; omega
            have z4 : IntKind.u64.wrap (v : Int) = (v : Int) := u64_fits _ (by unfold B32 at hqB; omega)
            have hd10 : d < 10 := by omega
            have z5 : IntKind.u64.wrap (d : Int) = (d : Int) := u64_fits _ (by omega)
            have HI2 := Lib.hid hI2
            have hR2 := Lib.hid (hR.out.set_ j v)
            have hG2 := Lib.hid (only_set hG.out (p := ⟨W.heap.size, j, none⟩) (.inl rfl) (.int .u32 (v : Int)))
            have i1 : (0 : Int) ≤ (j : Int) := by omega
            have i2 : (j : Int) < (n1 : Int) := by omega
            clear hcx0 hxB hI2 hqB ho0 e4 hq4 hz hzB hv hd hbw ej hI hR hG
            go_wp2
            go_roundw
            case rel => exact ⟨j, d, _, by omega, by go_num, rfl, hd10, HI2, hR2, hG2⟩
            case measure => first | (simp [intOf]; done) | (simp [intOf]; omega)
end Go.Proofs.YtdmnohmjobofhaaDoor
