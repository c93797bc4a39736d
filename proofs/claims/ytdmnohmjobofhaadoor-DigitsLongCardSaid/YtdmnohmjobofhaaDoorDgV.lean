/- The law DigitsLong: its walk. -/
import Derived.Test.YtdmnohmjobofhaaDoorDgU
namespace Go.Proofs.YtdmnohmjobofhaaDoor
open Go.RowKit Nx

theorem ofz_nat (n : Nat) : ofz (n : Int) 0 = nm false n 0 := by rw [nm_ofz]; rfl
theorem nm_back (n : Nat) : (nm false n 0).m * 2 ^ (nm false n 0).e.toNat = n ∧ 0 ≤ (nm false n 0).e ∧ (n < B64 → (nm false n 0).e ≤ 64 ∧ (nm false n 0).m < B64) := by
  unfold nm
  split
  · rename_i h; subst h; exact ⟨rfl, Int.le_refl _, fun _ => ⟨(by show (0 : Int) ≤ 64; omega), (by show (0 : Nat) < B64; unfold B64; omega)⟩⟩
  · rename_i h0
    refine ⟨?_, ?_, fun h => ⟨?_, ?_⟩⟩
    · show n / 2 ^ ntz n * 2 ^ ((0 : Int) + (ntz n : Int)).toNat = n
      rw [show ((0 : Int) + (ntz n : Int)).toNat = ntz n by omega]
      exact (odd_part h0).1.symm
    · show (0 : Int) ≤ 0 + (ntz n : Int); omega
    · show (0 : Int) + (ntz n : Int) ≤ 64
      have := ntz_lt h0 (show n < 2 ^ 64 from h); omega
    · exact Nat.lt_of_le_of_lt (Nat.div_le_self _ _) h
def lgDst (i : Nat) : Tmp := [66, 67, 68, 69, 70, 71, 72, 15].getD i 0
def lgNeed (i : Nat) : List Nat := [[], [0], [1], [], [3], [2, 4], [5], [0, 1, 2, 3, 4, 5, 6]].getD i []
def DgW (w : World) (v : Value) (N : Nat) : Prop := ∃ (A : Option Addr) (n c : Nat), v = .slice A n c ∧ Dg w A n c N
theorem DgW.step {w w' : World} {v : Value} {N : Nat} (h : DgW w v N) (hb : Below w.heap.size w w') : DgW w' v N := by
  obtain ⟨A, n, c, e, h⟩ := h; exact ⟨A, n, c, e, h.step hb⟩
def StW (v : Value) (L : List UInt8) : Prop := ∃ t : ByteArray, v = .string t ∧ t.toList = L
def lgF (g : Nat) (A : Option Addr) (n c : Nat) (q : Q) (i : Nat) (w : World) (v : Value) : Prop :=
  match i with
  | 0 => v = .pointer (some ⟨g, 2, none⟩)
  | 1 => v = .slice A n c
  | 2 => DgW w v q.m
  | 3 => v = .pointer (some ⟨g, 1, none⟩)
  | 4 => v = .int .i64 q.e
  | 5 => DgW w v (q.m * 2 ^ q.e.toNat)
  | 6 => StW v (Lib.decDigits (q.m * 2 ^ q.e.toNat))
  | _ => StW v (Lib.decDigits (q.m * 2 ^ q.e.toNat))
theorem en_part : ∀ (args : Array Value) (w : World), (callFunc 11 args).run Tryd.prog w = .ok (.enter 11 args) w := enters_of Tryd.func11 (by kernel_rfl) rfl
theorem en_left : ∀ (args : Array Value) (w : World), (callFunc 10 args).run Tryd.prog w = .ok (.enter 10 args) w := enters_of Tryd.func10 (by kernel_rfl) rfl
theorem en_rdec : ∀ (args : Array Value) (w : World), (callFunc 9 args).run Tryd.prog w = .ok (.enter 9 args) w := enters_of Tryd.func9 (by kernel_rfl) rfl
theorem left_w {w : World} {v : Value} {X : Nat} {t : Int} (h : DgW w v X) (hX : X < B64 ^ 64) (h0 : 0 ≤ t) (h1 : t ≤ 64) : Calls Tryd.prog 10 #[v, .int .i64 t] w fun e w' => ∃ v, e = .returned v ∧ Below w.heap.size w w' ∧ DgW w' v (X * 2 ^ t.toNat) := by
  obtain ⟨A, n, c, rfl, hd⟩ := h
  refine (left_is t hd hX (by omega) h0 (by omega)).mono ?_
  intro e w' hp
  obtain ⟨A', n', c', he, h2, h3⟩ := NewDg.of hp rfl
  exact ⟨_, he, h3, A', n', c', rfl, h2⟩
theorem rdec_w {w : World} {v : Value} {X : Nat} (h : DgW w v X) (hX : X < B64 ^ 64) : Calls Tryd.prog 9 #[v] w fun e w' => ∃ v, e = .returned v ∧ Below w.heap.size w w' ∧ StW v (Lib.decDigits X) := by
  obtain ⟨A, n, c, rfl, hd⟩ := h
  refine (rdecimal_any w A n c X hd hX).mono ?_
  rintro e w' ⟨t, he, ht, hb⟩
  exact ⟨_, he, hb, t, rfl, ht⟩
set_option maxRecDepth 100000 in
set_option maxHeartbeats 4000000 in
theorem long_stmt {ops : Array Oper} (hN : ops.size = 8) (hchk : chkB ops lgNeed (fun _ => []) 8 = true) (ho : ∀ i, i < 8 → ops[i]? = some (theOp ops i) ∧ (theOp ops i).guard = none ∧ (theOp ops i).dst = some (lgDst i))
    (c0 : (theOp ops 0).op = .fieldAddr 28 (.tmp 13) 2) (c1 : (theOp ops 1).op = .load 26 (.tmp 66)) (c2 : (theOp ops 2).op = .call { callee := .value (.func 11), args := #[.tmp 67], argTypes := #[26] })
    (c3 : (theOp ops 3).op = .fieldAddr 28 (.tmp 13) 1) (c4 : (theOp ops 4).op = .load 2 (.tmp 69)) (c5 : (theOp ops 5).op = .call { callee := .value (.func 10), args := #[.tmp 68, .tmp 70], argTypes := #[32, 3] })
    (c6 : (theOp ops 6).op = .call { callee := .value (.func 9), args := #[.tmp 71], argTypes := #[32] }) (c7 : (theOp ops 7).op = .assign (.tmp 72))
    {QQ : Exit → Act → World → Prop} {id : Nat} {a0 : Act} {w0 : World} {g : Nat} {A : Option Addr} {n c : Nat} {q : Q} (hsz : a0.tmps.size = 114) (t13 : a0.tmps[13]? = some (.pointer (some ⟨g, 0, none⟩)))
    (k1 : Bx w0 g q.s q.e A n c) (I1 : Is w0 A n c q.m) (hm : q.m < B64) (h0 : 0 ≤ q.e) (h1 : q.e ≤ 64) (hN64 : q.m * 2 ^ q.e.toNat < B64)
    (hQ : ∀ (vals : Nat → Value) w, Below w0.heap.size w0 w → StW (vals 7) (Lib.decDigits (q.m * 2 ^ q.e.toNat)) → QQ .normal (putAll lgDst vals a0 8) w) : (Code.region id ops true).wp Tryd.prog QQ a0 w0 := by
  refine region_mono lgDst lgNeed (fun _ => []) (lgF g A n c q) (by kernel_rfl) hN hchk ?_ ?_ ?_ ?_ ?_ (fun vals w hb hF => hQ vals w hb (hF 7 (by omega)))
  · intro j hj
    have : ∀ j : Fin 8, lgDst j.val ≤ 72 := by decide
    exact Nat.lt_of_le_of_lt (this ⟨j, hj⟩) (by rw [hsz]; omega)
  · intro i j hi hj h
    have : ∀ i j : Fin 8, lgDst i.val = lgDst j.val → i.val = j.val := by decide
    exact this ⟨i, hi⟩ ⟨j, hj⟩ h
  · intro i w w' v hb hF
    unfold lgF at hF ⊢
    split at hF
    · exact hF
    · exact hF
    · exact hF.step hb
    · exact hF
    · exact hF
    · exact hF.step hb
    · exact hF
    · exact hF
  · intro i hi a w hb hdf hun hne
    obtain ⟨o1, o2, o3⟩ := ho i hi
    have ev13 := fun (_ : i = i) => ev_of ((hun 13 (fun j hj h => absurd h ((show ∀ j : Fin 8, lgDst j.val ≠ 13 by decide) ⟨j, hj⟩))).trans t13)
    match i, hi with
    | 0, _ => exact op_runs' o1 (want_none o2) o3 (z_addr (by omega) c0 (ev13 rfl)) (Below.refl _ _) rfl
    | 1, _ => exact op_runs' o1 (want_none o2) o3 (z_load (T := 26) (.inr rfl) c1 (hne 0 (by decide)) (k1.step hb).c2) (Below.refl _ _) rfl
    | 2, _ =>
      refine op_calls' o1 (want_none o2) o3 (z_call1 en_part c2 rfl (hne 1 (by decide))) ?_
      exact (part_is ((I1.step hb).has (lt_b64 hm)) (by omega)).mono fun e w' ⟨A', n', c', he, hd, hb'⟩ => ⟨_, he, hb', A', n', c', rfl, hd⟩
    | 3, _ => exact op_runs' o1 (want_none o2) o3 (z_addr (by omega) c3 (ev13 rfl)) (Below.refl _ _) rfl
    | 4, _ => exact op_runs' o1 (want_none o2) o3 (z_load (T := 2) (.inl rfl) c4 (hne 3 (by decide)) (k1.step hb).c1) (Below.refl _ _) rfl
    | 5, _ =>
      have f0 := hne 2 (by decide)
      refine op_calls' o1 (want_none o2) o3 (z_call2 en_left c5 rfl rfl (hne 4 (by decide))) ?_
      exact left_w f0 (lt_b64 hm) h0 h1
    | 6, _ =>
      have f0 := hne 5 (by decide)
      refine op_calls' o1 (want_none o2) o3 (z_call1 en_rdec c6 rfl rfl) ?_
      exact rdec_w f0 (lt_b64 hN64)
    | 7, _ => exact op_runs' o1 (want_none o2) o3 (z_assign c7 rfl) (Below.refl _ _) (hne 6 (by decide))
    | n + 8, h => exact absurd h (by omega)
  · intro i hi j hj
    have : ∀ i : Fin 8, ∀ j ∈ lgNeed i.val, j < 8 := by decide
    exact this ⟨i, hi⟩ j hj

theorem lgDst_0 : lgDst 0 = 66 := rfl
theorem lgDst_1 : lgDst 1 = 67 := rfl
theorem lgDst_2 : lgDst 2 = 68 := rfl
theorem lgDst_3 : lgDst 3 = 69 := rfl
theorem lgDst_4 : lgDst 4 = 70 := rfl
theorem lgDst_5 : lgDst 5 = 71 := rfl
theorem lgDst_6 : lgDst 6 = 72 := rfl
theorem lgDst_7 : lgDst 7 = 15 := rfl
set_option maxRecDepth 100000 in
set_option maxHeartbeats 8000000 in
theorem long_walk (w : World) (many ex : Nat) (low : Bool) (hm : many ≤ 65535) (he : ex < 4294967296) (ht : Tab w) (hp : Pw w) :
    Calls Tryd.prog 3 #[.int .u16 (many : Int), .int .u32 (ex : Int), .bool low] w (LawPost w) := by
  have C1 := Lib.hid (dknown_any w ht hp)
  have HT := Lib.hid ht
  clear ht hp
  obtain ⟨n1, hn1⟩ : ∃ n, n = 1290 + many % 14 := ⟨_, rfl⟩
  have h1 : 1290 ≤ n1 := by omega
  have h2 : n1 ≤ 1303 := by omega
  have m1 : (1290 : Int) + (many : Int) % 14 = (n1 : Int) := by omega
  have m2 : IntKind.i64.wrap ((many : Int) % 14) = (many : Int) % 14 := by rw [IntKind.wrap_i64]; omega
  have hmk := fun W => make8 (n1 : Int) n1 rfl (by omega) W
  have HP1 := Lib.hid (prs_ones h1)
  have HM := Lib.hid hm; have HE := Lib.hid he
  clear hn1 hm he
  go_enter Tryd.func3, Tryd.ntmps3
  go_wp2_with fail
  refine C1.out.mono ?_
  rintro _ w1 ⟨rfl, b1⟩
  have HRow := Lib.hid (zrow_row .u8 5 n1 w1)
  have HB0 := Lib.hid (one_below w1 (zrow .u8 5 n1))
  have HSz := Lib.hid (show w1.heap.size < (w1.alloc (zrow .u8 5 n1)).heap.size by simp)
  have B1 := Lib.hid b1
  clear b1 C1
  go_wp2
  generalize hw0 : w1.alloc (zrow .u8 5 n1) = w0 at *
  clear hw0
  go_loopw [8] (fun u wr => OneRel w0 w1.heap.size n1 u wr) (fun u _ => n1 - (intOf u).toNat)
  case atStart => exact ⟨0, Nat.zero_le _, rfl, Lib.hid (by simpa using HRow.out), Lib.hid (only_refl _ _)⟩
  case round =>
    obtain ⟨k, hk, rfl, hR, hG⟩ := hrel
    by_cases hlt : k < n1
    · have hc0 := Row.cell hR.out (i := k) (by simp; omega)
      have hf0 := hR.out.frozen k
      have hR2 := hR.out.set_ k 49
      rw [show n1 - k = (n1 - (k + 1)) + 1 by omega, set_ones] at hR2
      have HR2 := Lib.hid hR2
      have hG2 := Lib.hid (only_set hG.out (p := ⟨w1.heap.size, k, none⟩) (.inl rfl) (.int .u8 49))
      clear hR hG hR2
      go_wp2
      go_roundw
      case rel => exact ⟨k + 1, by omega, by go_num, HR2, hG2⟩
      case measure => simp [intOf]; omega
    · have hkn : k = n1 := by omega
      subst hkn
      have hR1 := hR.out
      rw [Nat.sub_self, List.replicate_zero, List.append_nil] at hR1
      have hcv := conv_ones hR1
      have hbw : Below w1.heap.size w1 wr := HB0.out.trans (only_below hG.out (by have := HSz.out; omega) (Nat.le_refl _))
      have B2 := Lib.hid (below_step B1.out hbw)
      obtain ⟨s1, hs1⟩ : ∃ s : ByteArray, s = ⟨(List.replicate k (49 : UInt8)).toArray⟩ := ⟨_, rfl⟩
      have hl1 : s1.toList = List.replicate k 49 := by rw [hs1]; exact ByteArray.toList_mk _
      rw [← hs1] at hcv
      have C2 := Lib.hid (parse_any wr s1 (by rw [size_of, hl1, List.length_replicate]; omega) (HT.out.below B2.out))
      rw [hl1, HP1.out] at C2
      clear hR hG hR1 hbw hs1 hl1 HRow HB0 HSz B1 hlt
      obtain ⟨er, her, C2'⟩ : ∃ er : Int, ((k ≤ 1300 ∧ er = 2) ∨ (1300 < k ∧ er = 5)) ∧ Hid (Calls Tryd.prog 6 #[.string s1] wr (NumPost2 wr (q0, er))) := by
        by_cases hk3 : k ≤ 1300
        · rw [if_pos hk3] at C2; exact ⟨2, .inl ⟨hk3, rfl⟩, C2⟩
        · rw [if_neg hk3] at C2; exact ⟨5, .inr ⟨by omega, rfl⟩, C2⟩
      obtain ⟨n3, hn3e⟩ : ∃ n, n = ex % 3000000 := ⟨_, rfl⟩
      have hn3 : n3 < 3000000 := by omega
      have m4 : (ex : Int) % 3000000 = (n3 : Int) := by omega
      have m5 : IntKind.i64.wrap (n3 : Int) = (n3 : Int) := by rw [IntKind.wrap_i64]; omega
      have m6 : IntKind.i64.wrap ((ex : Int) % 3000000) = (n3 : Int) := by rw [m4, m5]
      have hn3B : n3 < B64 := by unfold B64; omega
      obtain ⟨q1, q2, q3⟩ := nm_back n3
      have hcan := nm_canon false n3 0
      have hfit := nm_fits (z := 0) hn3B (by omega) (by omega)
      have CW := Lib.hid (fun W => whole_any W (n3 : Int) (by omega) (by omega))
      rw [ofz_nat] at CW
      obtain ⟨q, hq⟩ : ∃ q, q = nm false n3 0 := ⟨_, rfl⟩
      rw [← hq] at q1 q2 q3 hcan hfit CW
      have HCan := Lib.hid hcan; have HFit := Lib.hid hfit; have HQE := Lib.hid q1; have HQ0 := Lib.hid q2; have HQ1 := Lib.hid (q3 hn3B).1; have HQm := Lib.hid (q3 hn3B).2
      have HQN := Lib.hid (show q.m * 2 ^ q.e.toNat < B64 by rw [q1]; exact hn3B)
      clear hn3e q1 q2 q3 hcan hfit hq C2 HP1 hmk hn3B m1 m2
      rcases her with ⟨hk3, rfl⟩ | ⟨hk3, rfl⟩
      all_goals
        go_wp2_with fail
        refine C2'.out.mono ?_
        rintro _ w2 ⟨_, rfl, ⟨A2, n2, c2, rfl, h2'⟩, b2⟩
        simp only [show q0.s = false from rfl, show q0.e = 0 from rfl]
        have B3 := Lib.hid (below_step (below_step B2.out b2) (one_below w2 (.cells #[.bool false, .int .i64 0, .slice A2 n2 c2] 28)))
        have C3 := Lib.hid (CW.out (w2.alloc (.cells #[.bool false, .int .i64 0, .slice A2 n2 c2] 28)))
        clear h2' b2 C2' CW hcv
        cases low
        · go_wp2_with fail
          refine C3.out.mono ?_
          rintro _ w3 ⟨_, rfl, ⟨A3, n3', c3, rfl, h3, _⟩, b3⟩
          have B4 := Lib.hid (below_step B3.out b3)
          have C4 := Lib.hid (vnum_any w3 q A3 n3' c3 64 h3 HCan.out (lt_b64 HQm.out) (by omega))
          rw [res_ok HFit.out] at C4
          clear h3 b3 C3
          go_wp2_with fail
          refine C4.out.mono ?_
          rintro _ w4 ⟨_, rfl, ⟨A4, n4, c4, rfl, h4⟩, b4⟩
          simp only
          have o4 := one_below w4 (.cells #[.bool q.s, .int .i64 q.e, .slice A4 n4 c4] 28)
          have K4 := Lib.hid (Bx.new w4 q.s q.e A4 n4 c4); have I4 := Lib.hid (show Is _ A4 n4 c4 q.m from (rd_nextlo h4 o4).less (Nat.zero_le _))
          have B5 := Lib.hid (below_step (below_step B4.out b4) o4)
          clear h4 b4 o4 C4 B4
          go_wp2_with fail
          refine long_stmt (A := A4) (n := n4) (c := c4) (q := q) (g := w4.heap.size) (by kernel_rfl) (by kernel_rfl) ?_ (by kernel_rfl) (by kernel_rfl) (by kernel_rfl) (by kernel_rfl) (by kernel_rfl) (by kernel_rfl) (by kernel_rfl) (by kernel_rfl) rfl rfl K4.out I4.out HQm.out HQ0.out HQ1.out HQN.out ?_
          · intro i hi
            match i, hi with
            | 0, _ => exact ⟨by kernel_rfl, by kernel_rfl, by kernel_rfl⟩
            | 1, _ => exact ⟨by kernel_rfl, by kernel_rfl, by kernel_rfl⟩
            | 2, _ => exact ⟨by kernel_rfl, by kernel_rfl, by kernel_rfl⟩
            | 3, _ => exact ⟨by kernel_rfl, by kernel_rfl, by kernel_rfl⟩
            | 4, _ => exact ⟨by kernel_rfl, by kernel_rfl, by kernel_rfl⟩
            | 5, _ => exact ⟨by kernel_rfl, by kernel_rfl, by kernel_rfl⟩
            | 6, _ => exact ⟨by kernel_rfl, by kernel_rfl, by kernel_rfl⟩
            | 7, _ => exact ⟨by kernel_rfl, by kernel_rfl, by kernel_rfl⟩
            | n + 8, h => exact absurd h (by omega)
          intro vals w6 b6 h6
          obtain ⟨t, et, ht⟩ := h6
          rw [HQE.out] at ht
          simp only [putAll, show List.range 8 = [0, 1, 2, 3, 4, 5, 6, 7] from rfl, List.foldl_cons, List.foldl_nil, lgDst_0, lgDst_1, lgDst_2, lgDst_3, lgDst_4, lgDst_5, lgDst_6, lgDst_7, et]
          have B6 := Lib.hid (below_step B5.out b6)
          have hts : t.size ≤ 7 := by rw [size_of, ht]; exact dec_len_le (Nat.lt_trans hn3 (by decide)) (by omega)
          have hl : ((⟨#[51, 112]⟩ : ByteArray) ++ t).toList = [51, 112] ++ (if false then [45] else []) ++ Lib.decDigits n3 := by
            rw [cat_list, ht, show (⟨#[51, 112]⟩ : ByteArray).toList = [51, 112] from ByteArray.toList_mk [51, 112]]; rfl
          have hsz : ((⟨#[51, 112]⟩ : ByteArray) ++ t).size ≤ 10000 := by rw [cat_size, show (⟨#[51, 112]⟩ : ByteArray).size = 2 from rfl]; omega
          have C6 := Lib.hid (parse_any w6 ((⟨#[51, 112]⟩ : ByteArray) ++ t) hsz (HT.out.below B6.out))
          rw [hl, prs_3p n3 false hn3] at C6
          have htl : t.size = (Lib.decDigits n3).length := by rw [size_of, ht]
          rw [← htl] at C6
          clear b6 ht et hl hsz htl B5
          go_simp
          have fin : Hid (n3 = 0 ∨ (n3 ≠ 0 ∧ 6 < t.size) ∨ (n3 ≠ 0 ∧ t.size ≤ 6 ∧ 65536 < n3) ∨ (n3 ≠ 0 ∧ t.size ≤ 6 ∧ n3 ≤ 65536)) := Lib.hid (by omega)
          rcases fin.out with h0 | ⟨h0, h1⟩ | ⟨h0, h1, h2⟩ | ⟨h0, h1, h2⟩
          · rw [if_pos (.inl h0)] at C6
            have f0 : ((n3 : Int) == 0) = true := by simp; omega
            clear fin h0
            go_wp2_with fail
            refine C6.out.mono ?_
            rintro _ w7 ⟨_, rfl, ⟨A7, n7, c7, rfl, h7⟩, b7⟩
            simp only [show q0.s = false from rfl, show q0.e = 0 from rfl]
            have B7 := Lib.hid (below_step (below_step B6.out b7) (one_below w7 (.cells #[.bool false, .int .i64 0, .slice A7 n7 c7] 28)))
            clear h7 b7 C6
            go_wp2
            go_ret
            exact ⟨rfl, B7.out⟩
          · rw [if_pos (.inr h1)] at C6
            have f0 : ((n3 : Int) == 0) = false := by simp; omega
            clear fin h0
            go_wp2_with fail
            refine C6.out.mono ?_
            rintro _ w7 ⟨_, rfl, ⟨A7, n7, c7, rfl, h7⟩, b7⟩
            simp only [show q0.s = false from rfl, show q0.e = 0 from rfl]
            have B7 := Lib.hid (below_step (below_step B6.out b7) (one_below w7 (.cells #[.bool false, .int .i64 0, .slice A7 n7 c7] 28)))
            clear h7 b7 C6
            go_wp2
            go_ret
            exact ⟨rfl, B7.out⟩
          · rw [if_neg (by omega), if_pos h2] at C6
            have f0 : ((n3 : Int) == 0) = false := by simp; omega
            clear fin h0
            go_wp2_with fail
            refine C6.out.mono ?_
            rintro _ w7 ⟨_, rfl, ⟨A7, n7, c7, rfl, h7⟩, b7⟩
            simp only [show q0.s = false from rfl, show q0.e = 0 from rfl]
            have B7 := Lib.hid (below_step (below_step B6.out b7) (one_below w7 (.cells #[.bool false, .int .i64 0, .slice A7 n7 c7] 28)))
            clear h7 b7 C6
            go_wp2
            go_ret
            exact ⟨rfl, B7.out⟩
          · rw [if_neg (by omega), if_neg (by omega)] at C6
            have f0 : ((n3 : Int) == 0) = false := by simp; omega
            have hsg : sgn false n3 = (n3 : Int) := rfl
            rw [hsg] at C6
            clear fin h0 hsg
            go_wp2_with fail
            refine C6.out.mono ?_
            rintro _ w7 ⟨_, rfl, ⟨A7, n7, c7, rfl, h7⟩, b7⟩
            simp only
            have B7 := Lib.hid (below_step (below_step B6.out b7) (one_below w7 (.cells #[.bool false, .int .i64 (n3 : Int), .slice A7 n7 c7] 28)))
            clear h7 b7 C6
            go_wp2
            go_ret
            exact ⟨rfl, B7.out⟩
        · go_wp2_with fail
          refine C3.out.mono ?_
          rintro _ w3 ⟨_, rfl, ⟨A3, n3', c3, rfl, h3, _⟩, b3⟩
          have B4 := Lib.hid (below_step B3.out b3)
          have C4 := Lib.hid (vnum_any w3 q A3 n3' c3 64 h3 HCan.out (lt_b64 HQm.out) (by omega))
          rw [res_ok HFit.out] at C4
          clear h3 b3 C3
          go_wp2_with fail
          refine C4.out.mono ?_
          rintro _ w4 ⟨_, rfl, ⟨A4, n4, c4, rfl, h4⟩, b4⟩
          simp only
          have o4 := one_below w4 (.cells #[.bool q.s, .int .i64 q.e, .slice A4 n4 c4] 28)
          have K4 := Lib.hid (Bx.new w4 q.s q.e A4 n4 c4); have I4 := Lib.hid (show Is _ A4 n4 c4 q.m from (rd_nextlo h4 o4).less (Nat.zero_le _))
          have B5 := Lib.hid (below_step (below_step B4.out b4) o4)
          clear h4 b4 o4 C4 B4
          go_wp2_with fail
          refine long_stmt (A := A4) (n := n4) (c := c4) (q := q) (g := w4.heap.size) (by kernel_rfl) (by kernel_rfl) ?_ (by kernel_rfl) (by kernel_rfl) (by kernel_rfl) (by kernel_rfl) (by kernel_rfl) (by kernel_rfl) (by kernel_rfl) (by kernel_rfl) rfl rfl K4.out I4.out HQm.out HQ0.out HQ1.out HQN.out ?_
          · intro i hi
            match i, hi with
            | 0, _ => exact ⟨by kernel_rfl, by kernel_rfl, by kernel_rfl⟩
            | 1, _ => exact ⟨by kernel_rfl, by kernel_rfl, by kernel_rfl⟩
            | 2, _ => exact ⟨by kernel_rfl, by kernel_rfl, by kernel_rfl⟩
            | 3, _ => exact ⟨by kernel_rfl, by kernel_rfl, by kernel_rfl⟩
            | 4, _ => exact ⟨by kernel_rfl, by kernel_rfl, by kernel_rfl⟩
            | 5, _ => exact ⟨by kernel_rfl, by kernel_rfl, by kernel_rfl⟩
            | 6, _ => exact ⟨by kernel_rfl, by kernel_rfl, by kernel_rfl⟩
            | 7, _ => exact ⟨by kernel_rfl, by kernel_rfl, by kernel_rfl⟩
            | n + 8, h => exact absurd h (by omega)
          intro vals w6 b6 h6
          obtain ⟨t, et, ht⟩ := h6
          rw [HQE.out] at ht
          simp only [putAll, show List.range 8 = [0, 1, 2, 3, 4, 5, 6, 7] from rfl, List.foldl_cons, List.foldl_nil, lgDst_0, lgDst_1, lgDst_2, lgDst_3, lgDst_4, lgDst_5, lgDst_6, lgDst_7, et]
          have B6 := Lib.hid (below_step B5.out b6)
          have hts : t.size ≤ 7 := by rw [size_of, ht]; exact dec_len_le (Nat.lt_trans hn3 (by decide)) (by omega)
          have hl : ((⟨#[51, 112, 45]⟩ : ByteArray) ++ t).toList = [51, 112] ++ (if true then [45] else []) ++ Lib.decDigits n3 := by
            rw [cat_list, ht, show (⟨#[51, 112, 45]⟩ : ByteArray).toList = [51, 112, 45] from ByteArray.toList_mk [51, 112, 45]]; rfl
          have hsz : ((⟨#[51, 112, 45]⟩ : ByteArray) ++ t).size ≤ 10000 := by rw [cat_size, show (⟨#[51, 112, 45]⟩ : ByteArray).size = 3 from rfl]; omega
          have C6 := Lib.hid (parse_any w6 ((⟨#[51, 112, 45]⟩ : ByteArray) ++ t) hsz (HT.out.below B6.out))
          rw [hl, prs_3p n3 true hn3] at C6
          have htl : t.size = (Lib.decDigits n3).length := by rw [size_of, ht]
          rw [← htl] at C6
          clear b6 ht et hl hsz htl B5
          go_simp
          have fin : Hid (n3 = 0 ∨ (n3 ≠ 0 ∧ 6 < t.size) ∨ (n3 ≠ 0 ∧ t.size ≤ 6 ∧ 65536 < n3) ∨ (n3 ≠ 0 ∧ t.size ≤ 6 ∧ n3 ≤ 65536)) := Lib.hid (by omega)
          rcases fin.out with h0 | ⟨h0, h1⟩ | ⟨h0, h1, h2⟩ | ⟨h0, h1, h2⟩
          · rw [if_pos (.inl h0)] at C6
            have f0 : ((n3 : Int) == 0) = true := by simp; omega
            clear fin h0
            go_wp2_with fail
            refine C6.out.mono ?_
            rintro _ w7 ⟨_, rfl, ⟨A7, n7, c7, rfl, h7⟩, b7⟩
            simp only [show q0.s = false from rfl, show q0.e = 0 from rfl]
            have B7 := Lib.hid (below_step (below_step B6.out b7) (one_below w7 (.cells #[.bool false, .int .i64 0, .slice A7 n7 c7] 28)))
            clear h7 b7 C6
            go_wp2
            go_ret
            exact ⟨rfl, B7.out⟩
          · rw [if_pos (.inr h1)] at C6
            have f0 : ((n3 : Int) == 0) = false := by simp; omega
            clear fin h0
            go_wp2_with fail
            refine C6.out.mono ?_
            rintro _ w7 ⟨_, rfl, ⟨A7, n7, c7, rfl, h7⟩, b7⟩
            simp only [show q0.s = false from rfl, show q0.e = 0 from rfl]
            have B7 := Lib.hid (below_step (below_step B6.out b7) (one_below w7 (.cells #[.bool false, .int .i64 0, .slice A7 n7 c7] 28)))
            clear h7 b7 C6
            go_wp2
            go_ret
            exact ⟨rfl, B7.out⟩
          · rw [if_neg (by omega), if_pos h2] at C6
            have f0 : ((n3 : Int) == 0) = false := by simp; omega
            clear fin h0
            go_wp2_with fail
            refine C6.out.mono ?_
            rintro _ w7 ⟨_, rfl, ⟨A7, n7, c7, rfl, h7⟩, b7⟩
            simp only [show q0.s = false from rfl, show q0.e = 0 from rfl]
            have B7 := Lib.hid (below_step (below_step B6.out b7) (one_below w7 (.cells #[.bool false, .int .i64 0, .slice A7 n7 c7] 28)))
            clear h7 b7 C6
            go_wp2
            go_ret
            exact ⟨rfl, B7.out⟩
          · rw [if_neg (by omega), if_neg (by omega)] at C6
            have f0 : ((n3 : Int) == 0) = false := by simp; omega
            have hsg : sgn true n3 = -(n3 : Int) := rfl
            rw [hsg] at C6
            clear fin h0 hsg
            go_wp2_with fail
            refine C6.out.mono ?_
            rintro _ w7 ⟨_, rfl, ⟨A7, n7, c7, rfl, h7⟩, b7⟩
            simp only
            have B7 := Lib.hid (below_step (below_step B6.out b7) (one_below w7 (.cells #[.bool false, .int .i64 (-(n3 : Int)), .slice A7 n7 c7] 28)))
            clear h7 b7 C6
            go_wp2
            go_ret
            exact ⟨rfl, B7.out⟩
end Go.Proofs.YtdmnohmjobofhaaDoor
