/- The law's known: some texts. -/
import Derived.Test.YtdmnohmjobofhaaDoorDgJ
import Derived.Test.YtdmnohmjobofhaaDoorDgD
import Derived.Test.YtdmnohmjobofhaaDoorNumPR
import Derived.Test.YtdmnohmjobofhaaDoorRegM
namespace Go.Proofs.YtdmnohmjobofhaaDoor
open Go.RowKit Nx

theorem fits_sm {s : Bool} {M : Nat} {e : Int} (hM : M < 100) (h1 : -100 ≤ e) (h2 : e ≤ 100) : Fits ⟨s, M, e⟩ := ⟨Nat.lt_of_lt_of_le (Nat.lt_trans hM (show 100 < 18446744073709551615 by omega)) (Nat.le_of_lt (Nat.lt_of_lt_of_le (show 18446744073709551615 < B64 by unfold B64; omega) (by
  have := Nat.pow_le_pow_right (show 0 < B64 by unfold B64; omega) (show 1 ≤ 64 by omega)
  rwa [Nat.pow_one] at this))), by simp only; omega, by simp only; omega⟩
theorem k_12 : prs [49, 50] = (⟨false, 3, 2⟩, 0) := by
  have h := prs_dec (s := false) (M := 12) (r := []) (e := 0) (Nat.lt_of_lt_of_le (show 12 < B64 ^ 64 from fits_sm (s := false) (M := 12) (e := 0) (by omega) (by omega) (by omega) |>.1) b64_ten) (fun h => by cases h) (fun c h => by cases h) (fun _ => rfl) exs_nil
  rw [show Lib.decDigits 12 = [49, 50] by rw [dec_big (by omega), dec_small (by omega)]; rfl] at h
  have hn : nm false 12 0 = ⟨false, 3, 2⟩ := by
    have h1 := nm_shift false 3 2 2
    have h2 := nm_of (q := ⟨false, 3, 2⟩) ⟨fun h => (by cases h), fun _ => rfl⟩
    simp only at h2
    rw [← h2]; exact h1
  rw [hn, res_ok (fits_sm (by omega) (by omega) (by omega))] at h
  exact h
theorem valid_small {s : Bool} {M : Nat} {e : Int} (hM : M < 100) (h1 : -100 ≤ e) (h2 : e ≤ 100) (ho : M % 2 = 1) : Valid ⟨s, M, e⟩ := ⟨⟨fun h => by simp only at h; omega, fun _ => ho⟩, fits_sm hM h1 h2⟩
theorem txt_3m2 : txt ⟨true, 3, -2⟩ = [45, 51, 112, 45, 50] := by
  unfold txt Lib.itoa
  rw [show Lib.decDigits 3 = [51] by rw [dec_small (by omega)]; rfl]
  simp only [show ((-2 : Int).natAbs) = 2 from rfl, show Lib.decDigits 2 = [50] by rw [dec_small (by omega)]; rfl]
  rfl
theorem txt_3p2 : txt ⟨false, 3, 2⟩ = [51, 112, 50] := by
  unfold txt Lib.itoa
  rw [show Lib.decDigits 3 = [51] by rw [dec_small (by omega)]; rfl]
  simp only [show ((2 : Int).toNat) = 2 from rfl, show Lib.decDigits 2 = [50] by rw [dec_small (by omega)]; rfl]
  rfl
theorem txt_0 : txt q0 = [48] := by
  unfold txt q0
  rw [show Lib.decDigits 0 = [48] from dec_zero]
  rfl
theorem k_3m2 : prs [45, 51, 112, 45, 50] = (⟨true, 3, -2⟩, 0) := by
  rw [← txt_3m2]; exact prs_txt (valid_small (by omega) (by omega) (by omega) rfl)
theorem k_p1 : prs [112, 49] = (⟨false, 0, 0⟩, 5) := prs_bad rfl

/-- Text of a valid number. -/
theorem text_v {w : World} {q : Q} {A : Option Addr} {n c : Nat} (h : Is w A n c q.m) (hv : Valid q) (hp : Pw w) :
    Calls Tryd.prog 15 #[.agg #[.bool q.s, .int .i64 q.e, .slice A n c]] w (StrPost w (txt q)) := by
  have ha := is_arg h
  have hn := is_len h hv.2.1
  have hok : okb q.s q.e n (digs B64 q.m) = true := okb_of h hv
  have := text_any w q.s q.e A n c _ ha (by omega) hp
  unfold show_ at this
  rw [if_pos hok, nval_digs B64_two] at this
  exact this
/-- What a slot holds: a value; a text; a number's words. -/
inductive Kd where
  | val (v : Value)
  | str (L : List UInt8)
  | is (N : Nat)
def Kd.ok : Kd → World → Value → Prop
  | .val u, _, v => v = u
  | .str L, _, v => ∃ t : ByteArray, v = .string t ∧ t.toList = L
  | .is N, w, v => ∃ (A : Option Addr) (n c : Nat), v = .slice A n c ∧ Is w A n c N
theorem Kd.step {k : Kd} {w w' : World} {v : Value} (h : k.ok w v) (hb : Below w.heap.size w w') : k.ok w' v := by
  cases k with
  | val u => exact h
  | str L => exact h
  | is N => obtain ⟨A, n, c, e, hI⟩ := h; exact ⟨A, n, c, e, hI.step hb⟩
theorem is_built (w : World) (k : Nat) (h0 : k ≠ 0) (hk : k < B64) : (Kd.is k).ok (w.alloc (.cells #[.int .u64 (k : Int)] 41)) (.slice (some ⟨w.heap.size, 0, none⟩) 1 1) :=
  ⟨_, _, _, rfl, by unfold Is; rw [digs1 hk h0]; exact one_rd w k⟩
section
variable {ρ : Operand → Value} {o : Oper} {w : World}
theorem z_loadb {t : Operand} {p : Addr} {v : Value} (ho : o.op = .load 4 t) (ht : ρ t = .pointer (some p)) (hc : w.cell? p = some v) : (execOp ρ o).run Tryd.prog w = .ok (.value v) w := by
  unfold execOp; rw [ho]
  go_simp
theorem z_eqs {x y : Operand} {t : ByteArray} {L : List UInt8} (ho : o.op = .binOp .eql 9 x y 9) (hx : ρ x = .string t) (hy : ρ y = .string ⟨L.toArray⟩) (hl : t.toList = L) : (execOp ρ o).run Tryd.prog w = .ok (.value (.bool true)) w := by
  unfold execOp; rw [ho]; go_simp
theorem z_zero (ho : o.op = .build 28 #[]) : (execOp ρ o).run Tryd.prog w = .ok (.value (.agg #[.bool false, .int .i64 0, .slice none 0 0])) w := by
  unfold execOp; rw [ho]; go_simp
end
theorem en_hwords : ∀ (args : Array Value) (w : World), (callFunc 14 args).run Tryd.prog w = .ok (.enter 14 args) w := enters_of Tryd.func14 (by kernel_rfl) rfl
theorem en_text : ∀ (args : Array Value) (w : World), (callFunc 15 args).run Tryd.prog w = .ok (.enter 15 args) w := enters_of Tryd.func15 (by kernel_rfl) rfl
def knDst (i : Nat) : Tmp := [19, 20, 21, 22, 23, 24, 25, 26, 27, 28, 29, 30, 31, 32, 33, 34, 35, 36, 37, 38, 39, 40, 41, 42, 43, 44, 45, 46, 47, 48, 49, 50, 51, 52, 53, 54, 55, 56, 57, 58, 59, 60, 61, 62, 63, 0].getD i 0
theorem knD (t : Nat) (ht : t ∈ [1, 2, 3, 4, 6]) (j : Fin 46) : knDst j.val ≠ t := by
  have : ∀ t ∈ [1, 2, 3, 4, 6], ∀ j : Fin 46, knDst j.val ≠ t := by decide
  exact this t ht j
def knTab (g1 g2 : Nat) (A1 A2 : Option Addr) (n1 c1 n2 c2 : Nat) : List Kd := [.val (.int .i64 0), .val (.bool true), .val (.bool true), .val (.pointer (some ⟨g1, 1, none⟩)), .val (.int .i64 2), .val (.bool true), .val (.bool true), .val (.bool true), .val (.pointer (some ⟨g1, 2, none⟩)), .val (.slice A1 n1 c1), .is (3), .val (.bool true), .val (.bool true), .val (.bool true), .val (.int .i64 0), .val (.bool true), .val (.bool true), .val (.bool true), .val (.pointer (some ⟨g2, 0, none⟩)), .val (.bool true), .val (.bool true), .val (.bool true), .val (.pointer (some ⟨g2, 1, none⟩)), .val (.int .i64 (-2)), .val (.bool true), .val (.bool true), .val (.bool true), .val (.agg #[.bool true, .int .i64 (-2), .slice A2 n2 c2]), .str ([45, 51, 112, 45, 50]), .val (.bool true), .val (.bool true), .val (.bool true), .val (.agg #[.bool false, .int .i64 2, .slice A1 n1 c1]), .str ([51, 112, 50]), .val (.bool true), .val (.bool true), .val (.bool true), .val (.agg #[.bool false, .int .i64 0, .slice none 0 0]), .str ([48]), .val (.bool true), .val (.bool true), .val (.bool true), .val (.int .i64 5), .val (.bool true), .val (.bool true), .val (.bool true)]
set_option maxRecDepth 100000 in
set_option maxHeartbeats 4000000 in
theorem kn_last {ops : Array Oper} (hops : ops = endOf Tryd.f5) {Q : Exit → Act → World → Prop} {id : Nat} {a0 : Act} {w0 : World} {g1 g2 : Nat} {A1 A2 : Option Addr} {n1 c1 n2 c2 : Nat} (hsz : a0.tmps.size = 64)
    (e1 : a0.tmps[1]? = some (.pointer (some ⟨g1, 0, none⟩))) (e2 : a0.tmps[2]? = some (.int .i64 0)) (e3 : a0.tmps[3]? = some (.pointer (some ⟨g2, 0, none⟩))) (e4 : a0.tmps[4]? = some (.int .i64 0)) (e6 : a0.tmps[6]? = some (.int .i64 5))
    (k1 : Bx w0 g1 false 2 A1 n1 c1) (I1 : Is w0 A1 n1 c1 3) (k2 : Bx w0 g2 true (-2) A2 n2 c2) (I2 : Is w0 A2 n2 c2 3) (hp : Pw w0)
    (hdf : a0.defers = []) (hQ : ∀ a' w, a'.defers = [] → a'.eval (.tmp 0) = .bool true → Below w0.heap.size w0 w → Q .normal a' w) : (Code.region id ops false).wp Tryd.prog Q a0 w0 := by
  subst hops
  refine plain_mono knDst (fun i => ((knTab g1 g2 A1 A2 n1 c1 n2 c2).getD i (.val undef)).ok) (N := 46) (by kernel_rfl) ?_ ?_ (fun i w w' v hb h => Kd.step h hb) ?_ (fun vals w hb hF => hQ _ w ((putAll_size ..).2.trans hdf) ?_ hb)
  · intro j hj
    have : ∀ j : Fin 46, knDst j.val ≤ 63 := by decide
    have := this ⟨j, hj⟩
    exact Nat.lt_of_le_of_lt this (by rw [hsz]; omega)
  · intro i j hi hj h
    have : ∀ i j : Fin 46, knDst i.val = knDst j.val → i.val = j.val := by decide +kernel
    exact this ⟨i, hi⟩ ⟨j, hj⟩ h
  · intro i hi a w hb hun hne
    match i, hi with
    | 0, _ =>
      exact op_runs' (by kernel_rfl) (want_none (by kernel_rfl)) (by kernel_rfl) (z_move (x := .tmp 2) (by kernel_rfl) (ev_of ((hun 2 (fun j hj h => absurd h (knD 2 (by decide) ⟨j, hj⟩))).trans e2))) (Below.refl _ _) rfl
    | 1, _ =>
      exact op_runs' (by kernel_rfl) (want_none (by kernel_rfl)) (by kernel_rfl) (z_eql (t := .tmp 19) (k := 0) (.inr (.inr rfl)) (by kernel_rfl) rfl (hne 0 (by omega))) (Below.refl _ _) rfl
    | 2, _ =>
      exact op_runs' (by kernel_rfl) (want_none (by kernel_rfl)) (by kernel_rfl) (z_move (x := .tmp 20) (by kernel_rfl) (hne 1 (by omega))) (Below.refl _ _) rfl
    | 3, _ =>
      exact op_runs' (by kernel_rfl) (want_ev (j := 2) (d := 21) (by kernel_rfl) (by kernel_rfl) (hne 2 (by omega))) (by kernel_rfl) (z_addr (t := .tmp 1) (j := 1) (by omega) (by kernel_rfl) (ev_of ((hun 1 (fun j hj h => absurd h (knD 1 (by decide) ⟨j, hj⟩))).trans e1))) (Below.refl _ _) rfl
    | 4, _ =>
      exact op_runs' (by kernel_rfl) (want_ev (j := 2) (d := 21) (by kernel_rfl) (by kernel_rfl) (hne 2 (by omega))) (by kernel_rfl) (z_load (T := 2) (t := .tmp 22) (.inl rfl) (by kernel_rfl) (hne 3 (by omega)) (k1.step hb).c1) (Below.refl _ _) rfl
    | 5, _ =>
      exact op_runs' (by kernel_rfl) (want_ev (j := 2) (d := 21) (by kernel_rfl) (by kernel_rfl) (hne 2 (by omega))) (by kernel_rfl) (z_eql (t := .tmp 23) (k := 2) (.inl rfl) (by kernel_rfl) rfl (hne 4 (by omega))) (Below.refl _ _) rfl
    | 6, _ =>
      exact op_runs' (by kernel_rfl) (want_none (by kernel_rfl)) (by kernel_rfl) (z_pick (c := .tmp 21) (x := .tmp 24) (y := .const (.bool false)) (by kernel_rfl) (hne 2 (by omega)) (hne 5 (by omega))) (Below.refl _ _) rfl
    | 7, _ =>
      exact op_runs' (by kernel_rfl) (want_none (by kernel_rfl)) (by kernel_rfl) (z_move (x := .tmp 25) (by kernel_rfl) (hne 6 (by omega))) (Below.refl _ _) rfl
    | 8, _ =>
      exact op_runs' (by kernel_rfl) (want_ev (j := 7) (d := 26) (by kernel_rfl) (by kernel_rfl) (hne 7 (by omega))) (by kernel_rfl) (z_addr (t := .tmp 1) (j := 2) (by omega) (by kernel_rfl) (ev_of ((hun 1 (fun j hj h => absurd h (knD 1 (by decide) ⟨j, hj⟩))).trans e1))) (Below.refl _ _) rfl
    | 9, _ =>
      exact op_runs' (by kernel_rfl) (want_ev (j := 7) (d := 26) (by kernel_rfl) (by kernel_rfl) (hne 7 (by omega))) (by kernel_rfl) (z_load (T := 26) (t := .tmp 27) (.inr rfl) (by kernel_rfl) (hne 8 (by omega)) (k1.step hb).c2) (Below.refl _ _) rfl
    | 10, _ =>
      exact op_runs' (by kernel_rfl) (want_ev (j := 7) (d := 26) (by kernel_rfl) (by kernel_rfl) (hne 7 (by omega))) (by kernel_rfl) (z_build (k := 3) (by kernel_rfl) rfl) (one_below _ _) (is_built w 3 (by omega) (by unfold B64; omega))
    | 11, _ =>
      obtain ⟨B, mm, dd, e, hI⟩ := (hne 10 (by omega))
      refine op_calls' (by kernel_rfl) (want_ev (j := 7) (d := 26) (by kernel_rfl) (by kernel_rfl) (hne 7 (by omega))) (by kernel_rfl) (z_call2 (ty := #[26, 26]) (x := .tmp 28) (y := .tmp 29) en_hwords (by kernel_rfl) rfl (hne 9 (by omega)) e) ?_
      exact (words_is (N := 3) (k := 1) (I1.step hb) hI (by unfold B64; omega) (by omega)).mono fun e w' ⟨he, hb'⟩ => ⟨_, he, hb', rfl⟩
    | 12, _ =>
      exact op_runs' (by kernel_rfl) (want_none (by kernel_rfl)) (by kernel_rfl) (z_pick (c := .tmp 26) (x := .tmp 30) (y := .const (.bool false)) (by kernel_rfl) (hne 7 (by omega)) (hne 11 (by omega))) (Below.refl _ _) rfl
    | 13, _ =>
      exact op_runs' (by kernel_rfl) (want_none (by kernel_rfl)) (by kernel_rfl) (z_move (x := .tmp 31) (by kernel_rfl) (hne 12 (by omega))) (Below.refl _ _) rfl
    | 14, _ =>
      exact op_runs' (by kernel_rfl) (want_ev (j := 13) (d := 32) (by kernel_rfl) (by kernel_rfl) (hne 13 (by omega))) (by kernel_rfl) (z_move (x := .tmp 4) (by kernel_rfl) (ev_of ((hun 4 (fun j hj h => absurd h (knD 4 (by decide) ⟨j, hj⟩))).trans e4))) (Below.refl _ _) rfl
    | 15, _ =>
      exact op_runs' (by kernel_rfl) (want_ev (j := 13) (d := 32) (by kernel_rfl) (by kernel_rfl) (hne 13 (by omega))) (by kernel_rfl) (z_eql (t := .tmp 33) (k := 0) (.inr (.inr rfl)) (by kernel_rfl) rfl (hne 14 (by omega))) (Below.refl _ _) rfl
    | 16, _ =>
      exact op_runs' (by kernel_rfl) (want_none (by kernel_rfl)) (by kernel_rfl) (z_pick (c := .tmp 32) (x := .tmp 34) (y := .const (.bool false)) (by kernel_rfl) (hne 13 (by omega)) (hne 15 (by omega))) (Below.refl _ _) rfl
    | 17, _ =>
      exact op_runs' (by kernel_rfl) (want_none (by kernel_rfl)) (by kernel_rfl) (z_move (x := .tmp 35) (by kernel_rfl) (hne 16 (by omega))) (Below.refl _ _) rfl
    | 18, _ =>
      exact op_runs' (by kernel_rfl) (want_ev (j := 17) (d := 36) (by kernel_rfl) (by kernel_rfl) (hne 17 (by omega))) (by kernel_rfl) (z_addr (t := .tmp 3) (j := 0) (by omega) (by kernel_rfl) (ev_of ((hun 3 (fun j hj h => absurd h (knD 3 (by decide) ⟨j, hj⟩))).trans e3))) (Below.refl _ _) rfl
    | 19, _ =>
      exact op_runs' (by kernel_rfl) (want_ev (j := 17) (d := 36) (by kernel_rfl) (by kernel_rfl) (hne 17 (by omega))) (by kernel_rfl) (z_loadb (t := .tmp 37) (by kernel_rfl) (hne 18 (by omega)) (k2.step hb).c0) (Below.refl _ _) rfl
    | 20, _ =>
      exact op_runs' (by kernel_rfl) (want_none (by kernel_rfl)) (by kernel_rfl) (z_pick (c := .tmp 36) (x := .tmp 38) (y := .const (.bool false)) (by kernel_rfl) (hne 17 (by omega)) (hne 19 (by omega))) (Below.refl _ _) rfl
    | 21, _ =>
      exact op_runs' (by kernel_rfl) (want_none (by kernel_rfl)) (by kernel_rfl) (z_move (x := .tmp 39) (by kernel_rfl) (hne 20 (by omega))) (Below.refl _ _) rfl
    | 22, _ =>
      exact op_runs' (by kernel_rfl) (want_ev (j := 21) (d := 40) (by kernel_rfl) (by kernel_rfl) (hne 21 (by omega))) (by kernel_rfl) (z_addr (t := .tmp 3) (j := 1) (by omega) (by kernel_rfl) (ev_of ((hun 3 (fun j hj h => absurd h (knD 3 (by decide) ⟨j, hj⟩))).trans e3))) (Below.refl _ _) rfl
    | 23, _ =>
      exact op_runs' (by kernel_rfl) (want_ev (j := 21) (d := 40) (by kernel_rfl) (by kernel_rfl) (hne 21 (by omega))) (by kernel_rfl) (z_load (T := 2) (t := .tmp 41) (.inl rfl) (by kernel_rfl) (hne 22 (by omega)) (k2.step hb).c1) (Below.refl _ _) rfl
    | 24, _ =>
      exact op_runs' (by kernel_rfl) (want_ev (j := 21) (d := 40) (by kernel_rfl) (by kernel_rfl) (hne 21 (by omega))) (by kernel_rfl) (z_eql (t := .tmp 42) (k := -2) (.inl rfl) (by kernel_rfl) rfl (hne 23 (by omega))) (Below.refl _ _) rfl
    | 25, _ =>
      exact op_runs' (by kernel_rfl) (want_none (by kernel_rfl)) (by kernel_rfl) (z_pick (c := .tmp 40) (x := .tmp 43) (y := .const (.bool false)) (by kernel_rfl) (hne 21 (by omega)) (hne 24 (by omega))) (Below.refl _ _) rfl
    | 26, _ =>
      exact op_runs' (by kernel_rfl) (want_none (by kernel_rfl)) (by kernel_rfl) (z_move (x := .tmp 44) (by kernel_rfl) (hne 25 (by omega))) (Below.refl _ _) rfl
    | 27, _ =>
      exact op_runs' (by kernel_rfl) (want_ev (j := 26) (d := 45) (by kernel_rfl) (by kernel_rfl) (hne 26 (by omega))) (by kernel_rfl) (z_load3 (t := .tmp 3) (by kernel_rfl) (ev_of ((hun 3 (fun j hj h => absurd h (knD 3 (by decide) ⟨j, hj⟩))).trans e3)) (k2.step hb)) (Below.refl _ _) rfl
    | 28, _ =>
      refine op_calls' (by kernel_rfl) (want_ev (j := 26) (d := 45) (by kernel_rfl) (by kernel_rfl) (hne 26 (by omega))) (by kernel_rfl) (z_call1 (ty := #[28]) (x := .tmp 46) en_text (by kernel_rfl) rfl (hne 27 (by omega))) ?_
      have hc := text_v (q := ⟨true, 3, -2⟩) (I2.step hb) (valid_small (by omega) (by omega) (by omega) rfl) (hp.below hb)
      rw [txt_3m2] at hc
      exact hc.mono fun e w' ⟨t, he, ht, hb'⟩ => ⟨_, he, hb', t, rfl, ht⟩
    | 29, _ =>
      obtain ⟨t, ht, hl⟩ := (hne 28 (by omega))
      exact op_runs' (by kernel_rfl) (want_ev (j := 26) (d := 45) (by kernel_rfl) (by kernel_rfl) (hne 26 (by omega))) (by kernel_rfl) (z_eqs (x := .tmp 47) (y := .const (.string ⟨#[45, 51, 112, 45, 50]⟩)) (L := [45, 51, 112, 45, 50]) (by kernel_rfl) ht rfl hl) (Below.refl _ _) rfl
    | 30, _ =>
      exact op_runs' (by kernel_rfl) (want_none (by kernel_rfl)) (by kernel_rfl) (z_pick (c := .tmp 45) (x := .tmp 48) (y := .const (.bool false)) (by kernel_rfl) (hne 26 (by omega)) (hne 29 (by omega))) (Below.refl _ _) rfl
    | 31, _ =>
      exact op_runs' (by kernel_rfl) (want_none (by kernel_rfl)) (by kernel_rfl) (z_move (x := .tmp 49) (by kernel_rfl) (hne 30 (by omega))) (Below.refl _ _) rfl
    | 32, _ =>
      exact op_runs' (by kernel_rfl) (want_ev (j := 31) (d := 50) (by kernel_rfl) (by kernel_rfl) (hne 31 (by omega))) (by kernel_rfl) (z_load3 (t := .tmp 1) (by kernel_rfl) (ev_of ((hun 1 (fun j hj h => absurd h (knD 1 (by decide) ⟨j, hj⟩))).trans e1)) (k1.step hb)) (Below.refl _ _) rfl
    | 33, _ =>
      refine op_calls' (by kernel_rfl) (want_ev (j := 31) (d := 50) (by kernel_rfl) (by kernel_rfl) (hne 31 (by omega))) (by kernel_rfl) (z_call1 (ty := #[28]) (x := .tmp 51) en_text (by kernel_rfl) rfl (hne 32 (by omega))) ?_
      have hc := text_v (q := ⟨false, 3, 2⟩) (I1.step hb) (valid_small (by omega) (by omega) (by omega) rfl) (hp.below hb)
      rw [txt_3p2] at hc
      exact hc.mono fun e w' ⟨t, he, ht, hb'⟩ => ⟨_, he, hb', t, rfl, ht⟩
    | 34, _ =>
      obtain ⟨t, ht, hl⟩ := (hne 33 (by omega))
      exact op_runs' (by kernel_rfl) (want_ev (j := 31) (d := 50) (by kernel_rfl) (by kernel_rfl) (hne 31 (by omega))) (by kernel_rfl) (z_eqs (x := .tmp 52) (y := .const (.string ⟨#[51, 112, 50]⟩)) (L := [51, 112, 50]) (by kernel_rfl) ht rfl hl) (Below.refl _ _) rfl
    | 35, _ =>
      exact op_runs' (by kernel_rfl) (want_none (by kernel_rfl)) (by kernel_rfl) (z_pick (c := .tmp 50) (x := .tmp 53) (y := .const (.bool false)) (by kernel_rfl) (hne 31 (by omega)) (hne 34 (by omega))) (Below.refl _ _) rfl
    | 36, _ =>
      exact op_runs' (by kernel_rfl) (want_none (by kernel_rfl)) (by kernel_rfl) (z_move (x := .tmp 54) (by kernel_rfl) (hne 35 (by omega))) (Below.refl _ _) rfl
    | 37, _ =>
      exact op_runs' (by kernel_rfl) (want_ev (j := 36) (d := 55) (by kernel_rfl) (by kernel_rfl) (hne 36 (by omega))) (by kernel_rfl) (z_zero (by kernel_rfl)) (Below.refl _ _) rfl
    | 38, _ =>
      refine op_calls' (by kernel_rfl) (want_ev (j := 36) (d := 55) (by kernel_rfl) (by kernel_rfl) (hne 36 (by omega))) (by kernel_rfl) (z_call1 (ty := #[28]) (x := .tmp 56) en_text (by kernel_rfl) rfl (hne 37 (by omega))) ?_
      have hc := text_v (q := q0) (is_nil0 w) ⟨canon0, fits0⟩ (hp.below hb)
      rw [txt_0] at hc
      exact hc.mono fun e w' ⟨t, he, ht, hb'⟩ => ⟨_, he, hb', t, rfl, ht⟩
    | 39, _ =>
      obtain ⟨t, ht, hl⟩ := (hne 38 (by omega))
      exact op_runs' (by kernel_rfl) (want_ev (j := 36) (d := 55) (by kernel_rfl) (by kernel_rfl) (hne 36 (by omega))) (by kernel_rfl) (z_eqs (x := .tmp 57) (y := .const (.string ⟨#[48]⟩)) (L := [48]) (by kernel_rfl) ht rfl hl) (Below.refl _ _) rfl
    | 40, _ =>
      exact op_runs' (by kernel_rfl) (want_none (by kernel_rfl)) (by kernel_rfl) (z_pick (c := .tmp 55) (x := .tmp 58) (y := .const (.bool false)) (by kernel_rfl) (hne 36 (by omega)) (hne 39 (by omega))) (Below.refl _ _) rfl
    | 41, _ =>
      exact op_runs' (by kernel_rfl) (want_none (by kernel_rfl)) (by kernel_rfl) (z_move (x := .tmp 59) (by kernel_rfl) (hne 40 (by omega))) (Below.refl _ _) rfl
    | 42, _ =>
      exact op_runs' (by kernel_rfl) (want_ev (j := 41) (d := 60) (by kernel_rfl) (by kernel_rfl) (hne 41 (by omega))) (by kernel_rfl) (z_move (x := .tmp 6) (by kernel_rfl) (ev_of ((hun 6 (fun j hj h => absurd h (knD 6 (by decide) ⟨j, hj⟩))).trans e6))) (Below.refl _ _) rfl
    | 43, _ =>
      exact op_runs' (by kernel_rfl) (want_ev (j := 41) (d := 60) (by kernel_rfl) (by kernel_rfl) (hne 41 (by omega))) (by kernel_rfl) (z_eql (t := .tmp 61) (k := 5) (.inr (.inr rfl)) (by kernel_rfl) rfl (hne 42 (by omega))) (Below.refl _ _) rfl
    | 44, _ =>
      exact op_runs' (by kernel_rfl) (want_none (by kernel_rfl)) (by kernel_rfl) (z_pick (c := .tmp 60) (x := .tmp 62) (y := .const (.bool false)) (by kernel_rfl) (hne 41 (by omega)) (hne 43 (by omega))) (Below.refl _ _) rfl
    | 45, _ =>
      exact op_runs' (by kernel_rfl) (want_none (by kernel_rfl)) (by kernel_rfl) (z_assign (x := .tmp 63) (by kernel_rfl) (hne 44 (by omega))) (Below.refl _ _) rfl
    | n + 46, h => exact absurd h (by omega)
  · have h := hF 45 (by omega)
    have h' : vals 45 = .bool true := h
    rw [putAll_succ]
    have hs0 : 0 < (putAll knDst vals a0 45).tmps.size := by rw [(putAll_size ..).1, hsz]; decide
    exact ev_of ((kn_get_same (d := 0) hs0).trans (congrArg some h'))
set_option maxRecDepth 100000 in
set_option maxHeartbeats 4000000 in
theorem dknown_any (w : World) (ht : Tab w) (hp : Pw w) : Calls Tryd.prog 5 #[] w (LawPost w) := by
  have HT := Lib.hid ht; have HP := Lib.hid hp
  have C1 := Lib.hid (parse_any w ⟨#[49, 50]⟩ (by decide) ht)
  rw [ByteArray.toList_mk [49, 50], k_12] at C1
  clear ht hp
  go_enter Tryd.func5, Tryd.ntmps5
  go_wp2_with fail
  refine C1.out.mono ?_
  rintro _ w1 ⟨_, rfl, ⟨A1, n1, c1, rfl, h1⟩, b1⟩
  have K1 := Lib.hid (Bx.new w1 false 2 A1 n1 c1)
  have o1 := one_below w1 (.cells #[.bool false, .int .i64 2, .slice A1 n1 c1] 28)
  have I1 := Lib.hid (show Is _ A1 n1 c1 3 from (rd_nextlo h1 o1).less (Nat.zero_le _))
  have B1 := Lib.hid (below_step b1 o1)
  clear h1 b1 o1 C1
  have C2 := Lib.hid (parse_any (w1.alloc (.cells #[.bool false, .int .i64 2, .slice A1 n1 c1] 28)) ⟨#[45, 51, 112, 45, 50]⟩ (by decide) (HT.out.below B1.out))
  rw [ByteArray.toList_mk [45, 51, 112, 45, 50], k_3m2] at C2
  go_wp2_with fail
  refine C2.out.mono ?_
  clear C2
  rintro _ w2 ⟨_, rfl, ⟨A2, n2, c2, rfl, h2⟩, b2⟩
  simp only
  have K2 := Lib.hid (Bx.new w2 true (-2) A2 n2 c2)
  have o2 := one_below w2 (.cells #[.bool true, .int .i64 (-2), .slice A2 n2 c2] 28)
  have I2 := Lib.hid (show Is _ A2 n2 c2 3 from (rd_nextlo h2 o2).less (Nat.zero_le _))
  have b2' := below_step b2 o2
  replace K1 := Lib.hid (K1.out.step b2'); replace I1 := Lib.hid (I1.out.step b2'); replace B1 := Lib.hid (below_step B1.out b2')
  clear h2 b2 o2 b2'
  have C3 := Lib.hid (parse_any (w2.alloc (.cells #[.bool true, .int .i64 (-2), .slice A2 n2 c2] 28)) ⟨#[112, 49]⟩ (by decide) (HT.out.below B1.out))
  rw [ByteArray.toList_mk [112, 49], k_p1] at C3
  go_wp2_with fail
  refine C3.out.mono ?_
  clear C3
  rintro _ w3 ⟨_, rfl, ⟨A3, n3, c3, rfl, h3⟩, b3⟩
  simp only
  have o3 := one_below w3 (.cells #[.bool false, .int .i64 0, .slice A3 n3 c3] 28)
  have b3' := below_step b3 o3
  replace K1 := Lib.hid (K1.out.step b3'); replace I1 := Lib.hid (I1.out.step b3'); replace B1 := Lib.hid (below_step B1.out b3')
  replace K2 := Lib.hid (K2.out.step b3'); replace I2 := Lib.hid (I2.out.step b3')
  clear h3 b3 o3 b3'
  have HPw := Lib.hid (HP.out.below B1.out)
  rename_i K8 hK8 K9 hK9
  have HK := Lib.hid hK8
  clear hK8
  go_wp2_with fail
  refine HK.out _ _ ?_
  refine wp_seq ?_
  refine kn_last (by kernel_rfl) rfl rfl rfl rfl rfl rfl K1.out I1.out K2.out I2.out HPw.out rfl ?_
  intro a' w' hd h0 hBw
  show Code.wp _ _ _ _ _
  go_wp2
  refine bodyPost_ret (results_tmp rfl _ _ _) hd ?_
  exact ⟨congrArg Ending.returned h0, below_step B1.out hBw⟩
end Go.Proofs.YtdmnohmjobofhaaDoor
