/- The law DigitsShow: its walk. -/
import Derived.Test.YtdmnohmjobofhaaGreatDoorDgQ
namespace Go.Proofs.YtdmnohmjobofhaaGreatDoor
open Go.RowKit Nx

theorem z_eq2 {ρ : Operand → Value} {o : Oper} {w : World} {x y : Operand} {t u : ByteArray} (ho : o.op = .binOp .eql 9 x y 9) (hx : ρ x = .string t) (hy : ρ y = .string u) (hl : t.toList = u.toList) : (execOp ρ o).run Tryz.prog w = .ok (.value (.bool true)) w := by
  unfold execOp; rw [ho]; go_simp
theorem en_rtext : ∀ (args : Array Value) (w : World), (callFunc 11 args).run Tryz.prog w = .ok (.enter 11 args) w := enters_of Tryz.func11 (by kernel_rfl) rfl
def shDst (i : Nat) : Tmp := [15, 16, 17, 18, 19, 20, 21, 22, 23, 24, 25, 26, 4].getD i 0
def shNeed (i : Nat) : List Nat := [[], [0], [], [2], [1, 3], [4], [5], [5, 6], [5], [5, 8], [5, 7, 9], [5, 10], [0, 1, 2, 3, 4, 5, 6, 7, 8, 9, 10, 11]].getD i []
def shTab (vx vy : Value) (Lx Ly : List UInt8) : List Kd := [.val vx, .str Lx, .val vx, .str Lx, .val (.bool true), .val (.bool true), .val vy, .str Ly, .val vy, .str Ly, .val (.bool true), .val (.bool true), .val (.bool true)]
theorem shD (t : Nat) (ht : t ∈ [2, 5]) (j : Fin 13) : shDst j.val ≠ t := by
  have : ∀ t ∈ [2, 5], ∀ j : Fin 13, shDst j.val ≠ t := by decide
  exact this t ht j
def lastDrawn : Code → Array Oper
  | .seq (.region _ ops _) .ret => ops
  | .seq _ b => lastDrawn b
  | _ => #[]
set_option maxRecDepth 100000 in
set_option maxHeartbeats 4000000 in
theorem show_last {ops : Array Oper} (hN : ops.size = 13) (hchk : chkB ops shNeed (fun _ => []) 13 = true)
    (ho : ∀ i, i < 13 → ops[i]? = some (theOp ops i) ∧ (theOp ops i).dst = some (shDst i)) (hg0 : ∀ i, i < 13 → i ∉ [6, 7, 8, 9, 10] → (theOp ops i).guard = none) (hg1 : ∀ i, i ∈ [6, 7, 8, 9, 10] → (theOp ops i).guard = some (5, true))
    (c0 : (theOp ops 0).op = .load 24 (.tmp 2)) (c1 : (theOp ops 1).op = .call { callee := .value (.func 10), args := #[.tmp 15], argTypes := #[24] })
    (c2 : (theOp ops 2).op = .load 24 (.tmp 2)) (c3 : (theOp ops 3).op = .call { callee := .value (.func 11), args := #[.tmp 17], argTypes := #[24] })
    (c4 : (theOp ops 4).op = .binOp .eql 9 (.tmp 16) (.tmp 18) 9) (c5 : (theOp ops 5).op = .move (.tmp 19))
    (c6 : (theOp ops 6).op = .load 24 (.tmp 5)) (c7 : (theOp ops 7).op = .call { callee := .value (.func 10), args := #[.tmp 21], argTypes := #[24] })
    (c8 : (theOp ops 8).op = .load 24 (.tmp 5)) (c9 : (theOp ops 9).op = .call { callee := .value (.func 11), args := #[.tmp 23], argTypes := #[24] })
    (c10 : (theOp ops 10).op = .binOp .eql 9 (.tmp 22) (.tmp 24) 9) (c11 : (theOp ops 11).op = .pick (.tmp 20) (.tmp 25) (.const (.bool false))) (c12 : (theOp ops 12).op = .assign (.tmp 26))
    {Q : Exit → Act → World → Prop} {id : Nat} {a0 : Act} {w0 : World} {g1 g2 : Nat} {s1 s2 : Bool} {e1 e2 : Int} {A1 A2 : Option Addr} {n1 c1' n2 c2' : Nat} {xs ys : List Nat} (hsz : a0.tmps.size = 27)
    (t2 : a0.tmps[2]? = some (.pointer (some ⟨g1, 0, none⟩))) (t5 : a0.tmps[5]? = some (.pointer (some ⟨g2, 0, none⟩)))
    (k1 : Bx w0 g1 s1 e1 A1 n1 c1') (I1 : Arg w0 A1 n1 c1' xs) (hn1 : n1 ≤ 100000) (k2 : Bx w0 g2 s2 e2 A2 n2 c2') (I2 : Arg w0 A2 n2 c2' ys) (hn2 : n2 ≤ 100000) (hp : Pw w0) (hdf : a0.defers = [])
    (hQ : ∀ a' w, a'.defers = [] → a'.eval (.tmp 4) = .bool true → Below w0.heap.size w0 w → Q .normal a' w) : (Code.region id ops true).wp Tryz.prog Q a0 w0 := by
  refine region_mono shDst shNeed (fun _ => []) (fun i => ((shTab (.agg #[.bool s1, .int .i64 e1, .slice A1 n1 c1']) (.agg #[.bool s2, .int .i64 e2, .slice A2 n2 c2']) (show_ s1 e1 n1 xs) (show_ s2 e2 n2 ys)).getD i (.val undef)).ok) (by kernel_rfl) hN hchk ?_ ?_ (fun i w w' v hb h => Kd.step h hb) ?_ ?_ (fun vals w hb hF => hQ _ w ((putAll_size ..).2.trans hdf) ?_ hb)
  · intro j hj
    have : ∀ j : Fin 13, shDst j.val ≤ 26 := by decide
    exact Nat.lt_of_le_of_lt (this ⟨j, hj⟩) (by rw [hsz]; omega)
  · intro i j hi hj h
    have : ∀ i j : Fin 13, shDst i.val = shDst j.val → i.val = j.val := by decide
    exact this ⟨i, hi⟩ ⟨j, hj⟩ h
  · intro i hi a w hb hdf hun hne
    obtain ⟨o1, o3⟩ := ho i hi
    have ev2 := fun (_ : i = i) => ev_of ((hun 2 (fun j hj h => absurd h (shD 2 (by decide) ⟨j, hj⟩))).trans t2)
    have ev5 := fun (_ : i = i) => ev_of ((hun 5 (fun j hj h => absurd h (shD 5 (by decide) ⟨j, hj⟩))).trans t5)
    have wg := fun (h5 : 5 ∈ shNeed i) (hm : i ∈ [6, 7, 8, 9, 10]) => want_ev (ops := ops) (a := a) (j := 5) (d := 20) (hg1 i hm) (by rw [(ho 5 (by omega)).1]; exact (ho 5 (by omega)).2) (hne 5 h5)
    match i, hi with
    | 0, _ => exact op_runs' o1 (want_none (hg0 0 (by omega) (by decide))) o3 (z_load3 c0 (ev2 rfl) (k1.step hb)) (Below.refl _ _) rfl
    | 1, _ =>
      refine op_calls' o1 (want_none (hg0 1 (by omega) (by decide))) o3 (z_call1 en_text c1 rfl (hne 0 (by decide))) ?_
      exact (text_any w s1 e1 A1 n1 c1' xs (I1.step hb) hn1 (hp.below hb)).mono fun e w' ⟨t, he, ht, hb'⟩ => ⟨_, he, hb', t, rfl, ht⟩
    | 2, _ => exact op_runs' o1 (want_none (hg0 2 (by omega) (by decide))) o3 (z_load3 c2 (ev2 rfl) (k1.step hb)) (Below.refl _ _) rfl
    | 3, _ =>
      refine op_calls' o1 (want_none (hg0 3 (by omega) (by decide))) o3 (z_call1 en_rtext c3 rfl (hne 2 (by decide))) ?_
      exact (rtext_any w s1 e1 A1 n1 c1' xs (I1.step hb) hn1).mono fun e w' ⟨t, he, ht, hb'⟩ => ⟨_, he, hb', t, rfl, ht⟩
    | 4, _ =>
      obtain ⟨t, h1, l1⟩ := hne 1 (by decide)
      obtain ⟨u, h2, l2⟩ := hne 3 (by decide)
      exact op_runs' o1 (want_none (hg0 4 (by omega) (by decide))) o3 (z_eq2 c4 h1 h2 (l1.trans l2.symm)) (Below.refl _ _) rfl
    | 5, _ => exact op_runs' o1 (want_none (hg0 5 (by omega) (by decide))) o3 (z_move c5 (hne 4 (by decide))) (Below.refl _ _) rfl
    | 6, _ => exact op_runs' o1 (wg (by decide) (by decide)) o3 (z_load3 c6 (ev5 rfl) (k2.step hb)) (Below.refl _ _) rfl
    | 7, _ =>
      refine op_calls' o1 (wg (by decide) (by decide)) o3 (z_call1 en_text c7 rfl (hne 6 (by decide))) ?_
      exact (text_any w s2 e2 A2 n2 c2' ys (I2.step hb) hn2 (hp.below hb)).mono fun e w' ⟨t, he, ht, hb'⟩ => ⟨_, he, hb', t, rfl, ht⟩
    | 8, _ => exact op_runs' o1 (wg (by decide) (by decide)) o3 (z_load3 c8 (ev5 rfl) (k2.step hb)) (Below.refl _ _) rfl
    | 9, _ =>
      refine op_calls' o1 (wg (by decide) (by decide)) o3 (z_call1 en_rtext c9 rfl (hne 8 (by decide))) ?_
      exact (rtext_any w s2 e2 A2 n2 c2' ys (I2.step hb) hn2).mono fun e w' ⟨t, he, ht, hb'⟩ => ⟨_, he, hb', t, rfl, ht⟩
    | 10, _ =>
      obtain ⟨t, h1, l1⟩ := hne 7 (by decide)
      obtain ⟨u, h2, l2⟩ := hne 9 (by decide)
      exact op_runs' o1 (wg (by decide) (by decide)) o3 (z_eq2 c10 h1 h2 (l1.trans l2.symm)) (Below.refl _ _) rfl
    | 11, _ => exact op_runs' o1 (want_none (hg0 11 (by omega) (by decide))) o3 (z_pick c11 (hne 5 (by decide)) (hne 10 (by decide))) (Below.refl _ _) rfl
    | 12, _ => exact op_runs' o1 (want_none (hg0 12 (by omega) (by decide))) o3 (z_assign c12 (hne 11 (by decide))) (Below.refl _ _) rfl
    | n + 13, h => exact absurd h (by omega)
  · intro i hi j hj
    have : ∀ i : Fin 13, ∀ j ∈ shNeed i.val, j < 13 := by decide
    exact this ⟨i, hi⟩ j hj
  · have h' : vals 12 = .bool true := hF 12 (by omega)
    rw [putAll_succ]
    have hs0 : 4 < (putAll shDst vals a0 12).tmps.size := by rw [(putAll_size ..).1, hsz]; decide
    exact ev_of ((kn_get_same (d := 4) hs0).trans (congrArg some h'))

set_option maxRecDepth 100000 in
set_option maxHeartbeats 4000000 in
theorem show_walk (w : World) (s : Bool) (e : Int) (A : Option Addr) (n c : Nat) (xs : List Nat) (B : Option Addr) (m d : Nat) (ys : List Nat) (ha : Arg w A n c xs) (hb : Arg w B m d ys) (ht : Tab w) (hp : Pw w) :
    Calls Tryz.prog 3 #[.agg #[.bool s, .int .i64 e, .slice A n c], .slice B m d] w (LawPost w) := by
  have K0 := Lib.hid (Bx.new w s e A n c); have B0 := Lib.hid (one_below w (.cells #[.bool s, .int .i64 e, .slice A n c] 24))
  have C1 := Lib.hid (dknown_any _ (ht.below B0.out) (hp.below B0.out))
  have HP := Lib.hid hp; have HA := Lib.hid ha; have HB := Lib.hid hb
  clear ht hp ha hb
  go_enter Tryz.func3, Tryz.ntmps3
  go_wp2_with fail
  refine C1.out.mono ?_
  rintro _ w1 ⟨rfl, b1⟩
  have B1 := Lib.hid (below_step B0.out b1); have K1 := Lib.hid (K0.out.step b1)
  clear b1 C1 K0
  have r0 := K1.out.c0; have r1 := K1.out.c1; have r2 := K1.out.c2
  by_cases hl : 70 < n
  · go_wp2
    go_ret
    exact ⟨rfl, B1.out⟩
  · have C2 := Lib.hid (drawn_any w1 B m d ys (HB.out.step B1.out))
    go_wp2_with fail
    refine C2.out.mono ?_
    rintro _ w2 ⟨g, rfl, b2, c3⟩
    have C3 := Lib.hid c3
    clear b2 c3 C2 r0 r1 r2
    go_wp2_with fail
    refine C3.out.mono ?_
    rintro _ w3 ⟨⟨s3, M, e3⟩, _, hv, rfl, ⟨A3, n3, c3, rfl, h3⟩, b3⟩
    simp only at h3
    simp only
    have o3 := one_below w3 (.cells #[.bool s3, .int .i64 e3, .slice A3 n3 c3] 24)
    have K3 := Lib.hid (Bx.new w3 s3 e3 A3 n3 c3); have I3 := Lib.hid (is_arg (show Is _ A3 n3 c3 M from (show Is w3 A3 n3 c3 M from h3).step o3))
    have hn3 : n3 ≤ 64 := is_len (show Is w3 A3 n3 c3 M from h3) hv.2.1
    have B3 := Lib.hid (below_step (below_step B1.out b3) o3)
    have KK := Lib.hid (K1.out.step (below_step b3 o3))
    have AA := Lib.hid (HA.out.step B3.out)
    have PP := Lib.hid (HP.out.below B3.out)
    clear h3 hv b3 o3 C3
    go_wp2_with fail
    refine show_last (by kernel_rfl) (by kernel_rfl) ?_ ?_ ?_ (by kernel_rfl) (by kernel_rfl) (by kernel_rfl) (by kernel_rfl) (by kernel_rfl) (by kernel_rfl) (by kernel_rfl) (by kernel_rfl) (by kernel_rfl) (by kernel_rfl) (by kernel_rfl) (by kernel_rfl) (by kernel_rfl) rfl rfl rfl KK.out AA.out (by omega) K3.out I3.out (by omega) PP.out rfl ?_
    · intro i hi
      match i, hi with
      | 0, _ => exact ⟨by kernel_rfl, by kernel_rfl⟩
      | 1, _ => exact ⟨by kernel_rfl, by kernel_rfl⟩
      | 2, _ => exact ⟨by kernel_rfl, by kernel_rfl⟩
      | 3, _ => exact ⟨by kernel_rfl, by kernel_rfl⟩
      | 4, _ => exact ⟨by kernel_rfl, by kernel_rfl⟩
      | 5, _ => exact ⟨by kernel_rfl, by kernel_rfl⟩
      | 6, _ => exact ⟨by kernel_rfl, by kernel_rfl⟩
      | 7, _ => exact ⟨by kernel_rfl, by kernel_rfl⟩
      | 8, _ => exact ⟨by kernel_rfl, by kernel_rfl⟩
      | 9, _ => exact ⟨by kernel_rfl, by kernel_rfl⟩
      | 10, _ => exact ⟨by kernel_rfl, by kernel_rfl⟩
      | 11, _ => exact ⟨by kernel_rfl, by kernel_rfl⟩
      | 12, _ => exact ⟨by kernel_rfl, by kernel_rfl⟩
      | n + 13, h => exact absurd h (by omega)
    · intro i hi
      match i, hi with
      | 0, _ => intro _; kernel_rfl
      | 1, _ => intro _; kernel_rfl
      | 2, _ => intro _; kernel_rfl
      | 3, _ => intro _; kernel_rfl
      | 4, _ => intro _; kernel_rfl
      | 5, _ => intro _; kernel_rfl
      | 6, _ => intro hm; exact absurd (by decide) hm
      | 7, _ => intro hm; exact absurd (by decide) hm
      | 8, _ => intro hm; exact absurd (by decide) hm
      | 9, _ => intro hm; exact absurd (by decide) hm
      | 10, _ => intro hm; exact absurd (by decide) hm
      | 11, _ => intro _; kernel_rfl
      | 12, _ => intro _; kernel_rfl
      | n + 13, h => exact absurd h (by omega)
    · intro i hm
      simp only [List.mem_cons, List.not_mem_nil, or_false] at hm
      rcases hm with rfl | rfl | rfl | rfl | rfl <;> kernel_rfl
    intro a' w' hd h0 hBw
    go_wp2
    refine bodyPost_ret (results_tmp rfl _ _ _) hd ?_
    exact ⟨congrArg Ending.returned h0, below_step B3.out hBw⟩
end Go.Proofs.YtdmnohmjobofhaaGreatDoor
