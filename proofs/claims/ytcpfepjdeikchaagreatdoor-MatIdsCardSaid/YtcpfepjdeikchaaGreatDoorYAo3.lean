/- Package mat: sums, differences, multiples, middles, products, vectors. -/
import Derived.Test.YtcpfepjdeikchaaGreatDoorYAo2
namespace Go.Proofs.YtcpfepjdeikchaaGreatDoor
set_option linter.unusedSimpArgs false
set_option linter.unusedVariables false
set_option maxHeartbeats 4000000
set_option maxRecDepth 100000
open Go.RowKit Nx
attribute [local irreducible] chk
section
attribute [local go_sem] lpf hdS hd1 pick forget bxe pxe tyM tiQ tiMM gA gE asZ asT asV1 asN1 asB_b asP_b asM_m asQ_m ite_self hoO hoK hpin hoO2 hoK2 hpin2
def at2 (m : List (List J)) (i k : Nat) : J := (m.getD i []).getD k zJ
def Sq (n : Nat) (m : List (List J)) : Prop := m.length = n ∧ ∀ r ∈ m, r.length = n
theorem Sq.row {n i : Nat} {m : List (List J)} (h : Sq n m) (hi : i < n) : (m.getD i []).length = n := by
 have := at_get [] (l := m) (j := i) (by rw [h.1]; exact hi)
 exact h.2 _ (List.mem_of_getElem? this)
theorem rng_true {n a b : Int} (h : rng n a b = true) : a ≤ n ∧ n ≤ b := by
 unfold rng at h
 cases h1 : decide (a ≤ n) with
 | false => rw [h1] at h; cases h
 | true => rw [h1, cond_true] at h; exact ⟨of_decide_eq_true h1, of_decide_eq_true h⟩
theorem rightM_sq {m : List (List J)} (h : rightM m = true) : (1 ≤ m.length ∧ m.length ≤ 4) ∧ Sq m.length m := by
 unfold rightM at h
 cases h1 : rng m.length 1 4 with
 | false => rw [h1] at h; cases h
 | true =>
  rw [h1, cond_true] at h
  have h2 := rng_true h1
  refine ⟨⟨by omega, by omega⟩, rfl, fun r hr => ?_⟩
  have h3 := List.all_eq_true.1 h r hr
  unfold rowOk at h3
  cases h4 : ((r.length : Int) != (m.length : Int)) with
  | true => rw [h4] at h3; cases h3
  | false =>
   have : (r.length : Int) = (m.length : Int) := by simpa using h4
   omega
theorem cast_at {n : Nat} {z : Int} (h : 0 ≤ z ∧ z < (n : Int)) : ∃ i : Nat, z = (i : Int) ∧ i < n := ⟨z.toNat, by omega, by omega⟩
abbrev jj2 (r : J × J) : AV := .tup [(true, r.1.L), (true, r.2.L)]
theorem cl_add {w : World} {S : Nat → Prop} {gs : List Nat} {a b : List (List J)} {p : Int} (hab : a.length = b.length) (hL : Lent S w gs [[.sl false 1 a.length (a.map rC)], [.sl false 1 b.length (b.map rC)], [.lit (.int .i64 p)]]) : Fv Tryz.prog w 102 (ptrs gs) (gI fun z => (0 ≤ z ∧ z < (a.length : Int), bxe (pairN (fun x y => addJ x y p) (a.getD z.toNat []) (b.getD z.toNat [])))) := by
 refine fv_run hL (ent Tryz.func102 (by kernel_rfl) rfl) (fun args e h => by obtain ⟨z, rfl, rfl⟩ := gI_eq h; rfl) (fun args e h hp w' us hb ht' hL' hA => ?_)
 obtain ⟨z, rfl, rfl⟩ := gI_eq h
 obtain ⟨i, rfl, hi⟩ := cast_at hp
 have g0 : (0 ≤ (i : Int)) = True := eq_true (by omega)
 have g1 : (i < a.length) = True := eq_true hi
 have g2 : (i < b.length) = True := eq_true (by omega)
 have e1 := rC_at (at_get [] hi)
 have e2 := rC_at (at_get [] (show i < b.length by omega))
 refine (lent_of (args := [iA (i : Int), .s (.own 1000 0), .s (.own 1001 0), .s (.own 1002 0)]) (O := tblO Tw_add) (Pst := (· = bxe (pairN (fun x y => addJ x y p) (a.getD i []) (b.getD i [])))) (by kernel_rfl) tyM_ok (tblO_ok Tw_add_ok _ w') [] 400 19 [.tmp 5, .tmp 6] Tryz.func102 rfl Tryz.ntmps102 (by rw [Tryz.results102]) (by simp) ht' hL' hA ?_).mono ?_
 case refine_2 => rintro e w'' ⟨u, r, he, rfl, _, hR, hb2⟩; exact ⟨u, he, hR, hb2⟩
 simp (maxSteps := 10000000) only [go_sem, seval, reduceCtorEq, Tw_add, g0, g1, g2, e1, e2, frh, frz, frS, frA, frL]
 repeat' with_reducible first | apply And.intro | apply condP <;> intro _
 all_goals first | (show chk _ _ = true; kernel_rfl) | assumption | rfl | (simp only [go_sem, *] <;> rfl)
theorem cl_sub {w : World} {S : Nat → Prop} {gs : List Nat} {a b : List (List J)} {p : Int} (hab : a.length = b.length) (hL : Lent S w gs [[.sl false 1 a.length (a.map rC)], [.sl false 1 b.length (b.map rC)], [.lit (.int .i64 p)]]) : Fv Tryz.prog w 104 (ptrs gs) (gI fun z => (0 ≤ z ∧ z < (a.length : Int), bxe (pairN (fun x y => subJ x y p) (a.getD z.toNat []) (b.getD z.toNat [])))) := by
 refine fv_run hL (ent Tryz.func104 (by kernel_rfl) rfl) (fun args e h => by obtain ⟨z, rfl, rfl⟩ := gI_eq h; rfl) (fun args e h hp w' us hb ht' hL' hA => ?_)
 obtain ⟨z, rfl, rfl⟩ := gI_eq h
 obtain ⟨i, rfl, hi⟩ := cast_at hp
 have g0 : (0 ≤ (i : Int)) = True := eq_true (by omega)
 have g1 : (i < a.length) = True := eq_true hi
 have g2 : (i < b.length) = True := eq_true (by omega)
 have e1 := rC_at (at_get [] hi)
 have e2 := rC_at (at_get [] (show i < b.length by omega))
 refine (lent_of (args := [iA (i : Int), .s (.own 1000 0), .s (.own 1001 0), .s (.own 1002 0)]) (O := tblO Tw_sub) (Pst := (· = bxe (pairN (fun x y => subJ x y p) (a.getD i []) (b.getD i [])))) (by kernel_rfl) tyM_ok (tblO_ok Tw_sub_ok _ w') [] 400 19 [.tmp 5, .tmp 6] Tryz.func104 rfl Tryz.ntmps104 (by rw [Tryz.results104]) (by simp) ht' hL' hA ?_).mono ?_
 case refine_2 => rintro e w'' ⟨u, r, he, rfl, _, hR, hb2⟩; exact ⟨u, he, hR, hb2⟩
 simp (maxSteps := 10000000) only [go_sem, seval, reduceCtorEq, Tw_sub, g0, g1, g2, e1, e2, frh, frz, frS, frA, frL]
 repeat' with_reducible first | apply And.intro | apply condP <;> intro _
 all_goals first | (show chk _ _ = true; kernel_rfl) | assumption | rfl | (simp only [go_sem, *] <;> rfl)
theorem cl_tim {w : World} {S : Nat → Prop} {gs : List Nat} {x : J} {m : List (List J)} {p : Int} (hL : Lent S w gs [x.L, [.sl false 1 m.length (m.map rC)], [.lit (.int .i64 p)]]) : Fv Tryz.prog w 107 (ptrs gs) (gI fun z => (0 ≤ z ∧ z < (m.length : Int), bxe (oneN (fun y => mulJ x y p) (m.getD z.toNat [])))) := by
 refine fv_run hL (ent Tryz.func107 (by kernel_rfl) rfl) (fun args e h => by obtain ⟨z, rfl, rfl⟩ := gI_eq h; rfl) (fun args e h hp w' us hb ht' hL' hA => ?_)
 obtain ⟨z, rfl, rfl⟩ := gI_eq h
 obtain ⟨i, rfl, hi⟩ := cast_at hp
 have g0 : (0 ≤ (i : Int)) = True := eq_true (by omega)
 have g1 : (i < m.length) = True := eq_true hi
 have g2 := g1
 have e1 := rC_at (at_get [] hi)
 have e2 := e1
 refine (lent_of (args := [iA (i : Int), .s (.own 1000 0), .s (.own 1001 0), .s (.own 1002 0)]) (O := tblO Tw_tim) (Pst := (· = bxe (oneN (fun y => mulJ x y p) (m.getD i [])))) (by kernel_rfl) tyM_ok (tblO_ok Tw_tim_ok _ w') [] 400 16 [.tmp 5, .tmp 6] Tryz.func107 rfl Tryz.ntmps107 (by rw [Tryz.results107]) (by simp) ht' hL' hA ?_).mono ?_
 case refine_2 => rintro e w'' ⟨u, r, he, rfl, _, hR, hb2⟩; exact ⟨u, he, hR, hb2⟩
 simp (maxSteps := 10000000) only [go_sem, seval, reduceCtorEq, Tw_tim, g0, g1, g2, e1, e2, frh, frz, frS, frA, frL]
 repeat' with_reducible first | apply And.intro | apply condP <;> intro _
 all_goals first | (show chk _ _ = true; kernel_rfl) | assumption | rfl | (simp only [go_sem, *] <;> rfl)
theorem cl_mid {w : World} {S : Nat → Prop} {gs : List Nat} {m : List (List J)} {p : Int} (hL : Lent S w gs [[.sl false 1 m.length (m.map rC)], [.lit (.int .i64 p)]]) : Fv Tryz.prog w 111 (ptrs gs) (gI fun z => (0 ≤ z ∧ z < (m.length : Int), pxe (oneN (fun y => midX y p) (m.getD z.toNat [])))) := by
 refine fv_run hL (ent Tryz.func111 (by kernel_rfl) rfl) (fun args e h => by obtain ⟨z, rfl, rfl⟩ := gI_eq h; rfl) (fun args e h hp w' us hb ht' hL' hA => ?_)
 obtain ⟨z, rfl, rfl⟩ := gI_eq h
 obtain ⟨i, rfl, hi⟩ := cast_at hp
 have g0 : (0 ≤ (i : Int)) = True := eq_true (by omega)
 have g1 : (i < m.length) = True := eq_true hi
 have g2 := g1
 have e1 := rC_at (at_get [] hi)
 have e2 := e1
 refine (lent_of (args := [iA (i : Int), .s (.own 1000 0), .s (.own 1001 0)]) (O := tblO Tw_mid) (Pst := (· = pxe (oneN (fun y => midX y p) (m.getD i [])))) (by kernel_rfl) tyM_ok (tblO_ok Tw_mid_ok _ w') [] 400 14 [.tmp 4, .tmp 5] Tryz.func111 rfl Tryz.ntmps111 (by rw [Tryz.results111]) (by simp) ht' hL' hA ?_).mono ?_
 case refine_2 => rintro e w'' ⟨u, r, he, rfl, _, hR, hb2⟩; exact ⟨u, he, hR, hb2⟩
 simp (maxSteps := 10000000) only [go_sem, seval, reduceCtorEq, Tw_mid, g0, g1, g2, e1, e2, frh, frz, frS, frA, frL]
 repeat' with_reducible first | apply And.intro | apply condP <;> intro _
 all_goals first | (show chk _ _ = true; kernel_rfl) | assumption | rfl | (simp only [go_sem, *] <;> rfl)
theorem cl_pr1 {w : World} {S : Nat → Prop} {gs : List Nat} {n : Nat} {G : Nat → J × J} {p : Int} {f : FuncId} {caps : List Value} (hf : Fv Tryz.prog w f caps (gI fun z => (0 ≤ z ∧ z < (n : Int), jj2 (G z.toNat)))) (hL : Lent S w gs [[.lit (.func (.func f) #[] caps.toArray)], [.lit (.int .i64 p)]]) : Fv Tryz.prog w 131 (ptrs gs) (gI fun z => (0 ≤ z ∧ z < (n : Int), jeA (mulJ (G z.toNat).1 (G z.toNat).2 p))) := by
 refine fv_run hL (ent Tryz.func131 (by kernel_rfl) rfl) (fun args e h => by obtain ⟨z, rfl, rfl⟩ := gI_eq h; rfl) (fun args e h hp w' us hb ht' hL' hA => ?_)
 obtain ⟨z, rfl, rfl⟩ := gI_eq h
 obtain ⟨i, rfl, hi⟩ := cast_at hp
 have g0 : (0 ≤ (i : Int)) = True := eq_true (by omega)
 have g1 : ((i : Int) < (n : Int)) = True := eq_true (by omega)
 refine (lent_of (args := [iA (i : Int), .s (.own 1000 0), .s (.own 1001 0)]) (O := orO (fvO 1 f caps (gI fun z => (0 ≤ z ∧ z < (n : Int), jj2 (G z.toNat)))) (tblO Tiv_Mul)) (Pst := (· = jeA (mulJ (G i).1 (G i).2 p))) (by kernel_rfl) tyM_ok (fvO_orT (fvO_ok (hf.mono hb)) (tblO_ok Tiv_Mul_ok _ w') (fun g args e h => by unfold Tiv_Mul one at h; split at h; (case isFalse => cases h); obtain ⟨j, j1, z, rfl, _⟩ := gJJI_eq h; exact ⟨_, _, rfl⟩)) [] 400 20 [.cell 4 39, .tmp 5] Tryz.func131 rfl Tryz.ntmps131 (by rw [Tryz.results131]) (by simp) ht' hL' hA ?_).mono ?_
 case refine_2 => rintro e w'' ⟨u, r, he, rfl, _, hR, hb2⟩; exact ⟨u, he, hR, hb2⟩
 simp (maxSteps := 10000000) only [go_sem, seval, reduceCtorEq, Tiv_Mul, g0, g1, frh, frz, frS, frA, frL]
 repeat' with_reducible first | apply And.intro | apply condP <;> intro _
 all_goals first | (show chk _ _ = true; kernel_rfl) | assumption | rfl | (simp only [go_sem, *] <;> rfl)
theorem cl_pr2 {w : World} {S : Nat → Prop} {gs : List Nat} {p : Int} (hL : Lent S w gs [[.lit (.int .i64 p)]]) : Fv Tryz.prog w 134 (ptrs gs) (gJJ fun a b => (True, jeA (addJ a b p))) := by
 refine fv_run hL (ent Tryz.func134 (by kernel_rfl) rfl) (fun args e h => by obtain ⟨j, j1, rfl, rfl⟩ := gJJ_eq h; rfl) (fun args e h hp w' us hb ht' hL' hA => ?_)
 obtain ⟨j, j1, rfl, rfl⟩ := gJJ_eq h
 refine (lent_of (args := [jA j, jA j1, .s (.own 1000 0)]) (O := tblO Tiv_Add) (Pst := (· = jeA (addJ j j1 p))) (by kernel_rfl) tyM_ok (tblO_ok Tiv_Add_ok _ w') [] 400 13 [.cell 5 39, .tmp 6] Tryz.func134 rfl Tryz.ntmps134 (by rw [Tryz.results134]) (by simp) ht' hL' hA ?_).mono ?_
 case refine_2 => rintro e w'' ⟨u, r, he, rfl, _, hR, hb2⟩; exact ⟨u, he, hR, hb2⟩
 simp (maxSteps := 10000000) only [go_sem, seval, reduceCtorEq, Tiv_Add, frh, frz, frS, frA, frL]
 repeat' with_reducible first | apply And.intro | apply condP <;> intro _
 all_goals first | (show chk _ _ = true; kernel_rfl) | assumption | rfl | (simp only [go_sem, *] <;> rfl)
theorem prods {w : World} {f : FuncId} {caps : List Value} {n : Nat} {G : Nat → J × J} {p : Int} (ht : Tab w) (hf : Fv Tryz.prog w f caps (gI fun z => (0 ≤ z ∧ z < (n : Int), jj2 (G z.toNat)))) (h2 : n ≤ 1000) : Hc Tryz.prog w 78 [iA n, iA p, fvA f caps] (jeA (totN zJ (fun k => mulJ (G k).1 (G k).2 p) (fun s x => addJ s x p) n)) := by
 refine hc_of (O := orO (hoO2 133 1 (hpin2 [[.lit (.func (.func f) #[] caps.toArray)], [.lit (.int .i64 p)]] 131 [[.lit (.int .i64 p)]] 134 [iA n] (jeA (totN zJ (fun k => mulJ (G k).1 (G k).2 p) (fun s x => addJ s x p) n)))) (tblO noT)) (by kernel_rfl) tyM_ok (hoO2_or (hoO2_ok (ent Tryz.func133 (by kernel_rfl) rfl) (fun ls c ls2 c2 xs e he hp S w' gs gs2 hb ht' hL hL2 => by
  injection he with he; subst he
  obtain ⟨⟨rfl, rfl⟩, ⟨rfl, rfl⟩, rfl⟩ := hp
  exact totJ ht' (cl_pr1 (hf.mono hb) hL) (cl_pr2 hL2) h2)) (tblO_ok noT_ok _ w) (fun _ _ _ => tblO_none fun _ => rfl)) ht [] 400 16 [.cell 6 39, .tmp 7] Tryz.func78 rfl Tryz.ntmps78 (by rw [Tryz.results78]) (by simp) rfl (fun hsm => ?_)
 simp (maxSteps := 10000000) only [go_sem, seval, reduceCtorEq, frh, frz, frS, frA, frL]
 repeat' with_reducible first | apply And.intro | apply condP <;> intro _
 all_goals first | (show chk _ _ = true; kernel_rfl) | assumption | rfl | (simp only [go_sem, *, hoO2, hoK2, hpin2] <;> rfl)
theorem cl_mul3 {w : World} {S : Nat → Prop} {gs : List Nat} {a b : List (List J)} {n i j : Nat} (ha : Sq n a) (hb0 : Sq n b) (hi : i < n) (hj : j < n) (hL : Lent S w gs [[.sl false 1 a.length (a.map rC)], [.lit (.int .i64 (i : Int))], [.sl false 1 b.length (b.map rC)], [.lit (.int .i64 (j : Int))]]) : Fv Tryz.prog w 79 (ptrs gs) (gI fun z => (0 ≤ z ∧ z < (n : Int), jj2 (at2 a i z.toNat, at2 b z.toNat j))) := by
 refine fv_run hL (ent Tryz.func79 (by kernel_rfl) rfl) (fun args e h => by obtain ⟨z, rfl, rfl⟩ := gI_eq h; rfl) (fun args e h hp w' us hb ht' hL' hA => ?_)
 obtain ⟨z, rfl, rfl⟩ := gI_eq h
 obtain ⟨k, rfl, hk⟩ := cast_at hp
 have g0 : (0 ≤ (i : Int)) = True := eq_true (by omega)
 have g1 : (0 ≤ (j : Int)) = True := eq_true (by omega)
 have g2 : (0 ≤ (k : Int)) = True := eq_true (by omega)
 have g3 : (i < a.length) = True := eq_true (by rw [ha.1]; exact hi)
 have g4 : (k < b.length) = True := eq_true (by rw [hb0.1]; exact hk)
 have g5 : (k < (a.getD i []).length) = True := eq_true (by rw [ha.row hi]; exact hk)
 have g6 : (j < (b.getD k []).length) = True := eq_true (by rw [hb0.row hk]; exact hj)
 have e1 := rC_at (at_get [] (show i < a.length by rw [ha.1]; exact hi))
 have e2 := rC_at (at_get [] (show k < b.length by rw [hb0.1]; exact hk))
 have e3 : List.take 6 (List.drop (k * 6) (bC (a.getD i []))) = [.lit (.bool (at2 a i k).lo.s), .lit (.int .i64 (at2 a i k).lo.e), .ws (at2 a i k).lo.xs, .lit (.bool (at2 a i k).hi.s), .lit (.int .i64 (at2 a i k).hi.e), .ws (at2 a i k).hi.xs] := bC_at' (at_get zJ (by rw [ha.row hi]; exact hk))
 have e4 : List.take 6 (List.drop (j * 6) (bC (b.getD k []))) = [.lit (.bool (at2 b k j).lo.s), .lit (.int .i64 (at2 b k j).lo.e), .ws (at2 b k j).lo.xs, .lit (.bool (at2 b k j).hi.s), .lit (.int .i64 (at2 b k j).hi.e), .ws (at2 b k j).hi.xs] := bC_at' (at_get zJ (by rw [hb0.row hk]; exact hj))
 refine (lent_of (args := [iA (k : Int), .s (.own 1000 0), .s (.own 1001 0), .s (.own 1002 0), .s (.own 1003 0)]) (O := tblO noT) (Pst := (· = jj2 (at2 a i k, at2 b k j))) (by kernel_rfl) tyM_ok (tblO_ok noT_ok _ w') [] 400 22 [.cell 6 39, .cell 7 39] Tryz.func79 rfl Tryz.ntmps79 (by rw [Tryz.results79]) (by simp) ht' hL' hA ?_).mono ?_
 case refine_2 => rintro e w'' ⟨u, r, he, rfl, _, hR, hb2⟩; exact ⟨u, he, hR, hb2⟩
 simp (maxSteps := 10000000) only [go_sem, seval, reduceCtorEq, g0, g1, g2, g3, g4, g5, g6, e1, e2, e3, e4, frh, frz, frS, frA, frL]
 repeat' with_reducible first | apply And.intro | apply condP <;> intro _
 all_goals first | (show chk _ _ = true; kernel_rfl) | assumption | rfl | (simp only [go_sem, *] <;> rfl)
theorem cl_mul2 {w : World} {S : Nat → Prop} {gs : List Nat} {a b : List (List J)} {n i : Nat} {p : Int} (ha : Sq n a) (hb0 : Sq n b) (hi : i < n) (hn : n ≤ 1000) (hL : Lent S w gs [[.lit (.int .i64 (n : Int))], [.lit (.int .i64 p)], [.sl false 1 a.length (a.map rC)], [.lit (.int .i64 (i : Int))], [.sl false 1 b.length (b.map rC)]]) : Fv Tryz.prog w 77 (ptrs gs) (gI fun z => (0 ≤ z ∧ z < (n : Int), jeA (totN zJ (fun k => mulJ (at2 a i k) (at2 b k z.toNat) p) (fun s x => addJ s x p) n))) := by
 refine fv_run hL (ent Tryz.func77 (by kernel_rfl) rfl) (fun args e h => by obtain ⟨z, rfl, rfl⟩ := gI_eq h; rfl) (fun args e h hp w' us hb ht' hL' hA => ?_)
 obtain ⟨z, rfl, rfl⟩ := gI_eq h
 obtain ⟨j, rfl, hj⟩ := cast_at hp
 refine (lent_of (args := [iA (j : Int), .s (.own 1000 0), .s (.own 1001 0), .s (.own 1002 0), .s (.own 1003 0), .s (.own 1004 0)]) (O := orO (hoO 78 2 (hpin [[.sl false 1 a.length (a.map rC)], [.lit (.int .i64 (i : Int))], [.sl false 1 b.length (b.map rC)], [.lit (.int .i64 (j : Int))]] 79 [iA n, iA p] (jeA (totN zJ (fun k => mulJ (at2 a i k) (at2 b k j) p) (fun s x => addJ s x p) n)))) (tblO noT)) (Pst := (· = jeA (totN zJ (fun k => mulJ (at2 a i k) (at2 b k j) p) (fun s x => addJ s x p) n))) (by kernel_rfl) tyM_ok (hoO_or (hoO_ok (ent Tryz.func78 (by kernel_rfl) rfl) (fun ls c xs e he hp S2 w2 gs2 hb2 ht2 hL2 => by
  injection he with he; subst he
  obtain ⟨rfl, rfl, rfl⟩ := hp
  exact prods (G := fun k => (at2 a i k, at2 b k j)) ht2 (cl_mul3 ha hb0 hi hj hL2) (by omega))) (tblO_ok noT_ok _ w') (fun _ _ _ => tblO_none fun _ => rfl)) [] 400 15 [.cell 7 39, .tmp 8] Tryz.func77 rfl Tryz.ntmps77 (by rw [Tryz.results77]) (by simp) ht' hL' hA ?_).mono ?_
 case refine_2 => rintro e w'' ⟨u, r, he, rfl, _, hR, hb2⟩; exact ⟨u, he, hR, hb2⟩
 simp (maxSteps := 10000000) only [go_sem, seval, reduceCtorEq, frh, frz, frS, frA, frL]
 repeat' with_reducible first | apply And.intro | apply condP <;> intro _
 all_goals first | (show chk _ _ = true; kernel_rfl) | assumption | rfl | (simp only [go_sem, *, hoO, hoK, hpin] <;> rfl)
theorem cl_mul1 {w : World} {S : Nat → Prop} {gs : List Nat} {a b : List (List J)} {n : Nat} {p : Int} (ha : Sq n a) (hb0 : Sq n b) (h1 : 1 ≤ n) (hn : n ≤ 1000) (hL : Lent S w gs [[.lit (.int .i64 (n : Int))], [.lit (.int .i64 p)], [.sl false 1 a.length (a.map rC)], [.sl false 1 b.length (b.map rC)]]) : Fv Tryz.prog w 75 (ptrs gs) (gI fun z => (0 ≤ z ∧ z < (n : Int), bxe (eachN (fun j => totN zJ (fun k => mulJ (at2 a z.toNat k) (at2 b k j) p) (fun s x => addJ s x p) n) n))) := by
 refine fv_run hL (ent Tryz.func75 (by kernel_rfl) rfl) (fun args e h => by obtain ⟨z, rfl, rfl⟩ := gI_eq h; rfl) (fun args e h hp w' us hb ht' hL' hA => ?_)
 obtain ⟨z, rfl, rfl⟩ := gI_eq h
 obtain ⟨i, rfl, hi⟩ := cast_at hp
 refine (lent_of (args := [iA (i : Int), .s (.own 1000 0), .s (.own 1001 0), .s (.own 1002 0), .s (.own 1003 0)]) (O := orO (hoO 76 1 (hpin [[.lit (.int .i64 (n : Int))], [.lit (.int .i64 p)], [.sl false 1 a.length (a.map rC)], [.lit (.int .i64 (i : Int))], [.sl false 1 b.length (b.map rC)]] 77 [iA n] (bxe (eachN (fun j => totN zJ (fun k => mulJ (at2 a i k) (at2 b k j) p) (fun s x => addJ s x p) n) n)))) (tblO noT)) (Pst := (· = bxe (eachN (fun j => totN zJ (fun k => mulJ (at2 a i k) (at2 b k j) p) (fun s x => addJ s x p) n) n))) (by kernel_rfl) tyM_ok (hoO_or (hoO_ok (ent Tryz.func76 (by kernel_rfl) rfl) (fun ls c xs e he hp S2 w2 gs2 hb2 ht2 hL2 => by
  injection he with he; subst he
  obtain ⟨rfl, rfl, rfl⟩ := hp
  exact eachJ ht2 (cl_mul2 ha hb0 hi hn hL2) h1 hn)) (tblO_ok noT_ok _ w') (fun _ _ _ => tblO_none fun _ => rfl)) [] 400 13 [.tmp 6, .tmp 7] Tryz.func75 rfl Tryz.ntmps75 (by rw [Tryz.results75]) (by simp) ht' hL' hA ?_).mono ?_
 case refine_2 => rintro e w'' ⟨u, r, he, rfl, _, hR, hb2⟩; exact ⟨u, he, hR, hb2⟩
 simp (maxSteps := 10000000) only [go_sem, seval, reduceCtorEq, frh, frz, frS, frA, frL]
 repeat' with_reducible first | apply And.intro | apply condP <;> intro _
 all_goals first | (show chk _ _ = true; kernel_rfl) | assumption | rfl | (simp only [go_sem, *, hoO, hoK, hpin] <;> rfl)
theorem cl_vec2 {w : World} {S : Nat → Prop} {gs : List Nat} {m : List (List J)} {b : List J} {n i : Nat} (ha : Sq n m) (hb0 : b.length = n) (hi : i < n) (hL : Lent S w gs [[.sl false 1 m.length (m.map rC)], [.lit (.int .i64 (i : Int))], [.sl false 6 b.length (bC b)]]) : Fv Tryz.prog w 81 (ptrs gs) (gI fun z => (0 ≤ z ∧ z < (n : Int), jj2 (at2 m i z.toNat, b.getD z.toNat zJ))) := by
 refine fv_run hL (ent Tryz.func81 (by kernel_rfl) rfl) (fun args e h => by obtain ⟨z, rfl, rfl⟩ := gI_eq h; rfl) (fun args e h hp w' us hb ht' hL' hA => ?_)
 obtain ⟨z, rfl, rfl⟩ := gI_eq h
 obtain ⟨k, rfl, hk⟩ := cast_at hp
 have g0 : (0 ≤ (i : Int)) = True := eq_true (by omega)
 have g2 : (0 ≤ (k : Int)) = True := eq_true (by omega)
 have g3 : (i < m.length) = True := eq_true (by rw [ha.1]; exact hi)
 have g4 : (k < b.length) = True := eq_true (by rw [hb0]; exact hk)
 have g5 : (k < (m.getD i []).length) = True := eq_true (by rw [ha.row hi]; exact hk)
 have e1 := rC_at (at_get [] (show i < m.length by rw [ha.1]; exact hi))
 have e3 : List.take 6 (List.drop (k * 6) (bC (m.getD i []))) = [.lit (.bool (at2 m i k).lo.s), .lit (.int .i64 (at2 m i k).lo.e), .ws (at2 m i k).lo.xs, .lit (.bool (at2 m i k).hi.s), .lit (.int .i64 (at2 m i k).hi.e), .ws (at2 m i k).hi.xs] := bC_at' (at_get zJ (by rw [ha.row hi]; exact hk))
 have e4 := bC_at' (at_get zJ (show k < b.length by rw [hb0]; exact hk))
 refine (lent_of (args := [iA (k : Int), .s (.own 1000 0), .s (.own 1001 0), .s (.own 1002 0)]) (O := tblO noT) (Pst := (· = jj2 (at2 m i k, b.getD k zJ))) (by kernel_rfl) tyM_ok (tblO_ok noT_ok _ w') [] 400 18 [.cell 5 39, .cell 6 39] Tryz.func81 rfl Tryz.ntmps81 (by rw [Tryz.results81]) (by simp) ht' hL' hA ?_).mono ?_
 case refine_2 => rintro e w'' ⟨u, r, he, rfl, _, hR, hb2⟩; exact ⟨u, he, hR, hb2⟩
 simp (maxSteps := 10000000) only [go_sem, seval, reduceCtorEq, g0, g2, g3, g4, g5, e1, e3, e4, frh, frz, frS, frA, frL]
 repeat' with_reducible first | apply And.intro | apply condP <;> intro _
 all_goals first | (show chk _ _ = true; kernel_rfl) | assumption | rfl | (simp only [go_sem, *] <;> rfl)
theorem cl_vec1 {w : World} {S : Nat → Prop} {gs : List Nat} {m : List (List J)} {b : List J} {n : Nat} {p : Int} (ha : Sq n m) (hb0 : b.length = n) (hn : n ≤ 1000) (hL : Lent S w gs [[.lit (.int .i64 (n : Int))], [.lit (.int .i64 p)], [.sl false 1 m.length (m.map rC)], [.sl false 6 b.length (bC b)]]) : Fv Tryz.prog w 80 (ptrs gs) (gI fun z => (0 ≤ z ∧ z < (n : Int), jeA (totN zJ (fun k => mulJ (at2 m z.toNat k) (b.getD k zJ) p) (fun s x => addJ s x p) n))) := by
 refine fv_run hL (ent Tryz.func80 (by kernel_rfl) rfl) (fun args e h => by obtain ⟨z, rfl, rfl⟩ := gI_eq h; rfl) (fun args e h hp w' us hb ht' hL' hA => ?_)
 obtain ⟨z, rfl, rfl⟩ := gI_eq h
 obtain ⟨i, rfl, hi⟩ := cast_at hp
 refine (lent_of (args := [iA (i : Int), .s (.own 1000 0), .s (.own 1001 0), .s (.own 1002 0), .s (.own 1003 0)]) (O := orO (hoO 78 2 (hpin [[.sl false 1 m.length (m.map rC)], [.lit (.int .i64 (i : Int))], [.sl false 6 b.length (bC b)]] 81 [iA n, iA p] (jeA (totN zJ (fun k => mulJ (at2 m i k) (b.getD k zJ) p) (fun s x => addJ s x p) n)))) (tblO noT)) (Pst := (· = jeA (totN zJ (fun k => mulJ (at2 m i k) (b.getD k zJ) p) (fun s x => addJ s x p) n))) (by kernel_rfl) tyM_ok (hoO_or (hoO_ok (ent Tryz.func78 (by kernel_rfl) rfl) (fun ls c xs e he hp S2 w2 gs2 hb2 ht2 hL2 => by
  injection he with he; subst he
  obtain ⟨rfl, rfl, rfl⟩ := hp
  exact prods (G := fun k => (at2 m i k, b.getD k zJ)) ht2 (cl_vec2 ha hb0 hi hL2) (by omega))) (tblO_ok noT_ok _ w') (fun _ _ _ => tblO_none fun _ => rfl)) [] 400 14 [.cell 6 39, .tmp 7] Tryz.func80 rfl Tryz.ntmps80 (by rw [Tryz.results80]) (by simp) ht' hL' hA ?_).mono ?_
 case refine_2 => rintro e w'' ⟨u, r, he, rfl, _, hR, hb2⟩; exact ⟨u, he, hR, hb2⟩
 simp (maxSteps := 10000000) only [go_sem, seval, reduceCtorEq, frh, frz, frS, frA, frL]
 repeat' with_reducible first | apply And.intro | apply condP <;> intro _
 all_goals first | (show chk _ _ = true; kernel_rfl) | assumption | rfl | (simp only [go_sem, *, hoO, hoK, hpin] <;> rfl)
theorem cl_nrm2 {w : World} {S : Nat → Prop} {gs : List Nat} {m : List (List J)} {n i : Nat} (ha : Sq n m) (hi : i < n) (hL : Lent S w gs [[.sl false 1 m.length (m.map rC)], [.lit (.int .i64 (i : Int))]]) : Fv Tryz.prog w 93 (ptrs gs) (gI fun z => (0 ≤ z ∧ z < (n : Int), xeA (magJ (at2 m i z.toNat), 0))) := by
 refine fv_run hL (ent Tryz.func93 (by kernel_rfl) rfl) (fun args e h => by obtain ⟨z, rfl, rfl⟩ := gI_eq h; rfl) (fun args e h hp w' us hb ht' hL' hA => ?_)
 obtain ⟨z, rfl, rfl⟩ := gI_eq h
 obtain ⟨k, rfl, hk⟩ := cast_at hp
 have g0 : (0 ≤ (i : Int)) = True := eq_true (by omega)
 have g2 : (0 ≤ (k : Int)) = True := eq_true (by omega)
 have g3 : (i < m.length) = True := eq_true (by rw [ha.1]; exact hi)
 have g5 : (k < (m.getD i []).length) = True := eq_true (by rw [ha.row hi]; exact hk)
 have e1 := rC_at (at_get [] (show i < m.length by rw [ha.1]; exact hi))
 have e3 : List.take 6 (List.drop (k * 6) (bC (m.getD i []))) = [.lit (.bool (at2 m i k).lo.s), .lit (.int .i64 (at2 m i k).lo.e), .ws (at2 m i k).lo.xs, .lit (.bool (at2 m i k).hi.s), .lit (.int .i64 (at2 m i k).hi.e), .ws (at2 m i k).hi.xs] := bC_at' (at_get zJ (by rw [ha.row hi]; exact hk))
 refine (lent_of (args := [iA (k : Int), .s (.own 1000 0), .s (.own 1001 0)]) (O := tblO Tiv_Mag) (Pst := (· = xeA (magJ (at2 m i k), 0))) (by kernel_rfl) tyM_ok (tblO_ok Tiv_Mag_ok _ w') [] 400 14 [.cell 4 37, .tmp 5] Tryz.func93 rfl Tryz.ntmps93 (by rw [Tryz.results93]) (by simp) ht' hL' hA ?_).mono ?_
 case refine_2 => rintro e w'' ⟨u, r, he, rfl, _, hR, hb2⟩; exact ⟨u, he, hR, hb2⟩
 simp (maxSteps := 10000000) only [go_sem, seval, reduceCtorEq, Tiv_Mag, g0, g2, g3, g5, e1, e3, frh, frz, frS, frA, frL]
 repeat' with_reducible first | apply And.intro | apply condP <;> intro _
 all_goals first | (show chk _ _ = true; kernel_rfl) | assumption | rfl | (simp only [go_sem, *] <;> rfl)
noncomputable def upX (p : Int) (a b : X) : X × Int := ((qx (rtwo (gadd p true) p a b).1), (rtwo (gadd p true) p a b).2)
theorem cl_nrm3 {w : World} {S : Nat → Prop} {gs : List Nat} {p : Int} (hL : Lent S w gs [[.lit (.int .i64 p)]]) : Fv Tryz.prog w 96 (ptrs gs) (gNN fun a b => (True, xeA (upX p a b))) := by
 refine fv_run hL (ent Tryz.func96 (by kernel_rfl) rfl) (fun args e h => by obtain ⟨x, x1, rfl, rfl⟩ := gNN_eq h; rfl) (fun args e h hp w' us hb ht' hL' hA => ?_)
 obtain ⟨x, x1, rfl, rfl⟩ := gNN_eq h
 refine (lent_of (args := [.v true x.L, .v true x1.L, .s (.own 1000 0)]) (O := tblO Tround_Add) (Pst := (· = xeA (upX p x x1))) (by kernel_rfl) tyM_ok (tblO_ok Tround_Add_ok _ w') [] 400 13 [.cell 5 37, .tmp 6] Tryz.func96 rfl Tryz.ntmps96 (by rw [Tryz.results96]) (by simp) ht' hL' hA ?_).mono ?_
 case refine_2 => rintro e w'' ⟨u, r, he, rfl, _, hR, hb2⟩; exact ⟨u, he, hR, hb2⟩
 simp (maxSteps := 10000000) only [go_sem, seval, reduceCtorEq, Tround_Add, frh, frz, frS, frA, frL]
 repeat' with_reducible first | apply And.intro | apply condP <;> intro _
 all_goals first | (show chk _ _ = true; kernel_rfl) | assumption | rfl | (simp only [go_sem, *, upX] <;> rfl)
theorem cl_nrm1 {w : World} {S : Nat → Prop} {gs : List Nat} {m : List (List J)} {n : Nat} {p : Int} (ha : Sq n m) (hn : n ≤ 1000) (hL : Lent S w gs [[.sl false 1 m.length (m.map rC)], [.lit (.int .i64 (n : Int))], [.lit (.int .i64 p)]]) : Fv Tryz.prog w 92 (ptrs gs) (gI fun z => (0 ≤ z ∧ z < (n : Int), xeA (totN zX (fun k => (magJ (at2 m z.toNat k), 0)) (upX p) n))) := by
 refine fv_run hL (ent Tryz.func92 (by kernel_rfl) rfl) (fun args e h => by obtain ⟨z, rfl, rfl⟩ := gI_eq h; rfl) (fun args e h hp w' us hb ht' hL' hA => ?_)
 obtain ⟨z, rfl, rfl⟩ := gI_eq h
 obtain ⟨i, rfl, hi⟩ := cast_at hp
 refine (lent_of (args := [iA (i : Int), .s (.own 1000 0), .s (.own 1001 0), .s (.own 1002 0)]) (O := orO (hoO2 95 1 (hpin2 [[.sl false 1 m.length (m.map rC)], [.lit (.int .i64 (i : Int))]] 93 [[.lit (.int .i64 p)]] 96 [iA n] (xeA (totN zX (fun k => (magJ (at2 m i k), 0)) (upX p) n)))) (tblO noT)) (Pst := (· = xeA (totN zX (fun k => (magJ (at2 m i k), 0)) (upX p) n))) (by kernel_rfl) tyM_ok (hoO2_or (hoO2_ok (ent Tryz.func95 (by kernel_rfl) rfl) (fun ls c ls2 c2 xs e he hp S2 w2 gs2 gs3 hb2 ht2 hL2 hL3 => by
  injection he with he; subst he
  obtain ⟨⟨rfl, rfl⟩, ⟨rfl, rfl⟩, rfl⟩ := hp
  exact totX (F := fun k => (magJ (at2 m i k), 0)) ht2 (cl_nrm2 ha hi hL2) (cl_nrm3 hL3) hn)) (tblO_ok noT_ok _ w') (fun _ _ _ => tblO_none fun _ => rfl)) [] 400 15 [.cell 5 37, .tmp 6] Tryz.func92 rfl Tryz.ntmps92 (by rw [Tryz.results92]) (by simp) ht' hL' hA ?_).mono ?_
 case refine_2 => rintro e w'' ⟨u, r, he, rfl, _, hR, hb2⟩; exact ⟨u, he, hR, hb2⟩
 simp (maxSteps := 10000000) only [go_sem, seval, reduceCtorEq, frh, frz, frS, frA, frL]
 repeat' with_reducible first | apply And.intro | apply condP <;> intro _
 all_goals first | (show chk _ _ = true; kernel_rfl) | assumption | rfl | (simp only [go_sem, *, hoO2, hoK2, hpin2] <;> rfl)
end
section
attribute [local go_sem] tyM tiQ tiMM gA gE asZ asT asV1 asN1 asB_b asP_b asM_m asQ_m ite_self hoO hoK hpin hoO2 hoK2 hpin2
theorem asRs_mm (m : List (List J)) (r : List Lc) : asMs (.sl 1 m.length (m.map rC) :: r) = (match asMs r with
 | some l => some (m :: l)
 | none => none) := by
 show (match asRs (m.map rC), asMs r with
  | some m', some l => if 1 = 1 ∧ m.length = m'.length then some (m' :: l) else none
  | _, _ => none) = _
 rw [asRs_C]
 cases asMs r <;> simp
theorem asMM_1 (a : List (List J)) : asMM (.v false [.sl false 1 1 [.sl 1 a.length (a.map rC)]]) = some [a] := by
 show (match asMs [.sl 1 a.length (a.map rC)] with
  | some l => if 1 = 1 ∧ 1 = l.length then some l else none
  | none => none) = _
 rw [asRs_mm]; rfl
theorem asMM_2 (a b : List (List J)) : asMM (.v false [.sl false 1 2 [.sl 1 a.length (a.map rC), .sl 1 b.length (b.map rC)]]) = some [a, b] := by
 show (match asMs [.sl 1 a.length (a.map rC), .sl 1 b.length (b.map rC)] with
  | some l => if 1 = 1 ∧ 2 = l.length then some l else none
  | none => none) = _
 rw [asRs_mm, asRs_mm]; rfl
def frm {α : Type} (ok : Bool) (r : List α × Int) : List α × Int := bif ok then r else ([], 1)
def okMM (a b : List (List J)) (p : Int) : Bool := bif (bif rightM a && rightM b then rng p 8 256 else false) then !((a.length : Int) != (b.length : Int)) else false
def okM (a : List (List J)) (p : Int) : Bool := bif rightM a then rng p 8 256 else false
theorem mAdd_e0 (a b : List (List J)) (p : Int) (h : (bif rightM a && rightM b then rng p 8 256 else false) = false) : Ct Tryz.prog 43 [mA_ a, mA_ b, iA p] (· = mxe ([], 1)) := by
 refine Ct.wk ?_ (wk_tup (l := .lit (.slice none 0 0)) (fun _ _ _ _ h => nil_sl h) rfl)
 refine ct_of (O := tblO Tm_rights) (by kernel_rfl) tyM_ok (fun w => tblO_ok Tm_rights_ok _ w) [] 600 27 [.tmp 6, .tmp 7] Tryz.func43 rfl Tryz.ntmps43 (by rw [Tryz.results43]) (by simp) rfl (fun hsm => ?_)
 simp (maxSteps := 10000000) only [go_sem, seval, reduceCtorEq, Tm_rights, asMM_1, asMM_2, h]
 repeat' with_reducible first | apply And.intro | apply condP <;> intro _
 all_goals first | (show chk _ _ = true; kernel_rfl) | assumption | rfl | (simp only [go_sem, *] <;> rfl)
theorem mAdd_e1 (a b : List (List J)) (p : Int) (h : (bif rightM a && rightM b then rng p 8 256 else false) = true) (hl : ((a.length : Int) != (b.length : Int)) = true) : Ct Tryz.prog 43 [mA_ a, mA_ b, iA p] (· = mxe ([], 1)) := by
 refine Ct.wk ?_ (wk_tup (l := .lit (.slice none 0 0)) (fun _ _ _ _ h => nil_sl h) rfl)
 refine ct_of (O := tblO Tm_rights) (by kernel_rfl) tyM_ok (fun w => tblO_ok Tm_rights_ok _ w) [] 600 27 [.tmp 6, .tmp 7] Tryz.func43 rfl Tryz.ntmps43 (by rw [Tryz.results43]) (by simp) rfl (fun hsm => ?_)
 simp (maxSteps := 10000000) only [go_sem, seval, reduceCtorEq, Tm_rights, asMM_1, asMM_2, h, hl]
 repeat' with_reducible first | apply And.intro | apply condP <;> intro _
 all_goals first | (show chk _ _ = true; kernel_rfl) | assumption | rfl | (simp only [go_sem, *] <;> rfl)
theorem mAdd_ok (a b : List (List J)) (p : Int) (h : (bif rightM a && rightM b then rng p 8 256 else false) = true) (hl : ((a.length : Int) != (b.length : Int)) = false) : Ct Tryz.prog 43 [mA_ a, mA_ b, iA p] (· = mxe (eachN (fun i => pairN (fun x y => addJ x y p) (a.getD i []) (b.getD i [])) a.length)) := by
 have hR : rightM a = true ∧ rightM b = true := by
  cases h1 : rightM a && rightM b with
  | false => rw [h1] at h; cases h
  | true => exact Bool.and_eq_true _ _ ▸ h1
 obtain ⟨⟨n1, n2⟩, qa⟩ := rightM_sq hR.1
 have qb := (rightM_sq hR.2).2
 have hab : a.length = b.length := by have : (a.length : Int) = (b.length : Int) := by simpa using hl
                                      omega
 rw [← hab] at qb
 refine ct_of (O := orO (hoO 74 1 (hpin [[.sl false 1 a.length (a.map rC)], [.sl false 1 b.length (b.map rC)], [.lit (.int .i64 p)]] 102 [iA (a.length : Int)] (mxe (eachN (fun i => pairN (fun x y => addJ x y p) (a.getD i []) (b.getD i [])) a.length)))) (tblO Tm_rights)) (by kernel_rfl) tyM_ok (fun w => hoO_or (hoO_ok (ent Tryz.func74 (by kernel_rfl) rfl) (fun ls c xs e he hp S w' gs hb ht' hL => by
  injection he with he; subst he
  obtain ⟨rfl, rfl, rfl⟩ := hp
  exact eachB (F := fun i => pairN (fun x y => addJ x y p) (a.getD i []) (b.getD i [])) ht' (cl_add hab hL) n1 (by omega))) (tblO_ok Tm_rights_ok _ w) (fun _ _ _ => tblO_none fun _ => one_none (by decide))) [] 600 27 [.tmp 6, .tmp 7] Tryz.func43 rfl Tryz.ntmps43 (by rw [Tryz.results43]) (by simp) rfl (fun hsm => ?_)
 simp (maxSteps := 10000000) only [go_sem, seval, reduceCtorEq, Tm_rights, asMM_1, asMM_2, h, hl, bxe, pxe, lpf, hdS, hd1, pick, forget, frh, frz, frS, frA, frL]
 repeat' with_reducible first | apply And.intro | apply condP <;> intro _
 all_goals first | (show chk _ _ = true; kernel_rfl) | assumption | rfl | (simp only [go_sem, *, hoO, hoK, hpin] <;> rfl)
theorem mAdd (a b : List (List J)) (p : Int) : Ct Tryz.prog 43 [mA_ a, mA_ b, iA p] (· = mxe (frm (okMM a b p) (eachN (fun i => pairN (fun x y => addJ x y p) (a.getD i []) (b.getD i [])) a.length))) := by
 unfold frm okMM
 cases h : (bif rightM a && rightM b then rng p 8 256 else false) with
 | false => exact mAdd_e0 a b p h
 | true =>
  cases hl : ((a.length : Int) != (b.length : Int)) with
  | true => exact mAdd_e1 a b p h hl
  | false => exact mAdd_ok a b p h hl
theorem mSub_e0 (a b : List (List J)) (p : Int) (h : (bif rightM a && rightM b then rng p 8 256 else false) = false) : Ct Tryz.prog 44 [mA_ a, mA_ b, iA p] (· = mxe ([], 1)) := by
 refine Ct.wk ?_ (wk_tup (l := .lit (.slice none 0 0)) (fun _ _ _ _ h => nil_sl h) rfl)
 refine ct_of (O := tblO Tm_rights) (by kernel_rfl) tyM_ok (fun w => tblO_ok Tm_rights_ok _ w) [] 600 27 [.tmp 6, .tmp 7] Tryz.func44 rfl Tryz.ntmps44 (by rw [Tryz.results44]) (by simp) rfl (fun hsm => ?_)
 simp (maxSteps := 10000000) only [go_sem, seval, reduceCtorEq, Tm_rights, asMM_1, asMM_2, h]
 repeat' with_reducible first | apply And.intro | apply condP <;> intro _
 all_goals first | (show chk _ _ = true; kernel_rfl) | assumption | rfl | (simp only [go_sem, *] <;> rfl)
theorem mSub_e1 (a b : List (List J)) (p : Int) (h : (bif rightM a && rightM b then rng p 8 256 else false) = true) (hl : ((a.length : Int) != (b.length : Int)) = true) : Ct Tryz.prog 44 [mA_ a, mA_ b, iA p] (· = mxe ([], 1)) := by
 refine Ct.wk ?_ (wk_tup (l := .lit (.slice none 0 0)) (fun _ _ _ _ h => nil_sl h) rfl)
 refine ct_of (O := tblO Tm_rights) (by kernel_rfl) tyM_ok (fun w => tblO_ok Tm_rights_ok _ w) [] 600 27 [.tmp 6, .tmp 7] Tryz.func44 rfl Tryz.ntmps44 (by rw [Tryz.results44]) (by simp) rfl (fun hsm => ?_)
 simp (maxSteps := 10000000) only [go_sem, seval, reduceCtorEq, Tm_rights, asMM_1, asMM_2, h, hl]
 repeat' with_reducible first | apply And.intro | apply condP <;> intro _
 all_goals first | (show chk _ _ = true; kernel_rfl) | assumption | rfl | (simp only [go_sem, *] <;> rfl)
theorem mSub_ok (a b : List (List J)) (p : Int) (h : (bif rightM a && rightM b then rng p 8 256 else false) = true) (hl : ((a.length : Int) != (b.length : Int)) = false) : Ct Tryz.prog 44 [mA_ a, mA_ b, iA p] (· = mxe (eachN (fun i => pairN (fun x y => subJ x y p) (a.getD i []) (b.getD i [])) a.length)) := by
 have hR : rightM a = true ∧ rightM b = true := by
  cases h1 : rightM a && rightM b with
  | false => rw [h1] at h; cases h
  | true => exact Bool.and_eq_true _ _ ▸ h1
 obtain ⟨⟨n1, n2⟩, qa⟩ := rightM_sq hR.1
 have qb := (rightM_sq hR.2).2
 have hab : a.length = b.length := by have : (a.length : Int) = (b.length : Int) := by simpa using hl
                                      omega
 rw [← hab] at qb
 refine ct_of (O := orO (hoO 74 1 (hpin [[.sl false 1 a.length (a.map rC)], [.sl false 1 b.length (b.map rC)], [.lit (.int .i64 p)]] 104 [iA (a.length : Int)] (mxe (eachN (fun i => pairN (fun x y => subJ x y p) (a.getD i []) (b.getD i [])) a.length)))) (tblO Tm_rights)) (by kernel_rfl) tyM_ok (fun w => hoO_or (hoO_ok (ent Tryz.func74 (by kernel_rfl) rfl) (fun ls c xs e he hp S w' gs hb ht' hL => by
  injection he with he; subst he
  obtain ⟨rfl, rfl, rfl⟩ := hp
  exact eachB (F := fun i => pairN (fun x y => subJ x y p) (a.getD i []) (b.getD i [])) ht' (cl_sub hab hL) n1 (by omega))) (tblO_ok Tm_rights_ok _ w) (fun _ _ _ => tblO_none fun _ => one_none (by decide))) [] 600 27 [.tmp 6, .tmp 7] Tryz.func44 rfl Tryz.ntmps44 (by rw [Tryz.results44]) (by simp) rfl (fun hsm => ?_)
 simp (maxSteps := 10000000) only [go_sem, seval, reduceCtorEq, Tm_rights, asMM_1, asMM_2, h, hl, bxe, pxe, lpf, hdS, hd1, pick, forget, frh, frz, frS, frA, frL]
 repeat' with_reducible first | apply And.intro | apply condP <;> intro _
 all_goals first | (show chk _ _ = true; kernel_rfl) | assumption | rfl | (simp only [go_sem, *, hoO, hoK, hpin] <;> rfl)
theorem mSub (a b : List (List J)) (p : Int) : Ct Tryz.prog 44 [mA_ a, mA_ b, iA p] (· = mxe (frm (okMM a b p) (eachN (fun i => pairN (fun x y => subJ x y p) (a.getD i []) (b.getD i [])) a.length))) := by
 unfold frm okMM
 cases h : (bif rightM a && rightM b then rng p 8 256 else false) with
 | false => exact mSub_e0 a b p h
 | true =>
  cases hl : ((a.length : Int) != (b.length : Int)) with
  | true => exact mSub_e1 a b p h hl
  | false => exact mSub_ok a b p h hl
theorem mMul_e0 (a b : List (List J)) (p : Int) (h : (bif rightM a && rightM b then rng p 8 256 else false) = false) : Ct Tryz.prog 28 [mA_ a, mA_ b, iA p] (· = mxe ([], 1)) := by
 refine Ct.wk ?_ (wk_tup (l := .lit (.slice none 0 0)) (fun _ _ _ _ h => nil_sl h) rfl)
 refine ct_of (O := tblO Tm_rights) (by kernel_rfl) tyM_ok (fun w => tblO_ok Tm_rights_ok _ w) [] 600 29 [.tmp 6, .tmp 7] Tryz.func28 rfl Tryz.ntmps28 (by rw [Tryz.results28]) (by simp) rfl (fun hsm => ?_)
 simp (maxSteps := 10000000) only [go_sem, seval, reduceCtorEq, Tm_rights, asMM_1, asMM_2, h]
 repeat' with_reducible first | apply And.intro | apply condP <;> intro _
 all_goals first | (show chk _ _ = true; kernel_rfl) | assumption | rfl | (simp only [go_sem, *] <;> rfl)
theorem mMul_e1 (a b : List (List J)) (p : Int) (h : (bif rightM a && rightM b then rng p 8 256 else false) = true) (hl : ((a.length : Int) != (b.length : Int)) = true) : Ct Tryz.prog 28 [mA_ a, mA_ b, iA p] (· = mxe ([], 1)) := by
 refine Ct.wk ?_ (wk_tup (l := .lit (.slice none 0 0)) (fun _ _ _ _ h => nil_sl h) rfl)
 refine ct_of (O := tblO Tm_rights) (by kernel_rfl) tyM_ok (fun w => tblO_ok Tm_rights_ok _ w) [] 600 29 [.tmp 6, .tmp 7] Tryz.func28 rfl Tryz.ntmps28 (by rw [Tryz.results28]) (by simp) rfl (fun hsm => ?_)
 simp (maxSteps := 10000000) only [go_sem, seval, reduceCtorEq, Tm_rights, asMM_1, asMM_2, h, hl]
 repeat' with_reducible first | apply And.intro | apply condP <;> intro _
 all_goals first | (show chk _ _ = true; kernel_rfl) | assumption | rfl | (simp only [go_sem, *] <;> rfl)
theorem mMul_ok (a b : List (List J)) (p : Int) (h : (bif rightM a && rightM b then rng p 8 256 else false) = true) (hl : ((a.length : Int) != (b.length : Int)) = false) : Ct Tryz.prog 28 [mA_ a, mA_ b, iA p] (· = mxe (eachN (fun i => eachN (fun j => totN zJ (fun k => mulJ (at2 a i k) (at2 b k j) p) (fun s x => addJ s x p) a.length) a.length) a.length)) := by
 have hR : rightM a = true ∧ rightM b = true := by
  cases h1 : rightM a && rightM b with
  | false => rw [h1] at h; cases h
  | true => exact Bool.and_eq_true _ _ ▸ h1
 obtain ⟨⟨n1, n2⟩, qa⟩ := rightM_sq hR.1
 have qb := (rightM_sq hR.2).2
 have hab : a.length = b.length := by have : (a.length : Int) = (b.length : Int) := by simpa using hl
                                      omega
 rw [← hab] at qb
 refine ct_of (O := orO (hoO 74 1 (hpin [[.lit (.int .i64 (a.length : Int))], [.lit (.int .i64 p)], [.sl false 1 a.length (a.map rC)], [.sl false 1 b.length (b.map rC)]] 75 [iA (a.length : Int)] (mxe (eachN (fun i => eachN (fun j => totN zJ (fun k => mulJ (at2 a i k) (at2 b k j) p) (fun s x => addJ s x p) a.length) a.length) a.length)))) (tblO Tm_rights)) (by kernel_rfl) tyM_ok (fun w => hoO_or (hoO_ok (ent Tryz.func74 (by kernel_rfl) rfl) (fun ls c xs e he hp S w' gs hb ht' hL => by
  injection he with he; subst he
  obtain ⟨rfl, rfl, rfl⟩ := hp
  exact eachB (F := fun i => eachN (fun j => totN zJ (fun k => mulJ (at2 a i k) (at2 b k j) p) (fun s x => addJ s x p) a.length) a.length) ht' (cl_mul1 qa qb n1 (by omega) hL) n1 (by omega))) (tblO_ok Tm_rights_ok _ w) (fun _ _ _ => tblO_none fun _ => one_none (by decide))) [] 600 29 [.tmp 6, .tmp 7] Tryz.func28 rfl Tryz.ntmps28 (by rw [Tryz.results28]) (by simp) rfl (fun hsm => ?_)
 simp (maxSteps := 10000000) only [go_sem, seval, reduceCtorEq, Tm_rights, asMM_1, asMM_2, h, hl, bxe, pxe, lpf, hdS, hd1, pick, forget, frh, frz, frS, frA, frL]
 repeat' with_reducible first | apply And.intro | apply condP <;> intro _
 all_goals first | (show chk _ _ = true; kernel_rfl) | assumption | rfl | (simp only [go_sem, *, hoO, hoK, hpin] <;> rfl)
theorem mMul (a b : List (List J)) (p : Int) : Ct Tryz.prog 28 [mA_ a, mA_ b, iA p] (· = mxe (frm (okMM a b p) (eachN (fun i => eachN (fun j => totN zJ (fun k => mulJ (at2 a i k) (at2 b k j) p) (fun s x => addJ s x p) a.length) a.length) a.length))) := by
 unfold frm okMM
 cases h : (bif rightM a && rightM b then rng p 8 256 else false) with
 | false => exact mMul_e0 a b p h
 | true =>
  cases hl : ((a.length : Int) != (b.length : Int)) with
  | true => exact mMul_e1 a b p h hl
  | false => exact mMul_ok a b p h hl
noncomputable def TmMul : Tbl := one 28 (gA asM fun a => gA asM fun b => gA asZ fun p => gE (True, mxe (frm (okMM a b p) (eachN (fun i => eachN (fun j => totN zJ (fun k => mulJ (at2 a i k) (at2 b k j) p) (fun s x => addJ s x p) a.length) a.length) a.length))))
theorem TmMul_ok : TbOK Tryz.prog TmMul := one_t (ent Tryz.func28 (by kernel_rfl) rfl) (.a asM_ok fun a => .a asM_ok fun b => .a asZ_ok fun p => .e fun _ => mMul a b p)
theorem mTim_e0 (x : J) (m : List (List J)) (p : Int) (hx : okJ x = false) : Ct Tryz.prog 45 [jA x, mA_ m, iA p] (· = mxe ([], 1)) := by
 refine Ct.wk ?_ (wk_tup (l := .lit (.slice none 0 0)) (fun _ _ _ _ h => nil_sl h) rfl)
 refine ct_of (O := tblO (orT Tm_rights Tiv_Right)) (by kernel_rfl) tyM_ok (fun w => tblO_ok (orT_ok Tm_rights_ok Tiv_Right_ok) _ w) [] 600 24 [.tmp 6, .tmp 7] Tryz.func45 rfl Tryz.ntmps45 (by rw [Tryz.results45]) (by simp) rfl (fun hsm => ?_)
 simp (maxSteps := 10000000) only [go_sem, seval, reduceCtorEq, Tm_rights, Tiv_Right, asMM_1, asMM_2, hx]
 repeat' with_reducible first | apply And.intro | apply condP <;> intro _
 all_goals first | (show chk _ _ = true; kernel_rfl) | assumption | rfl | (simp only [go_sem, *] <;> rfl)
theorem mTim_e1 (x : J) (m : List (List J)) (p : Int) (hx : okJ x = true) (h : (bif rightM m then rng p 8 256 else false) = false) : Ct Tryz.prog 45 [jA x, mA_ m, iA p] (· = mxe ([], 1)) := by
 refine Ct.wk ?_ (wk_tup (l := .lit (.slice none 0 0)) (fun _ _ _ _ h => nil_sl h) rfl)
 refine ct_of (O := tblO (orT Tm_rights Tiv_Right)) (by kernel_rfl) tyM_ok (fun w => tblO_ok (orT_ok Tm_rights_ok Tiv_Right_ok) _ w) [] 600 24 [.tmp 6, .tmp 7] Tryz.func45 rfl Tryz.ntmps45 (by rw [Tryz.results45]) (by simp) rfl (fun hsm => ?_)
 simp (maxSteps := 10000000) only [go_sem, seval, reduceCtorEq, Tm_rights, Tiv_Right, asMM_1, asMM_2, hx, h]
 repeat' with_reducible first | apply And.intro | apply condP <;> intro _
 all_goals first | (show chk _ _ = true; kernel_rfl) | assumption | rfl | (simp only [go_sem, *] <;> rfl)
theorem mTim_ok (x : J) (m : List (List J)) (p : Int) (hx : okJ x = true) (h : (bif rightM m then rng p 8 256 else false) = true) : Ct Tryz.prog 45 [jA x, mA_ m, iA p] (· = mxe (eachN (fun i => oneN (fun y => mulJ x y p) (m.getD i [])) m.length)) := by
 have hR : rightM m = true := by
  cases h1 : rightM m with
  | false => rw [h1] at h; cases h
  | true => rfl
 obtain ⟨⟨n1, n2⟩, qa⟩ := rightM_sq hR
 refine ct_of (O := orO (hoO 74 1 (hpin [x.L, [.sl false 1 m.length (m.map rC)], [.lit (.int .i64 p)]] 107 [iA (m.length : Int)] (mxe (eachN (fun i => oneN (fun y => mulJ x y p) (m.getD i [])) m.length)))) (tblO (orT Tm_rights Tiv_Right))) (by kernel_rfl) tyM_ok (fun w => hoO_or (hoO_ok (ent Tryz.func74 (by kernel_rfl) rfl) (fun ls c xs e he hp S w' gs hb ht' hL => by
  injection he with he; subst he
  obtain ⟨rfl, rfl, rfl⟩ := hp
  exact eachB (F := fun i => oneN (fun y => mulJ x y p) (m.getD i [])) ht' (cl_tim hL) n1 (by omega))) (tblO_ok (orT_ok Tm_rights_ok Tiv_Right_ok) _ w) (fun _ _ _ => tblO_none fun _ => orT_none (one_none (by decide)) (one_none (by decide)))) [] 600 24 [.tmp 6, .tmp 7] Tryz.func45 rfl Tryz.ntmps45 (by rw [Tryz.results45]) (by simp) rfl (fun hsm => ?_)
 simp (maxSteps := 10000000) only [go_sem, seval, reduceCtorEq, Tm_rights, Tiv_Right, asMM_1, asMM_2, hx, h, bxe, pxe, lpf, hdS, hd1, pick, forget, frh, frz, frS, frA, frL]
 repeat' with_reducible first | apply And.intro | apply condP <;> intro _
 all_goals first | (show chk _ _ = true; kernel_rfl) | assumption | rfl | (simp only [go_sem, *, hoO, hoK, hpin] <;> rfl)
theorem mTim (x : J) (m : List (List J)) (p : Int) : Ct Tryz.prog 45 [jA x, mA_ m, iA p] (· = mxe (frm (bif okJ x then okM m p else false) (eachN (fun i => oneN (fun y => mulJ x y p) (m.getD i [])) m.length))) := by
 unfold frm okM
 cases hx : okJ x with
 | false => exact mTim_e0 x m p hx
 | true =>
  cases h : (bif rightM m then rng p 8 256 else false) with
  | false => exact mTim_e1 x m p hx h
  | true => exact mTim_ok x m p hx h
theorem mMid_e0 (m : List (List J)) (p : Int) (h : (bif rightM m then rng p 8 256 else false) = false) : Ct Tryz.prog 47 [mA_ m, iA p] (· = qxe ([], 1)) := by
 refine Ct.wk ?_ (wk_tup (l := .lit (.slice none 0 0)) (fun _ _ _ _ h => nil_sl h) rfl)
 refine ct_of (O := tblO Tm_rights) (by kernel_rfl) tyM_ok (fun w => tblO_ok Tm_rights_ok _ w) [] 600 17 [.tmp 4, .tmp 5] Tryz.func47 rfl Tryz.ntmps47 (by rw [Tryz.results47]) (by simp) rfl (fun hsm => ?_)
 simp (maxSteps := 10000000) only [go_sem, seval, reduceCtorEq, Tm_rights, asMM_1, asMM_2, h]
 repeat' with_reducible first | apply And.intro | apply condP <;> intro _
 all_goals first | (show chk _ _ = true; kernel_rfl) | assumption | rfl | (simp only [go_sem, *] <;> rfl)
theorem mMid_ok (m : List (List J)) (p : Int) (h : (bif rightM m then rng p 8 256 else false) = true) : Ct Tryz.prog 47 [mA_ m, iA p] (· = qxe (eachN (fun i => oneN (fun y => midX y p) (m.getD i [])) m.length)) := by
 have hR : rightM m = true := by
  cases h1 : rightM m with
  | false => rw [h1] at h; cases h
  | true => rfl
 obtain ⟨⟨n1, n2⟩, qa⟩ := rightM_sq hR
 refine ct_of (O := orO (hoO 110 1 (hpin [[.sl false 1 m.length (m.map rC)], [.lit (.int .i64 p)]] 111 [iA (m.length : Int)] (qxe (eachN (fun i => oneN (fun y => midX y p) (m.getD i [])) m.length)))) (tblO Tm_rights)) (by kernel_rfl) tyM_ok (fun w => hoO_or (hoO_ok (ent Tryz.func110 (by kernel_rfl) rfl) (fun ls c xs e he hp S w' gs hb ht' hL => by
  injection he with he; subst he
  obtain ⟨rfl, rfl, rfl⟩ := hp
  exact eachP (F := fun i => oneN (fun y => midX y p) (m.getD i [])) ht' (cl_mid hL) n1 (by omega))) (tblO_ok Tm_rights_ok _ w) (fun _ _ _ => tblO_none fun _ => one_none (by decide))) [] 600 17 [.tmp 4, .tmp 5] Tryz.func47 rfl Tryz.ntmps47 (by rw [Tryz.results47]) (by simp) rfl (fun hsm => ?_)
 simp (maxSteps := 10000000) only [go_sem, seval, reduceCtorEq, Tm_rights, asMM_1, asMM_2, h, bxe, pxe, lpf, hdS, hd1, pick, forget, frh, frz, frS, frA, frL]
 repeat' with_reducible first | apply And.intro | apply condP <;> intro _
 all_goals first | (show chk _ _ = true; kernel_rfl) | assumption | rfl | (simp only [go_sem, *, hoO, hoK, hpin] <;> rfl)
theorem mMid (m : List (List J)) (p : Int) : Ct Tryz.prog 47 [mA_ m, iA p] (· = qxe (frm (okM m p) (eachN (fun i => oneN (fun y => midX y p) (m.getD i [])) m.length))) := by
 unfold frm okM
 cases h : (bif rightM m then rng p 8 256 else false) with
 | false => exact mMid_e0 m p h
 | true => exact mMid_ok m p h
theorem mVec_e0 (m : List (List J)) (b : List J) (p : Int) (h : (bif rightM m then rng p 8 256 else false) = false) : Ct Tryz.prog 29 [mA_ m, bA_ b, iA p] (· = bxe ([], 1)) := by
 refine ct_of (O := tblO (orT Tm_rights Tw_Right)) (by kernel_rfl) tyM_ok (fun w => tblO_ok (orT_ok Tm_rights_ok Tw_Right_ok) _ w) [] 600 33 [.tmp 6, .tmp 7] Tryz.func29 rfl Tryz.ntmps29 (by rw [Tryz.results29]) (by simp) rfl (fun hsm => ?_)
 simp (maxSteps := 10000000) only [go_sem, seval, reduceCtorEq, Tm_rights, Tw_Right, asMM_1, asMM_2, h]
 repeat' with_reducible first | apply And.intro | apply condP <;> intro _
 all_goals first | (show chk _ _ = true; kernel_rfl) | assumption | rfl | (simp only [go_sem, *] <;> rfl)
theorem mVec_e1 (m : List (List J)) (b : List J) (p : Int) (h : (bif rightM m then rng p 8 256 else false) = true) (hb0 : rightB b = false) : Ct Tryz.prog 29 [mA_ m, bA_ b, iA p] (· = bxe ([], 1)) := by
 refine ct_of (O := tblO (orT Tm_rights Tw_Right)) (by kernel_rfl) tyM_ok (fun w => tblO_ok (orT_ok Tm_rights_ok Tw_Right_ok) _ w) [] 600 33 [.tmp 6, .tmp 7] Tryz.func29 rfl Tryz.ntmps29 (by rw [Tryz.results29]) (by simp) rfl (fun hsm => ?_)
 simp (maxSteps := 10000000) only [go_sem, seval, reduceCtorEq, Tm_rights, Tw_Right, asMM_1, asMM_2, h, hb0]
 repeat' with_reducible first | apply And.intro | apply condP <;> intro _
 all_goals first | (show chk _ _ = true; kernel_rfl) | assumption | rfl | (simp only [go_sem, *] <;> rfl)
theorem mVec_e2 (m : List (List J)) (b : List J) (p : Int) (h : (bif rightM m then rng p 8 256 else false) = true) (hb0 : rightB b = true) (hl : ((m.length : Int) != (b.length : Int)) = true) : Ct Tryz.prog 29 [mA_ m, bA_ b, iA p] (· = bxe ([], 1)) := by
 refine ct_of (O := tblO (orT Tm_rights Tw_Right)) (by kernel_rfl) tyM_ok (fun w => tblO_ok (orT_ok Tm_rights_ok Tw_Right_ok) _ w) [] 600 33 [.tmp 6, .tmp 7] Tryz.func29 rfl Tryz.ntmps29 (by rw [Tryz.results29]) (by simp) rfl (fun hsm => ?_)
 simp (maxSteps := 10000000) only [go_sem, seval, reduceCtorEq, Tm_rights, Tw_Right, asMM_1, asMM_2, h, hb0, hl]
 repeat' with_reducible first | apply And.intro | apply condP <;> intro _
 all_goals first | (show chk _ _ = true; kernel_rfl) | assumption | rfl | (simp only [go_sem, *] <;> rfl)
theorem mVec_ok (m : List (List J)) (b : List J) (p : Int) (h : (bif rightM m then rng p 8 256 else false) = true) (hb0 : rightB b = true) (hl : ((m.length : Int) != (b.length : Int)) = false) : Ct Tryz.prog 29 [mA_ m, bA_ b, iA p] (· = bxe (eachN (fun i => totN zJ (fun k => mulJ (at2 m i k) (b.getD k zJ) p) (fun s x => addJ s x p) m.length) m.length)) := by
 have hR : rightM m = true := by
  cases h1 : rightM m with
  | false => rw [h1] at h; cases h
  | true => rfl
 obtain ⟨⟨n1, n2⟩, qa⟩ := rightM_sq hR
 have hab : m.length = b.length := by have : (m.length : Int) = (b.length : Int) := by simpa using hl
                                      omega
 refine ct_of (O := orO (hoO 76 1 (hpin [[.lit (.int .i64 (m.length : Int))], [.lit (.int .i64 p)], [.sl false 1 m.length (m.map rC)], [.sl false 6 b.length (bC b)]] 80 [iA (m.length : Int)] (bxe (eachN (fun i => totN zJ (fun k => mulJ (at2 m i k) (b.getD k zJ) p) (fun s x => addJ s x p) m.length) m.length)))) (tblO (orT Tm_rights Tw_Right))) (by kernel_rfl) tyM_ok (fun w => hoO_or (hoO_ok (ent Tryz.func76 (by kernel_rfl) rfl) (fun ls c xs e he hp S w' gs hb ht' hL => by
  injection he with he; subst he
  obtain ⟨rfl, rfl, rfl⟩ := hp
  exact eachJ (F := fun i => totN zJ (fun k => mulJ (at2 m i k) (b.getD k zJ) p) (fun s x => addJ s x p) m.length) ht' (cl_vec1 qa hab.symm (by omega) hL) n1 (by omega))) (tblO_ok (orT_ok Tm_rights_ok Tw_Right_ok) _ w) (fun _ _ _ => tblO_none fun _ => orT_none (one_none (by decide)) (one_none (by decide)))) [] 600 33 [.tmp 6, .tmp 7] Tryz.func29 rfl Tryz.ntmps29 (by rw [Tryz.results29]) (by simp) rfl (fun hsm => ?_)
 simp (maxSteps := 10000000) only [go_sem, seval, reduceCtorEq, Tm_rights, Tw_Right, asMM_1, asMM_2, h, hb0, hl, bxe, pxe, lpf, hdS, hd1, pick, forget, frh, frz, frS, frA, frL]
 repeat' with_reducible first | apply And.intro | apply condP <;> intro _
 all_goals first | (show chk _ _ = true; kernel_rfl) | assumption | rfl | (simp only [go_sem, *, hoO, hoK, hpin] <;> rfl)
def okV (m : List (List J)) (b : List J) (p : Int) : Bool := bif (bif rightM m then rng p 8 256 else false) then (bif rightB b then !((m.length : Int) != (b.length : Int)) else false) else false
theorem mVec (m : List (List J)) (b : List J) (p : Int) : Ct Tryz.prog 29 [mA_ m, bA_ b, iA p] (· = bxe (frm (okV m b p) (eachN (fun i => totN zJ (fun k => mulJ (at2 m i k) (b.getD k zJ) p) (fun s x => addJ s x p) m.length) m.length))) := by
 unfold frm okV
 cases h : (bif rightM m then rng p 8 256 else false) with
 | false => exact mVec_e0 m b p h
 | true =>
  cases hb0 : rightB b with
  | false => exact mVec_e1 m b p h hb0
  | true =>
   cases hl : ((m.length : Int) != (b.length : Int)) with
   | true => exact mVec_e2 m b p h hb0 hl
   | false => exact mVec_ok m b p h hb0 hl
end
section
attribute [local go_sem] tyM tiQ tiMM gA gE asZ asT asV1 asN1 asB_b asP_b asM_m asQ_m ite_self hoO hoK hpin hoO2 hoK2 hpin2
noncomputable def mxN (l : List X) : Nat → X
 | 0 => l.getD 0 zX
 | j + 1 => bif decide (0 < cmpx (l.getD (j + 1) zX) (mxN l j)) then l.getD (j + 1) zX else mxN l j
theorem maxX {w : World} {f : FuncId} {caps : List Value} (ht : Tab w) (hf : Fv Tryz.prog w f caps (gNN fun a b => (True, iA (cmpx a b)))) (l : List X) (n : Nat) (hn : l.length = n + 1) (h2 : n ≤ 1000) : Hc Tryz.prog w 98 [pA_ l, fvA f caps] (.v true (mxN l n).L) := by
 have c1 : decide ((l.length : Int) < 1) = false := decide_eq_false (by omega)
 have g00 : (0 < l.length) = True := eq_true (by omega)
 have e00 : List.take 3 (pC l) = [.lit (.bool (l.getD 0 zX).s), .lit (.int .i64 (l.getD 0 zX).e), .ws (l.getD 0 zX).xs] := by have := pC_at' (at_get zX (show 0 < l.length by omega)); simpa using this
 refine hc_of (O := orO (fvO 2 f caps (gNN fun a b => (True, iA (cmpx a b)))) (tblO noT)) (by kernel_rfl) tyM_ok (fvO_or (fvO_ok hf) (tblO_ok noT_ok _ w) (fun g d st args h => tbn)) ht [9999999, 0, 2, 8, 9, 10, 11, 12] ((n + 1) * 200 + 100) 33 [.cell 4 37] Tryz.func98 rfl Tryz.ntmps98 (by rw [Tryz.results98]) (by simp) rfl (fun hsm => ?_)
 simp (maxSteps := 10000000) only [go_sem, seval, reduceCtorEq, c1, g00, e00]
 refine loop_ind 200 (fun j => [(0, pA_ l), (2, fvA f caps), (8, .s (.own 4 0)), (9, .v true zX.L), (10, .s (.own 5 0)), (11, .v true (mxN l j).L), (12, iA ((j + 1 : Nat) : Int))]) n (fun j => True) 0 (fun j _ => rfl) (fun j mm _ hj _ ih => ?_) (by omega) trivial rfl
 rcases Nat.lt_or_ge j n with hlt | hge
 ·have e1 := pC_at' (at_get zX (show j + 1 < l.length by omega))
  have d := decide_eq_true (show ((j + 1 : Nat) : Int) < (l.length : Int) by omega)
  have g1 : (j + 1 < l.length) = True := eq_true (by omega)
  have g0 : (0 ≤ ((j + 1 : Nat) : Int)) = True := eq_true (by omega)
  have hw := wrap_nat (j := j + 1) (by omega)
  replace ih := ih hlt trivial
  cases hc : decide (0 < cmpx (l.getD (j + 1) zX) (mxN l j)) with
  | false =>
   have hm : mxN l (j + 1) = mxN l j := by show (bif _ then _ else _) = _; rw [hc]; rfl
   rw [hm] at ih
   simp (maxSteps := 10000000) only [go_sem, seval, reduceCtorEq, d, g0, g1, hw, e1, hc]
   repeat' with_reducible first | apply And.intro | apply condP <;> intro _
   all_goals first | (show chk _ _ = true; kernel_rfl) | (exact ih _ _ rfl) | assumption | rfl
  | true =>
   have hm : mxN l (j + 1) = l.getD (j + 1) zX := by show (bif _ then _ else _) = _; rw [hc]; rfl
   rw [hm] at ih
   simp (maxSteps := 10000000) only [go_sem, seval, reduceCtorEq, d, g0, g1, hw, e1, hc]
   repeat' with_reducible first | apply And.intro | apply condP <;> intro _
   all_goals first | (show chk _ _ = true; kernel_rfl) | (exact ih _ _ rfl) | assumption | rfl
 ·have hj2 : j = n := by omega
  subst hj2
  have d := decide_eq_false (show ¬ ((j + 1 : Nat) : Int) < (l.length : Int) by omega)
  have dn : (j + 1 < l.length) = False := eq_false (by omega)
  simp (maxSteps := 10000000) only [go_sem, seval, reduceCtorEq, dn]
  repeat' with_reducible first | apply And.intro | apply condP <;> intro _
  all_goals first | (show chk _ _ = true; kernel_rfl) | assumption | rfl | (simp only [go_sem, *] <;> rfl)
theorem mNrm_e0 (m : List (List J)) (p : Int) (h : (bif rightM m then rng p 8 256 else false) = false) : Ct Tryz.prog 36 [mA_ m, iA p] (· = xeA (zX, 1)) := by
 refine ct_of (O := tblO Tm_rights) (by kernel_rfl) tyM_ok (fun w => tblO_ok Tm_rights_ok _ w) [] 600 29 [.cell 4 37, .tmp 5] Tryz.func36 rfl Tryz.ntmps36 (by rw [Tryz.results36]) (by simp) rfl (fun hsm => ?_)
 simp (maxSteps := 10000000) only [go_sem, seval, reduceCtorEq, Tm_rights, asMM_1, asMM_2, h, bxe, pxe, lpf, hdS, hd1, pick, forget, frh, frz, frS, frA, frL]
 repeat' with_reducible first | apply And.intro | apply condP <;> intro _
 all_goals first | (show chk _ _ = true; kernel_rfl) | assumption | rfl | (simp only [go_sem, *] <;> rfl)
theorem mNrm_e1 (m : List (List J)) (p e : Int) (h : (bif rightM m then rng p 8 256 else false) = true) (he : eachN (fun i => totN zX (fun k => (magJ (at2 m i k), 0)) (upX p) m.length) m.length = ([], e)) (he2 : (e != 0) = true) : Ct Tryz.prog 36 [mA_ m, iA p] (· = xeA (zX, e)) := by
 have hR : rightM m = true := by
  cases h1 : rightM m with
  | false => rw [h1] at h; cases h
  | true => rfl
 obtain ⟨⟨n1, n2⟩, qa⟩ := rightM_sq hR
 have hE : ∀ {S : Nat → Prop} {w : World} {gs : List Nat}, Tab w → Lent S w gs [[.sl false 1 m.length (m.map rC)], [.lit (.int .i64 (m.length : Int))], [.lit (.int .i64 p)]] → Hc Tryz.prog w 91 [iA (m.length : Int), fvA 92 (ptrs gs)] (pxe (eachN (fun i => totN zX (fun k => (magJ (at2 m i k), 0)) (upX p) m.length) m.length)) := fun ht' hL => eachX (F := fun i => totN zX (fun k => (magJ (at2 m i k), 0)) (upX p) m.length) ht' (cl_nrm1 qa (by omega) hL) n1 (by omega)
 rw [he] at hE
 refine ct_of (O := orO (hoO 91 1 (hpin [[.sl false 1 m.length (m.map rC)], [.lit (.int .i64 (m.length : Int))], [.lit (.int .i64 p)]] 92 [iA (m.length : Int)] (pxe ([], e)))) (tblO Tm_rights)) (by kernel_rfl) tyM_ok (fun w => hoO_or (hoO_ok (ent Tryz.func91 (by kernel_rfl) rfl) (fun ls c xs e he hp S w' gs hb ht' hL => by
  injection he with he; subst he
  obtain ⟨rfl, rfl, rfl⟩ := hp
  exact hE ht' hL)) (tblO_ok Tm_rights_ok _ w) (fun _ _ _ => tblO_none fun _ => one_none (by decide))) [] 600 29 [.cell 4 37, .tmp 5] Tryz.func36 rfl Tryz.ntmps36 (by rw [Tryz.results36]) (by simp) rfl (fun hsm => ?_)
 simp (maxSteps := 10000000) only [go_sem, seval, reduceCtorEq, Tm_rights, asMM_1, asMM_2, h, he2, bxe, pxe, lpf, hdS, hd1, pick, forget, frh, frz, frS, frA, frL]
 repeat' with_reducible first | apply And.intro | apply condP <;> intro _
 all_goals first | (show chk _ _ = true; kernel_rfl) | assumption | rfl | (simp only [go_sem, *, hoO, hoK, hpin] <;> rfl)
theorem hoO_no {f g : FuncId} {n : Nat} {kk : HK} {d : Nat} {st : St} {args : List AV} (h : f ≠ g) : hoO g n kk f d st args = none := by
 unfold hoO; rw [if_neg h]
theorem orO_none {A B : Orac} {f : FuncId} {d : Nat} {st : St} {args : List AV} (h1 : A f d st args = none) (h2 : B f d st args = none) : orO A B f d st args = none := by
 unfold orO; rw [h1]; exact h2
theorem mNrm_ok (m : List (List J)) (p : Int) (x : X) (r : List X) (h : (bif rightM m then rng p 8 256 else false) = true) (he : eachN (fun i => totN zX (fun k => (magJ (at2 m i k), 0)) (upX p) m.length) m.length = (x :: r, 0)) (hx : r.length ≤ 1000) : Ct Tryz.prog 36 [mA_ m, iA p] (· = xeA (mxN (x :: r) r.length, 0)) := by
 have hR : rightM m = true := by
  cases h1 : rightM m with
  | false => rw [h1] at h; cases h
  | true => rfl
 obtain ⟨⟨n1, n2⟩, qa⟩ := rightM_sq hR
 have hE : ∀ {S : Nat → Prop} {w : World} {gs : List Nat}, Tab w → Lent S w gs [[.sl false 1 m.length (m.map rC)], [.lit (.int .i64 (m.length : Int))], [.lit (.int .i64 p)]] → Hc Tryz.prog w 91 [iA (m.length : Int), fvA 92 (ptrs gs)] (pxe (eachN (fun i => totN zX (fun k => (magJ (at2 m i k), 0)) (upX p) m.length) m.length)) := fun ht' hL => eachX (F := fun i => totN zX (fun k => (magJ (at2 m i k), 0)) (upX p) m.length) ht' (cl_nrm1 qa (by omega) hL) n1 (by omega)
 rw [he] at hE
 refine ct_of (O := orO (hoO 91 1 (hpin [[.sl false 1 m.length (m.map rC)], [.lit (.int .i64 (m.length : Int))], [.lit (.int .i64 p)]] 92 [iA (m.length : Int)] (pxe (x :: r, 0)))) (orO (hoO 98 1 (hpin [] 99 [pA_ (x :: r)] (.v true (mxN (x :: r) r.length).L))) (tblO Tm_rights))) (by kernel_rfl) tyM_ok (fun w => hoO_or (hoO_ok (ent Tryz.func91 (by kernel_rfl) rfl) (fun ls c xs e he hp S w' gs hb ht' hL => by
  injection he with he; subst he
  obtain ⟨rfl, rfl, rfl⟩ := hp
  exact hE ht' hL)) (hoO_or (hoO_ok (ent Tryz.func98 (by kernel_rfl) rfl) (fun ls c xs e he hp S w' gs hb ht' hL => by
  injection he with he; subst he
  obtain ⟨rfl, rfl, rfl⟩ := hp
  obtain rfl : gs = [] := List.eq_nil_of_length_eq_zero hL.1
  exact maxX ht' (fvT Tnum_Cmp_ok (ent Tryz.func99 (by kernel_rfl) rfl)) _ r.length rfl hx)) (tblO_ok Tm_rights_ok _ w) (fun _ _ _ => tblO_none fun _ => one_none (by decide))) (fun _ _ _ => orO_none (hoO_no (by decide)) (tblO_none fun _ => one_none (by decide)))) [] 600 29 [.cell 4 37, .tmp 5] Tryz.func36 rfl Tryz.ntmps36 (by rw [Tryz.results36]) (by simp) rfl (fun hsm => ?_)
 simp (maxSteps := 10000000) only [go_sem, seval, reduceCtorEq, Tm_rights, asMM_1, asMM_2, h, bxe, pxe, lpf, hdS, hd1, pick, forget, frh, frz, frS, frA, frL]
 repeat' with_reducible first | apply And.intro | apply condP <;> intro _
 all_goals first | (show chk _ _ = true; kernel_rfl) | assumption | rfl | (simp only [go_sem, *, hoO, hoK, hpin] <;> rfl)
theorem eachN_bad {α : Type} {F : Nat → α × Int} {n : Nat} (h : ((eachN F n).2 != 0) = true) : eachN F n = ([], (eachN F n).2) := by
 induction n with
 | zero => cases h
 | succ n ih =>
  cases h1 : (eachN F n).2 != 0 with
  | true => rw [eachN_stop (n := n + 1) h1 (Nat.le_succ n)]; exact ih h1
  | false =>
   have h1 : (eachN F n).2 = 0 := by simpa using h1
   cases hF : (F n).2 != 0 with
   | true => rw [eachN_err h1 hF]
   | false =>
    have hF : (F n).2 = 0 := by simpa using hF
    rw [eachN_ok h1 hF] at h; cases h
noncomputable def grt (r : List X × Int) : X × Int := bif r.2 != 0 then (zX, r.2) else (mxN r.1 (r.1.length - 1), 0)
noncomputable def normM (m : List (List J)) (p : Int) : X × Int := bif okM m p then grt (eachN (fun i => totN zX (fun k => (magJ (at2 m i k), 0)) (upX p) m.length) m.length) else (zX, 1)
theorem mNrm (m : List (List J)) (p : Int) : Ct Tryz.prog 36 [mA_ m, iA p] (· = xeA (normM m p)) := by
 unfold normM okM
 cases h : (bif rightM m then rng p 8 256 else false) with
 | false => exact mNrm_e0 m p h
 | true =>
  have h' := h
  have hR : rightM m = true := by
   cases h1 : rightM m with
   | false => rw [h1] at h; cases h
   | true => rfl
  obtain ⟨⟨n1, n2⟩, qa⟩ := rightM_sq hR
  rw [cond_true]
  cases he2 : (eachN (fun i => totN zX (fun k => (magJ (at2 m i k), 0)) (upX p) m.length) m.length).2 != 0 with
  | true =>
   have he := eachN_bad he2
   unfold grt
   rw [he2, cond_true]
   exact mNrm_e1 m p _ h he he2
  | false =>
   have h0 : (eachN (fun i => totN zX (fun k => (magJ (at2 m i k), 0)) (upX p) m.length) m.length).2 = 0 := by simpa using he2
   have hl := eachN_len h0
   unfold grt
   rw [he2, cond_false]
   have hq : eachN (fun i => totN zX (fun k => (magJ (at2 m i k), 0)) (upX p) m.length) m.length = ((eachN (fun i => totN zX (fun k => (magJ (at2 m i k), 0)) (upX p) m.length) m.length).1, 0) := Prod.ext rfl h0
   generalize (eachN (fun i => totN zX (fun k => (magJ (at2 m i k), 0)) (upX p) m.length) m.length).1 = s at hl hq ⊢
   cases s with
   | nil => simp at hl; omega
   | cons x r => exact mNrm_ok m p x r h hq (by simp at hl; omega)
noncomputable def TmNrm : Tbl := one 36 (gA asM fun m => gA asZ fun p => gE (True, xeA (normM m p)))
theorem TmNrm_ok : TbOK Tryz.prog TmNrm := one_t (ent Tryz.func36 (by kernel_rfl) rfl) (.a asM_ok fun m => .a asZ_ok fun p => .e fun _ => mNrm m p)
noncomputable def oX : X := qx (ofz 1 0)
noncomputable def oJ : J := ⟨oX, oX⟩
noncomputable def idR (n j : Nat) : List J := List.replicate j zJ ++ oJ :: List.replicate (n - 1 - j) zJ
noncomputable def idM (n : Nat) : List (List J) := (List.range n).map (idR n)
theorem idR_len {n j : Nat} (h : j < n) : (idR n j).length = n := by unfold idR; simp; omega
theorem idM_len (n : Nat) : (idM n).length = n := by unfold idM; simp
theorem idM_step {n j : Nat} (h : j < n) : (idM n).take (j + 1) = (idM n).take j ++ [idR n j] := by
 unfold idM
 rw [List.take_add_one, List.getElem?_map, List.getElem?_range h]; rfl
theorem fm_rep {α : Type} {g : α → List Lf} {a : α} : ∀ (k : Nat), (List.replicate k a).flatMap g = (List.replicate k (g a)).flatten := by
 intro k
 induction k with
 | zero => rfl
 | succ k ih => rw [List.replicate_succ, List.replicate_succ, List.flatMap_cons, List.flatten_cons, ih]
theorem cut_rep {z a : List Lf} {s n j : Nat} (hz : z.length = s) (h : j < n) : List.take (j * s) (List.replicate n z).flatten ++ a ++ List.drop (j * s + s) (List.replicate n z).flatten = (List.replicate j z).flatten ++ (a ++ (List.replicate (n - 1 - j) z).flatten) := by
 have h1 : ∀ k, (List.replicate k z).flatten.length = k * s := fun k => rep_len hz k
 obtain ⟨k, rfl⟩ : ∃ k, n = j + (1 + k) := ⟨n - 1 - j, by omega⟩
 rw [← List.replicate_append_replicate, ← List.replicate_append_replicate, List.flatten_append, List.flatten_append]
 have h2 := h1 j
 have h3 := h1 1
 rw [List.take_append_of_le_length (by omega), List.take_of_length_le (by omega)]
 rw [List.drop_append, List.drop_of_length_le (by omega), h2, List.nil_append, show j * s + s - j * s = s by omega, List.drop_append_of_le_length (by omega), List.drop_of_length_le (by omega), List.nil_append, show j + (1 + k) - 1 - j = k by omega, List.append_assoc]
theorem put_at {C : List Lf} {v : Lf} {i : Nat} (h : i < C.length) : (List.take i C ++ [v] ++ List.drop (i + 1) C)[i]? = some v := by
 have h1 : (List.take i C).length = i := by rw [List.length_take]; omega
 rw [List.append_assoc, List.getElem?_append_right (by omega), h1, Nat.sub_self]; rfl
theorem put_len {C : List Lf} {v : Lf} {i : Nat} (h : i < C.length) : (List.take i C ++ [v] ++ List.drop (i + 1) C).length = C.length := by
 simp only [List.length_append, List.length_take, List.length_drop, List.length_cons, List.length_nil]; omega
theorem idR_cells {n j : Nat} (h : j < n) : List.take (j * 6) (List.replicate n zJ.L).flatten ++ oJ.L ++ List.drop (j * 6 + 6) (List.replicate n zJ.L).flatten = (idR n j).flatMap J.L := by
 rw [cut_rep (s := 6) rfl h]
 unfold idR
 rw [List.flatMap_append, List.flatMap_cons, fm_rep, fm_rep]
theorem id_head {n j : Nat} (h : j < n) : frz 17 [(0, iA (n : Int)), (6, .s (.osl 9 n)), (19, .v true (List.take (j * 1) (cW_ n ((idM n).take j)) ++ [.osl 17 n] ++ List.drop (j * 1 + 1) (cW_ n ((idM n).take j)))), (20, iA (n : Int)), (22, iA ((j + 1 : Nat) : Int)), (35, .v true ((idR n j).flatMap J.L))] = [(0, iA (n : Int)), (6, .s (.osl 9 n)), (19, .v true (cW_ n ((idM n).take (j + 1)))), (20, iA (n : Int)), (22, iA ((j + 1 : Nat) : Int))] := by
 have hd : dnT ((idR n j).flatMap J.L) = some (bC (idR n j)) := dnT_fm dnT_J _
 have hl : ((idR n j).flatMap J.L).length = n * 6 := by rw [fm_len (s := 6) (fun _ => rfl), idR_len h]
 have hq : n * 6 / n = 6 := Nat.mul_div_cancel_left _ (by omega)
 have hw := cW_set (n := n) (idR n j) (l := (idM n).take j) (j := j) (by rw [List.length_take, idM_len]; omega) h
 rw [idR_len h, ← idM_step h] at hw
 unfold frz
 generalize hs : ([(0, iA (n : Int)), (6, .s (.osl 9 n)), (19, .v true (List.take (j * 1) (cW_ n ((idM n).take j)) ++ [.osl 17 n] ++ List.drop (j * 1 + 1) (cW_ n ((idM n).take j)))), (20, iA (n : Int)), (22, iA ((j + 1 : Nat) : Int)), (35, .v true ((idR n j).flatMap J.L))] : St) = s0
 have hk : look s0 (2 * 17 + 1) = some (.v true ((idR n j).flatMap J.L)) := by rw [← hs]; rfl
 rw [hk]
 simp only [hd]
 have ho : outL s0 (.osl 17 n) = .sl true 6 n (bC (idR n j)) := by
  show (match look s0 (2 * 17 + 1) with
   | some (AV.v true ls) => (match dnT ls with
    | some ls' => if 17 < 1000 ∧ ls.length = n * (ls.length / n) then Lf.sl true (ls.length / n) n ls' else Lf.osl 17 n
    | none => Lf.osl 17 n)
   | _ => Lf.osl 17 n) = _
  rw [hk]
  simp only [hd, hl, hq, Nat.reduceLT, and_self, if_true]
 have f1 := fr_id (b := 17) (st := s0) (all_take (cW_no (n := n) (l := (idM n).take j)) (j * 1))
 have f2 := fr_id (b := 17) (st := s0) (all_drop (cW_no (n := n) (l := (idM n).take j)) (j * 1 + 1))
 have key : frA 17 s0 (.v true (List.take (j * 1) (cW_ n ((idM n).take j)) ++ [.osl 17 n] ++ List.drop (j * 1 + 1) (cW_ n ((idM n).take j)))) = .v true (cW_ n ((idM n).take (j + 1))) := by
  show AV.v true (List.map (frL 17 s0) _) = _
  rw [List.map_append, List.map_append, f1, f2, List.map_cons, List.map_nil, frL_osl, ho, ← hw]; rfl
 rw [← hs]
 show (0, _) :: (6, _) :: (19, frA 17 _ _) :: (20, _) :: (22, _) :: [] = _
 rw [hs, key]
 rfl
theorem mId0 (z : Int) (h : rng z 1 4 = false) : Ct Tryz.prog 15 [iA z] (· = .s (.sl true 1 0 [])) := by
 refine Ct.wk ?_ (wk_one (l := .lit (.slice none 0 0)) (fun _ _ _ _ h => nil_sl h) rfl)
 refine ct_of (O := tblO Tm_range) (by kernel_rfl) tyM_ok (fun w => tblO_ok Tm_range_ok _ w) [] 600 29 [.tmp 2] Tryz.func15 rfl Tryz.ntmps15 (by rw [Tryz.results15]) (by simp) rfl (fun hsm => ?_)
 simp (maxSteps := 10000000) only [go_sem, seval, reduceCtorEq, Tm_range, h, bxe, pxe, lpf, hdS, hd1, pick, forget, frh, frz, frS, frA, frL]
 repeat' with_reducible first | apply And.intro | apply condP <;> intro _
 all_goals first | (show chk _ _ = true; kernel_rfl) | assumption | rfl | (simp only [go_sem, *] <;> rfl)
theorem mId1 (n : Nat) (h : rng (n : Int) 1 4 = true) : Ct Tryz.prog 15 [iA (n : Int)] (· = .s (.sl true 1 (idM n).length ((idM n).map rC))) := by
 have hr := rng_true h
 have c1 : (0 ≤ (n : Int)) = True := eq_true (by omega)
 have c2 : ((n : Int) ≤ 1000) = True := eq_true (by omega)
 have e0 : (List.replicate n [Lf.lit (.slice none 0 0)]).flatten = cW_ n ([] : List (List J)) := (cA_nil (cf := fun r : List J => [.sl true 6 r.length (bC r)]) (zf := [.lit (.slice none 0 0)])).symm
 refine ct_of (O := tblO (orT Tm_range (orT Tnum_Int Tiv_Of))) (by kernel_rfl) tyM_ok (fun w => tblO_ok (orT_ok Tm_range_ok (orT_ok Tnum_Int_ok Tiv_Of_ok)) _ w) [9999998, 17, 9999999, 0, 6, 19, 20, 22, 35] ((n + 1) * 300 + 200) 29 [.tmp 2] Tryz.func15 rfl Tryz.ntmps15 (by rw [Tryz.results15]) (by simp) rfl (fun hsm => ?_)
 simp (maxSteps := 10000000) only [go_sem, seval, reduceCtorEq, Tm_range, Tnum_Int, Tiv_Of, h, c1, c2, e0]
 refine loop_ind 300 (fun j => [(0, iA (n : Int)), (6, .s (.osl 9 n)), (19, .v true (cW_ n ((idM n).take j))), (20, iA (n : Int)), (22, iA (j : Int))]) n (fun j => True) 0 (fun j _ => by simp only [List.all_cons, List.all_nil, mentA, ment, cW_me, Bool.and_true]; rfl) (fun j mm _ hj _ ih => ?_) (by omega) trivial rfl
 have hlj : ((idM n).take j).length = j := by rw [List.length_take, idM_len]; omega
 rcases Nat.lt_or_ge j n with hlt | hge
 ·have hl := cW_len (n := n) (l := (idM n).take j) (by omega)
  have d := decide_eq_true (show (j : Int) < (n : Int) by omega)
  have g1 : (j < n) = True := eq_true hlt
  have g0 : (0 ≤ (j : Int)) = True := eq_true (by omega)
  have hw := wrap_nat (j := j) (by omega)
  have d0 : ((j : Int) < (n : Int)) = True := eq_true (by omega)
  have g3 : (j * 1 + 1 ≤ n * 1) = True := eq_true (by omega)
  have g4 : (j * 6 + 6 ≤ n * 6) = True := eq_true (by omega)
  have ld := put_at (v := Lf.osl 17 n) (C := cW_ n ((idM n).take j)) (i := j * 1) (by omega)
  have hl2 := (put_len (v := Lf.osl 17 n) (C := cW_ n ((idM n).take j)) (i := j * 1) (by omega)).trans hl
  have hz : (List.replicate n ([.lit (.bool false), .lit (.int .i64 0), .ws [], .lit (.bool false), .lit (.int .i64 0), .ws []] : List Lf)).flatten.length = n * 6 := rep_len rfl n
  have ec : List.take (j * 6) (List.replicate n ([.lit (.bool false), .lit (.int .i64 0), .ws [], .lit (.bool false), .lit (.int .i64 0), .ws []] : List Lf)).flatten ++ [.lit (.bool (qx (ofz 1 0)).s), .lit (.int .i64 (qx (ofz 1 0)).e), .ws (qx (ofz 1 0)).xs, .lit (.bool (qx (ofz 1 0)).s), .lit (.int .i64 (qx (ofz 1 0)).e), .ws (qx (ofz 1 0)).xs] ++ List.drop (j * 6 + 6) (List.replicate n ([.lit (.bool false), .lit (.int .i64 0), .ws [], .lit (.bool false), .lit (.int .i64 0), .ws []] : List Lf)).flatten = (idR n j).flatMap J.L := idR_cells hlt
  replace ih := ih hlt trivial
  simp (maxSteps := 10000000) only [go_sem, seval, reduceCtorEq, Tm_range, Tnum_Int, Tiv_Of, hl, ld, hl2, hz, g3, g4, ec, d0, c1, c2, d, g0, g1, hw]
  repeat' with_reducible first | apply And.intro | apply condP <;> intro _
  all_goals first | (show chk _ _ = true; kernel_rfl) | assumption | rfl | skip
  exact ih _ _ (id_head hlt)
 ·have hn : j = n := by omega
  subst hn
  have d := decide_eq_false (show ¬ (j : Int) < (j : Int) by omega)
  have hl := cW_len (n := j) (l := idM j) (Nat.le_of_eq (idM_len j))
  have ht : (idM j).take j = idM j := by rw [List.take_of_length_le (Nat.le_of_eq (idM_len j))]
  have hq : j * 1 / j = 1 := Nat.mul_div_cancel_left _ (by omega)
  have hdn := cW_dn (n := j) (l := idM j) (idM_len j)
  rw [ht]
  simp (maxSteps := 10000000) only [go_sem, seval, reduceCtorEq, d, hl, hq, hdn, idM_len]
  repeat' with_reducible first | apply And.intro | apply condP <;> intro _
  all_goals first | (show chk _ _ = true; kernel_rfl) | assumption | rfl | (simp only [go_sem, *] <;> rfl)
end
end Go.Proofs.YtcpfepjdeikchaaGreatDoor
