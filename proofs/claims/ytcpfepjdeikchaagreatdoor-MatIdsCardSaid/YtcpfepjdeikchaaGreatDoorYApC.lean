/- Products of matrices hold the exact ones of points; what lies within an interval. -/
import Derived.Test.YtcpfepjdeikchaaGreatDoorYAp1
import Derived.Test.YtcpfepjdeikchaaGreatDoorYAo3
namespace Go.Proofs.YtcpfepjdeikchaaGreatDoor
open Go.RowKit Nx
set_option linter.unusedVariables false
set_option linter.unusedSimpArgs false
attribute [local irreducible] chk
theorem one_q : ofz 1 0 = ⟨false, 1, 0⟩ := by kernel_rfl
theorem times_one {a : Q} (hc : Canon a) : times a (ofz 1 0) = a := by
 have h1 : -(a.e.natAbs : Int) ≤ a.e := by omega
 have h0 : -((0 : Nat) : Int) ≤ (ofz 1 0).e := by rw [one_q]; show _ ≤ (0 : Int); omega
 have := low_times h1 h0
 refine at_inj (E := a.e.natAbs + 0) (ofz_canon _ _) hc this (by omega) ?_
 rw [at_times h1 h0, one_q]
 show _ * ((1 : Int) * 2 ^ ((0 : Int) + ((0 : Nat) : Int)).toNat) = _
 rw [show ((0 : Int) + ((0 : Nat) : Int)).toNat = 0 from rfl]
 simp
def GoodF (s : Nat) (m : List (List J)) : Prop := GoodM s m ∧ ∀ r ∈ m, ∀ j ∈ r, FewJ j
def PtsB (s : Nat) (p : List (List X)) : Prop := ∀ i, i < s → ∀ k, k < s → Bd 132 ((p.getD i []).getD k zX).q
theorem matD_goodF {xs : List Nat} {m k : Nat} (h : k + 3 * m * m ≤ 800) : GoodF m (matD xs m k).1 := ⟨matD_good h, fun r hr j hj => (((matD_rows h).2 r hr).2 j hj).2⟩
theorem inmt_bd {xs : List Nat} {s k : Nat} {m : List (List J)} (hm : GoodF s m) (hk : k + s * s ≤ 900) : PtsB s (inmt xs m k).1 := by
 intro i hi q hq
 have hi' : i < m.length := by rw [hm.1.1]; exact hi
 obtain ⟨h1, h2, h3⟩ := hm.1.row hi
 have h4 : s * (i + 1) ≤ s * s := Nat.mul_le_mul_left _ hi
 have h5 : s * (i + 1) = s * i + s := Nat.mul_succ _ _
 rw [inmt_row (s := s) (fun r hr => (hm.1.2 r hr).1) hi', inbx_get (by rw [h2]; exact hq)]
 have hj : (m.getD i []).getD q zJ ∈ m.getD i [] := List.mem_of_getElem? (at_get zJ (by rw [h2]; exact hq))
 exact (inD_spec (xs := xs) (j := (m.getD i []).getD q zJ) (k := k + s * i + q) (h3 _ hj) (by omega)).2.2 (hm.2 _ h1 _ hj)
theorem inmt_end {xs : List Nat} {s k : Nat} {m : List (List J)} (hm : GoodM s m) : (inmt xs m k).2 = k + s * s := by
 have := inmt_pos (xs := xs) (k := k) (fun r hr => (hm.2 r hr).1) m.length (Nat.le_refl _)
 unfold inmt
 rw [this, hm.1]
theorem at2_few {s i k : Nat} {m : List (List J)} (hm : GoodF s m) (hi : i < s) (hk : k < s) : Good (at2 m i k) ∧ FewJ (at2 m i k) := by
 obtain ⟨h1, h2, h3⟩ := hm.1.row hi
 have hj : at2 m i k ∈ m.getD i [] := List.mem_of_getElem? (at_get zJ (by rw [h2]; exact hk))
 exact ⟨h3 _ hj, hm.2 _ h1 _ hj⟩
abbrev px (p : List (List X)) (i k : Nat) : X := (p.getD i []).getD k zX
theorem frm_true {α : Type} (r : List α × Int) : frm true r = r := rfl
theorem mul_hold {s : Nat} {z : Int} {a b : List (List J)} {x y : List (List X)} (hz : prl z = true) (h1 : 1 ≤ s) (h4 : s ≤ 4) (ha : GoodF s a) (hb : GoodF s b) (hx : PtsM s a x) (hy : PtsM s b y) (bx : PtsB s x) (bY : PtsB s y) :
  ∃ U, frm (okMM a b z) (eachN (fun i => eachN (fun j => totN zJ (fun k => mulJ (at2 a i k) (at2 b k j) z) (fun s x => addJ s x z) a.length) a.length) a.length) = (U, 0) ∧ U.length = s ∧ ∀ i, i < s → (U.getD i []).length = s ∧ ∀ j, j < s → Good (at2 U i j) ∧ hasJ (at2 U i j) (qx (sq (fun k => (px x i k).q) (fun k => (px y k j).q) s)) = true := by
 have hok : okMM a b z = true := by
  unfold okMM
  rw [ha.1.right h1 h4, hb.1.right h1 h4, show rng z 8 256 = true from by
   unfold rng; unfold prl at hz; rw [Bool.and_eq_true] at hz; rw [hz.1, hz.2]; rfl, ha.1.1, hb.1.1, bne_self_eq_false]; rfl
 rw [hok, ha.1.1, frm_true]
 have key : ∀ i, i < s → ∀ j, j < s → ∃ r, totN zJ (fun k => mulJ (at2 a i k) (at2 b k j) z) (fun s x => addJ s x z) s = (r, 0) ∧ Good r ∧ hasJ r (qx (sq (fun k => (px x i k).q) (fun k => (px y k j).q) s)) = true := fun i hi j hj => by
  obtain ⟨_, _, h⟩ := dot_hold (js := fun k => at2 a i k) (ks := fun k => at2 b k j) (xs := fun k => px x i k) (ys := fun k => px y k j) (n := s) hz (fun k hk => ⟨(at2_few ha hi hk).1, (at2_few ha hi hk).2, (at2_few hb hk hj).1, (at2_few hb hk hj).2, ((hx.2 i hi).2 k hk).1, ((hy.2 k hk).2 j hj).1, ((hx.2 i hi).2 k hk).2, ((hy.2 k hk).2 j hj).2, bx i hi k hk, bY k hk j hj⟩) (by omega) s (Nat.le_refl _)
  obtain ⟨r, e, g, _, hr⟩ := h h1
  exact ⟨r, e, g, hr⟩
 have rows : ∀ i, i < s → (eachN (fun j => totN zJ (fun k => mulJ (at2 a i k) (at2 b k j) z) (fun s x => addJ s x z) s) s).2 = 0 := fun i hi => eachN_all fun j hj => by
  obtain ⟨r, e, _⟩ := key i hi j hj; rw [e]
 have all : (eachN (fun i => eachN (fun j => totN zJ (fun k => mulJ (at2 a i k) (at2 b k j) z) (fun s x => addJ s x z) s) s) s).2 = 0 := eachN_all rows
 refine ⟨_, Prod.ext rfl all, eachN_len all, fun i hi => ?_⟩
 have gi := (eachN_get all i hi).2
 have hrow : (eachN (fun i => eachN (fun j => totN zJ (fun k => mulJ (at2 a i k) (at2 b k j) z) (fun s x => addJ s x z) s) s) s).1.getD i [] = (eachN (fun j => totN zJ (fun k => mulJ (at2 a i k) (at2 b k j) z) (fun s x => addJ s x z) s) s).1 := by
  rw [List.getD_eq_getElem?_getD, gi]; rfl
 refine ⟨by rw [hrow]; exact eachN_len (rows i hi), fun j hj => ?_⟩
 have gj := (eachN_get (rows i hi) j hj).2
 obtain ⟨r, e, g, hr⟩ := key i hi j hj
 have he : at2 (eachN (fun i => eachN (fun j => totN zJ (fun k => mulJ (at2 a i k) (at2 b k j) z) (fun s x => addJ s x z) s) s) s).1 i j = r := by
  show ((eachN (fun i => eachN (fun j => totN zJ (fun k => mulJ (at2 a i k) (at2 b k j) z) (fun s x => addJ s x z) s) s) s).1.getD i []).getD j zJ = r
  rw [hrow, List.getD_eq_getElem?_getD, gj, e]; rfl
 rw [he]
 exact ⟨g, hr⟩
end Go.Proofs.YtcpfepjdeikchaaGreatDoor
