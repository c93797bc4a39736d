/- nat.Add, nat.Trim. -/
import Derived.Test.YtimkifkikcohgaaDoorAdd
import Derived.Test.YtimkifkikcohgaaDoorMake
import Derived.Deep.DeepCutAuto
namespace Go.Proofs.YtimkifkikcohgaaDoor
open Go.RowKit Nx

/-- The operands, the longer one first. -/
def AddCut (w : World) (lo hi S : Nat) (a b : Value) (wx : World) : Prop :=
  ∃ (A1 A2 : Option Addr) (n1 c1 n2 c2 : Nat) (p q : List Nat), a = .slice A1 n1 c1 ∧ b = .slice A2 n2 c2 ∧ w = wx ∧ n2 ≤ n1 ∧ n1 ≤ 100000000 ∧
    Hid (Rd .u64 w lo hi A1 n1 c1 p ∧ Rd .u64 w lo hi A2 n2 c2 q ∧ Small B64 p ∧ Small B64 q ∧ nval B64 p + nval B64 q = S)

set_option maxHeartbeats 1000000 in
theorem add_any (w : World) (lo hi : Nat) (A B : Option Addr) (n c m cb : Nat) (xs ys : List Nat) (ha : Rd .u64 w lo hi A n c xs) (hb : Rd .u64 w lo hi B m cb ys) (hxs : Small B64 xs) (hys : Small B64 ys)
    (hn : n ≤ 100000000) (hm : m ≤ 100000000) (hhi : hi ≤ w.heap.size) :
    Calls Tryd.prog 73 #[.slice A n c, .slice B m cb] w (NumPost w (nval B64 xs + nval B64 ys)) := by
  have ux := ulen_le hxs
  have uy := ulen_le hys
  rw [ha.1] at ux
  rw [hb.1] at uy
  have HA := Lib.hid ha; have HB := Lib.hid hb; have HX := Lib.hid hxs; have HY := Lib.hid hys
  clear ha hb hxs hys
  go_enter Tryd.func73, Tryd.ntmps73
  go_wp2_with fail
  refine (used_any w lo hi A n c xs HA.out HX.out (by omega)).mono ?_
  rintro e w' ⟨A1, c1, rfl, rfl, hA1, hc1⟩
  have H1 := Lib.hid (HA.out.used HX.out hA1 hc1)
  clear hA1 hc1
  go_wp2_with fail
  refine (used_any w lo hi B m cb ys HB.out HY.out (by omega)).mono ?_
  rintro e w' ⟨A2, c2, rfl, rfl, hA2, hc2⟩
  have H2 := Lib.hid (HB.out.used HY.out hA2 hc2)
  clear hA2 hc2
  have hB : 2 ≤ B64 := by unfold B64; omega
  generalize ulen xs = n1 at *
  generalize ulen ys = n2 at *
  go_upto_if 14 with fail
  go_cut [0, 1] (fun a b wx => AddCut w lo hi (nval B64 xs + nval B64 ys) a b wx)
  case first =>
    by_cases h : n1 < n2
    · go_wp2_with fail
      go_meet
      exact ⟨A2, A1, n2, c2, n1, c1, _, _, rfl, rfl, rfl, by omega, by omega, Lib.hid ⟨H2.out, H1.out, small_digs hB _, small_digs hB _, by rw [nval_digs hB, nval_digs hB, Nat.add_comm]⟩⟩
    · go_wp2_with fail
      go_meet
      exact ⟨A1, A2, n1, c1, n2, c2, _, _, rfl, rfl, rfl, by omega, by omega, Lib.hid ⟨H1.out, H2.out, small_digs hB _, small_digs hB _, by rw [nval_digs hB, nval_digs hB]⟩⟩
  case rest =>
    obtain ⟨A1, A2, n1, c1, n2, c2, p, q, rfl, rfl, rfl, h12, h1b, hI⟩ := hcut
    have hmk := fun W => make64 ((n1 : Int) + 1) (n1 + 1) (by omega) (by omega) W
    obtain ⟨hp, hq, sp, sq, hS⟩ := hI.out
    obtain ⟨w2, hcp, hrow, honly⟩ := copy64 (w.alloc (zrow .u64 54 (n1 + 1))) lo hi w.heap.size (n1 + 1) n1 c1 A1 _ p (zrow_row _ _ _ w) (hp.alloc hhi _) (by simp)
    rw [List.length_replicate] at hcp
    have hpl := hp.1
    have hrow2 : Row .u64 w2 w.heap.size 54 (p ++ [0]) := by
      have e : List.drop n1 (List.replicate (n1 + 1) 0) = [0] := by rw [List.drop_replicate, Nat.add_sub_cancel_left]; rfl
      rw [e] at hrow; exact hrow
    have hb2 : Below w.heap.size w w2 := ((Below.refl _ _).alloc (Nat.le_refl _) _).trans (only_below honly (by simp) (Nat.le_refl _))
    have hq2 := Lib.hid (hq.below (hb2.mono hhi))
    have HRow := Lib.hid hrow2
    have HB2 := Lib.hid hb2
    have HP := Lib.hid (And.intro sp (And.intro sq (And.intro hS hpl)))
    have hz2 := Lib.hid hrow2.lt
    clear hrow hrow2 honly hb2 hp hq sp sq hS hpl hI H1 H2 HA HB
    go_wp2_with fail
    refine (addTo_any w2 lo hi w.heap.size 0 (n1 + 1) (n1 + 1) n2 c2 A2 [] (p ++ [0]) [] q (Row.toSeg HRow.out (by simp)) rfl (by simp [HP.out.2.2.2]) (by omega) hq2.out hhi (by omega) (HP.out.1.append (by intro x hx; simp at hx; subst hx; unfold B64; omega)) HP.out.2.1 (by omega)).mono ?_
    rintro e w3 ⟨cy, out, rfl, _, hol, hos, hov, hseg, hon3⟩
    have hr3 : Row .u64 w3 w.heap.size 54 out := by
      have : ([] ++ out ++ [] : List Nat) = out := by simp
      unfold Seg at hseg; rw [this] at hseg; exact hseg
    have hb3 : Below w.heap.size w w3 := HB2.out.trans (only_below hon3 (by have := hz2.out; omega) (Nat.le_refl _))
    have hN : nval B64 out = nval B64 xs + nval B64 ys := by
      have h1 := HP.out.2.2.1
      have h2 := nval_lt HP.out.1
      have h3 := nval_lt HP.out.2.1
      have hql := hq2.out.1
      have h4 : nval B64 (p ++ [0]) = nval B64 p := by rw [nval_snoc]; simp
      rw [h4, List.length_append, HP.out.2.2.2] at hov
      rw [HP.out.2.2.2] at h2
      rw [hql] at h3
      have h5 : B64 ^ n2 ≤ B64 ^ n1 := Nat.pow_le_pow_right (by omega) h12
      have h6 : B64 ^ (n1 + [0].length) = B64 ^ n1 * B64 := by simp [Nat.pow_succ]
      have h7 : B64 ^ n1 * 2 ≤ B64 ^ n1 * B64 := Nat.mul_le_mul_left _ hB
      rw [h6] at hov
      rcases (show cy = 0 ∨ 1 ≤ cy by omega) with e | e
      · subst e; omega
      · have h8 : B64 ^ n1 * B64 * 1 ≤ B64 ^ n1 * B64 * cy := Nat.mul_le_mul_left _ e
        omega
    have hol2 : out.length = n1 + 1 := by rw [hol]; simp [HP.out.2.2.2]
    have HR3 := Lib.hid hr3
    have HB3 := Lib.hid hb3
    have HN := Lib.hid hN
    have HOS := Lib.hid hos
    have HOL := Lib.hid hol2
    clear hr3 hb3 hN hos hol2 hol hov hseg hon3
    go_wp2_with fail
    have hrd : Rd .u64 w3 w.heap.size w3.heap.size (some ⟨w.heap.size, 0, none⟩) (n1 + 1) (n1 + 1) out := by
      have := HR3.out.rd0 (lo := w.heap.size) (hi := w3.heap.size) (c := n1 + 1) (Nat.le_refl _) HR3.out.lt (by rw [HOL.out]; omega)
      rw [HOL.out] at this; exact this
    refine (used_any w3 w.heap.size w3.heap.size (some ⟨w.heap.size, 0, none⟩) (n1 + 1) (n1 + 1) out hrd HOS.out (by omega)).mono ?_
    rintro e w' ⟨A3, c3, rfl, rfl, hA3, hc3⟩
    have hfin := hrd.used HOS.out hA3 hc3
    rw [HN.out] at hfin
    go_wp2
    go_ret
    exact ⟨_, _, _, rfl, hfin, HB3.out, HR3.out.fr hA3⟩
end Go.Proofs.YtimkifkikcohgaaDoor
