/- NatRings, walked. -/
import Derived.Test.YtcjggdcichlanaaDoorHas
namespace Go.Proofs.YtcjggdcichlanaaDoor
open Go.RowKit Nx

/-- An argument: a slice of words of any length. -/
def Arg (w : World) (A : Option Addr) (n c : Nat) (xs : List Nat) : Prop := Rd .u64 w 0 w.heap.size A n c xs ∧ Small B64 xs
theorem Arg.step {w w' : World} {A : Option Addr} {n c : Nat} {xs : List Nat} (h : Arg w A n c xs) (hb : Below w.heap.size w w') : Arg w' A n c xs := ⟨rd_step h.1 hb, h.2⟩
theorem Arg.has {w : World} {A : Option Addr} {n c : Nat} {xs : List Nat} (h : Arg w A n c xs) (hn : n ≤ 40) : Has w A n c (nval B64 xs) 40 := ⟨xs, h.1, h.2, rfl, hn⟩

theorem lens3 (w : World) (A B C : Option Addr) (n c m d k e : Nat) : Lens (w.alloc (.cells #[.slice A n c, .slice B m d, .slice C k e] 22)) w.heap.size [n, m, k] := by
  intro i l h
  have hb : Blk (w.alloc (.cells #[.slice A n c, .slice B m d, .slice C k e] 22)) w.heap.size 22 _ := Blk.new w _ _
  rw [hb.cell]
  match i, h with
  | 0, h => simp at h; subst h; exact ⟨A, c, rfl⟩
  | 1, h => simp at h; subst h; exact ⟨B, d, rfl⟩
  | 2, h => simp at h; subst h; exact ⟨C, e, rfl⟩
theorem lens2 (w : World) (A B : Option Addr) (n c m d : Nat) : Lens (w.alloc (.cells #[.slice A n c, .slice B m d] 22)) w.heap.size [n, m] := by
  intro i l h
  have hb : Blk (w.alloc (.cells #[.slice A n c, .slice B m d] 22)) w.heap.size 22 _ := Blk.new w _ _
  rw [hb.cell]
  match i, h with
  | 0, h => simp at h; subst h; exact ⟨A, c, rfl⟩
  | 1, h => simp at h; subst h; exact ⟨B, d, rfl⟩
theorem lens1 (w : World) (A : Option Addr) (n c : Nat) : Lens (w.alloc (.cells #[.slice A n c] 22)) w.heap.size [n] := by
  intro i l h
  have hb : Blk (w.alloc (.cells #[.slice A n c] 22)) w.heap.size 22 _ := Blk.new w _ _
  rw [hb.cell]
  match i, h with
  | 0, h => simp at h; subst h; exact ⟨A, c, rfl⟩

/-- What a law leaves. -/
def LawPost (w : World) (e : Ending) (w' : World) : Prop := e = .returned (.bool true) ∧ Below w.heap.size w w'

set_option maxRecDepth 100000 in
set_option maxHeartbeats 4000000 in
theorem rings_walk (w : World) (A B C : Option Addr) (n c m d k e : Nat) (xs ys zs : List Nat) (ha : Arg w A n c xs) (hb : Arg w B m d ys) (hc : Arg w C k e zs) (ht : Tab w) :
    Calls Tryd.prog 8 #[.slice A n c, .slice B m d, .slice C k e] w (LawPost w) := by
  have HA := Lib.hid ha; have HB := Lib.hid hb; have HC := Lib.hid hc; have HT := Lib.hid ht
  clear ha hb hc ht
  go_enter Tryd.func8, Tryd.ntmps8
  go_wp2_with fail
  refine (known_any w HT.out).mono ?_
  rintro _ w1 ⟨rfl, b1⟩
  have B1 := Lib.hid b1
  clear b1
  go_wp2_with fail
  refine (few_any _ w1.heap.size 3 [n, m, k] (lens3 w1 A B C n c m d k e) rfl (by omega)).mono ?_
  rintro _ w2 ⟨rfl, rfl⟩
  by_cases hall : n ≤ 40 ∧ m ≤ 40 ∧ k ≤ 40
  · obtain ⟨hn, hm, hk⟩ := hall
    rw [show ([n, m, k].all fun l => decide (l ≤ 40)) = true by simp [hn, hm, hk]]
    have B2 := Lib.hid (below_step B1.out (one_below w1 (.cells #[.slice A n c, .slice B m d, .slice C k e] 22)))
    generalize w1.alloc (.cells #[.slice A n c, .slice B m d, .slice C k e] 22) = w2 at *
    have a2 := Lib.hid ((HA.out.step B2.out).has hn); have b2 := Lib.hid ((HB.out.step B2.out).has hm); have c2 := Lib.hid ((HC.out.step B2.out).has hk)
    have hX := Lib.hid a2.out.lt; have hY := Lib.hid b2.out.lt; have hZ := Lib.hid c2.out.lt
    clear HA HB HC B1
    generalize nval B64 xs = X at *
    generalize nval B64 ys = Y at *
    generalize nval B64 zs = Z at *
    -- x := a (b + c)
    go_wp2_with fail
    refine (add_is b2.out c2.out (by omega) (by omega)).mono ?_
    rintro _ w3 ⟨A3, n3, c3, rfl, h3, b3⟩
    have B3 := Lib.hid (below_step B2.out b3); have S3 := Lib.hid (h3.has (lt_add hY.out hZ.out)); have a3 := Lib.hid (a2.out.step b3); have b3' := Lib.hid (b2.out.step b3); have c3' := Lib.hid (c2.out.step b3)
    clear B2 a2 b2 c2 b3 h3
    go_wp2_with fail
    refine (mul_is a3.out S3.out (by omega) (by omega)).mono ?_
    rintro _ w4 ⟨A4, n4, c4, rfl, h4, b4⟩
    have B4 := Lib.hid (below_step B3.out b4); have X4 := Lib.hid h4; have a4 := Lib.hid (a3.out.step b4); have b4' := Lib.hid (b3'.out.step b4); have c4' := Lib.hid (c3'.out.step b4)
    clear B3 a3 b3' c3' b4 h4 S3
    -- y := a b + c a
    go_wp2_with fail
    refine (mul_is a4.out b4'.out (by omega) (by omega)).mono ?_
    rintro _ w5 ⟨A5, n5, c5, rfl, h5, b5⟩
    have B5 := Lib.hid (below_step B4.out b5); have X5 := Lib.hid (X4.out.step b5); have P5 := Lib.hid (h5.has (lt_mul hX.out hY.out)); have a5 := Lib.hid (a4.out.step b5); have b5' := Lib.hid (b4'.out.step b5); have c5' := Lib.hid (c4'.out.step b5)
    clear B4 a4 b4' c4' b5 h5 X4
    go_wp2_with fail
    refine (mul_is c5'.out a5.out (by omega) (by omega)).mono ?_
    rintro _ w6 ⟨A6, n6, c6, rfl, h6, b6⟩
    have B6 := Lib.hid (below_step B5.out b6); have X6 := Lib.hid (X5.out.step b6); have P6 := Lib.hid (P5.out.step b6); have Q6 := Lib.hid (h6.has (lt_mul hZ.out hX.out)); have a6 := Lib.hid (a5.out.step b6); have b6' := Lib.hid (b5'.out.step b6); have c6' := Lib.hid (c5'.out.step b6)
    clear B5 a5 b5' c5' b6 h6 X5 P5
    go_wp2_with fail
    refine (add_is P6.out Q6.out (by omega) (by omega)).mono ?_
    rintro _ w7 ⟨A7, n7, c7, rfl, h7, b7⟩
    rw [show X * Y + Z * X = X * (Y + Z) by rw [Nat.mul_add, Nat.mul_comm Z X]] at h7
    have B7 := Lib.hid (below_step B6.out b7); have X7 := Lib.hid (X6.out.step b7); have Y7 := Lib.hid h7; have a7 := Lib.hid (a6.out.step b7); have b7' := Lib.hid (b6'.out.step b7); have c7' := Lib.hid (c6'.out.step b7)
    clear B6 a6 b6' c6' b7 h7 X6 P6 Q6
    go_wp2_with fail
    refine (right_is X7.out (lt_mul hX.out (lt_add hY.out hZ.out)) (by omega)).mono ?_
    rintro _ w7' ⟨rfl, rfl⟩
    go_wp2_with fail
    refine (words_is X7.out Y7.out (lt_mul hX.out (lt_add hY.out hZ.out)) (by omega)).mono ?_
    rintro _ w8 ⟨rfl, b8⟩
    have B8 := Lib.hid (below_step B7.out b8); have a8 := Lib.hid (a7.out.step b8); have b8' := Lib.hid (b7'.out.step b8); have c8' := Lib.hid (c7'.out.step b8)
    clear B7 a7 b7' c7' b8 X7 Y7
    -- (a + b) + c, a + (c + b)
    go_wp2_with fail
    refine (add_is a8.out b8'.out (by omega) (by omega)).mono ?_
    rintro _ w9 ⟨A9, n9, c9, rfl, h9, b9⟩
    have B9 := Lib.hid (below_step B8.out b9); have P9 := Lib.hid (h9.has (lt_add hX.out hY.out)); have a9 := Lib.hid (a8.out.step b9); have b9' := Lib.hid (b8'.out.step b9); have c9' := Lib.hid (c8'.out.step b9)
    clear B8 a8 b8' c8' b9 h9
    go_wp2_with fail
    refine (add_is P9.out c9'.out (by omega) (by omega)).mono ?_
    rintro _ wa ⟨Aa, na, ca, rfl, ha, ba⟩
    have Ba := Lib.hid (below_step B9.out ba); have Sa := Lib.hid ha; have aa := Lib.hid (a9.out.step ba); have ba' := Lib.hid (b9'.out.step ba); have ca' := Lib.hid (c9'.out.step ba)
    clear B9 a9 b9' c9' ba ha P9
    go_wp2_with fail
    refine (add_is ca'.out ba'.out (by omega) (by omega)).mono ?_
    rintro _ wb ⟨Ab, nb, cb, rfl, hb, bb⟩
    have Bb := Lib.hid (below_step Ba.out bb); have Sb := Lib.hid (Sa.out.step bb); have Pb := Lib.hid (hb.has (lt_add hZ.out hY.out)); have ab := Lib.hid (aa.out.step bb); have bb' := Lib.hid (ba'.out.step bb); have cb' := Lib.hid (ca'.out.step bb)
    clear Ba aa ba' ca' bb hb Sa
    go_wp2_with fail
    refine (add_is ab.out Pb.out (by omega) (by omega)).mono ?_
    rintro _ wc ⟨Ac, nc, cc, rfl, hc, bc⟩
    rw [show X + (Z + Y) = X + Y + Z by omega] at hc
    have Bc := Lib.hid (below_step Bb.out bc); have Sc := Lib.hid (Sb.out.step bc); have Tc := Lib.hid hc; have ac := Lib.hid (ab.out.step bc); have bc' := Lib.hid (bb'.out.step bc); have cc' := Lib.hid (cb'.out.step bc)
    clear Bb ab bb' cb' bc hc Sb Pb
    go_wp2_with fail
    refine (words_is Sc.out Tc.out (lt_add (lt_add hX.out hY.out) hZ.out) (by omega)).mono ?_
    rintro _ wd' ⟨rfl, bd⟩
    have Bd := Lib.hid (below_step Bc.out bd); have ad := Lib.hid (ac.out.step bd); have bd' := Lib.hid (bc'.out.step bd); have cd' := Lib.hid (cc'.out.step bd)
    clear Bc ac bc' cc' bd Sc Tc
    -- (a b) c, b (c a)
    go_wp2_with fail
    refine (mul_is ad.out bd'.out (by omega) (by omega)).mono ?_
    rintro _ we ⟨Ae, ne, ce, rfl, he, be⟩
    have Be := Lib.hid (below_step Bd.out be); have Pe := Lib.hid (he.has (lt_mul hX.out hY.out)); have ae := Lib.hid (ad.out.step be); have be' := Lib.hid (bd'.out.step be); have ce' := Lib.hid (cd'.out.step be)
    clear Bd ad bd' cd' be he
    go_wp2_with fail
    refine (mul_is Pe.out ce'.out (by omega) (by omega)).mono ?_
    rintro _ wf ⟨Af, nf, cf, rfl, hf, bf⟩
    have Bf := Lib.hid (below_step Be.out bf); have Sf := Lib.hid hf; have af := Lib.hid (ae.out.step bf); have bf' := Lib.hid (be'.out.step bf); have cf' := Lib.hid (ce'.out.step bf)
    clear Be ae be' ce' bf hf Pe
    go_wp2_with fail
    refine (mul_is cf'.out af.out (by omega) (by omega)).mono ?_
    rintro _ wg ⟨Ag, ng, cg, rfl, hg, bg⟩
    have Bg := Lib.hid (below_step Bf.out bg); have Sg := Lib.hid (Sf.out.step bg); have Pg := Lib.hid (hg.has (lt_mul hZ.out hX.out)); have bg' := Lib.hid (bf'.out.step bg)
    clear Bf af bf' cf' bg hg Sf
    go_wp2_with fail
    refine (mul_is bg'.out Pg.out (by omega) (by omega)).mono ?_
    rintro _ wh ⟨Ah, nh, ch, rfl, hh, bh⟩
    rw [show Y * (Z * X) = X * Y * Z by rw [Nat.mul_comm Z X, ← Nat.mul_assoc, Nat.mul_comm Y X]] at hh
    have Bh := Lib.hid (below_step Bg.out bh); have Sh := Lib.hid (Sg.out.step bh); have Th := Lib.hid hh
    clear Bg bg' bh hh Sg Pg
    go_wp2_with fail
    refine (words_is Sh.out Th.out (lt_mul (lt_mul hX.out hY.out) hZ.out) (by omega)).mono ?_
    rintro _ wi ⟨rfl, bi⟩
    have Bi := Lib.hid (below_step Bh.out bi)
    clear Bh bi Sh Th
    go_wp2
    go_ret
    exact ⟨rfl, Bi.out⟩
  · rw [show ([n, m, k].all fun l => decide (l ≤ 40)) = false by simp; omega]
    have B2 := Lib.hid (below_step B1.out (one_below w1 (.cells #[.slice A n c, .slice B m d, .slice C k e] 22)))
    clear B1 hall
    go_wp2
    go_ret
    exact ⟨rfl, B2.out⟩
end Go.Proofs.YtcjggdcichlanaaDoor
