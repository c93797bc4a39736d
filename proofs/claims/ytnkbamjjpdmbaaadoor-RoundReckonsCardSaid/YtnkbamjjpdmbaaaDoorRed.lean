/- nat.guess, nat.subRow, nat.reduce. -/
import Derived.Test.YtnkbamjjpdmbaaaDoorNatE
import Derived.Test.YtnkbamjjpdmbaaaDoorMathE
import Derived.Test.YtnkbamjjpdmbaaaDoorDivA
import Derived.Test.YtnkbamjjpdmbaaaDoorNatC
namespace Go.Proofs.YtnkbamjjpdmbaaaDoor
open Go.RowKit Nx

theorem Seg.rd {k : IntKind} {w : World} {g : Nat} {t : TypeId} {pre seg post : List Nat} (h : Seg k w g t pre seg post) {lo hi o n c : Nat} (ho : pre.length = o) (hn : seg.length = n) (hl : lo ≤ g) (hh : g < hi) (hc : n ≤ c) :
    Rd k w lo hi (some ⟨g, o, none⟩) n c seg := by
  have := Row.rd (zs := pre ++ seg ++ post) h (lo := lo) (hi := hi) (o := o) (n := n) (c := c) hl hh (by simp; omega) hc
  subst ho; subst hn
  rw [List.append_assoc, List.drop_left, List.take_left] at this
  exact this

/-- A word that is not below the quotient. -/
def GuessPost (w : World) (q : Nat) (e : Ending) (w' : World) : Prop := ∃ wd m : Nat, e = .returned (.int .u64 (wd : Int)) ∧ w' = w.drewN m ∧ wd < B64 ∧ q ≤ wd
theorem GuessPost.of {w w' : World} {q : Nat} {e : Ending} (wd : Nat) (he : e = .returned (.int .u64 (wd : Int))) (h : ∃ m, w' = w.drewN m) (h1 : wd < B64) (h2 : q ≤ wd) : GuessPost w q e w' := by
  obtain ⟨m, hm⟩ := h; exact ⟨wd, m, he, hm, h1, h2⟩

set_option maxRecDepth 100000 in
set_option maxHeartbeats 1000000 in
theorem guess_any (w : World) (lo hi lo' hi' : Nat) (A B : Option Addr) (n c cb t : Nat) (ps ds : List Nat) (hp : Rd .u64 w lo hi A (n + 1) c ps) (hd : Rd .u64 w lo' hi' B n cb ds) (hps : Small B64 ps) (hds : Small B64 ds)
    (hn0 : 0 < n) (hn : n ≤ 100000000) (ht : ds[n - 1]? = some t) (ht0 : t ≠ 0) (hlt : nval B64 ps < B64 * nval B64 ds) :
    Calls Tryd.prog 105 #[.slice A (n + 1) c, .slice B n cb] w (GuessPost w (nval B64 ps / nval B64 ds)) := by
  obtain ⟨ad, pn, hA, _, _, hpn, hcn⟩ := hp.get_ (j := n) (by omega)
  subst hA
  obtain ⟨ad', pm, hA, _, _, hpm, hcm⟩ := hp.get_ (j := n - 1) (by omega)
  obtain rfl : ad = ad' := by injection hA
  obtain ⟨bd, t', hA', _, _, ht', hct⟩ := hd.get_ (j := n - 1) (by omega)
  subst hA'
  obtain rfl : t = t' := by have := ht'.out; rw [ht] at this; injection this
  have htB := hds.get ht
  have hge := guess_ge (B := B64) B64_two hps hn0 hd.1 hp.1 ht hpn.out hpm.out ht0
  have hD0 : 0 < nval B64 ds := by
    rcases Nat.eq_zero_or_pos (nval B64 ds) with e | e
    · rw [e] at hlt; omega
    · exact e
  have hqB : nval B64 ps / nval B64 ds < B64 := by rw [Nat.div_lt_iff_lt_mul hD0]; exact hlt
  have hpmB := hps.get hpm.out
  have hpnB := hps.get hpn.out
  obtain ⟨Q, hQ⟩ : ∃ Q, Q = nval B64 ps / nval B64 ds := ⟨_, rfl⟩
  rw [← hQ] at hge hqB ⊢
  have HQB := Lib.hid hqB; have HGE := Lib.hid hge; have HPM := Lib.hid hpmB; have HTB := Lib.hid htB
  have i1 : ((n : Int) - 1).toNat = n - 1 := by omega
  have i2 : (0 : Int) ≤ (n : Int) - 1 := by omega
  have i3 : (n : Int) - 1 < (n : Int) := by omega
  have i4 : (n : Int) < (n : Int) + 1 := by omega
  have i5 : (n : Int) - 1 < (n : Int) + 1 := by omega
  clear hA ht hqB hge hpmB hpnB htB hlt hD0 hQ hps hds hp hd ht0
  rcases Nat.lt_or_ge pn t with hc | hc
  · have hcall := fun W => Lib.hid (div64_any pn pm t HPM.out HTB.out hc W)
    have hquo : (pn * B64 + pm) / t < B64 := by
      rw [Nat.div_lt_iff_lt_mul (by omega)]
      have h1 : (pn + 1) * B64 ≤ t * B64 := Nat.mul_le_mul_right _ hc
      have := HPM.out
      rw [Nat.add_mul, Nat.mul_comm t] at h1; omega
    have HQ2 := Lib.hid hquo
    have f1 : decide (t ≤ pn) = false := by simp; omega
    clear hquo
    go_enter Tryd.func105, Tryd.ntmps105
    have j1 : IntKind.i64.wrap ((n : Int) - 1) = (n : Int) - 1 := IntWalk.i64_in _ (by omega)
    go_wp2
    go_region_with (go_at_call 107; refine (hcall _).out.mono ?_; rintro e w' ⟨r, dn, rfl, rfl⟩)
    all_goals
      go_wp2
      go_ret
      exact GuessPost.of _ rfl (by first | exact ⟨_, rfl⟩ | exact dr1 _ _ _ | exact ⟨_, World.drewN_drew ..⟩) HQ2.out HGE.out
  · have f1 : decide (t ≤ pn) = true := by simp; omega
    go_enter Tryd.func105, Tryd.ntmps105
    go_wp2
    go_ret
    exact GuessPost.of 18446744073709551615 rfl ⟨0, rfl⟩ (by unfold B64; omega) (by have := HQB.out; unfold B64 at this; omega)
end Go.Proofs.YtnkbamjjpdmbaaaDoor
