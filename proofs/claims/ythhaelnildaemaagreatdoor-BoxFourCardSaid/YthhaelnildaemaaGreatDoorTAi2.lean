/- The document's side of package iv: quotients, the four operations, the middle. -/
import Derived.Test.YthhaelnildaemaaGreatDoorTAiK
namespace Go.Proofs.YthhaelnildaemaaGreatDoor
open Go.RowKit Nx
set_option linter.unusedVariables false
set_option linter.unusedSimpArgs false
theorem zX_ok : zX.ok = true := rfl
theorem zX_q : zX.q = q0 := rfl
theorem ok_arg {x : X} (h : x.ok = true) (hs : Small B64 x.xs) : Valid x.q := by
  have ha : Arg (default : World) none x.xs.length x.xs.length x.xs → True := fun _ => trivial
  clear ha
  unfold X.ok okb at h
  unfold X.q
  split at h
  · rename_i h0
    have hx : x.xs = [] := List.eq_nil_of_length_eq_zero h0
    rw [Bool.and_eq_true] at h
    obtain ⟨h1, h2⟩ := h
    have h1 : x.e = 0 := by simpa using h1
    have h2 : x.s = false := by simpa using h2
    rw [hx, h1, h2]; exact valid0
  · rename_i h0
    simp only [Bool.and_eq_true, decide_eq_true_eq] at h
    obtain ⟨⟨⟨⟨h1, h2⟩, h3⟩, h4⟩, h5⟩ := h
    have hl := nval_lt hs
    have hodd : nval B64 x.xs % 2 = 1 := by
      cases hx : x.xs with
      | nil => rw [hx] at h0; exact absurd rfl h0
      | cons a r =>
        rw [hx] at h3
        simp only [nval]
        have h3 : a % 2 = 1 := by simpa using h3
        have : B64 * nval B64 r % 2 = 0 := by
          rw [Nat.mul_mod, show B64 % 2 = 0 from rfl, Nat.zero_mul]
        omega
    refine ⟨⟨fun h => ?_, fun _ => hodd⟩, ?_, h4, h5⟩
    · have h : nval B64 x.xs = 0 := h
      rw [h] at hodd; cases hodd
    · exact Nat.lt_of_lt_of_le hl (Nat.pow_le_pow_right (by decide) h2)
theorem okJ_lo {j : J} (h : okJ j = true) : j.lo.ok = true := by unfold okJ at h; rw [Bool.and_eq_true, Bool.and_eq_true] at h; exact h.1.1
theorem okJ_hi {j : J} (h : okJ j = true) : j.hi.ok = true := by unfold okJ at h; rw [Bool.and_eq_true, Bool.and_eq_true] at h; exact h.1.2
theorem cmpx_q {x y : X} (hx : x.ok = true) (hy : y.ok = true) : cmpx x y = cmpq x.q y.q := by
  unfold cmpx anscmp
  rw [if_pos (by unfold X.ok at hx hy; rw [hx, hy]; rfl)]; rfl
theorem pr_of {p : Int} (h : prb p = true) : Pr p := by unfold prb at h; rw [Bool.and_eq_true] at h; exact ⟨by simpa using h.1, by simpa using h.2⟩
def Vm (q : Q) : Prop := Vw q ∧ -20000000 ≤ q.e ∧ q.e ≤ 20000000
theorem vb_great {x y u v : Q} (hx : Valid x) (hy : Valid y) (hu : Valid u) (hv : Valid v) : Vb (greatQ x y u v) := vb_neg (vb_least (neg_valid hy) (neg_valid hx) hu hv)
theorem vm_vw {q : Q} (h : Vm q) : Vw q := h.1
theorem vm_vb {q : Q} (h : Vb q) : Vm q := ⟨vw_vb h, by have := h.2.2.1; omega, by have := h.2.2.2; omega⟩
theorem vm_plus {a b : Q} (ha : Valid a) (hb : Valid b) : Vm (plus a b) := by
  obtain ⟨k0, hk0⟩ : ∃ k0 : Nat, k0 = 64 := ⟨_, rfl⟩
  have h1 := ha.2.1; have h2 := hb.2.1
  rw [← hk0] at h1 h2
  obtain ⟨l1, l2, l3⟩ := plus_bd h1 h2 ha.2.2.1 ha.2.2.2 hb.2.2.1 hb.2.2.2
  refine ⟨⟨ofz_canon _ _, lt64 (b := 5000) (by omega) l1, ?_, ?_⟩, ?_, ?_⟩ <;> omega
theorem vm_minus {a b : Q} (ha : Valid a) (hb : Valid b) : Vm (minus a b) := vm_plus ha (neg_valid hb)
theorem rnd_vm {p : Int} (hp : Pr p) (up : Bool) {q : Q} (h : Vm q) : Vw (rnd p.toNat up q) := rnd_vw hp up h.1 h.2.1 h.2.2
structure GJ (j : J) : Prop where
  lo : Small B64 j.lo.xs
  hi : Small B64 j.hi.xs
theorem jlo {j : J} (hg : GJ j) (h : okJ j = true) : Valid j.lo.q := ok_arg (okJ_lo h) hg.lo
theorem jhi {j : J} (hg : GJ j) (h : okJ j = true) : Valid j.hi.q := ok_arg (okJ_hi h) hg.hi
def gIJJI (k : Int → J → J → Int → Prop × AV) : List AV → Option (Prop × AV)
  | [.v false [.lit (.int .i64 z)], .v true mj, .v true mj1, .v false [.lit (.int .i64 z1)]] => (match asIv mj, asIv mj1 with
    | some j, some j1 => some (k z j j1 z1)
    | _, _ => none)
  | _ => none
theorem gIJJI_eq {k : Int → J → J → Int → Prop × AV} {args : List AV} {e : Prop × AV} (h : gIJJI k args = some e) : ∃ z j j1 z1, args = [iA z, .v true j.L, .v true j1.L, iA z1] ∧ e = k z j j1 z1 := by
  unfold gIJJI at h
  split at h
  · split at h
    · rename_i j j1 hj hj1
      injection h with h; subst h
      exact ⟨_, j, j1, _, by rw [asIv_eq hj, asIv_eq hj1], rfl⟩
    · cases h
  · cases h
end Go.Proofs.YthhaelnildaemaaGreatDoor
namespace Go.Proofs.YthhaelnildaemaaGreatDoor
open Go.RowKit Nx
set_option linter.unusedVariables false
set_option linter.unusedSimpArgs false
theorem qx_ok {q : Q} (hv : Valid q) : (qx q).ok = true ∧ Small B64 (qx q).xs ∧ (qx q).q = q := by
  refine ⟨?_, small_digs B64_two _, by unfold X.q qx; simp only [nval_digs B64_two]⟩
  obtain ⟨hc, f1, f2, f3⟩ := hv
  unfold X.ok qx okb
  simp only
  by_cases h0 : (digs B64 q.m).length = 0
  · rw [if_pos h0]
    have hm : q.m = 0 := (digs_eq_nil B64_two).1 (List.eq_nil_of_length_eq_zero h0)
    rw [hc.1 hm]; rfl
  · rw [if_neg h0]
    have hm : q.m ≠ 0 := fun hm => h0 (by rw [hm, digs_zero]; rfl)
    have hlast : (digs B64 q.m).getD ((digs B64 q.m).length - 1) 0 ≠ 0 := by
      obtain ⟨y, hg⟩ : ∃ y, (digs B64 q.m)[(digs B64 q.m).length - 1]? = some y := ⟨_, List.getElem?_eq_getElem (by omega)⟩
      rw [getD_of hg]
      exact digs_last B64_two _ _ (by rw [List.getLast?_eq_getElem?]; exact hg)
    have hodd : (digs B64 q.m).getD 0 0 % 2 = 1 := by
      rw [digs_pos B64_two hm]
      show q.m % B64 % 2 = 1
      have := hc.2 hm
      unfold B64; omega
    have hle : (digs B64 q.m).length ≤ 64 := digs_len_le B64_two f1
    simp only [Bool.and_eq_true, decide_eq_true_eq]
    exact ⟨⟨⟨⟨hlast, hle⟩, hodd⟩, f2⟩, f3⟩
def topq (q : Q) : Int := (nbits q.m : Int) + q.e
theorem top_nm (s : Bool) {M : Nat} (e : Int) (h : M ≠ 0) : topq (nm s M e) = nbits M + e := by
  unfold topq nm
  rw [if_neg h]
  have h1 := (odd_part h).1
  have h2 : M / 2 ^ ntz M ≠ 0 := fun h0 => by rw [h0, Nat.zero_mul] at h1; exact h h1
  have h3 := nbits_up h2 (ntz M)
  rw [← h1] at h3
  simp only
  omega
theorem top_ofz {Z : Int} (e : Int) (h : Z ≠ 0) : topq (ofz Z e) = nbits Z.natAbs + e := top_nm _ _ (by omega)
theorem e_top {q : Q} (h : q.m ≠ 0) : q.e < topq q := by unfold topq; have := nbits_pos h; omega
theorem top_valid {q : Q} (h : Valid q) : topq q ≤ 65536 + 4096 := by
  unfold topq
  have h1 : nbits q.m ≤ 64 * 64 := words_bits (k := 64) h.2.1
  have := h.2.2.2; omega
theorem nbits_le_of {M N : Nat} (h : M ≤ N) : nbits M ≤ nbits N := nbits_le (Nat.lt_of_le_of_lt h (nbits_lt N))
theorem nbits_add (M N : Nat) : nbits (M + N) ≤ max (nbits M) (nbits N) + 1 := by
  refine nbits_le ?_
  have h1 := Nat.lt_of_lt_of_le (nbits_lt M) (Nat.pow_le_pow_right (n := 2) (by omega) (Nat.le_max_left (nbits M) (nbits N)))
  have h2 := Nat.lt_of_lt_of_le (nbits_lt N) (Nat.pow_le_pow_right (n := 2) (by omega) (Nat.le_max_right (nbits M) (nbits N)))
  rw [Nat.pow_succ]; omega
theorem top_up {q : Q} {t B : Int} (h : t ≤ q.e) (ht : topq q ≤ B) (hB : t ≤ B) : (nbits (q.up t).natAbs : Int) ≤ B - t := by
  rw [up_abs]
  by_cases h0 : q.m = 0
  · rw [h0, Nat.zero_mul, nbits_zero]; omega
  · rw [nbits_up h0]; unfold topq at ht; omega
theorem top_plus {a b : Q} {B : Int} (ha : topq a ≤ B) (hb : topq b ≤ B) (ha0 : a.e ≤ B) (hb0 : b.e ≤ B) (h : (plus a b).m ≠ 0) : topq (plus a b) ≤ B + 1 := by
  unfold plus at h ⊢
  by_cases hz : a.up (lowe a b) + b.up (lowe a b) = 0
  · rw [hz, ofz_zero] at h; exact absurd rfl h
  · rw [top_ofz _ hz]
    have h1 := top_up (q := a) (t := lowe a b) (by unfold lowe; omega) ha (by unfold lowe; omega)
    have h2 := top_up (q := b) (t := lowe a b) (by unfold lowe; omega) hb (by unfold lowe; omega)
    have h3 := nbits_le_of (Int.natAbs_add_le (a.up (lowe a b)) (b.up (lowe a b)))
    have h4 := nbits_add (a.up (lowe a b)).natAbs (b.up (lowe a b)).natAbs
    omega
theorem top_rnd {p : Nat} (up : Bool) {q : Q} (h : (rnd p up q).m ≠ 0) : topq (rnd p up q) ≤ topq q + 1 := by
  have h0 : q.m ≠ 0 := fun h0 => by
    obtain ⟨s, M, e⟩ := q
    have h0 : M = 0 := h0
    subst h0
    rw [rnd_zero] at h; exact h rfl
  unfold rnd at h ⊢
  by_cases hz : rndm q.m p (q.s != up) = 0
  · rw [hz, nm_zero] at h; exact absurd rfl h
  · rw [top_nm _ _ hz]
    unfold topq
    by_cases hle : nbits q.m ≤ p
    · rw [rndm_few hle, show nbits q.m - p = 0 by omega]; omega
    · have h1 := nbits_le (k := p + 1) (Nat.lt_of_le_of_lt (rndm_top q.m p (q.s != up)) (Nat.pow_lt_pow_right (by omega) (by omega)))
      omega
def halfw (v : Q) : Q := ⟨v.s, v.m, IntKind.i64.wrap (v.e - 1)⟩
def hlf (v : Q) : Q := bif decide (((digs B32 v.m).length : Int) > 0) then halfw v else v
theorem half_eq {v : Q} (h1 : -20000000 ≤ v.e) (h2 : v.e ≤ 20000000) : halfw v = ⟨v.s, v.m, v.e - 1⟩ := by unfold halfw; rw [IntKind.wrap_i64]; congr 1; omega
theorem hlf_eq {v : Q} (hv : Vm v) : hlf v = halfq v := by
  unfold hlf halfq
  by_cases h0 : v.m = 0
  · have : (digs B32 v.m).length = 0 := by rw [h0, digs_zero]; rfl
    rw [this, show decide (((0 : Nat) : Int) > 0) = false from rfl, cond_false, h0, nm_zero, hv.1.1.1 h0]
  · have hl : (digs B32 v.m).length ≠ 0 := fun hl => h0 ((digs_eq_nil B32_two).1 (List.eq_nil_of_length_eq_zero hl))
    rw [decide_eq_true (by omega), cond_true, half_eq hv.2.1 hv.2.2]
    obtain ⟨s, M, e⟩ := v
    have := nm_odd (t := e + -1) hv.1.1 h0
    rw [this]; rfl
theorem vm_half {v : Q} (hv : Vm v) : Vw (halfq v) := by
  unfold halfq
  by_cases h0 : v.m = 0
  · rw [h0, nm_zero]; exact vw_of valid0
  · obtain ⟨s, M, e⟩ := v
    rw [nm_odd (t := e + -1) hv.1.1 h0]
    refine ⟨⟨fun h => absurd h h0, fun _ => hv.1.1.2 h0⟩, hv.1.2.1, ?_, ?_⟩
    · have := hv.2.1; simp only at *; omega
    · have := hv.2.2; simp only at *; omega
def mids (p : Nat) (a b : Q) : Q := rnd p false (halfq (plus a b))
theorem top_half {v : Q} (h : v.m ≠ 0) : topq (halfq v) = topq v - 1 := by
  unfold halfq
  rw [top_nm _ _ h]; unfold topq; omega
theorem vb_mids {p : Int} (hp : Pr p) {a b : Q} (ha : Valid a) (hb : Valid b) : Vb (mids p.toNat a b) := by
  have hbits := nbits_rnd false (halfq (plus a b)) (p := p.toNat) (by have := hp.1; omega)
  have hlow : -(65537 : Nat) ≤ (halfq (plus a b)).e := by
    unfold halfq
    refine nm_low _ _ _ ?_
    have := low_plus (E := 65536) (a := a) (b := b) (by have := ha.2.2.1; omega) (by have := hb.2.2.1; omega)
    omega
  refine ⟨rnd_canon _ _ _, lt64 (a := 4) (b := 3000) (by decide) (bits_words (k := 4) hbits (by have := hp.2; omega)), ?_, ?_⟩
  · have := rnd_low (E := 65537) (p := p.toNat) (up := false) hlow
    unfold mids; omega
  · by_cases h0 : (mids p.toNat a b).m = 0
    · rw [(rnd_canon p.toNat false (halfq (plus a b))).1 h0 |> fun h => (show mids p.toNat a b = q0 from h)]; show (0 : Int) ≤ 550000; omega
    · have h1 := e_top h0
      have h2 := top_rnd (p := p.toNat) false (q := halfq (plus a b)) h0
      have hz : (plus a b).m ≠ 0 := fun hz => by
        apply h0
        unfold mids halfq
        rw [hz, nm_zero, show q0 = ⟨false, 0, 0⟩ from rfl, rnd_zero]; rfl
      have h3 := top_half hz
      have h4 := top_plus (B := 69632) (top_valid ha) (top_valid hb) (by have := ha.2.2.2; omega) (by have := hb.2.2.2; omega) hz
      have h5 : topq (mids p.toNat a b) ≤ topq (halfq (plus a b)) + 1 := h2
      omega
noncomputable def rmid (j : J) (p : Int) : X × Int := bif !(okJ j) || !(prb p) then (zX, 1) else bif decide (cmpq (rnd p.toNat false (hlf (plus j.lo.q j.hi.q))) j.lo.q < 0) then (j.lo, 0) else (qx (res (rnd p.toNat false (hlf (plus j.lo.q j.hi.q)))).1, (res (rnd p.toNat false (hlf (plus j.lo.q j.hi.q)))).2)
noncomputable def rwide (j : J) (p : Int) : Q × Int := bif !(okJ j) || !(prb p) then (q0, 1) else res (rnd p.toNat true (minus j.hi.q j.lo.q))
abbrev xeA (r : X × Int) : AV := .tup [(true, r.1.L), (false, [.lit (.int .i64 r.2)])]
theorem qx0 : qx q0 = zX := by unfold qx zX; rw [show q0.m = 0 from rfl, digs_zero]; rfl
theorem vw_hw {v : Q} (h : decide (((digs B32 v.m).length : Int) > 0) = true) (hv : Vm v) : Vw ⟨v.s, v.m, IntKind.i64.wrap (v.e - 1)⟩ := by
  have := vm_half hv
  rw [← hlf_eq hv] at this
  unfold hlf at this
  rw [h, cond_true] at this
  exact this
theorem vb_hw {p : Int} {a b : Q} (h : decide (((digs B32 (plus a b).m).length : Int) > 0) = true) (hp : Pr p) (ha : Valid a) (hb : Valid b) : Vb (rnd p.toNat false ⟨(plus a b).s, (plus a b).m, IntKind.i64.wrap ((plus a b).e - 1)⟩) := by
  have := vb_mids hp ha hb
  unfold mids at this
  rw [← hlf_eq (vm_plus ha hb)] at this
  unfold hlf at this
  rw [h, cond_true] at this
  exact this
theorem vb_h0 {p : Int} {a b : Q} (h : decide (((digs B32 (plus a b).m).length : Int) > 0) = false) (hp : Pr p) (ha : Valid a) (hb : Valid b) : Vb (rnd p.toNat false (plus a b)) := by
  have := vb_mids hp ha hb
  unfold mids at this
  rw [← hlf_eq (vm_plus ha hb)] at this
  unfold hlf at this
  rw [h, cond_false] at this
  exact this
end Go.Proofs.YthhaelnildaemaaGreatDoor
namespace Go.Proofs.YthhaelnildaemaaGreatDoor
open Go.RowKit Nx
set_option linter.unusedVariables false
set_option linter.unusedSimpArgs false
attribute [local go_sem] run init X.L J.L vL X.eta J.eta Q.eta List.cons_append List.nil_append brkK brkf_b brkf_t exef_some exif_some condf_b opf bodyE addR skipE stepOp stepLoad stepStore stepField stepCall stepBS stepBi stepCv stepIx lpf hdS pick forget inL mentA ment dom evs evl evp evd okeys look fillA capsOf wordsOf rowsOf lenOf convK binV shV intV unV boolT tyT tiB tiI tiW tiD tiF tiR tiU tiNum tiIv tiVal tiSc okLf okD keysOf tblO cvA cvL dnL olA olL noO noA cbL cbA orT noT one asNum asIv asVal postf_some resA tupA clA clL dropTo decide_true decide_false List.all_cons List.all_nil Bool.and_true Bool.and_self true_and and_true and_self List.length_cons List.length_nil List.drop_succ_cons List.drop_zero List.take_succ_cons List.take_zero List.getElem?_cons_zero List.getElem?_cons_succ List.map_cons List.map_nil false_implies true_implies Option.bind_some List.getElem?_toArray Bool.false_eq_true List.append_nil List.flatMap_cons List.flatMap_nil true_or or_true forall_const List.reverse_cons List.reverse_nil Option.isSome_some Option.any_some Nat.lt_irrefl not_true_eq_false Bool.not_true Bool.not_false imp_self implies_true Bool.not_eq_true' Bool.not_eq_false' Bool.true_eq_false gN gNN gNI gI gNNIB gNIB gV gVV gVIB gVVIB gWW gJ gJJ gJN gJJI gJI gJII gNNI gBWI gVVVV gVVVVI gVI stepB0 stepMk stepSl stepAp apY optI okO nilV slT resB outPs outLs outL dnT AV.s cond_true cond_false Bool.true_and Bool.and_false Bool.false_and Bool.or_true Bool.true_or Bool.or_false Bool.false_or
attribute [local go_sem ↓] cond_true cond_false not_cond
set_option maxRecDepth 100000 in
set_option maxHeartbeats 2000000 in
theorem r_wide (j : J) (z : Int) : Ct Tryz.prog 113 [.v true j.L, iA z] (· = neA (rwide j z)) := by
  refine ct_of (O := tblO (orT Tref_RightIv (orT Tref_precs (orT Tref_Of (orT Tref_Less (orT Tref_Round (Tref_Val_Num))))))) (by kernel_rfl) tyT_ok (fun w => tblO_ok (orT_ok Tref_RightIv_ok (orT_ok Tref_precs_ok (orT_ok Tref_Of_ok (orT_ok Tref_Less_ok (orT_ok Tref_Round_ok (Tref_Val_Num_ok)))))) _ w) [] 300 27 [.cell 4 28, .tmp 5] Tryz.func113 rfl Tryz.ntmps113 (by rw [Tryz.results113]) (by simp) rfl (fun hsm => ?_)
  have g0 : GJ j := ⟨hsm.1.2.2.1.1, hsm.1.2.2.2.2.2.1.1⟩
  simp (maxSteps := 10000000) only [go_sem, ↓reduceIte, Nat.reduceMul, Nat.reduceDiv, Nat.reduceAdd, Nat.reduceEqDiff, Nat.reduceLeDiff, Nat.reduceLT, reduceCtorEq, Int.reduceNeg, Tref_RightIv, Tref_precs, Tref_Of, Tref_Less, Tref_Round, Tref_Val_Num]
  repeat' first | (with_reducible apply And.intro) | (with_reducible apply condP <;> intro _)
  all_goals first | (show chk _ _ = true; kernel_rfl) | assumption | with_reducible exact okJ_lo (by assumption) | with_reducible exact okJ_hi (by assumption) | with_reducible exact pr_of (by assumption) | with_reducible exact vb_of (jlo g0 (by assumption)) | with_reducible exact vb_of (jhi g0 (by assumption)) | with_reducible exact vm_vw (vm_minus (jhi g0 (by assumption)) (jlo g0 (by assumption))) | with_reducible exact rnd_vm (pr_of (by assumption)) _ (vm_minus (jhi g0 (by assumption)) (jlo g0 (by assumption))) | (simp only [go_sem, *, rwide, zX, qx0, neA] <;> rfl) | rfl | (exfalso; simp_all only [Bool.true_eq_false, Bool.false_eq_true, reduceCtorEq]; done)
noncomputable def Tref_Wide : Tbl := one 113 (gJI fun j z => (True, neA (rwide j z)))
theorem Tref_Wide_ok : TbOK Tryz.prog Tref_Wide := one_ok (ent Tryz.func113 (by kernel_rfl) rfl) fun args e h hp => by obtain ⟨j, z, rfl, rfl⟩ := gJI_eq h; exact r_wide j z
set_option maxRecDepth 100000 in
set_option maxHeartbeats 2000000 in
theorem r_mid (j : J) (z : Int) : Ct Tryz.prog 95 [.v true j.L, iA z] (· = xeA (rmid j z)) := by
  refine ct_of (O := tblO (orT Tref_RightIv (orT Tref_precs (orT Tref_Of (orT Tref_Plus (orT Tref_Round (orT Tref_Order (Tref_Val_Num)))))))) (by kernel_rfl) tyT_ok (fun w => tblO_ok (orT_ok Tref_RightIv_ok (orT_ok Tref_precs_ok (orT_ok Tref_Of_ok (orT_ok Tref_Plus_ok (orT_ok Tref_Round_ok (orT_ok Tref_Order_ok (Tref_Val_Num_ok))))))) _ w) [] 300 46 [.cell 4 28, .tmp 5] Tryz.func95 rfl Tryz.ntmps95 (by rw [Tryz.results95]) (by simp) rfl (fun hsm => ?_)
  have g0 : GJ j := ⟨hsm.1.2.2.1.1, hsm.1.2.2.2.2.2.1.1⟩
  simp (maxSteps := 10000000) only [go_sem, ↓reduceIte, Nat.reduceMul, Nat.reduceDiv, Nat.reduceAdd, Nat.reduceEqDiff, Nat.reduceLeDiff, Nat.reduceLT, reduceCtorEq, Int.reduceNeg, Tref_RightIv, Tref_precs, Tref_Of, Tref_Plus, Tref_Round, Tref_Order, Tref_Val_Num]
  repeat' first | (with_reducible apply And.intro) | (with_reducible apply condP <;> intro _)
  all_goals first | (show chk _ _ = true; kernel_rfl) | assumption | with_reducible exact okJ_lo (by assumption) | with_reducible exact okJ_hi (by assumption) | with_reducible exact pr_of (by assumption) | with_reducible exact vb_of (jlo g0 (by assumption)) | with_reducible exact vb_of (jhi g0 (by assumption)) | with_reducible exact vm_vw (vm_minus (jhi g0 (by assumption)) (jlo g0 (by assumption))) | with_reducible exact rnd_vm (pr_of (by assumption)) _ (vm_minus (jhi g0 (by assumption)) (jlo g0 (by assumption))) | (with_reducible exact vw_hw (by assumption) (vm_plus (jlo g0 (by assumption)) (jhi g0 (by assumption)))) | (with_reducible exact vm_vw (vm_plus (jlo g0 (by assumption)) (jhi g0 (by assumption)))) | (with_reducible exact vb_hw (by assumption) (pr_of (by assumption)) (jlo g0 (by assumption)) (jhi g0 (by assumption))) | (with_reducible exact vb_h0 (by assumption) (pr_of (by assumption)) (jlo g0 (by assumption)) (jhi g0 (by assumption))) | (with_reducible exact vw_vb (vb_hw (by assumption) (pr_of (by assumption)) (jlo g0 (by assumption)) (jhi g0 (by assumption)))) | (with_reducible exact vw_vb (vb_h0 (by assumption) (pr_of (by assumption)) (jlo g0 (by assumption)) (jhi g0 (by assumption)))) | (simp only [go_sem, *, rmid, hlf, halfw, zX] <;> rfl) | rfl | (exfalso; simp_all only [Bool.true_eq_false, Bool.false_eq_true, reduceCtorEq]; done)
noncomputable def Tref_Mid : Tbl := one 95 (gJI fun j z => (True, xeA (rmid j z)))
theorem Tref_Mid_ok : TbOK Tryz.prog Tref_Mid := one_ok (ent Tryz.func95 (by kernel_rfl) rfl) fun args e h hp => by obtain ⟨j, z, rfl, rfl⟩ := gJI_eq h; exact r_mid j z
section
variable {j : J} {z : Int} (g0 : GJ j) (h : ((rmid j z).2 != 0) = false)
include g0 h
end
end Go.Proofs.YthhaelnildaemaaGreatDoor
