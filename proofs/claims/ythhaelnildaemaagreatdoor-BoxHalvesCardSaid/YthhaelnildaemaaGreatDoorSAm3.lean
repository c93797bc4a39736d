/- Middles, radii, widths: what they are. -/
import Derived.Test.YthhaelnildaemaaGreatDoorSAkM
import Derived.Test.YthhaelnildaemaaGreatDoorSAj2
import Derived.Test.YthhaelnildaemaaGreatDoorSAl8
import Derived.Test.YthhaelnildaemaaGreatDoorSAm2
namespace Go.Proofs.YthhaelnildaemaaGreatDoor
open Go.RowKit Nx
set_option linter.unusedVariables false
set_option linter.unusedSimpArgs false
theorem qx_v {q : Q} (h : Valid q) : (qx q).v = q.at 65536 := by unfold X.v; rw [(qx_ok h).2.2]
theorem mid_facts {j : J} {z : Int} (hg : Good j) (hz : prl z = true) : ((rmid j z).2 = 0 ∨ (rmid j z).2 = 2) ∧ ((rmid j z).2 = 0 → GX (rmid j z).1 ∧ hasJ j (rmid j z).1 = true) := by
  obtain ⟨a1, a2, a3⟩ := okJ_parts hg.1
  have hle := (cmpx_le a1 a2).1 a3
  have hk := rmid_ok hg.2 z
  refine ⟨?_, fun h0 => ⟨⟨hk.1, hk.2⟩, has_of hg.1 hk.1 ?_ ?_⟩⟩
  · unfold rmid
    rw [hg.1, prl_prb, hz]
    simp only [Bool.not_true, Bool.or_self, cond_false]
    cases decide (cmpq (rnd z.toNat false (hlf (plus j.lo.q j.hi.q))) j.lo.q < 0)
    · exact res_two _
    · exact .inl rfl
  · have h0 := h0
    unfold rmid at h0 ⊢
    rw [hg.1, prl_prb, hz] at h0 ⊢
    simp only [Bool.not_true, Bool.or_self, cond_false] at h0 ⊢
    cases hc : decide (cmpq (rnd z.toNat false (hlf (plus j.lo.q j.hi.q))) j.lo.q < 0)
    · rw [hc] at h0
      simp only [cond_false] at h0 ⊢
      have hf : Fits (rnd z.toNat false (hlf (plus j.lo.q j.hi.q))) := by
        by_cases hf : Fits (rnd z.toNat false (hlf (plus j.lo.q j.hi.q)))
        · exact hf
        · rw [res_over hf] at h0; cases h0
      rw [res_ok hf, qx_v ⟨rnd_canon _ _ _, hf⟩]
      have hc := of_decide_eq_false hc
      exact (cmp_ge (E := 65536) hf.2.1 (ok_e a1)).1 (by omega)
    · exact Int.le_refl _
  · have := mid_le hg.2 hg.1 (z := z) (by rw [h0]; rfl)
    have e1 := at_more (F := 1) (ok_e hk.1)
    have e2 := at_more (F := 1) (ok_e a1)
    have e3 := at_more (F := 1) (ok_e a2)
    rw [show 65536 + 1 = 65537 from rfl] at e1 e2 e3
    rw [e1, e2, e3] at this
    have f1 : (rmid j z).1.v = (rmid j z).1.q.at 65536 := rfl
    have f2 : j.lo.v = j.lo.q.at 65536 := rfl
    have f3 : j.hi.v = j.hi.q.at 65536 := rfl
    rw [← f1, ← f2, ← f3] at this
    omega
theorem wide_facts {j : J} {z : Int} (hg : Good j) (hz : prl z = true) : ((rwide j z).2 = 0 ∨ (rwide j z).2 = 2) ∧ ((rwide j z).2 = 0 → Valid (rwide j z).1 ∧ j.hi.v - j.lo.v ≤ (rwide j z).1.at 65536) := by
  obtain ⟨a1, a2, a3⟩ := okJ_parts hg.1
  have c2 := (ok_arg a1 hg.2.lo).1
  unfold rwide
  rw [hg.1, prl_prb, hz]
  simp only [Bool.not_true, Bool.or_self, cond_false]
  refine ⟨res_two _, fun hr => ?_⟩
  have hf : Fits (rnd z.toNat true (minus j.hi.q j.lo.q)) := by
    by_cases hf : Fits (rnd z.toNat true (minus j.hi.q j.lo.q))
    · exact hf
    · rw [res_over hf] at hr; cases hr
  rw [res_ok hf]
  have up := rnd_up (E := 65536) (p := z.toNat) (low_minus (E := 65536) (a := j.hi.q) c2 (ok_e a2) (ok_e a1))
  rw [at_minus (E := 65536) (a := j.hi.q) c2 (ok_e a2) (ok_e a1)] at up
  exact ⟨⟨rnd_canon _ _ _, hf⟩, up⟩
end Go.Proofs.YthhaelnildaemaaGreatDoor
namespace Go.Proofs.YthhaelnildaemaaGreatDoor
open Go.RowKit Nx
set_option linter.unusedVariables false
set_option linter.unusedSimpArgs false
theorem bothP_congr {φ ψ : J → J → X × Int} {l m : List J} (h : rightB l = true → rightB m = true → ∀ a ∈ l, ∀ b ∈ m, φ a b = ψ a b) : bothP φ l m = bothP ψ l m := by
  unfold bothP
  cases hc : rightB l && rightB m && decide (l.length = m.length) with
  | false => rfl
  | true =>
    rw [Bool.and_eq_true, Bool.and_eq_true] at hc
    replace h := h hc.1.1 hc.1.2
    rw [cond_true, cond_true]
    clear hc
    induction l generalizing m with
    | nil => rfl
    | cons a l ih =>
      cases m with
      | nil => rfl
      | cons b m =>
        unfold zipP
        rw [h a (List.mem_cons_self ..) b (List.mem_cons_self ..), ih fun a ha b hb => h a (List.mem_cons_of_mem _ ha) b (List.mem_cons_of_mem _ hb)]
theorem right_ok {l : List J} (h : rightB l = true) : ∀ j ∈ l, okJ j = true := by
  unfold rightB at h
  rw [Bool.and_eq_true] at h
  exact List.all_eq_true.1 h.2
def Sm (l : List J) : Prop := ∀ j ∈ l, GJ j
theorem right_good {l : List J} (hs : Sm l) (h : rightB l = true) : Goods l := fun j hj => ⟨right_ok h j hj, hs j hj⟩
theorem sm_of : ∀ {l : List J}, smCs (bC l) → Sm l := by
  intro l
  induction l with
  | nil => intro _ j hj; cases hj
  | cons a l ih =>
    intro h j hj
    rw [bC_cons] at h
    obtain ⟨_, _, h1, _, _, h2, h3⟩ := h
    rcases List.mem_cons.1 hj with rfl | hj
    · exact ⟨h1.1, h2.1⟩
    · exact ih h3 j hj
theorem at_zero {E : Nat} {q : Q} (h : Canon q) (hE : -(E : Int) ≤ q.e) (h0 : q.at E = 0) : q = q0 := by
  rw [← of_at h hE, h0]
  have := of_at (E := E) (q := q0) valid0.1 (by show -(E : Int) ≤ 0; omega)
  rw [at0] at this; exact this
theorem pos_or {q : Q} (h : Valid q) (h0 : 0 ≤ q.at 65536) (hn : ¬ 0 < cmpx (qx q) zX) : qx q = zX := by
  obtain ⟨h1, _, h3⟩ := qx_ok h
  have hv := qx_v h
  have h4 : ¬ zX.v < (qx q).v := fun hl => hn ((cmpx_gt h1 zX_ok).2 hl)
  rw [zX_v, hv] at h4
  have he := ok_e h1
  rw [h3] at he
  rw [at_zero h.1 he (by omega), qx0]
theorem zipP_mem {φ : J → J → X × Int} : ∀ {l m : List J}, (zipP φ l m).2 = 0 → ∀ x ∈ (zipP φ l m).1, ∃ a b, a ∈ l ∧ b ∈ m ∧ φ a b = (x, 0) := by
  intro l
  induction l with
  | nil => intro m _ x hx; cases hx
  | cons a l ih =>
    intro m h x hx
    cases m with
    | nil => cases hx
    | cons b m =>
      unfold zipP at h hx
      cases h1 : (φ a b).2 != 0 with
      | true => rw [h1] at hx; cases hx
      | false =>
        rw [h1] at h hx
        rw [cond_false] at h hx
        cases h2 : (zipP φ l m).2 != 0 with
        | true => rw [h2] at hx; cases hx
        | false =>
          rw [h2] at hx
          rw [cond_false] at hx
          have h1 : (φ a b).2 = 0 := by simpa using h1
          rcases List.mem_cons.1 hx with rfl | hx
          · exact ⟨a, b, List.mem_cons_self .., List.mem_cons_self .., by rw [← h1]⟩
          · obtain ⟨c, d, hc, hd, e⟩ := ih (by simpa using h2) x hx
            exact ⟨c, d, List.mem_cons_of_mem _ hc, List.mem_cons_of_mem _ hd, e⟩
theorem wids_eq (l : List J) (z : Int) : wids l z = rwids l z := bothP_congr fun _ _ a _ b _ => wide_eq a z
theorem wide_same {l : List J} (hs : Sm l) (z : Int) : widS l z = rwidS l z := by
  unfold widS rwidS
  rw [wids_eq]
  unfold widR rwidR
  cases he : (rwids l z).2 != 0 with
  | true => rfl
  | false =>
    rw [cond_false, cond_false]
    have he : (rwids l z).2 = 0 := by simpa using he
    rcases bothP_len (φ := fun a _ => prX (rwide a z)) l l with h1 | ⟨_, h2, h3, _⟩
    · have h1 : ((rwids l z).2 != 0) = true := h1
      rw [he] at h1; cases h1
    · have hr : rwids l z = zipP (fun a _ => prX (rwide a z)) l l := by
        unfold rwids bothP
        rw [h3]; simp
      have hg := right_good hs h3
      have hm := zipP_mem (φ := fun a _ => prX (rwide a z)) (l := l) (m := l) (by rw [← hr]; exact he)
      rw [← hr] at hm
      cases hp : prb z with
      | false =>
        exfalso
        have : rwids l z = ([], 1) := bothP_1 fun a _ => prX_1 hp a
        rw [this] at he; cases he
      | true =>
        rw [prl_prb] at hp
        have key : ∀ x ∈ (rwids l z).1, ¬ 0 < cmpx x zX → x = zX := fun x hx hn => by
          obtain ⟨a, b, ha, _, e⟩ := hm x hx
          have e : prX (rwide a z) = (x, 0) := e
          have e1 : qx (rwide a z).1 = x := congrArg Prod.fst e
          have e2 : (rwide a z).2 = 0 := congrArg Prod.snd e
          obtain ⟨hv, hw⟩ := (wide_facts (hg a ha) hp).2 e2
          have hle := (cmpx_le (okJ_parts (hg a ha).1).1 (okJ_parts (hg a ha).1).2.1).1 (okJ_parts (hg a ha).1).2.2
          rw [← e1] at hn ⊢
          exact pos_or hv (by omega) hn
        generalize (rwids l z).1 = xs at key
        cases xs with
        | nil => rfl
        | cons a t =>
          show _ = ((bif decide (0 < cmpx a zX) then wgo t (0 + 1) 0 a else wgo t (0 + 1) 0 zX), 0)
          by_cases hc : 0 < cmpx a zX
          · rw [decide_eq_true hc]; rfl
          · rw [decide_eq_false hc, key a (List.mem_cons_self ..) hc]; rfl
end Go.Proofs.YthhaelnildaemaaGreatDoor
