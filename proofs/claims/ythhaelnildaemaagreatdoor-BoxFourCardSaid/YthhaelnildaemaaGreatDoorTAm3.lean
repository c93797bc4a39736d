/- Middles, radii, widths: what they are. -/
import Derived.Test.YthhaelnildaemaaGreatDoorTAkM
import Derived.Test.YthhaelnildaemaaGreatDoorTAj2
import Derived.Test.YthhaelnildaemaaGreatDoorTAl8
import Derived.Test.YthhaelnildaemaaGreatDoorTAm2
namespace Go.Proofs.YthhaelnildaemaaGreatDoor
open Go.RowKit Nx
set_option linter.unusedVariables false
set_option linter.unusedSimpArgs false
theorem qx_v {q : Q} (h : Valid q) : (qx q).v = q.at 65536 := by unfold X.v; rw [(qx_ok h).2.2]
theorem wide_facts {j : J} {z : Int} (hg : Good j) (hz : prl z = true) : ((rwide j z).2 = 0 ∨ (rwide j z).2 = 2) ∧ ((rwide j z).2 = 0 → Valid (rwide j z).1 ∧ j.hi.v - j.lo.v ≤ (rwide j z).1.at 65536) := by
  obtain ⟨a1, a2, a3⟩ := okJ_parts hg.1
  have c2 := (ok_arg a1 hg.2.lo).1
  unfold rwide
  rw [hg.1, prl_prb, hz]
  simp only [Bool.not_true, Bool.or_self, cond_false]
  refine ⟨res_two _, fun hr => ?_⟩
  have hf : Fits (rnd z.toNat true (minus j.hi.q j.lo.q)) := by
    by_cases hf : Fits (rnd z.toNat true (minus j.hi.q j.lo.q))
    · exact hf
    · rw [res_over hf] at hr; cases hr
  rw [res_ok hf]
  have up := rnd_up (E := 65536) (p := z.toNat) (low_minus (E := 65536) (a := j.hi.q) c2 (ok_e a2) (ok_e a1))
  rw [at_minus (E := 65536) (a := j.hi.q) c2 (ok_e a2) (ok_e a1)] at up
  exact ⟨⟨rnd_canon _ _ _, hf⟩, up⟩
end Go.Proofs.YthhaelnildaemaaGreatDoor
namespace Go.Proofs.YthhaelnildaemaaGreatDoor
open Go.RowKit Nx
set_option linter.unusedVariables false
set_option linter.unusedSimpArgs false
theorem bothB_congr {φ ψ : J → J → J × Int} {l m : List J} (h : rightB l = true → rightB m = true → ∀ a ∈ l, ∀ b ∈ m, φ a b = ψ a b) : bothB φ l m = bothB ψ l m := by
  unfold bothB
  cases hc : rightB l && rightB m && decide (l.length = m.length) with
  | false => rfl
  | true =>
    rw [Bool.and_eq_true, Bool.and_eq_true] at hc
    replace h := h hc.1.1 hc.1.2
    rw [cond_true, cond_true]
    clear hc
    induction l generalizing m with
    | nil => rfl
    | cons a l ih =>
      cases m with
      | nil => rfl
      | cons b m =>
        unfold zipB
        rw [h a (List.mem_cons_self ..) b (List.mem_cons_self ..), ih fun a ha b hb => h a (List.mem_cons_of_mem _ ha) b (List.mem_cons_of_mem _ hb)]
theorem bothP_congr {φ ψ : J → J → X × Int} {l m : List J} (h : rightB l = true → rightB m = true → ∀ a ∈ l, ∀ b ∈ m, φ a b = ψ a b) : bothP φ l m = bothP ψ l m := by
  unfold bothP
  cases hc : rightB l && rightB m && decide (l.length = m.length) with
  | false => rfl
  | true =>
    rw [Bool.and_eq_true, Bool.and_eq_true] at hc
    replace h := h hc.1.1 hc.1.2
    rw [cond_true, cond_true]
    clear hc
    induction l generalizing m with
    | nil => rfl
    | cons a l ih =>
      cases m with
      | nil => rfl
      | cons b m =>
        unfold zipP
        rw [h a (List.mem_cons_self ..) b (List.mem_cons_self ..), ih fun a ha b hb => h a (List.mem_cons_of_mem _ ha) b (List.mem_cons_of_mem _ hb)]
theorem right_ok {l : List J} (h : rightB l = true) : ∀ j ∈ l, okJ j = true := by
  unfold rightB at h
  rw [Bool.and_eq_true] at h
  exact List.all_eq_true.1 h.2
def Sm (l : List J) : Prop := ∀ j ∈ l, GJ j
theorem right_good {l : List J} (hs : Sm l) (h : rightB l = true) : Goods l := fun j hj => ⟨right_ok h j hj, hs j hj⟩
theorem sm_of : ∀ {l : List J}, smCs (bC l) → Sm l := by
  intro l
  induction l with
  | nil => intro _ j hj; cases hj
  | cons a l ih =>
    intro h j hj
    rw [bC_cons] at h
    obtain ⟨_, _, h1, _, _, h2, h3⟩ := h
    rcases List.mem_cons.1 hj with rfl | hj
    · exact ⟨h1.1, h2.1⟩
    · exact ih h3 j hj
theorem at_zero {E : Nat} {q : Q} (h : Canon q) (hE : -(E : Int) ≤ q.e) (h0 : q.at E = 0) : q = q0 := by
  rw [← of_at h hE, h0]
  have := of_at (E := E) (q := q0) valid0.1 (by show -(E : Int) ≤ 0; omega)
  rw [at0] at this; exact this
theorem pos_or {q : Q} (h : Valid q) (h0 : 0 ≤ q.at 65536) (hn : ¬ 0 < cmpx (qx q) zX) : qx q = zX := by
  obtain ⟨h1, _, h3⟩ := qx_ok h
  have hv := qx_v h
  have h4 : ¬ zX.v < (qx q).v := fun hl => hn ((cmpx_gt h1 zX_ok).2 hl)
  rw [zX_v, hv] at h4
  have he := ok_e h1
  rw [h3] at he
  rw [at_zero h.1 he (by omega), qx0]
theorem zipP_mem {φ : J → J → X × Int} : ∀ {l m : List J}, (zipP φ l m).2 = 0 → ∀ x ∈ (zipP φ l m).1, ∃ a b, a ∈ l ∧ b ∈ m ∧ φ a b = (x, 0) := by
  intro l
  induction l with
  | nil => intro m _ x hx; cases hx
  | cons a l ih =>
    intro m h x hx
    cases m with
    | nil => cases hx
    | cons b m =>
      unfold zipP at h hx
      cases h1 : (φ a b).2 != 0 with
      | true => rw [h1] at hx; cases hx
      | false =>
        rw [h1] at h hx
        rw [cond_false] at h hx
        cases h2 : (zipP φ l m).2 != 0 with
        | true => rw [h2] at hx; cases hx
        | false =>
          rw [h2] at hx
          rw [cond_false] at hx
          have h1 : (φ a b).2 = 0 := by simpa using h1
          rcases List.mem_cons.1 hx with rfl | hx
          · exact ⟨a, b, List.mem_cons_self .., List.mem_cons_self .., by rw [← h1]⟩
          · obtain ⟨c, d, hc, hd, e⟩ := ih (by simpa using h2) x hx
            exact ⟨c, d, List.mem_cons_of_mem _ hc, List.mem_cons_of_mem _ hd, e⟩
theorem wids_eq (l : List J) (z : Int) : wids l z = rwids l z := bothP_congr fun _ _ a _ b _ => wide_eq a z
theorem wide_same {l : List J} (hs : Sm l) (z : Int) : widS l z = rwidS l z := by
  unfold widS rwidS
  rw [wids_eq]
  unfold widR rwidR
  cases he : (rwids l z).2 != 0 with
  | true => rfl
  | false =>
    rw [cond_false, cond_false]
    have he : (rwids l z).2 = 0 := by simpa using he
    rcases bothP_len (φ := fun a _ => prX (rwide a z)) l l with h1 | ⟨_, h2, h3, _⟩
    · have h1 : ((rwids l z).2 != 0) = true := h1
      rw [he] at h1; cases h1
    · have hr : rwids l z = zipP (fun a _ => prX (rwide a z)) l l := by
        unfold rwids bothP
        rw [h3]; simp
      have hg := right_good hs h3
      have hm := zipP_mem (φ := fun a _ => prX (rwide a z)) (l := l) (m := l) (by rw [← hr]; exact he)
      rw [← hr] at hm
      cases hp : prb z with
      | false =>
        exfalso
        have : rwids l z = ([], 1) := bothP_1 fun a _ => prX_1 hp a
        rw [this] at he; cases he
      | true =>
        rw [prl_prb] at hp
        have key : ∀ x ∈ (rwids l z).1, ¬ 0 < cmpx x zX → x = zX := fun x hx hn => by
          obtain ⟨a, b, ha, _, e⟩ := hm x hx
          have e : prX (rwide a z) = (x, 0) := e
          have e1 : qx (rwide a z).1 = x := congrArg Prod.fst e
          have e2 : (rwide a z).2 = 0 := congrArg Prod.snd e
          obtain ⟨hv, hw⟩ := (wide_facts (hg a ha) hp).2 e2
          have hle := (cmpx_le (okJ_parts (hg a ha).1).1 (okJ_parts (hg a ha).1).2.1).1 (okJ_parts (hg a ha).1).2.2
          rw [← e1] at hn ⊢
          exact pos_or hv (by omega) hn
        generalize (rwids l z).1 = xs at key
        cases xs with
        | nil => rfl
        | cons a t =>
          show _ = ((bif decide (0 < cmpx a zX) then wgo t (0 + 1) 0 a else wgo t (0 + 1) 0 zX), 0)
          by_cases hc : 0 < cmpx a zX
          · rw [decide_eq_true hc]; rfl
          · rw [decide_eq_false hc, key a (List.mem_cons_self ..) hc]; rfl
theorem neg_q {x : X} (h : GX x) : (qx (negx x)).q = x.q.neg ∧ GX (qx (negx x)) := by
  have hv := ok_arg h.1 h.2
  have e : negx x = x.q.neg := by
    unfold negx anssign
    have h1 := h.1
    unfold X.ok at h1
    rw [if_pos h1]; rfl
  refine ⟨?_, (neg_gx h).1⟩
  rw [e]; exact (qx_ok (neg_valid hv)).2.2
theorem blow_same {j : J} (hg : Good j) (z : Int) : blowJ j z = rblowJ j z := by
  cases hp : prb z with
  | false =>
    rw [rblow_1 hp]
    unfold blowJ
    rw [wide_eq, prX_1 hp]; rfl
  | true =>
    rw [prl_prb] at hp
    unfold blowJ rblowJ
    rw [wide_eq]
    have e1 : (prX (rwide j z)).2 = (rwide j z).2 := rfl
    have e2 : (prX (rwide j z)).1 = qx (rwide j z).1 := rfl
    rw [e1, e2]
    cases h1 : (rwide j z).2 != 0 with
    | true => rfl
    | false =>
      rw [cond_false, cond_false]
      have h1 : (rwide j z).2 = 0 := by simpa using h1
      obtain ⟨hv, hw⟩ := (wide_facts hg hp).2 h1
      obtain ⟨o1, o2, o3⟩ := qx_ok hv
      rw [scalex_ok o1 o2, o3]
      cases h2 : (res (scale (rwide j z).1 (-2))).2 != 0 with
      | true => rfl
      | false =>
        rw [cond_false, cond_false]
        have hf : Fits (scale (rwide j z).1 (-2)) := by
          by_cases hf : Fits (scale (rwide j z).1 (-2))
          · exact hf
          · rw [res_over hf] at h2; cases h2
        rw [res_ok hf]
        have hsv : Valid (scale (rwide j z).1 (-2)) := ⟨scale_canon hv.1 _, hf⟩
        have hle := (cmpx_le (okJ_parts hg.1).1 (okJ_parts hg.1).2.1).1 (okJ_parts hg.1).2.2
        have hs0 : 0 ≤ (scale (rwide j z).1 (-2)).at 65536 := by
          have h3 := scale_at (E := 65536) (rwide j z).1 2
          have h4 := at_more (F := 2) (show -((65536 : Nat) : Int) ≤ (scale (rwide j z).1 (-2)).e from hsv.2.2.1)
          have h3 : (scale (rwide j z).1 (-2)).at (65536 + 2) = (rwide j z).1.at 65536 := h3
          rw [h4] at h3
          omega
        generalize scale (rwide j z).1 (-2) = s at hsv hs0
        obtain ⟨s1, s2, s3⟩ := qx_ok hsv
        obtain ⟨n1, n2⟩ := neg_q (x := qx s) ⟨s1, s2⟩
        rw [s3] at n1
        have hnv : (qx (negx (qx s))).v = -(qx s).v := (neg_gx (x := qx s) ⟨s1, s2⟩).2
        have hok : okJ ⟨qx (negx (qx s)), qx s⟩ = true := okJ_of n2.1 s1 (by rw [hnv, qx_v hsv]; omega)
        obtain ⟨a1, a2, _⟩ := okJ_parts hg.1
        show addJ j ⟨qx (negx (qx s)), qx s⟩ z = _
        rw [add_eq, rtwo_ok a1 s1 hp, rtwo_ok a2 s1 hp, gk_0, gk_1, s3]
        unfold opQ
        rw [hg.1, hok, prl_prb, hp]
        show endsQ (rnd z.toNat false (plus j.lo.q (qx (negx (qx s))).q)) (rnd z.toNat true (plus j.hi.q (qx s).q)) = _
        rw [n1, s3]
        unfold endsQ gadd gsub minus
        cases (res (rnd z.toNat false (plus j.lo.q s.neg))).2 != 0 <;> cases (res (rnd z.toNat true (plus j.hi.q s))).2 != 0 <;> rfl
end Go.Proofs.YthhaelnildaemaaGreatDoor
