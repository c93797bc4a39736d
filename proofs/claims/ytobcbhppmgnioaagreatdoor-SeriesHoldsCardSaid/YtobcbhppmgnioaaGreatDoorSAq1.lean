/- Calls that answer a list which is then the caller's own: alone, or beside an error. -/
import Derived.Test.YtobcbhppmgnioaaGreatDoorSAo1
namespace Go.Proofs.YtobcbhppmgnioaaGreatDoor
open Go.RowKit Nx
set_option linter.unusedVariables false
set_option linter.unusedSimpArgs false
structure GL where
 n : Nat
 e : TypeId
 sz : Nat
 ls : List Lf
inductive GR where
 | one (g : GL)
 | ok (g : GL)
 | err (z : Int)
structure Oldu (ρ : Env) (D : Nat → Bool) (w : World) (u : Value) : Prop where
 own : ∀ b, D b = true → ρ b < w.heap.size
 gro : ∀ b g, ρ.al b = true → (ρ.gh b).ownBlock = some g → g < w.heap.size ∨ u.ownBlock = some g
 z : ρ.z ≤ w.heap.size
section
variable {P : Program} {ρ ρ' : Env} {D D' : Nat → Bool} {w w0 : World} {x : Value}
theorem Lf.R.outu {l : Lf} {u : Value} (h : l.R ρ D w u) (hc : clL l = true) (hz : w0.heap.size ≤ ρ.z) (hs : ∀ g, Sep ρ D g → x.ownBlock ≠ some g) (ho : Oldu ρ' D' w0 x) : l.R ρ' D' w u := by
 cases l with
 | own _ _ => cases hc
 | osl _ _ => cases hc
 | im _ => cases hc
 | ol _ _ => cases hc
 | oe _ _ _ => cases hc
 | ov _ _ _ _ => cases hc
 | clo f cs => cases cs with
  | nil => exact ⟨(fun b hb => by cases hb), h.2⟩
  | cons _ _ => cases hc
 | sl f sz n ls =>
  have hc : f = true := hc
  subst hc
  refine Lc.R.mono (Keeps.refl _ _) (fun g _ _ _ h => ⟨⟨fun b hb e => ?_, fun b hb e => ?_⟩, fun _ => ?_⟩) _ _ h
  ·have := ho.own b hb; have := h.2 rfl; omega
  ·rcases ho.gro b g hb e with h1 | h1
   ·have := h.2 rfl; omega
   ·exact hs g h.1 h1
  ·have := h.2 rfl; have := ho.z; omega
 | _ => exact h
theorem RL.outu (hz : w0.heap.size ≤ ρ.z) (hs : ∀ g, Sep ρ D g → x.ownBlock ≠ some g) (ho : Oldu ρ' D' w0 x) : ∀ {ls : List Lf} {us : List Value}, ls.all clL = true → RL ρ D w ls us → RL ρ' D' w ls us := by
 intro ls
 induction ls with
 | nil => intro us _ h; exact h
 | cons l ls ih =>
  intro us hc h
  rw [List.all_cons, Bool.and_eq_true] at hc
  obtain ⟨u, r, e, h1, h2⟩ := h
  exact ⟨u, r, e, h1.outu hc.1 hz hs ho, ih hc.2 h2⟩
end
def GLR (w0 w' : World) (g : GL) (v : Value) : Prop := ∃ vs, ((g.ls = [] ∨ 0 < g.n) ∧ 0 < g.sz ∧ g.ls.all okLf = true) ∧ Gr w' w0.heap.size g.e g.sz v g.n vs ∧ ∀ ρ' D', Oldu ρ' D' w0 v → RL ρ' D' w' g.ls vs
def GRR (w0 w' : World) : GR → Value → Prop
 | .one g, u => GLR w0 w' g u
 | .ok g, u => ∃ v, u = .tuple #[v, .int .i64 0] ∧ GLR w0 w' g v
 | .err z, u => u = .tuple #[.slice none 0 0, .int .i64 z]
def Gd (P : Program) (f : FuncId) (args : List AV) (r : GR) : Prop := ∀ ρ D w us, Tab w → RA ρ D w args us →
 Calls P f us.toArray w fun en w' => ∃ u, en = .returned u ∧ GRR w w' r u ∧ Below w.heap.size w w'
def glf (g : GL) (st : St) : Lf → Prop
 | .ol b k => (match look st (2 * b + 1) with
  | some (.pre _ s1 l1) => k = g.n ∧ s1 = g.sz ∧ l1 = g.ls ∧ g.ls.all clL = true ∧ g.ls.length = g.n * g.sz
  | _ => False)
 | .osl b k => (match look st (2 * b + 1) with
  | some (.v true l1) => (k = g.n ∧ b < 1000 ∧ 0 < g.n ∧ 0 < g.sz ∧ g.n ≤ 100000) ∧ l1 = g.ls ∧ g.ls.all clL = true ∧ g.ls.length = g.n * g.sz
  | _ => False)
 | _ => False
def grp : GR → St → Option (List (Bool × List Lf)) → Prop
 | .one g, st, some [(false, [l])] => glf g st l
 | .ok g, st, some [(false, [l]), (false, [.lit v])] => glf g st l ∧ v = .int .i64 0
 | .err z, _, some [(false, [.lit v]), (false, [.lit v'])] => v = .slice none 0 0 ∧ v' = .int .i64 z
 | _, _, _ => False
section
variable {g : GL} {st : St} {b k : Nat} {l : Lf} {z : Int} {v v' : Value}
theorem glf_ol : glf g st (.ol b k) = (match look st (2 * b + 1) with
  | some (.pre _ s1 l1) => k = g.n ∧ s1 = g.sz ∧ l1 = g.ls ∧ g.ls.all clL = true ∧ g.ls.length = g.n * g.sz
  | _ => False) := rfl
theorem glf_osl : glf g st (.osl b k) = (match look st (2 * b + 1) with
  | some (.v true l1) => (k = g.n ∧ b < 1000 ∧ 0 < g.n ∧ 0 < g.sz ∧ g.n ≤ 100000) ∧ l1 = g.ls ∧ g.ls.all clL = true ∧ g.ls.length = g.n * g.sz
  | _ => False) := rfl
theorem grp_ok : grp (.ok g) st (some [(false, [l]), (false, [.lit v])]) = (glf g st l ∧ v = .int .i64 0) := by cases l <;> rfl
end
section
variable {P : Program} {N : Nat} {ρ : Env} {st : St} {a : Act} {w w' : World}
theorem glf_R (h : Cz Fx.no w N ρ st a w') {g : GL} {l : Lf} {u : Value} (hp : glf g st l) (hR : l.R ρ (dom st) w' u) : GLR w w' g u := by
 have hzz : w.heap.size ≤ ρ.z := by rw [h.zz]; exact Nat.le_refl _
 cases l with
 | ol b k =>
  rw [glf_ol] at hp
  split at hp
  ·rename_i e1 s1 l1 hl
   obtain ⟨rfl, rfl, rfl, hcl, hlen⟩ := hp
   obtain ⟨hal, hgv, hn, hsz, _⟩ := h.cur hl hlen
   obtain ⟨_, _, _, hok, vs, hG, hRL⟩ := h.gc b _ _ _ hl
   have hu : u = ρ.gh b := hR.2.2.1 hgv.symm
   refine ⟨vs, ⟨hn, hsz, hok⟩, by rw [hu]; rw [hgv] at hG; exact hG, fun ρ' D' ho => hRL.outu hzz (fun g hg e => hg.2 b hal (by rw [← hu]; exact e)) ho hcl⟩
  ·exact hp.elim
 | osl b k =>
  rw [glf_osl] at hp
  split at hp
  ·rename_i l1 hl
   obtain ⟨⟨rfl, hb, hn, hsz, hm⟩, rfl, hcl, hlen⟩ := hp
   obtain ⟨hdb, hu⟩ := hR
   obtain ⟨g0, ls0, T, cs, e0, hB, hr0, ho0, hg⟩ := h.mv hl
   injection e0 with e1 e0; subst e0
   have hge : w.heap.size ≤ ρ b := by
    rcases hg e1.symm with h1 | h1
    ·exact h1.2
    ·exact h1.2.elim
   have hl2 := hr0.len
   rw [Array.length_toList] at hl2
   refine ⟨cs.toList, ⟨.inr hn, hsz, ho0⟩, ⟨ρ b, g.n, cs, hu, hge, ⟨T, hB⟩, Nat.le_refl _, by simp only [maxLen]; omega, by rw [hl2, hlen], List.take_of_length_le (by rw [Array.length_toList, hl2, hlen]; exact Nat.le_refl _), hr0.okAll ho0⟩, fun ρ' D' ho => hr0.outu hzz (fun g' hg' e => ?_) ho hcl⟩
   rw [hu] at e
   injection e with e
   exact hg'.1 b hdb e
  ·exact hp.elim
 | _ => exact hp.elim
end
def grU (d : Nat) : GR → List (Nat × AV)
 | .one g => [(2 * d, .s (.ol d g.n)), (2 * d + 1, .pre g.e g.sz g.ls)]
 | .ok g => [(2 * d, .tup [(false, [.ol d g.n]), (false, [.lit (.int .i64 0)])]), (2 * d + 1, .pre g.e g.sz g.ls)]
 | .err z => [(2 * d, .tup [(false, [.lit (.slice none 0 0)]), (false, [.lit (.int .i64 z)])])]
def gdO (g : FuncId) (k : List AV → Option (Prop × GR)) : Orac := fun f d st args => if f = g then (match k (args.map (cvA st)) with
 | some e => if (args.map (cvA st)).all noA = true then (match look st (2 * d + 1) with
  | none => some (e.1, args.flatMap olA ++ [2 * d + 1], grU d e.2)
  | some _ => none) else none
 | none => none) else none
theorem gdO_ok {P : Program} {g : FuncId} {k : List AV → Option (Prop × GR)} {w0 : World} (hen : ∀ (vs : Array Value) (w : World), (callFunc g vs).run P w = .ok (.enter g vs) w)
  (hk : ∀ args e, k args = some e → e.1 → Gd P g args e.2) : OrOK P (gdO g k) Fx.no w0 := by
 have inv : ∀ f d st args q, gdO g k f d st args = some q → f = g ∧ ∃ e, k (args.map (cvA st)) = some e ∧ (args.map (cvA st)).all noA = true ∧ look st (2 * d + 1) = none ∧ q = (e.1, args.flatMap olA ++ [2 * d + 1], grU d e.2) := by
  intro f d st args q he
  unfold gdO at he
  split at he
  case isFalse => cases he
  rename_i hf
  split at he
  case h_2 => cases he
  rename_i e hq
  split at he
  case isFalse => cases he
  rename_i hn
  split at he
  case h_2 => cases he
  rename_i hlk
  injection he with he
  exact ⟨hf, e, hq, hn, hlk, he.symm⟩
 refine ⟨fun f d st args e he => ?_, fun f d st args q he hp N ρ a w us hz hd hA => ?_, fun f d st st' args q he hkk => ?_⟩
 ·obtain ⟨rfl, _⟩ := inv _ _ _ _ _ he; exact hen
 ·obtain ⟨rfl, e, hq, hn, hlk, rfl⟩ := inv _ _ _ _ _ he
  refine (hk _ _ hq hp ρ.no (fun _ => false) w us (hz.tb.tab hz.bel) (cv_RA hz hA hn)).mono ?_
  rintro en w' ⟨u, rfl, hr, hb⟩
  have hdm : dom st d = false := by unfold dom; rw [hlk]
  have hnal : ρ.al d = true → False := fun hal => by
   obtain ⟨e', s', l', hl⟩ := hz.gm d hal
   rw [hlk] at hl; cases hl
  have fin : ∀ (g : GL) (v : Value), GLR w w' g v → Cz Fx.no w0 N (ρ.up d v g.n) ((2 * d + 1, .pre g.e g.sz g.ls) :: st) a w' := fun g v hg => by
   obtain ⟨vs, ⟨h1, h2, h3⟩, hG, hR⟩ := hg
   have hG' : Gr w' w0.heap.size g.e g.sz v g.n vs := by
    obtain ⟨b, cap, cur, e1, hbg, h4⟩ := hG
    exact ⟨b, cap, cur, e1, Nat.le_trans hz.bel.size hbg, h4⟩
   refine hz.apF hdm h2 h1 (fun hal => (hnal hal).elim) (grown_below hb) (fun g hg => by cases hg) (Keeps.below hb) (fun b hb' => .inr (hG.lt b hb').1) h3 hG' fun he => hR _ _ ⟨fun b hb' => ?_, fun b x hb' hx => ?_, ?_⟩
   ·have hx : dom st b = true := by
     by_cases e1 : b = d
     ·subst e1; unfold dom at hb'; rw [look_same] at hb'; cases hb'
     ·unfold dom at hb' ⊢; rw [look_other (by omega)] at hb'; exact hb'
    exact hz.lt hx
   ·by_cases e1 : b = d
    ·subst e1
     right
     have hx : (if b = b then v else ρ.gh b).ownBlock = some x := hx
     rwa [if_pos rfl] at hx
    ·left
     have hb' : (if b = d then true else ρ.al b) = true := hb'
     have hx : (if b = d then v else ρ.gh b).ownBlock = some x := hx
     rw [if_neg e1] at hb' hx
     exact (hz.glt hb' hx).2
   ·show ρ.z ≤ _
    rw [hz.zz]; exact hz.bel.size
  have hol : ∀ (g : GL) (v : Value), GLR w w' g v → (Lf.ol d g.n).R (ρ.up d v g.n) (dom ((2 * d + 1, .pre g.e g.sz g.ls) :: st)) w' v := fun g v hg => by
   obtain ⟨vs, _, ⟨b, cap, cur, e1, _⟩, _⟩ := hg
   exact ⟨by simp, by simp, fun _ => by simp, _, _, e1⟩
  cases he : e.2 with
  | one g =>
   rw [he] at hr
   exact ⟨u, _, rfl, (fin g u hr).val (Below.refl _ _) hd (RL.one.2 (hol g u hr))⟩
  | ok g =>
   rw [he] at hr
   obtain ⟨v, rfl, hg⟩ := hr
   exact ⟨_, _, rfl, (fin g v hg).val (v := .tup [(false, [.ol d g.n]), (false, [.lit (.int .i64 0)])]) (Below.refl _ _) hd ⟨[v, .int .i64 0], rfl, v, _, rfl, RL.one.2 (hol g v hg), _, _, rfl, RL.one.2 rfl, rfl⟩⟩
  | err z =>
   rw [he] at hr
   have hr : u = .tuple #[.slice none 0 0, .int .i64 z] := hr
   subst hr
   exact ⟨_, _, rfl, hz.val (v := .tup [(false, [.lit (.slice none 0 0)]), (false, [.lit (.int .i64 z)])]) hb hd ⟨[.slice none 0 0, .int .i64 z], rfl, _, _, rfl, RL.one.2 rfl, _, _, rfl, RL.one.2 rfl, rfl⟩⟩
 ·obtain ⟨rfl, e, hq, hn, hlk, rfl⟩ := inv _ _ _ _ _ he
  have hm : args.map (cvA st') = args.map (cvA st) := List.map_congr_left fun x hx => cvA_congr fun k hk' => hkk k (List.mem_append.2 (.inl (List.mem_flatMap.2 ⟨x, hx, hk'⟩)))
  have hl2 : look st' (2 * d + 1) = none := by rw [hkk _ (List.mem_append.2 (.inr (List.mem_singleton.2 rfl)))]; exact hlk
  unfold gdO
  rw [if_pos rfl, hm, hq]
  simp only [hn, if_true, hl2]
theorem gdO_or {P : Program} {g : FuncId} {k : List AV → Option (Prop × GR)} {B : Orac} {w0 : World} (hA : OrOK P (gdO g k) Fx.no w0) (hB : OrOK P B Fx.no w0) (hn : ∀ d st args, B g d st args = none) : OrOK P (orO (gdO g k) B) Fx.no w0 :=
 orO_ok hA hB fun f d st args e he st' => by
  unfold gdO
  split
  ·rename_i h; subst h; rw [hn] at he; cases he
  ·rfl
def uA {α β : Type} (pa : AV → Option α) (k : α → List AV → Option (Prop × β)) : List AV → Option (Prop × β)
 | x :: xs => (match pa x with
  | some a => k a xs
  | none => none)
 | [] => none
def uE {β : Type} (e : Prop × β) : List AV → Option (Prop × β)
 | [] => some e
 | _ :: _ => none
def GdT (P : Program) (f : FuncId) (pre : List AV) (k : List AV → Option (Prop × GR)) : Prop := ∀ args e, k args = some e → e.1 → Gd P f (pre ++ args) e.2
theorem GdT.e {P : Program} {f : FuncId} {pre : List AV} {e : Prop × GR} (h : e.1 → Gd P f pre e.2) : GdT P f pre (uE e) := by
 intro args e' he hp
 cases args with
 | nil => injection he with he; subst he; rw [List.append_nil]; exact h hp
 | cons _ _ => cases he
theorem GdT.a {P : Program} {f : FuncId} {pre : List AV} {α : Type} {pa : AV → Option α} {c : α → AV} {k : α → List AV → Option (Prop × GR)} (ha : AsOK pa c) (h : ∀ a, GdT P f (pre ++ [c a]) (k a)) : GdT P f pre (uA pa k) := by
 intro args e he hp
 cases args with
 | nil => cases he
 | cons x xs =>
  have he : (match pa x with
   | some a => k a xs
   | none => none) = some e := he
  split at he
  ·rename_i a hx
   have h1 := h a xs e he hp
   rw [List.append_assoc] at h1
   intro ρ D w us ht hR
   refine h1 ρ D w us ht ?_
   obtain ⟨us1, us2, rfl, h2, h3⟩ : ∃ us1 us2, us = us1 ++ us2 ∧ RA ρ D w pre us1 ∧ RA ρ D w (x :: xs) us2 := by
    refine ⟨us.take pre.length, us.drop pre.length, (List.take_append_drop _ _).symm, ?_⟩
    have := RA.split hR pre.length
    rwa [List.take_left, List.drop_left] at this
   obtain ⟨u, r, rfl, h4, h5⟩ := h3
   exact h2.append ⟨u, r, rfl, ha x a hx ρ D w u h4, h5⟩
  ·cases he
theorem gdO_t {P : Program} {g : FuncId} {k : List AV → Option (Prop × GR)} {w0 : World} (hen : ∀ (vs : Array Value) (w : World), (callFunc g vs).run P w = .ok (.enter g vs) w) (h : GdT P g [] k) : OrOK P (gdO g k) Fx.no w0 := gdO_ok hen fun args e hk hp => h args e hk hp
end Go.Proofs.YtobcbhppmgnioaaGreatDoor
