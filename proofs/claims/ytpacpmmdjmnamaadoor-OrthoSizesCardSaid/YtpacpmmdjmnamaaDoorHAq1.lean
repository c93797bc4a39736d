/- Calls that answer a list which is then the caller's own: alone, or beside an error. -/
import Derived.Test.YtpacpmmdjmnamaaDoorHAo1
import Derived.Test.YtpacpmmdjmnamaaDoorHAo2
import Derived.Test.YtpacpmmdjmnamaaDoorHAk7
namespace Go.Proofs.YtpacpmmdjmnamaaDoor
open Go.RowKit Nx
set_option linter.unusedVariables false
set_option linter.unusedSimpArgs false
structure GL where
  n : Nat
  e : TypeId
  sz : Nat
  ls : List Lf
inductive GR where
  | one (g : GL)
  | ok (g : GL)
  | err (z : Int)
structure Oldu (ρ : Env) (D : Nat → Bool) (w : World) (u : Value) : Prop where
  own : ∀ b, D b = true → ρ b < w.heap.size
  gro : ∀ b g, ρ.al b = true → (ρ.gh b).ownBlock = some g → g < w.heap.size ∨ u.ownBlock = some g
  z : ρ.z ≤ w.heap.size
section
variable {P : Program} {ρ ρ' : Env} {D D' : Nat → Bool} {w w0 : World} {x : Value}
theorem Lf.R.outu {l : Lf} {u : Value} (h : l.R ρ D w u) (hc : clL l = true) (hz : w0.heap.size ≤ ρ.z) (hs : ∀ g, Sep ρ D g → x.ownBlock ≠ some g) (ho : Oldu ρ' D' w0 x) : l.R ρ' D' w u := by
  cases l with
  | own _ _ => cases hc
  | osl _ _ => cases hc
  | im _ => cases hc
  | ol _ _ => cases hc
  | oe _ _ _ => cases hc
  | ov _ _ _ _ => cases hc
  | clo f cs => cases cs with
    | nil => exact ⟨(fun b hb => by cases hb), h.2⟩
    | cons _ _ => cases hc
  | sl f sz n ls =>
    have hc : f = true := hc
    subst hc
    refine Lc.R.mono (Keeps.refl _ _) (fun g _ _ _ h => ⟨⟨fun b hb e => ?_, fun b hb e => ?_⟩, fun _ => ?_⟩) _ _ h
    · have := ho.own b hb; have := h.2 rfl; omega
    · rcases ho.gro b g hb e with h1 | h1
      · have := h.2 rfl; omega
      · exact hs g h.1 h1
    · have := h.2 rfl; have := ho.z; omega
  | _ => exact h
theorem RL.outu (hz : w0.heap.size ≤ ρ.z) (hs : ∀ g, Sep ρ D g → x.ownBlock ≠ some g) (ho : Oldu ρ' D' w0 x) : ∀ {ls : List Lf} {us : List Value}, ls.all clL = true → RL ρ D w ls us → RL ρ' D' w ls us := by
  intro ls
  induction ls with
  | nil => intro us _ h; exact h
  | cons l ls ih =>
    intro us hc h
    rw [List.all_cons, Bool.and_eq_true] at hc
    obtain ⟨u, r, e, h1, h2⟩ := h
    exact ⟨u, r, e, h1.outu hc.1 hz hs ho, ih hc.2 h2⟩
end
def GLR (w0 w' : World) (g : GL) (v : Value) : Prop := ∃ vs, (0 < g.n ∧ 0 < g.sz ∧ g.ls.all okLf = true) ∧ Gr w' w0.heap.size g.e g.sz v g.n vs ∧ ∀ ρ' D', Oldu ρ' D' w0 v → RL ρ' D' w' g.ls vs
def GRR (w0 w' : World) : GR → Value → Prop
  | .one g, u => GLR w0 w' g u
  | .ok g, u => ∃ v, u = .tuple #[v, .int .i64 0] ∧ GLR w0 w' g v
  | .err z, u => u = .tuple #[.slice none 0 0, .int .i64 z]
def Gd (P : Program) (f : FuncId) (args : List AV) (r : GR) : Prop := ∀ ρ D w us, Tab w → RA ρ D w args us →
  Calls P f us.toArray w fun en w' => ∃ u, en = .returned u ∧ GRR w w' r u ∧ Below w.heap.size w w'
def glf (g : GL) (st : St) : Lf → Prop
  | .ol b k => (match look st (2 * b + 1) with
    | some (.pre _ s1 l1) => k = g.n ∧ s1 = g.sz ∧ l1 = g.ls ∧ g.ls.all clL = true ∧ g.ls.length = g.n * g.sz
    | _ => False)
  | .osl b k => (match look st (2 * b + 1) with
    | some (.v true l1) => (k = g.n ∧ b < 1000 ∧ 0 < g.n ∧ 0 < g.sz ∧ g.n ≤ 100000) ∧ l1 = g.ls ∧ g.ls.all clL = true ∧ g.ls.length = g.n * g.sz
    | _ => False)
  | _ => False
def grp : GR → St → Option (List (Bool × List Lf)) → Prop
  | .one g, st, some [(false, [l])] => glf g st l
  | .ok g, st, some [(false, [l]), (false, [.lit v])] => glf g st l ∧ v = .int .i64 0
  | .err z, _, some [(false, [.lit v]), (false, [.lit v'])] => v = .slice none 0 0 ∧ v' = .int .i64 z
  | _, _, _ => False
section
variable {g : GL} {st : St} {b k : Nat} {l : Lf} {z : Int} {v v' : Value}
theorem glf_ol : glf g st (.ol b k) = (match look st (2 * b + 1) with
    | some (.pre _ s1 l1) => k = g.n ∧ s1 = g.sz ∧ l1 = g.ls ∧ g.ls.all clL = true ∧ g.ls.length = g.n * g.sz
    | _ => False) := rfl
theorem glf_osl : glf g st (.osl b k) = (match look st (2 * b + 1) with
    | some (.v true l1) => (k = g.n ∧ b < 1000 ∧ 0 < g.n ∧ 0 < g.sz ∧ g.n ≤ 100000) ∧ l1 = g.ls ∧ g.ls.all clL = true ∧ g.ls.length = g.n * g.sz
    | _ => False) := rfl
theorem grp_one : grp (.one g) st (some [(false, [l])]) = glf g st l := by cases l <;> rfl
end
section
variable {P : Program} {N : Nat} {ρ : Env} {st : St} {a : Act} {w w' : World}
theorem glf_R (h : Cz (fun _ => False) w N ρ st a w') {g : GL} {l : Lf} {u : Value} (hp : glf g st l) (hR : l.R ρ (dom st) w' u) : GLR w w' g u := by
  have hzz : w.heap.size ≤ ρ.z := by rw [h.zz]; exact Nat.le_refl _
  cases l with
  | ol b k =>
    rw [glf_ol] at hp
    split at hp
    · rename_i e1 s1 l1 hl
      obtain ⟨rfl, rfl, rfl, hcl, hlen⟩ := hp
      obtain ⟨hal, hgv, hn, hsz, _⟩ := h.cur hl hlen
      obtain ⟨_, _, _, hok, vs, hG, hRL⟩ := h.gc b _ _ _ hl
      have hu : u = ρ.gh b := hR.2.2.1 hgv.symm
      refine ⟨vs, ⟨hn, hsz, hok⟩, by rw [hu]; rw [hgv] at hG; exact hG, fun ρ' D' ho => hRL.outu hzz (fun g hg e => hg.2 b hal (by rw [← hu]; exact e)) ho hcl⟩
    · exact hp.elim
  | osl b k =>
    rw [glf_osl] at hp
    split at hp
    · rename_i l1 hl
      obtain ⟨⟨rfl, hb, hn, hsz, hm⟩, rfl, hcl, hlen⟩ := hp
      obtain ⟨hdb, hu⟩ := hR
      obtain ⟨g0, ls0, T, cs, e0, hB, hr0, ho0, hg⟩ := h.mv hl
      injection e0 with e1 e0; subst e0
      have hge : w.heap.size ≤ ρ b := by
        rcases hg e1.symm with h1 | h1
        · exact h1.2
        · exact h1.2.elim
      have hl2 := hr0.len
      rw [Array.length_toList] at hl2
      refine ⟨cs.toList, ⟨hn, hsz, ho0⟩, ⟨ρ b, g.n, cs, hu, hge, ⟨T, hB⟩, Nat.le_refl _, by simp only [maxLen]; omega, by rw [hl2, hlen], List.take_of_length_le (by rw [Array.length_toList, hl2, hlen]; exact Nat.le_refl _), hr0.okAll ho0⟩, fun ρ' D' ho => hr0.outu hzz (fun g' hg' e => ?_) ho hcl⟩
      rw [hu] at e
      injection e with e
      exact hg'.1 b hdb e
    · exact hp.elim
  | _ => exact hp.elim
end
theorem gd_of {P : Program} {ty : TypeId → Option TI} {O : Orac} (hm : P.follows .mixedOrders = true) (hty : ∀ t i, ty t = some i → TiOK P t i) (hO : ∀ w, OrOK P O (fun _ => False) w) {f : FuncId} {fn : Func} {c : Code} {args : List AV} (fg : List Nat) {r : GR}
    (fuel N : Nat) (rs : List ResultVar) (hf : P.funcs[f]? = some fn) (hb : fn.body = some c) (hN : fn.ntmps = N) (hr : fn.results.toList = rs) (hl : args.length ≤ N) (hc : args.all cbA = true)
    (h : smAs args → run ty O N (fun st => grp r st (resB ty st rs)) fg fuel [.code c] (init 0 args)) : Gd P f args r := by
  intro ρ D w us ht hA
  replace h := h hA.sm
  refine call_raw (mem := []) (ρ := ⟨fun n => n, w.heap.size, fun _ => undef, fun _ => 0, fun _ => false⟩) hm hty (hO w) fg fuel N hf hb hN hl ht (fun k v h => by cases h) (fun b v h => by cases h) (fun b b' h => by cases h) (hA.closed hc fun g h => ⟨fun b hb => (by cases hb), fun b hb => (by cases hb)⟩) rfl rfl (fun ρ' st a w' hp hz => ?_) (by rw [List.append_nil]; exact h)
  rw [← hr] at hp
  have hrun : ∀ vs : List Value, (fn.results.toList.mapM (resOne a.tmps)).run P w' = .ok vs w' → (results fn a.tmps).run P w' = .ok (if h : vs.toArray.size = 1 then vs.toArray[0] else .tuple vs.toArray) w' := fun vs hu => by
    show Sem.run P (do let vs ← fn.results.mapM (resOne a.tmps); pure (if h : vs.size = 1 then vs[0] else .tuple vs)) w' = _
    rw [Sem.run_bind, Array.mapM_eq_mapM_toList]
    simp [hu]
  unfold grp at hp
  split at hp
  · rename_i st0 g l hq
    obtain ⟨us, hu, hR⟩ := res_list hty hz _ _ hq
    obtain ⟨u, r, rfl, h1, h2⟩ := hR
    have h2 : r = [] := h2
    subst h2
    refine bodyPost_ret (hrun _ hu) hz.df ⟨u, rfl, glf_R hz hp (RL.one.1 h1), hz.bel.to⟩
  · rename_i st0 g l v hq
    obtain ⟨hp, rfl⟩ := hp
    obtain ⟨us, hu, hR⟩ := res_list hty hz _ _ hq
    obtain ⟨u, r, rfl, h1, u2, r2, rfl, h2, h3⟩ := hR
    have h3 : r2 = [] := h3
    subst h3
    have h2 : u2 = .int .i64 0 := RL.one.1 h2
    subst h2
    exact bodyPost_ret (hrun _ hu) hz.df ⟨_, rfl, ⟨u, rfl, glf_R hz hp (RL.one.1 h1)⟩, hz.bel.to⟩
  · rename_i st0 z v v' hq
    obtain ⟨rfl, rfl⟩ := hp
    obtain ⟨us, hu, hR⟩ := res_list hty hz _ _ hq
    obtain ⟨u, r, rfl, h1, u2, r2, rfl, h2, h3⟩ := hR
    have h3 : r2 = [] := h3
    subst h3
    have h1 : u = .slice none 0 0 := RL.one.1 h1
    have h2 : u2 = .int .i64 z := RL.one.1 h2
    subst h1; subst h2
    exact bodyPost_ret (hrun _ hu) hz.df ⟨_, rfl, rfl, hz.bel.to⟩
  · exact hp.elim
def grU (d : Nat) : GR → List (Nat × AV)
  | .one g => [(2 * d, .s (.ol d g.n)), (2 * d + 1, .pre g.e g.sz g.ls)]
  | .ok g => [(2 * d, .tup [(false, [.ol d g.n]), (false, [.lit (.int .i64 0)])]), (2 * d + 1, .pre g.e g.sz g.ls)]
  | .err z => [(2 * d, .tup [(false, [.lit (.slice none 0 0)]), (false, [.lit (.int .i64 z)])])]
def gdO (g : FuncId) (k : List AV → Option (Prop × GR)) : Orac := fun f d st args => if f = g then (match k (args.map (cvA st)) with
  | some e => if (args.map (cvA st)).all noA = true then (match look st (2 * d + 1) with
    | none => some (e.1, args.flatMap olA ++ [2 * d + 1], grU d e.2)
    | some _ => none) else none
  | none => none) else none
theorem gdO_ok {P : Program} {g : FuncId} {k : List AV → Option (Prop × GR)} {w0 : World} (hen : ∀ (vs : Array Value) (w : World), (callFunc g vs).run P w = .ok (.enter g vs) w)
    (hk : ∀ args e, k args = some e → e.1 → Gd P g args e.2) : OrOK P (gdO g k) (fun _ => False) w0 := by
  have inv : ∀ f d st args q, gdO g k f d st args = some q → f = g ∧ ∃ e, k (args.map (cvA st)) = some e ∧ (args.map (cvA st)).all noA = true ∧ look st (2 * d + 1) = none ∧ q = (e.1, args.flatMap olA ++ [2 * d + 1], grU d e.2) := by
    intro f d st args q he
    unfold gdO at he
    split at he
    case isFalse => cases he
    rename_i hf
    split at he
    case h_2 => cases he
    rename_i e hq
    split at he
    case isFalse => cases he
    rename_i hn
    split at he
    case h_2 => cases he
    rename_i hlk
    injection he with he
    exact ⟨hf, e, hq, hn, hlk, he.symm⟩
  refine ⟨fun f d st args e he => ?_, fun f d st args q he hp N ρ a w us hz hd hA => ?_, fun f d st st' args q he hkk => ?_⟩
  · obtain ⟨rfl, _⟩ := inv _ _ _ _ _ he; exact hen
  · obtain ⟨rfl, e, hq, hn, hlk, rfl⟩ := inv _ _ _ _ _ he
    refine (hk _ _ hq hp ρ.no (fun _ => false) w us (hz.tb.tab hz.bel) (cv_RA hz hA hn)).mono ?_
    rintro en w' ⟨u, rfl, hr, hb⟩
    have hdm : dom st d = false := by unfold dom; rw [hlk]
    have hnal : ρ.al d = true → False := fun hal => by
      obtain ⟨e', s', l', hl⟩ := hz.gm d hal
      rw [hlk] at hl; cases hl
    have fin : ∀ (g : GL) (v : Value), GLR w w' g v → Cz (fun _ => False) w0 N (ρ.up d v g.n) ((2 * d + 1, .pre g.e g.sz g.ls) :: st) a w' := fun g v hg => by
      obtain ⟨vs, ⟨h1, h2, h3⟩, hG, hR⟩ := hg
      have hG' : Gr w' w0.heap.size g.e g.sz v g.n vs := by
        obtain ⟨b, cap, cur, e1, hbg, h4⟩ := hG
        exact ⟨b, cap, cur, e1, Nat.le_trans hz.bel.size hbg, h4⟩
      refine hz.apF hdm h2 h1 (fun hal => (hnal hal).elim) (grown_below hb) (fun g hg => by cases hg) (Keeps.below hb) (fun b hb' => .inr (hG.lt b hb').1) h3 hG' fun he => hR _ _ ⟨fun b hb' => ?_, fun b x hb' hx => ?_, ?_⟩
      · have hx : dom st b = true := by
          by_cases e1 : b = d
          · subst e1; unfold dom at hb'; rw [look_same] at hb'; cases hb'
          · unfold dom at hb' ⊢; rw [look_other (by omega)] at hb'; exact hb'
        exact hz.lt hx
      · by_cases e1 : b = d
        · subst e1
          right
          have hx : (if b = b then v else ρ.gh b).ownBlock = some x := hx
          rwa [if_pos rfl] at hx
        · left
          have hb' : (if b = d then true else ρ.al b) = true := hb'
          have hx : (if b = d then v else ρ.gh b).ownBlock = some x := hx
          rw [if_neg e1] at hb' hx
          exact (hz.glt hb' hx).2
      · show ρ.z ≤ _
        rw [hz.zz]; exact hz.bel.size
    have hol : ∀ (g : GL) (v : Value), GLR w w' g v → (Lf.ol d g.n).R (ρ.up d v g.n) (dom ((2 * d + 1, .pre g.e g.sz g.ls) :: st)) w' v := fun g v hg => by
      obtain ⟨vs, _, ⟨b, cap, cur, e1, _⟩, _⟩ := hg
      exact ⟨by simp, by simp, fun _ => by simp, _, _, e1⟩
    cases he : e.2 with
    | one g =>
      rw [he] at hr
      exact ⟨u, _, rfl, (fin g u hr).val (Below.refl _ _) hd (RL.one.2 (hol g u hr))⟩
    | ok g =>
      rw [he] at hr
      obtain ⟨v, rfl, hg⟩ := hr
      exact ⟨_, _, rfl, (fin g v hg).val (v := .tup [(false, [.ol d g.n]), (false, [.lit (.int .i64 0)])]) (Below.refl _ _) hd ⟨[v, .int .i64 0], rfl, v, _, rfl, RL.one.2 (hol g v hg), _, _, rfl, RL.one.2 rfl, rfl⟩⟩
    | err z =>
      rw [he] at hr
      have hr : u = .tuple #[.slice none 0 0, .int .i64 z] := hr
      subst hr
      exact ⟨_, _, rfl, hz.val (v := .tup [(false, [.lit (.slice none 0 0)]), (false, [.lit (.int .i64 z)])]) hb hd ⟨[.slice none 0 0, .int .i64 z], rfl, _, _, rfl, RL.one.2 rfl, _, _, rfl, RL.one.2 rfl, rfl⟩⟩
  · obtain ⟨rfl, e, hq, hn, hlk, rfl⟩ := inv _ _ _ _ _ he
    have hm : args.map (cvA st') = args.map (cvA st) := List.map_congr_left fun x hx => cvA_congr fun k hk' => hkk k (List.mem_append.2 (.inl (List.mem_flatMap.2 ⟨x, hx, hk'⟩)))
    have hl2 : look st' (2 * d + 1) = none := by rw [hkk _ (List.mem_append.2 (.inr (List.mem_singleton.2 rfl)))]; exact hlk
    unfold gdO
    rw [if_pos rfl, hm, hq]
    simp only [hn, if_true, hl2]
theorem gdO_or {P : Program} {g : FuncId} {k : List AV → Option (Prop × GR)} {B : Orac} {w0 : World} (hA : OrOK P (gdO g k) (fun _ => False) w0) (hB : OrOK P B (fun _ => False) w0) (hn : ∀ d st args, B g d st args = none) : OrOK P (orO (gdO g k) B) (fun _ => False) w0 :=
  orO_ok hA hB fun f d st args e he st' => by
    unfold gdO
    split
    · rename_i h; subst h; rw [hn] at he; cases he
    · rfl
def uA {α β : Type} (pa : AV → Option α) (k : α → List AV → Option (Prop × β)) : List AV → Option (Prop × β)
  | x :: xs => (match pa x with
    | some a => k a xs
    | none => none)
  | [] => none
def uE {β : Type} (e : Prop × β) : List AV → Option (Prop × β)
  | [] => some e
  | _ :: _ => none
def GdT (P : Program) (f : FuncId) (pre : List AV) (k : List AV → Option (Prop × GR)) : Prop := ∀ args e, k args = some e → e.1 → Gd P f (pre ++ args) e.2
theorem GdT.e {P : Program} {f : FuncId} {pre : List AV} {e : Prop × GR} (h : e.1 → Gd P f pre e.2) : GdT P f pre (uE e) := by
  intro args e' he hp
  cases args with
  | nil => injection he with he; subst he; rw [List.append_nil]; exact h hp
  | cons _ _ => cases he
theorem GdT.a {P : Program} {f : FuncId} {pre : List AV} {α : Type} {pa : AV → Option α} {c : α → AV} {k : α → List AV → Option (Prop × GR)} (ha : AsOK pa c) (h : ∀ a, GdT P f (pre ++ [c a]) (k a)) : GdT P f pre (uA pa k) := by
  intro args e he hp
  cases args with
  | nil => cases he
  | cons x xs =>
    have he : (match pa x with
      | some a => k a xs
      | none => none) = some e := he
    split at he
    · rename_i a hx
      have h1 := h a xs e he hp
      rw [List.append_assoc] at h1
      intro ρ D w us ht hR
      refine h1 ρ D w us ht ?_
      obtain ⟨us1, us2, rfl, h2, h3⟩ : ∃ us1 us2, us = us1 ++ us2 ∧ RA ρ D w pre us1 ∧ RA ρ D w (x :: xs) us2 := by
        refine ⟨us.take pre.length, us.drop pre.length, (List.take_append_drop _ _).symm, ?_⟩
        have := RA.split hR pre.length
        rwa [List.take_left, List.drop_left] at this
      obtain ⟨u, r, rfl, h4, h5⟩ := h3
      exact h2.append ⟨u, r, rfl, ha x a hx ρ D w u h4, h5⟩
    · cases he
theorem gdO_t {P : Program} {g : FuncId} {k : List AV → Option (Prop × GR)} {w0 : World} (hen : ∀ (vs : Array Value) (w : World), (callFunc g vs).run P w = .ok (.enter g vs) w) (h : GdT P g [] k) : OrOK P (gdO g k) (fun _ => False) w0 := gdO_ok hen fun args e hk hp => h args e hk hp
end Go.Proofs.YtpacpmmdjmnamaaDoor
namespace Go.Proofs.YtpacpmmdjmnamaaDoor
open Go.RowKit Nx
set_option linter.unusedVariables false
set_option linter.unusedSimpArgs false
set_option maxRecDepth 100000
set_option maxHeartbeats 4000000
attribute [local go_sem] run init X.L J.L vL X.eta J.eta Q.eta List.cons_append List.nil_append brkK brkf_b brkf_t exef_some exif_some condf_b opf bodyE addR skipE stepOp stepLoad stepStore stepField stepCall stepBS stepBi stepCv stepIx inL mentA ment dom evs evl evp evd okeys look fillA capsOf wordsOf rowsOf lenOf convK binV shV intV unV boolT tiB tiI tiW tiD tiF tiU tiNum tiIv tiVal tiSc okLf okD keysOf tblO cvA cvL dnL olA olL noO noA cbL cbA orT noT one asNum asIv asVal postf_some resA tupA clA clL dropTo decide_true decide_false List.all_cons List.all_nil Bool.and_true Bool.and_self true_and and_true and_self List.length_cons List.length_nil List.drop_succ_cons List.drop_zero List.take_succ_cons List.take_zero List.getElem?_cons_zero List.getElem?_cons_succ List.map_cons List.map_nil false_implies true_implies Option.bind_some List.getElem?_toArray Bool.false_eq_true List.append_nil List.flatMap_cons List.flatMap_nil true_or or_true forall_const List.reverse_cons List.reverse_nil Option.isSome_some Option.any_some Nat.lt_irrefl not_true_eq_false Bool.not_true Bool.not_false imp_self implies_true Bool.not_eq_true' Bool.not_eq_false' Bool.true_eq_false memOf cntF nmL rnL nmA rnA isV contsOf ndB refO orO pin Int.toNat_zero decide_eq_true_eq wrap0 wrap1 ci1 ci2 BEq.rfl beq_self_eq_true Int.natCast_zero ge_iff_le gt_iff_lt Int.le_refl Nat.zero_mul Nat.one_mul Nat.zero_add Nat.zero_lt_succ Nat.lt_add_one Nat.le_refl List.append_eq Int.toNat_natCast gN gNN gNI gI gNNIB gNIB gJ gJJ gJN gJJI gJI stepB0 stepMk stepSl stepAp apY optI okO nilV slT resB outPs outLs outL dnT noE boxL_nil boxL_cons ptsL_nil ptsL_cons bne_self_eq_false wr2 wr3 wr4 wr5 wr6 wr7 wr8 gB gP gBB gBP gBZ gBBZ bC_nil bC_cons pC_nil pC_cons fvO Lc.up tiS List.replicate_succ List.replicate_zero List.flatten_cons List.flatten_nil Int.ofNat_lt Int.cast_ofNat_Int Int.ofNat_eq_natCast List.isEmpty_nil List.isEmpty_cons and_false false_and List.cons_ne_nil Nat.add_zero ite_true ite_false if_true if_false Nat.le_zero_eq eq_self Bool.and_false Bool.false_and Bool.true_and tiQ gA gE asZ asT asV1 asN1 asB_b asP_b asM_m asQ_m ite_self AV.s cond_true cond_false Bool.or_true Bool.true_or Bool.or_false Bool.false_or
attribute [local go_sem ↓] cond_true cond_false not_cond outL_box outL_pts clL_box clL_pts okL_box okL_pts ment_box ment_pts olL_box olL_pts cvL_box cvL_pts noO_box noO_pts asB_box asP_pts len_box len_pts
attribute [local irreducible] chk
theorem ok_oS : TiOK Tryd.prog 35 tiS := leaf_ok (by kernel_rfl) (by kernel_rfl) (by kernel_rfl) (by kernel_rfl) (fun _ _ _ => rfl) rfl (fun b h => by cases h) (fun k z h => by cases h) (sl_of' (by kernel_rfl))
theorem ok_oQ : TiOK Tryd.prog 27 tiQ := leaf_ok (by kernel_rfl) (by kernel_rfl) (by kernel_rfl) (by kernel_rfl) (fun _ _ _ => rfl) rfl (fun b h => by cases h) (fun k z h => by cases h) (sl_of' (by kernel_rfl))
def tyO (t : TypeId) : Option TI :=
  if t = 34 then some tiNum else if t = 4 then some tiB else if t = 3 then some tiI else if t = 2 then some tiI else if t = 29 then some tiI else if t = 22 then some tiW else if t = 32 then some tiU else if t = 35 then some tiS else if t = 27 then some tiQ else if t = 90 then some tiVal else if t = 86 then some tiD else none
theorem tyO_ok (t : TypeId) (i : TI) (h : tyO t = some i) : TiOK Tryd.prog t i := by
  unfold tyO at h
  by_cases h0 : t = 34
  · rw [if_pos h0] at h; injection h with h; subst h; subst h0; exact ok_num
  rw [if_neg h0] at h
  by_cases h1 : t = 4
  · rw [if_pos h1] at h; injection h with h; subst h; subst h1; exact ok_l0
  rw [if_neg h1] at h
  by_cases h2 : t = 3
  · rw [if_pos h2] at h; injection h with h; subst h; subst h2; exact ok_l1
  rw [if_neg h2] at h
  by_cases h3 : t = 2
  · rw [if_pos h3] at h; injection h with h; subst h; subst h3; exact ok_l2
  rw [if_neg h3] at h
  by_cases h4 : t = 29
  · rw [if_pos h4] at h; injection h with h; subst h; subst h4; exact ok_l3
  rw [if_neg h4] at h
  by_cases h5 : t = 22
  · rw [if_pos h5] at h; injection h with h; subst h; subst h5; exact ok_l4
  rw [if_neg h5] at h
  by_cases h6 : t = 32
  · rw [if_pos h6] at h; injection h with h; subst h; subst h6; exact ok_l13
  rw [if_neg h6] at h
  by_cases h7 : t = 35
  · rw [if_pos h7] at h; injection h with h; subst h; subst h7; exact ok_oS
  rw [if_neg h7] at h
  by_cases h8 : t = 27
  · rw [if_pos h8] at h; injection h with h; subst h; subst h8; exact ok_oQ
  rw [if_neg h8] at h
  by_cases h9 : t = 90
  · rw [if_pos h9] at h; injection h with h; subst h; subst h9; exact ok_val
  rw [if_neg h9] at h
  by_cases h10 : t = 86
  · rw [if_pos h10] at h; injection h with h; subst h; subst h10; exact ok_l5
  rw [if_neg h10] at h
  cases h
theorem flat_all {α : Type} {cf : α → List Lf} {p : Lf → Bool} (h : ∀ a, (cf a).all p = true) : ∀ (l : List α), (l.flatMap cf).all p = true := by
  intro l
  induction l with
  | nil => rfl
  | cons a l ih => rw [List.flatMap_cons, List.all_append, h, ih]; rfl
theorem nL_at : ∀ {l : List X} {j : Nat} {x : X}, l[j]? = some x → List.take 3 (List.drop (j * 3) (l.flatMap X.L)) = [.lit (.bool x.s), .lit (.int .i64 x.e), .ws x.xs] := by
  intro l
  induction l with
  | nil => intro j x h; simp at h
  | cons a l ih =>
    intro j x h
    cases j with
    | zero => injection h with h; subst h; rfl
    | succ j =>
      have h : l[j]? = some x := by simpa using h
      rw [List.flatMap_cons, show (j + 1) * 3 = a.L.length + j * 3 by show _ = 3 + _; omega, ← List.drop_drop, List.drop_left]
      exact ih h
theorem nL_len (l : List X) : (l.flatMap X.L).length = l.length * 3 := fm_len (s := 3) (fun _ => rfl) l
theorem nL_ok (l : List X) : (l.flatMap X.L).all okLf = true := flat_all (fun _ => rfl) l
theorem nL_cl (l : List X) : (l.flatMap X.L).all clL = true := flat_all (fun _ => rfl) l
theorem nL_me (st : St) (l : List X) : (l.flatMap X.L).all (ment st) = true := flat_all (p := ment st) (fun _ => rfl) l
theorem nL_dn (l : List X) : dnT (l.flatMap X.L) = some (pC l) := dnT_fm dnT_X l
theorem nL_up : ∀ (l : List X), (pC l).map Lc.up = l.flatMap X.L := by
  intro l
  induction l with
  | nil => rfl
  | cons a l ih => rw [pC_cons, List.map_cons, List.map_cons, List.map_cons, ih]; rfl
def mixN {α : Type} (A v : List α) : List α := A ++ v.drop A.length
theorem mix_len {α : Type} {A v : List α} (h : A.length ≤ v.length) : (mixN A v).length = v.length := by unfold mixN; rw [List.length_append, List.length_drop]; omega
theorem mix_full {α : Type} {A v : List α} (h : A.length = v.length) : mixN A v = A := by unfold mixN; rw [h, List.drop_length, List.append_nil]
theorem mix_at {α : Type} {A v : List α} {j : Nat} (h : A.length = j) : (mixN A v)[j]? = v[j]? := by
  subst h
  unfold mixN
  rw [List.getElem?_append_right (Nat.le_refl _), Nat.sub_self, List.getElem?_drop, Nat.add_zero]
theorem mix_set {A v : List X} {j : Nat} (y : X) (h : A.length = j) (hj : j < v.length) : List.take (j * 3) ((mixN A v).flatMap X.L) ++ [.lit (.bool y.s), .lit (.int .i64 y.e), .ws y.xs] ++ List.drop (j * 3 + 3) ((mixN A v).flatMap X.L) = (mixN (A ++ [y]) v).flatMap X.L := by
  subst h
  have e1 : (A.flatMap X.L).length = A.length * 3 := nL_len A
  unfold mixN
  rw [List.length_append, List.length_singleton, List.flatMap_append, ← e1, List.take_left, List.drop_append, List.drop_eq_nil_of_le (by omega), List.nil_append, List.drop_eq_getElem_cons hj, List.flatMap_cons, List.flatMap_append, List.flatMap_append, List.flatMap_cons, List.flatMap_nil, List.append_nil]
  congr 1
  rw [show (A.flatMap X.L).length + 3 - (A.flatMap X.L).length = 3 by omega]
  rfl
noncomputable def dotN (z : Int) (u v : List X) : Nat → X × Int
  | 0 => (zX, 0)
  | j + 1 => bif (dotN z u v j).2 != 0 then (zX, (dotN z u v j).2) else
    bif (rtwo (gmul z false) z (u.getD j zX) (v.getD j zX)).2 != 0 then (zX, (rtwo (gmul z false) z (u.getD j zX) (v.getD j zX)).2) else
    bif (rtwo (gadd z false) z (dotN z u v j).1 (qx (rtwo (gmul z false) z (u.getD j zX) (v.getD j zX)).1)).2 != 0 then (zX, (rtwo (gadd z false) z (dotN z u v j).1 (qx (rtwo (gmul z false) z (u.getD j zX) (v.getD j zX)).1)).2) else
    (qx (rtwo (gadd z false) z (dotN z u v j).1 (qx (rtwo (gmul z false) z (u.getD j zX) (v.getD j zX)).1)).1, 0)
theorem dotN_stop {z : Int} {u v : List X} {j n : Nat} (h : ((dotN z u v j).2 != 0) = true) (hn : j ≤ n) : (dotN z u v n).2 = (dotN z u v j).2 ∧ (j < n → (dotN z u v n).1 = zX) := by
  induction n with
  | zero =>
    obtain rfl : j = 0 := by omega
    exact ⟨rfl, fun h => by omega⟩
  | succ n ih =>
    rcases Nat.lt_or_ge n j with h1 | h1
    · obtain rfl : j = n + 1 := by omega
      exact ⟨rfl, fun h => by omega⟩
    · have h2 := (ih h1).1
      have h3 : ((dotN z u v n).2 != 0) = true := by rw [h2]; exact h
      have e : dotN z u v (n + 1) = (zX, (dotN z u v n).2) := by show (bif _ then _ else _) = _; rw [h3]; rfl
      rw [e]; exact ⟨h2, fun _ => rfl⟩
theorem dotN_bad {z : Int} {u v : List X} {j n : Nat} {e : Int} (h : dotN z u v (j + 1) = (zX, e)) (he : (e != 0) = true) (hn : j < n) : dotN z u v n = (zX, e) := by
  obtain ⟨h1, h2⟩ := dotN_stop (n := n) (show ((dotN z u v (j + 1)).2 != 0) = true by rw [h]; exact he) hn
  rcases Nat.lt_or_ge (j + 1) n with h3 | h3
  · exact Prod.ext (h2 h3) (by rw [h1, h])
  · obtain rfl : n = j + 1 := by omega
    exact h
noncomputable def dotS (z : Int) (u v : List X) : X × Int := dotN z u v u.length
noncomputable def facS (z : Int) (v u : List X) : X × Int := bif (dotS z u v).2 != 0 then (zX, (dotS z u v).2) else bif (dotS z u u).2 != 0 then (zX, (dotS z u u).2) else
  (qx (rtwo (gdiv z false) z (dotS z u v).1 (dotS z u u).1).1, (rtwo (gdiv z false) z (dotS z u v).1 (dotS z u u).1).2)
noncomputable def lesX (z : Int) (c x y : X) : X × Int := bif (rtwo (gmul z false) z c x).2 != 0 then (zX, (rtwo (gmul z false) z c x).2) else
  (qx (rtwo (gsub z false) z y (qx (rtwo (gmul z false) z c x).1)).1, (rtwo (gsub z false) z y (qx (rtwo (gmul z false) z c x).1)).2)
noncomputable def witS (z : Int) (v u : List X) : List X × Int := bif (facS z v u).2 != 0 then ([], (facS z v u).2) else eachN (fun i => lesX z (facS z v u).1 (u.getD i zX) (v.getD i zX)) u.length
theorem o_clone (a : X) (l : List X) (h2 : (a :: l).length ≤ 1000) : Gd Tryd.prog 36 [pA_ (a :: l)] (.one ⟨(a :: l).length, 34, 3, (a :: l).flatMap X.L⟩) := by
  have e0 := nL_up (a :: l)
  obtain ⟨r, hr⟩ : ∃ r, pC (a :: l) = .lit (.bool a.s) :: r := ⟨_, rfl⟩
  have e1 := nL_len (a :: l)
  have e2 := nL_ok (a :: l)
  have e3 := nL_cl (a :: l)
  unfold pA_
  rw [hr] at e0 ⊢
  rw [← e0] at e1 e2 e3 ⊢
  have hn : 0 < (a :: l).length := by simp
  generalize (a :: l).length = n at *
  have f0 : (0 < n) = True := eq_true hn
  have f1 : (n ≤ 100000) = True := eq_true (by omega)
  simp only [List.map_cons, Lc.up, List.length_cons, List.all_cons, List.length_map, okLf, clL, Bool.true_and] at e1 e2 e3 ⊢
  refine gd_of (O := tblO noT) (by kernel_rfl) tyO_ok (fun w => tblO_ok noT_ok _ w) [] 300 8 [.tmp 2] Tryd.func36 rfl Tryd.ntmps36 (by rw [Tryd.results36]) (by simp) rfl (fun hsm => ?_)
  simp (maxSteps := 10000000) only [go_sem, ↓reduceIte, Nat.reduceMul, Nat.reduceDiv, Nat.reduceAdd, Nat.reduceEqDiff, Nat.reduceLeDiff, Nat.reduceLT, reduceCtorEq, Int.reduceNeg, Int.reduceLT, Int.reduceLE, Int.reduceAdd, Int.reduceToNat, Nat.reduceBEq, Int.reduceMul, Int.reduceSub, Nat.reduceSub, Int.reduceBNe, Nat.reduceBNe, tyO, f0, f1, e1, e2, e3, grp_one, glf_ol, List.length_map, bxe, pxe, lpf, hdS, hd1, pick, forget, frh, frz, frS, frA, frL]
  repeat' first | (with_reducible apply And.intro) | (with_reducible apply condP <;> intro _)
  all_goals first | (show chk _ _ = true; kernel_rfl) | assumption | rfl | (simp only [AV.s, cond_true, cond_false, Bool.and_true, Bool.true_and, Bool.and_false, Bool.false_and, Bool.not_true, Bool.not_false, *] <;> rfl)
theorem o_clone' (v : List X) (h : 1 ≤ v.length ∧ v.length ≤ 1000) : Gd Tryd.prog 36 [pA_ v] (.one ⟨v.length, 34, 3, v.flatMap X.L⟩) := by
  cases v with
  | nil => exact absurd h.1 (by simp)
  | cons a l => exact o_clone a l h.2
def kClo : List AV → Option (Prop × GR) := uA asP fun v => uE (1 ≤ v.length ∧ v.length ≤ 1000, .one ⟨v.length, 34, 3, v.flatMap X.L⟩)
theorem clo_ok (w : World) : OrOK Tryd.prog (gdO 36 kClo) (fun _ => False) w := gdO_t (ent Tryd.func36 (by kernel_rfl) rfl) (GdT.a asP_ok fun v => GdT.e fun h => o_clone' v h)
theorem o_dot (u v : List X) (z : Int) (hl : v.length = u.length) (h2 : u.length ≤ 1000) : Ct Tryd.prog 56 [pA_ u, pA_ v, iA z] (· = xeA (dotN z u v u.length)) := by
  refine ct_of (O := tblO (orT Tround_Mul Tround_Add)) (by kernel_rfl) tyO_ok (fun w => tblO_ok (orT_ok Tround_Mul_ok Tround_Add_ok) _ w) [9999999, 0, 2, 4, 12, 13, 16, 17, 26, 28, 30] ((u.length + 1) * 600 + 300) 47 [.cell 6 34, .tmp 7] Tryd.func56 rfl Tryd.ntmps56 (by rw [Tryd.results56]) (by simp) rfl (fun hsm => ?_)
  simp (maxSteps := 10000000) only [go_sem, ↓reduceIte, Nat.reduceMul, Nat.reduceDiv, Nat.reduceAdd, Nat.reduceEqDiff, Nat.reduceLeDiff, Nat.reduceLT, reduceCtorEq, Int.reduceNeg, Int.reduceLT, Int.reduceLE, Int.reduceAdd, Int.reduceToNat, Nat.reduceBEq, Int.reduceMul, Int.reduceSub, Nat.reduceSub, Int.reduceBNe, Nat.reduceBNe, tyO, Tround_Mul, Tround_Add]
  generalize hD : dotN z u v = D
  refine loop_ind 600 (fun j => [(0, pA_ u), (2, pA_ v), (4, iA z), (12, .s (.own 6 0)), (13, .v true zX.L), (16, .s (.own 8 0)), (17, .v true (D j).1.L), (26, pA_ u), (28, iA (u.length : Int)), (30, iA (j : Int))]) u.length (fun j => (D j).2 = 0) 0 (fun j _ => rfl) (fun j mm _ hj hI ih => ?_) (by omega) (by rw [← hD]; rfl) (by rw [← hD]; rfl)
  rcases Nat.lt_or_ge j u.length with hlt | hge
  · have hxj := at_get zX hlt
    have hyj := at_get zX (show j < v.length by omega)
    have hs : D (j + 1) = bif (D j).2 != 0 then (zX, (D j).2) else
      bif (rtwo (gmul z false) z (u.getD j zX) (v.getD j zX)).2 != 0 then (zX, (rtwo (gmul z false) z (u.getD j zX) (v.getD j zX)).2) else
      bif (rtwo (gadd z false) z (D j).1 (qx (rtwo (gmul z false) z (u.getD j zX) (v.getD j zX)).1)).2 != 0 then (zX, (rtwo (gadd z false) z (D j).1 (qx (rtwo (gmul z false) z (u.getD j zX) (v.getD j zX)).1)).2) else
      (qx (rtwo (gadd z false) z (D j).1 (qx (rtwo (gmul z false) z (u.getD j zX) (v.getD j zX)).1)).1, 0) := by rw [← hD]; rfl
    have hbad : ∀ e, D (j + 1) = (zX, e) → (e != 0) = true → D u.length = (zX, e) := fun e h1 h2 => by rw [← hD] at h1 ⊢; exact dotN_bad h1 h2 hlt
    have hI0 : ((D j).2 != 0) = false := by rw [hI]; rfl
    rw [hI0, cond_false] at hs
    generalize u.getD j zX = x at *
    generalize v.getD j zX = y at *
    have hx := pC_at' hxj
    have hy := pC_at' hyj
    have d := decide_eq_true (show (j : Int) < (u.length : Int) by omega)
    have g0 : (0 ≤ (j : Int)) = True := eq_true (by omega)
    have g1 : (j < u.length) = True := eq_true hlt
    have g2 : (j < v.length) = True := eq_true (by omega)
    have hw := wrap_nat (j := j) (by omega)
    cases hM : (rtwo (gmul z false) z x y).2 != 0 with
    | true =>
      rw [hM, cond_true] at hs
      rw [hbad _ hs hM]
      simp (maxSteps := 10000000) only [go_sem, ↓reduceIte, Nat.reduceMul, Nat.reduceDiv, Nat.reduceAdd, Nat.reduceEqDiff, Nat.reduceLeDiff, Nat.reduceLT, reduceCtorEq, Int.reduceNeg, Int.reduceLT, Int.reduceLE, Int.reduceAdd, Int.reduceToNat, Nat.reduceBEq, Int.reduceMul, Int.reduceSub, Nat.reduceSub, Int.reduceBNe, Nat.reduceBNe, tyO, Tround_Mul, Tround_Add, d, g0, g1, g2, hw, hx, hy, hM]
      repeat' first | (with_reducible apply And.intro) | (with_reducible apply condP <;> intro _)
      all_goals first | (show chk _ _ = true; kernel_rfl) | assumption | rfl | (simp only [AV.s, cond_true, cond_false, Bool.and_true, Bool.true_and, Bool.and_false, Bool.false_and, Bool.not_true, Bool.not_false, *] <;> rfl)
    | false =>
      rw [hM, cond_false] at hs
      cases hA : (rtwo (gadd z false) z (D j).1 (qx (rtwo (gmul z false) z x y).1)).2 != 0 with
      | true =>
        rw [hA, cond_true] at hs
        rw [hbad _ hs hA]
        simp (maxSteps := 10000000) only [go_sem, ↓reduceIte, Nat.reduceMul, Nat.reduceDiv, Nat.reduceAdd, Nat.reduceEqDiff, Nat.reduceLeDiff, Nat.reduceLT, reduceCtorEq, Int.reduceNeg, Int.reduceLT, Int.reduceLE, Int.reduceAdd, Int.reduceToNat, Nat.reduceBEq, Int.reduceMul, Int.reduceSub, Nat.reduceSub, Int.reduceBNe, Nat.reduceBNe, tyO, Tround_Mul, Tround_Add, d, g0, g1, g2, hw, hx, hy, hM, hA]
        repeat' first | (with_reducible apply And.intro) | (with_reducible apply condP <;> intro _)
        all_goals first | (show chk _ _ = true; kernel_rfl) | assumption | rfl | (simp only [AV.s, cond_true, cond_false, Bool.and_true, Bool.true_and, Bool.and_false, Bool.false_and, Bool.not_true, Bool.not_false, *] <;> rfl)
      | false =>
        rw [hA, cond_false] at hs
        replace ih := ih hlt (by rw [hs])
        simp (maxSteps := 10000000) only [go_sem, ↓reduceIte, Nat.reduceMul, Nat.reduceDiv, Nat.reduceAdd, Nat.reduceEqDiff, Nat.reduceLeDiff, Nat.reduceLT, reduceCtorEq, Int.reduceNeg, Int.reduceLT, Int.reduceLE, Int.reduceAdd, Int.reduceToNat, Nat.reduceBEq, Int.reduceMul, Int.reduceSub, Nat.reduceSub, Int.reduceBNe, Nat.reduceBNe, tyO, Tround_Mul, Tround_Add, d, g0, g1, g2, hw, hx, hy, hM, hA]
        repeat' first | (with_reducible apply And.intro) | (with_reducible apply condP <;> intro _)
        all_goals first | (show chk _ _ = true; kernel_rfl) | (exact ih _ _ (by rw [hs]; rfl)) | assumption | rfl
  · obtain rfl : j = u.length := by omega
    have hfin : D u.length = ((D u.length).1, 0) := Prod.ext rfl hI
    rw [hfin]
    have d : decide ((u.length : Int) < (u.length : Int)) = false := decide_eq_false (by omega)
    simp (maxSteps := 10000000) only [go_sem, ↓reduceIte, Nat.reduceMul, Nat.reduceDiv, Nat.reduceAdd, Nat.reduceEqDiff, Nat.reduceLeDiff, Nat.reduceLT, reduceCtorEq, Int.reduceNeg, Int.reduceLT, Int.reduceLE, Int.reduceAdd, Int.reduceToNat, Nat.reduceBEq, Int.reduceMul, Int.reduceSub, Nat.reduceSub, Int.reduceBNe, Nat.reduceBNe, tyO, Tround_Mul, Tround_Add, d]
    repeat' first | (with_reducible apply And.intro) | (with_reducible apply condP <;> intro _)
    all_goals first | (show chk _ _ = true; kernel_rfl) | assumption | rfl | (simp only [AV.s, cond_true, cond_false, Bool.and_true, Bool.true_and, Bool.and_false, Bool.false_and, Bool.not_true, Bool.not_false, *] <;> rfl)
noncomputable def Tor_dot : Tbl := one 56 (gA asP fun u => gA asP fun v => gA asZ fun z => gE (v.length = u.length ∧ u.length ≤ 1000, xeA (dotS z u v)))
theorem Tor_dot_ok : TbOK Tryd.prog Tor_dot := one_t (ent Tryd.func56 (by kernel_rfl) rfl) (.a asP_ok fun u => .a asP_ok fun v => .a asZ_ok fun z => .e fun h => o_dot u v z h.1 h.2)
theorem o_fac_e1 (v u : List X) (z : Int) (hl : v.length = u.length) (h2 : u.length ≤ 1000) (h1 : ((dotS z u v).2 != 0) = true) : Ct Tryd.prog 35 [pA_ v, pA_ u, iA z] (· = xeA (zX, (dotS z u v).2)) := by
  have hl0 := eq_true hl
  have h20 := eq_true h2
  refine ct_of (O := tblO (orT Tor_dot Tround_Div)) (by kernel_rfl) tyO_ok (fun w => tblO_ok (orT_ok Tor_dot_ok Tround_Div_ok) _ w) [] 600 39 [.cell 6 34, .tmp 7] Tryd.func35 rfl Tryd.ntmps35 (by rw [Tryd.results35]) (by simp) rfl (fun hsm => ?_)
  simp (maxSteps := 10000000) only [go_sem, ↓reduceIte, Nat.reduceMul, Nat.reduceDiv, Nat.reduceAdd, Nat.reduceEqDiff, Nat.reduceLeDiff, Nat.reduceLT, reduceCtorEq, Int.reduceNeg, Int.reduceLT, Int.reduceLE, Int.reduceAdd, Int.reduceToNat, Nat.reduceBEq, Int.reduceMul, Int.reduceSub, Nat.reduceSub, Int.reduceBNe, Nat.reduceBNe, tyO, Tor_dot, Tround_Div, h1, hl0, h20, bxe, pxe, lpf, hdS, hd1, pick, forget, frh, frz, frS, frA, frL]
  repeat' first | (with_reducible apply And.intro) | (with_reducible apply condP <;> intro _)
  all_goals first | (show chk _ _ = true; kernel_rfl) | assumption | rfl | (simp only [AV.s, cond_true, cond_false, Bool.and_true, Bool.true_and, Bool.and_false, Bool.false_and, Bool.not_true, Bool.not_false, *] <;> rfl)
theorem o_fac_e2 (v u : List X) (z : Int) (hl : v.length = u.length) (h2 : u.length ≤ 1000) (h1 : ((dotS z u v).2 != 0) = false) (h3 : ((dotS z u u).2 != 0) = true) : Ct Tryd.prog 35 [pA_ v, pA_ u, iA z] (· = xeA (zX, (dotS z u u).2)) := by
  have hl0 := eq_true hl
  have h20 := eq_true h2
  refine ct_of (O := tblO (orT Tor_dot Tround_Div)) (by kernel_rfl) tyO_ok (fun w => tblO_ok (orT_ok Tor_dot_ok Tround_Div_ok) _ w) [] 600 39 [.cell 6 34, .tmp 7] Tryd.func35 rfl Tryd.ntmps35 (by rw [Tryd.results35]) (by simp) rfl (fun hsm => ?_)
  simp (maxSteps := 10000000) only [go_sem, ↓reduceIte, Nat.reduceMul, Nat.reduceDiv, Nat.reduceAdd, Nat.reduceEqDiff, Nat.reduceLeDiff, Nat.reduceLT, reduceCtorEq, Int.reduceNeg, Int.reduceLT, Int.reduceLE, Int.reduceAdd, Int.reduceToNat, Nat.reduceBEq, Int.reduceMul, Int.reduceSub, Nat.reduceSub, Int.reduceBNe, Nat.reduceBNe, tyO, Tor_dot, Tround_Div, h1, h3, hl0, h20, bxe, pxe, lpf, hdS, hd1, pick, forget, frh, frz, frS, frA, frL]
  repeat' first | (with_reducible apply And.intro) | (with_reducible apply condP <;> intro _)
  all_goals first | (show chk _ _ = true; kernel_rfl) | assumption | rfl | (simp only [AV.s, cond_true, cond_false, Bool.and_true, Bool.true_and, Bool.and_false, Bool.false_and, Bool.not_true, Bool.not_false, *] <;> rfl)
theorem o_fac_ok (v u : List X) (z : Int) (hl : v.length = u.length) (h2 : u.length ≤ 1000) (h1 : ((dotS z u v).2 != 0) = false) (h3 : ((dotS z u u).2 != 0) = false) : Ct Tryd.prog 35 [pA_ v, pA_ u, iA z] (· = xeA (qx (rtwo (gdiv z false) z (dotS z u v).1 (dotS z u u).1).1, (rtwo (gdiv z false) z (dotS z u v).1 (dotS z u u).1).2)) := by
  have hl0 := eq_true hl
  have h20 := eq_true h2
  refine ct_of (O := tblO (orT Tor_dot Tround_Div)) (by kernel_rfl) tyO_ok (fun w => tblO_ok (orT_ok Tor_dot_ok Tround_Div_ok) _ w) [] 600 39 [.cell 6 34, .tmp 7] Tryd.func35 rfl Tryd.ntmps35 (by rw [Tryd.results35]) (by simp) rfl (fun hsm => ?_)
  simp (maxSteps := 10000000) only [go_sem, ↓reduceIte, Nat.reduceMul, Nat.reduceDiv, Nat.reduceAdd, Nat.reduceEqDiff, Nat.reduceLeDiff, Nat.reduceLT, reduceCtorEq, Int.reduceNeg, Int.reduceLT, Int.reduceLE, Int.reduceAdd, Int.reduceToNat, Nat.reduceBEq, Int.reduceMul, Int.reduceSub, Nat.reduceSub, Int.reduceBNe, Nat.reduceBNe, tyO, Tor_dot, Tround_Div, h1, h3, hl0, h20, bxe, pxe, lpf, hdS, hd1, pick, forget, frh, frz, frS, frA, frL]
  repeat' first | (with_reducible apply And.intro) | (with_reducible apply condP <;> intro _)
  all_goals first | (show chk _ _ = true; kernel_rfl) | assumption | rfl | (simp only [AV.s, cond_true, cond_false, Bool.and_true, Bool.true_and, Bool.and_false, Bool.false_and, Bool.not_true, Bool.not_false, *] <;> rfl)
theorem o_fac (v u : List X) (z : Int) (hl : v.length = u.length) (h2 : u.length ≤ 1000) : Ct Tryd.prog 35 [pA_ v, pA_ u, iA z] (· = xeA (facS z v u)) := by
  unfold facS
  cases h1 : (dotS z u v).2 != 0 with
  | true => exact o_fac_e1 v u z hl h2 h1
  | false => cases h3 : (dotS z u u).2 != 0 with
    | true => exact o_fac_e2 v u z hl h2 h1 h3
    | false => exact o_fac_ok v u z hl h2 h1 h3
noncomputable def Tor_fac : Tbl := one 35 (gA asP fun v => gA asP fun u => gA asZ fun z => gE (v.length = u.length ∧ u.length ≤ 1000, xeA (facS z v u)))
theorem Tor_fac_ok : TbOK Tryd.prog Tor_fac := one_t (ent Tryd.func35 (by kernel_rfl) rfl) (.a asP_ok fun v => .a asP_ok fun u => .a asZ_ok fun z => .e fun h => o_fac v u z h.1 h.2)
end Go.Proofs.YtpacpmmdjmnamaaDoor
namespace Go.Proofs.YtpacpmmdjmnamaaDoor
open Go.RowKit Nx
set_option linter.unusedVariables false
set_option linter.unusedSimpArgs false
set_option maxRecDepth 100000
set_option maxHeartbeats 4000000
attribute [local go_sem] run init X.L J.L vL X.eta J.eta Q.eta List.cons_append List.nil_append brkK brkf_b brkf_t exef_some exif_some condf_b opf bodyE addR skipE stepOp stepLoad stepStore stepField stepCall stepBS stepBi stepCv stepIx inL mentA ment dom evs evl evp evd okeys look fillA capsOf wordsOf rowsOf lenOf convK binV shV intV unV boolT tiB tiI tiW tiD tiF tiU tiNum tiIv tiVal tiSc okLf okD keysOf tblO cvA cvL dnL olA olL noO noA cbL cbA orT noT one asNum asIv asVal postf_some resA tupA clA clL dropTo decide_true decide_false List.all_cons List.all_nil Bool.and_true Bool.and_self true_and and_true and_self List.length_cons List.length_nil List.drop_succ_cons List.drop_zero List.take_succ_cons List.take_zero List.getElem?_cons_zero List.getElem?_cons_succ List.map_cons List.map_nil false_implies true_implies Option.bind_some List.getElem?_toArray Bool.false_eq_true List.append_nil List.flatMap_cons List.flatMap_nil true_or or_true forall_const List.reverse_cons List.reverse_nil Option.isSome_some Option.any_some Nat.lt_irrefl not_true_eq_false Bool.not_true Bool.not_false imp_self implies_true Bool.not_eq_true' Bool.not_eq_false' Bool.true_eq_false memOf cntF nmL rnL nmA rnA isV contsOf ndB refO orO pin Int.toNat_zero decide_eq_true_eq wrap0 wrap1 ci1 ci2 BEq.rfl beq_self_eq_true Int.natCast_zero ge_iff_le gt_iff_lt Int.le_refl Nat.zero_mul Nat.one_mul Nat.zero_add Nat.zero_lt_succ Nat.lt_add_one Nat.le_refl List.append_eq Int.toNat_natCast gN gNN gNI gI gNNIB gNIB gJ gJJ gJN gJJI gJI stepB0 stepMk stepSl stepAp apY optI okO nilV slT resB outPs outLs outL dnT noE boxL_nil boxL_cons ptsL_nil ptsL_cons bne_self_eq_false wr2 wr3 wr4 wr5 wr6 wr7 wr8 gB gP gBB gBP gBZ gBBZ bC_nil bC_cons pC_nil pC_cons fvO Lc.up tiS List.replicate_succ List.replicate_zero List.flatten_cons List.flatten_nil Int.ofNat_lt Int.cast_ofNat_Int Int.ofNat_eq_natCast List.isEmpty_nil List.isEmpty_cons and_false false_and List.cons_ne_nil Nat.add_zero ite_true ite_false if_true if_false Nat.le_zero_eq eq_self Bool.and_false Bool.false_and Bool.true_and tiQ gA gE asZ asT asV1 asN1 asB_b asP_b asM_m asQ_m ite_self AV.s cond_true cond_false Bool.or_true Bool.true_or Bool.or_false Bool.false_or
attribute [local go_sem ↓] cond_true cond_false not_cond outL_box outL_pts clL_box clL_pts okL_box okL_pts ment_box ment_pts olL_box olL_pts cvL_box cvL_pts noO_box noO_pts asB_box asP_pts len_box len_pts
attribute [local irreducible] chk
abbrev vxe (x : List X × Int) : AV := .tup [(false, [.sl true 3 x.1.length (pC x.1)]), (false, [.lit (.int .i64 x.2)])]
theorem pxe_v (x : List X × Int) : Wk1 (pxe x) (vxe x) := by
  obtain ⟨l, e⟩ := x
  cases l with
  | nil => exact wk_tup (fun _ _ _ _ h => nil_sl h) rfl
  | cons a l => exact wk_tup (fun _ _ _ _ h => h) rfl
theorem pxe_ok {l : List X} (h : 1 ≤ l.length) : pxe (l, 0) = vxe (l, 0) := by
  cases l with
  | nil => exact absurd h (by simp)
  | cons a l => rfl
theorem o_wit_e (v u : List X) (z : Int) (hl : v.length = u.length) (h2 : u.length ≤ 1000) (he : ((facS z v u).2 != 0) = true) : Ct Tryd.prog 24 [pA_ v, pA_ u, iA z] (· = pxe ([], (facS z v u).2)) := by
  have hl0 := eq_true hl
  have h20 := eq_true h2
  refine ct_of (O := orO (gdO 36 kClo) (tblO (orT Tor_fac (orT Tround_Mul Tround_Sub)))) (by kernel_rfl) tyO_ok (fun w => gdO_or (clo_ok w) (tblO_ok (orT_ok Tor_fac_ok (orT_ok Tround_Mul_ok Tround_Sub_ok)) _ w) (fun _ _ _ => tblO_none fun _ => orT_none (one_none (by decide)) (orT_none (one_none (by decide)) (one_none (by decide))))) [] 600 64 [.tmp 6, .tmp 7] Tryd.func24 rfl Tryd.ntmps24 (by rw [Tryd.results24]) (by simp) rfl (fun hsm => ?_)
  simp (maxSteps := 10000000) only [go_sem, ↓reduceIte, Nat.reduceMul, Nat.reduceDiv, Nat.reduceAdd, Nat.reduceEqDiff, Nat.reduceLeDiff, Nat.reduceLT, reduceCtorEq, Int.reduceNeg, Int.reduceLT, Int.reduceLE, Int.reduceAdd, Int.reduceToNat, Nat.reduceBEq, Int.reduceMul, Int.reduceSub, Nat.reduceSub, Int.reduceBNe, Nat.reduceBNe, tyO, Tor_fac, Tround_Mul, Tround_Sub, he, hl0, h20, gdO, kClo, uA, uE, grU, bxe, pxe, lpf, hdS, hd1, pick, forget, frh, frz, frS, frA, frL]
  repeat' first | (with_reducible apply And.intro) | (with_reducible apply condP <;> intro _)
  all_goals first | (show chk _ _ = true; kernel_rfl) | assumption | rfl | (simp only [AV.s, cond_true, cond_false, Bool.and_true, Bool.true_and, Bool.and_false, Bool.false_and, Bool.not_true, Bool.not_false, *] <;> rfl)
theorem o_wit_ok (v u : List X) (z : Int) (hl : v.length = u.length) (h1 : 1 ≤ u.length) (h2 : u.length ≤ 1000) (he : ((facS z v u).2 != 0) = false) : Ct Tryd.prog 24 [pA_ v, pA_ u, iA z] (· = pxe (eachN (fun i => lesX z (facS z v u).1 (u.getD i zX) (v.getD i zX)) u.length)) := by
  refine ct_of (O := orO (gdO 36 kClo) (tblO (orT Tor_fac (orT Tround_Mul Tround_Sub)))) (by kernel_rfl) tyO_ok (fun w => gdO_or (clo_ok w) (tblO_ok (orT_ok Tor_fac_ok (orT_ok Tround_Mul_ok Tround_Sub_ok)) _ w) (fun _ _ _ => tblO_none fun _ => orT_none (one_none (by decide)) (orT_none (one_none (by decide)) (one_none (by decide))))) [9999999, 0, 2, 4, 16, 17, 20, 55, 56, 58, 60] ((u.length + 1) * 700 + 400) 64 [.tmp 6, .tmp 7] Tryd.func24 rfl Tryd.ntmps24 (by rw [Tryd.results24]) (by simp) rfl (fun hsm => ?_)
  have hl0 : (v.length = u.length) = True := eq_true hl
  have h20 : (u.length ≤ 1000) = True := eq_true h2
  have h10 : (1 ≤ v.length) = True := eq_true (by omega)
  have h21 : (v.length ≤ 1000) = True := eq_true (by omega)
  simp (maxSteps := 10000000) only [go_sem, ↓reduceIte, Nat.reduceMul, Nat.reduceDiv, Nat.reduceAdd, Nat.reduceEqDiff, Nat.reduceLeDiff, Nat.reduceLT, reduceCtorEq, Int.reduceNeg, Int.reduceLT, Int.reduceLE, Int.reduceAdd, Int.reduceToNat, Nat.reduceBEq, Int.reduceMul, Int.reduceSub, Nat.reduceSub, Int.reduceBNe, Nat.reduceBNe, tyO, Tor_fac, Tround_Mul, Tround_Sub, gdO, kClo, uA, uE, grU, he, hl0, h20, h10, h21]
  generalize (facS z v u).1 = c
  generalize hF0 : (fun i => lesX z c (u.getD i zX) (v.getD i zX)) = F
  have hFj : ∀ j, F j = lesX z c (u.getD j zX) (v.getD j zX) := fun j => by rw [← hF0]
  generalize hE : eachN F = E
  refine loop_ind 700 (fun j => [(0, pA_ v), (2, pA_ u), (4, iA z), (16, .s (.own 8 0)), (17, .v true c.L), (20, .s (.ol 27 v.length)), (55, .pre 34 3 ((mixN (E j).1 v).flatMap X.L)), (56, pA_ u), (58, iA (u.length : Int)), (60, iA (j : Int))]) u.length (fun j => (E j).2 = 0) 0 (fun j _ => by simp only [List.all_cons, List.all_nil, mentA, ment, X.L, nL_me, Bool.and_true]; rfl) (fun j mm _ hj hI ih => ?_) (by omega) (by rw [← hE]; rfl) (by rw [← hE]; rfl)
  have hI' : (eachN F j).2 = 0 := by rw [hE]; exact hI
  have hlen : (E j).1.length = j := by rw [← hE]; exact eachN_len hI'
  have hml : ((mixN (E j).1 v).flatMap X.L).length = v.length * 3 := by rw [nL_len, mix_len (by omega)]
  rcases Nat.lt_or_ge j u.length with hlt | hge
  · have hxj := at_get zX hlt
    have hyj := at_get zX (show j < v.length by omega)
    have hFj := hFj j
    generalize u.getD j zX = x at *
    generalize v.getD j zX = y at *
    have hx := pC_at' hxj
    have hm := nL_at ((mix_at hlen).trans hyj)
    have hmo := nL_ok (mixN (E j).1 v)
    have hset : ∀ y, List.take (j * 3) ((mixN (E j).1 v).flatMap X.L) ++ [.lit (.bool y.s), .lit (.int .i64 y.e), .ws y.xs] ++ List.drop (j * 3 + 3) ((mixN (E j).1 v).flatMap X.L) = (mixN ((E j).1 ++ [y]) v).flatMap X.L := fun y => mix_set y hlen (by omega)
    have d := decide_eq_true (show (j : Int) < (u.length : Int) by omega)
    have g0 : (0 ≤ (j : Int)) = True := eq_true (by omega)
    have g1 : (j < u.length) = True := eq_true hlt
    have g2 : (j * 3 + 3 ≤ v.length * 3) = True := eq_true (by omega)
    have g4 : (j < v.length) = True := eq_true (by omega)
    have g3 : ((mixN (E j).1 v).flatMap X.L).all okLf = true := hmo
    have hw := wrap_nat (j := j) (by omega)
    unfold lesX at hFj
    cases hM : (rtwo (gmul z false) z c x).2 != 0 with
    | true =>
      rw [hM, cond_true] at hFj
      have hr : E u.length = ([], (rtwo (gmul z false) z c x).2) := by
        rw [← hE, eachN_at hI' (by rw [hFj]; exact hM) hlt, hFj]
      rw [hr]
      simp (maxSteps := 10000000) only [go_sem, ↓reduceIte, Nat.reduceMul, Nat.reduceDiv, Nat.reduceAdd, Nat.reduceEqDiff, Nat.reduceLeDiff, Nat.reduceLT, reduceCtorEq, Int.reduceNeg, Int.reduceLT, Int.reduceLE, Int.reduceAdd, Int.reduceToNat, Nat.reduceBEq, Int.reduceMul, Int.reduceSub, Nat.reduceSub, Int.reduceBNe, Nat.reduceBNe, tyO, Tor_fac, Tround_Mul, Tround_Sub, gdO, kClo, uA, uE, grU, d, g0, g1, g2, g4, hw, hx, hm, hml, hmo, g3, hM]
      repeat' first | (with_reducible apply And.intro) | (with_reducible apply condP <;> intro _)
      all_goals first | (show chk _ _ = true; kernel_rfl) | assumption | rfl | (simp only [AV.s, cond_true, cond_false, Bool.and_true, Bool.true_and, Bool.and_false, Bool.false_and, Bool.not_true, Bool.not_false, *] <;> rfl)
    | false =>
      rw [hM, cond_false] at hFj
      cases hA : (rtwo (gsub z false) z y (qx (rtwo (gmul z false) z c x).1)).2 != 0 with
      | true =>
        have hr : E u.length = ([], (rtwo (gsub z false) z y (qx (rtwo (gmul z false) z c x).1)).2) := by
          rw [← hE, eachN_at hI' (by rw [hFj]; exact hA) hlt, hFj]
        rw [hr]
        simp (maxSteps := 10000000) only [go_sem, ↓reduceIte, Nat.reduceMul, Nat.reduceDiv, Nat.reduceAdd, Nat.reduceEqDiff, Nat.reduceLeDiff, Nat.reduceLT, reduceCtorEq, Int.reduceNeg, Int.reduceLT, Int.reduceLE, Int.reduceAdd, Int.reduceToNat, Nat.reduceBEq, Int.reduceMul, Int.reduceSub, Nat.reduceSub, Int.reduceBNe, Nat.reduceBNe, tyO, Tor_fac, Tround_Mul, Tround_Sub, gdO, kClo, uA, uE, grU, d, g0, g1, g2, g4, hw, hx, hm, hml, hmo, g3, hM, hA]
        repeat' first | (with_reducible apply And.intro) | (with_reducible apply condP <;> intro _)
        all_goals first | (show chk _ _ = true; kernel_rfl) | assumption | rfl | (simp only [AV.s, cond_true, cond_false, Bool.and_true, Bool.true_and, Bool.and_false, Bool.false_and, Bool.not_true, Bool.not_false, *] <;> rfl)
      | false =>
        have hs : E (j + 1) = ((E j).1 ++ [qx (rtwo (gsub z false) z y (qx (rtwo (gmul z false) z c x).1)).1], 0) := by
          rw [← hE, eachN_ok hI' (by rw [hFj]; simpa using hA), hFj]
        replace ih := ih hlt (by rw [hs])
        simp (maxSteps := 10000000) only [go_sem, ↓reduceIte, Nat.reduceMul, Nat.reduceDiv, Nat.reduceAdd, Nat.reduceEqDiff, Nat.reduceLeDiff, Nat.reduceLT, reduceCtorEq, Int.reduceNeg, Int.reduceLT, Int.reduceLE, Int.reduceAdd, Int.reduceToNat, Nat.reduceBEq, Int.reduceMul, Int.reduceSub, Nat.reduceSub, Int.reduceBNe, Nat.reduceBNe, tyO, Tor_fac, Tround_Mul, Tround_Sub, gdO, kClo, uA, uE, grU, d, g0, g1, g2, g4, hw, hx, hm, hml, hmo, g3, hM, hA, hset]
        repeat' first | (with_reducible apply And.intro) | (with_reducible apply condP <;> intro _)
        all_goals first | (show chk _ _ = true; kernel_rfl) | (exact ih _ _ (by rw [hs]; rfl)) | assumption | rfl
  · obtain rfl : j = u.length := by omega
    have hfin : pxe (E u.length) = .tup [(false, [.sl true 3 v.length (pC (E u.length).1)]), (false, [.lit (.int .i64 0)])] := by
      rw [show E u.length = ((E u.length).1, 0) from Prod.ext rfl hI, pxe_ok (by omega)]
      show AV.tup [(false, [.sl true 3 (E u.length).1.length (pC (E u.length).1)]), _] = _
      rw [hlen, hl]
    have hmf : mixN (E u.length).1 v = (E u.length).1 := mix_full (by omega)
    rw [hfin]
    rw [hmf] at hml
    have hd := nL_dn (E u.length).1
    have d : decide ((u.length : Int) < (u.length : Int)) = false := decide_eq_false (by omega)
    simp (maxSteps := 10000000) only [go_sem, ↓reduceIte, Nat.reduceMul, Nat.reduceDiv, Nat.reduceAdd, Nat.reduceEqDiff, Nat.reduceLeDiff, Nat.reduceLT, reduceCtorEq, Int.reduceNeg, Int.reduceLT, Int.reduceLE, Int.reduceAdd, Int.reduceToNat, Nat.reduceBEq, Int.reduceMul, Int.reduceSub, Nat.reduceSub, Int.reduceBNe, Nat.reduceBNe, tyO, Tor_fac, Tround_Mul, Tround_Sub, gdO, kClo, uA, uE, grU, d, hmf, hml, hd]
    repeat' first | (with_reducible apply And.intro) | (with_reducible apply condP <;> intro _)
    all_goals first | (show chk _ _ = true; kernel_rfl) | assumption | rfl | (simp only [AV.s, cond_true, cond_false, Bool.and_true, Bool.true_and, Bool.and_false, Bool.false_and, Bool.not_true, Bool.not_false, *] <;> rfl)
theorem o_wit (v u : List X) (z : Int) (hl : v.length = u.length) (h1 : 1 ≤ u.length) (h2 : u.length ≤ 1000) : Ct Tryd.prog 24 [pA_ v, pA_ u, iA z] (· = vxe (witS z v u)) := by
  refine Ct.wk ?_ (pxe_v _)
  unfold witS
  cases he : (facS z v u).2 != 0 with
  | true => exact o_wit_e v u z hl h2 he
  | false => exact o_wit_ok v u z hl h1 h2 he
noncomputable def Tor_wit : Tbl := one 24 (gA asP fun v => gA asP fun u => gA asZ fun z => gE (v.length = u.length ∧ 1 ≤ u.length ∧ u.length ≤ 1000, vxe (witS z v u)))
theorem Tor_wit_ok : TbOK Tryd.prog Tor_wit := one_t (ent Tryd.func24 (by kernel_rfl) rfl) (.a asP_ok fun v => .a asP_ok fun u => .a asZ_ok fun z => .e fun h => o_wit v u z h.1 h.2.1 h.2.2)
set_option maxHeartbeats 1000000 in
theorem otop_any (w : World) (s : Bool) (e : Int) (A : Option Addr) (n c : Nat) (xs : List Nat) (hA : Arg w A n c xs) (hb : okb s e n xs = true) (h0 : 0 < n) :
    Calls Tryd.prog 39 #[.agg #[.bool s, .int .i64 e, .slice A n c]] w (IPost w ((nbits (nval B64 xs) : Int) + e)) := by
  have hlen : xs.length = n := hA.1.1
  have hS : Small B64 xs := hA.2
  obtain ⟨hl, hn64, h1, h2⟩ : xs.getD (n - 1) 0 ≠ 0 ∧ n ≤ 64 ∧ -65536 ≤ e ∧ e ≤ 65536 := by
    unfold okb at hb
    rw [if_neg (by omega)] at hb
    simp only [Bool.and_eq_true, decide_eq_true_eq] at hb
    exact ⟨hb.1.1.1.1, hb.1.1.1.2, hb.1.2, hb.2⟩
  obtain ⟨k1, b1⟩ := box_one w s e A n c
  have d1 := bdr b1
  obtain ⟨ad, x, rfl, _, _, hx, hcx⟩ := (hA.step b1).1.get_ (j := n - 1) (by omega)
  have hx := hx.out
  have hxB : x < B64 := hS.get hx
  have hxl : xs.getD (n - 1) 0 = x := by rw [List.getD_eq_getElem?_getD, hx]; rfl
  rw [hxl] at hl
  have hbx : nbits x ≤ 64 := nbits_le (show x < 2 ^ 64 from hxB)
  have hN : nbits (nval B64 xs) = 64 * (n - 1) + nbits x := by
    have hxs : digs B64 (nval B64 xs) = xs := digs_nval B64_two hS (fun u hu => by rw [List.getLast?_eq_getElem?, hlen, hx] at hu; injection hu with hu; subst hu; exact hl)
    have := nbits_digs B64_two pow64 (N := nval B64 xs) (by rw [hxs]; exact hlen) h0 (by rw [hxs]; exact hx)
    omega
  rw [hN]
  have S0 : (w.alloc (.cells #[.bool s, .int .i64 e, .slice (some ad) n c] 34)).cell? ⟨w.heap.size, 1, none⟩ = some (.int .i64 e) ∧ (w.alloc (.cells #[.bool s, .int .i64 e, .slice (some ad) n c] 34)).cell? ⟨w.heap.size, 2, none⟩ = some (.slice (some ad) n c) ∧ (w.alloc (.cells #[.bool s, .int .i64 e, .slice (some ad) n c] 34)).cell? (ad.add (n - 1)) = some (.int .u64 (x : Int)) := ⟨k1.c1, k1.c2, hcx⟩
  have D1 := Lib.hid d1
  have hn1 := i64_sub (n : Int) 1 (by omega) (by omega)
  have g0 : ((n : Int) - 1) = ((n - 1 : Nat) : Int) := by omega
  have i3 : ((n : Int) - 1).toNat = n - 1 := by omega
  clear k1 b1 d1 hA hS hb hx hxl hl hN hlen hcx
  go_enter Tryd.func39, Tryd.ntmps39
  go_wp2_with fail
  have hm : n - 1 < n := by omega
  generalize n - 1 = m at *
  have m1 : IntKind.i64.wrap ((m : Int) * 64) = (m : Int) * 64 := by rw [IntKind.wrap_i64]; omega
  have m2 := i64_add ((m : Int) * 64) (nbits x : Int) (by omega) (by omega)
  have m3 := i64_add ((m : Int) * 64 + (nbits x : Int)) e (by omega) (by omega)
  go_region_held3 (fun w' => w'.cell? ⟨w.heap.size, 1, none⟩ = some (.int .i64 e) ∧ w'.cell? ⟨w.heap.size, 2, none⟩ = some (.slice (some ad) n c) ∧ w'.cell? (ad.add m) = some (.int .u64 (x : Int)))
    (first | exact S0 | assumption | go_keep)
    (first | (go_at_call 63; refine (len64_any _ _ hxB).mono ?_; rintro _ w2 ⟨rfl, rfl⟩))
  all_goals
    go_wp2
    go_ret
    refine ⟨congrArg (fun z => Ending.returned (Value.int IntKind.i64 z)) ?_, D1.out⟩
    omega
theorem o_top (x : X) (h : x.ok = true) (h0 : 0 < x.xs.length) : Ct Tryd.prog 39 [.v true x.L] (· = iA (topq x.q)) := ctN rfl (fun w Ax cx _ hx _ => (otop_any w x.s x.e Ax _ cx x.xs hx h h0).mono fun _ _ h => post_i h)
noncomputable def Tor_top : Tbl := one 39 (gA asN1 fun x => gE (x.ok = true ∧ 0 < x.xs.length, iA (topq x.q)))
theorem Tor_top_ok : TbOK Tryd.prog Tor_top := one_t (ent Tryd.func39 (by kernel_rfl) rfl) (.a asN1_ok fun x => .e fun h => o_top x h.1 h.2)
noncomputable def grN (v : List X) : Nat → X
  | 0 => zX
  | j + 1 => bif decide (0 < cmpx (qx (absx (v.getD j zX))) (grN v j)) then qx (absx (v.getD j zX)) else grN v j
noncomputable def kS (v : List X) : Int := IntKind.i64.wrap (0 - topq (grN v v.length).q)
noncomputable def scaS (v : List X) : List X × Int := bif signx (grN v v.length) == 0 then ([], 3) else
  eachN (fun i => (qx (scalex (v.getD i zX) (kS v)).1, (scalex (v.getD i zX) (kS v)).2)) v.length
theorem o_sca0 (v : List X) (h1 : 1 ≤ v.length) (h2 : v.length ≤ 1000) (hg : (signx (grN v v.length) == 0) = false → (grN v v.length).ok = true ∧ 0 < (grN v v.length).xs.length) : Ct Tryd.prog 25 [pA_ v] (· = pxe (scaS v)) := by
  refine ct_of (O := orO (gdO 36 kClo) (tblO (orT Tnum_Abs (orT Tnum_Cmp (orT Tnum_Sign (orT Tor_top Tnum_Scale)))))) (by kernel_rfl) tyO_ok (fun w => gdO_or (clo_ok w) (tblO_ok (orT_ok Tnum_Abs_ok (orT_ok Tnum_Cmp_ok (orT_ok Tnum_Sign_ok (orT_ok Tor_top_ok Tnum_Scale_ok)))) _ w) (fun _ _ _ => tblO_none fun _ => orT_none (one_none (by decide)) (orT_none (one_none (by decide)) (orT_none (one_none (by decide)) (orT_none (one_none (by decide)) (one_none (by decide))))))) [9999999, 0, 8, 9, 28, 30, 32, 16, 18, 71, 72, 74, 76] ((v.length + 1) * 600 + ((v.length + 1) * 700 + 700) + 300) 58 [.tmp 2, .tmp 3] Tryd.func25 rfl Tryd.ntmps25 (by rw [Tryd.results25]) (by simp) rfl (fun hsm => ?_)
  simp (maxSteps := 10000000) only [go_sem, ↓reduceIte, Nat.reduceMul, Nat.reduceDiv, Nat.reduceAdd, Nat.reduceEqDiff, Nat.reduceLeDiff, Nat.reduceLT, reduceCtorEq, Int.reduceNeg, Int.reduceLT, Int.reduceLE, Int.reduceAdd, Int.reduceToNat, Nat.reduceBEq, Int.reduceMul, Int.reduceSub, Nat.reduceSub, Int.reduceBNe, Nat.reduceBNe, tyO, Tnum_Abs, Tnum_Cmp, Tnum_Sign, Tor_top, Tnum_Scale, gdO, kClo, uA, uE, grU]
  generalize hG : grN v = G
  refine loop_ind 600 (fun j => [(0, pA_ v), (8, .s (.own 4 0)), (9, .v true (G j).L), (28, pA_ v), (30, iA (v.length : Int)), (32, iA (j : Int))]) v.length (fun _ => True) ((v.length + 1) * 700 + 700) (fun j _ => rfl) (fun j mm hmm hj _ ih => ?_) (by omega) trivial (by rw [← hG]; rfl)
  rcases Nat.lt_or_ge j v.length with hlt | hge
  · have hyj := at_get zX hlt
    have hs : G (j + 1) = bif decide (0 < cmpx (qx (absx (v.getD j zX))) (G j)) then qx (absx (v.getD j zX)) else G j := by rw [← hG]; rfl
    replace ih := ih hlt trivial
    generalize v.getD j zX = y at *
    have hx := pC_at' hyj
    have d := decide_eq_true (show (j : Int) < (v.length : Int) by omega)
    have g0 : (0 ≤ (j : Int)) = True := eq_true (by omega)
    have g1 : (j < v.length) = True := eq_true hlt
    have hw := wrap_nat (j := j) (by omega)
    cases hC : decide (0 < cmpx (qx (absx y)) (G j)) with
    | true =>
      rw [hC, cond_true] at hs
      simp (maxSteps := 10000000) only [go_sem, ↓reduceIte, Nat.reduceMul, Nat.reduceDiv, Nat.reduceAdd, Nat.reduceEqDiff, Nat.reduceLeDiff, Nat.reduceLT, reduceCtorEq, Int.reduceNeg, Int.reduceLT, Int.reduceLE, Int.reduceAdd, Int.reduceToNat, Nat.reduceBEq, Int.reduceMul, Int.reduceSub, Nat.reduceSub, Int.reduceBNe, Nat.reduceBNe, tyO, Tnum_Abs, Tnum_Cmp, Tnum_Sign, Tor_top, Tnum_Scale, gdO, kClo, uA, uE, grU, d, g0, g1, hw, hx, hC]
      repeat' first | (with_reducible apply And.intro) | (with_reducible apply condP <;> intro _)
      all_goals first | (show chk _ _ = true; kernel_rfl) | (exact ih _ _ (by rw [hs]; rfl)) | assumption | rfl
    | false =>
      rw [hC, cond_false] at hs
      simp (maxSteps := 10000000) only [go_sem, ↓reduceIte, Nat.reduceMul, Nat.reduceDiv, Nat.reduceAdd, Nat.reduceEqDiff, Nat.reduceLeDiff, Nat.reduceLT, reduceCtorEq, Int.reduceNeg, Int.reduceLT, Int.reduceLE, Int.reduceAdd, Int.reduceToNat, Nat.reduceBEq, Int.reduceMul, Int.reduceSub, Nat.reduceSub, Int.reduceBNe, Nat.reduceBNe, tyO, Tnum_Abs, Tnum_Cmp, Tnum_Sign, Tor_top, Tnum_Scale, gdO, kClo, uA, uE, grU, d, g0, g1, hw, hx, hC]
      repeat' first | (with_reducible apply And.intro) | (with_reducible apply condP <;> intro _)
      all_goals first | (show chk _ _ = true; kernel_rfl) | (exact ih _ _ (by rw [hs]; rfl)) | assumption | rfl
  · obtain rfl : j = v.length := by omega
    clear ih
    have hsc : scaS v = bif signx (G v.length) == 0 then ([], 3) else eachN (fun i => (qx (scalex (v.getD i zX) (kS v)).1, (scalex (v.getD i zX) (kS v)).2)) v.length := by rw [← hG]; rfl
    rw [hsc]
    have hS0 : signx (grN v v.length) = signx (G v.length) := by rw [hG]
    cases hS : signx (G v.length) == 0 with
    | true =>
      have d : decide ((v.length : Int) < (v.length : Int)) = false := decide_eq_false (by omega)
      rw [cond_true]
      simp (maxSteps := 10000000) only [go_sem, ↓reduceIte, Nat.reduceMul, Nat.reduceDiv, Nat.reduceAdd, Nat.reduceEqDiff, Nat.reduceLeDiff, Nat.reduceLT, reduceCtorEq, Int.reduceNeg, Int.reduceLT, Int.reduceLE, Int.reduceAdd, Int.reduceToNat, Nat.reduceBEq, Int.reduceMul, Int.reduceSub, Nat.reduceSub, Int.reduceBNe, Nat.reduceBNe, tyO, Tnum_Abs, Tnum_Cmp, Tnum_Sign, Tor_top, Tnum_Scale, gdO, kClo, uA, uE, grU, d, hS]
      repeat' first | (with_reducible apply And.intro) | (with_reducible apply condP <;> intro _)
      all_goals first | (show chk _ _ = true; kernel_rfl) | assumption | rfl | (simp only [AV.s, cond_true, cond_false, Bool.and_true, Bool.true_and, Bool.and_false, Bool.false_and, Bool.not_true, Bool.not_false, *] <;> rfl)
    | false =>
      rw [hS0] at hg
      rw [cond_false]
      generalize hk : kS v = k
      generalize hF0 : (fun i => (qx (scalex (v.getD i zX) k).1, (scalex (v.getD i zX) k).2)) = F
      have hFj : ∀ j, F j = (qx (scalex (v.getD j zX) k).1, (scalex (v.getD j zX) k).2) := fun j => by rw [← hF0]
      have hkw : IntKind.i64.wrap (0 - topq (G v.length).q) = k := by rw [← hk, ← hG]; rfl
      generalize hE : eachN F = E
      have d : decide ((v.length : Int) < (v.length : Int)) = false := decide_eq_false (by omega)
      have hk1 : (G v.length).ok = true := by rw [← hG]; exact (hg hS).1
      have hk2 : (0 < (G v.length).xs.length) = True := eq_true (by rw [← hG]; exact (hg hS).2)
      have h10 : (1 ≤ v.length) = True := eq_true h1
      have h20 : (v.length ≤ 1000) = True := eq_true h2
      simp (maxSteps := 10000000) only [go_sem, ↓reduceIte, Nat.reduceMul, Nat.reduceDiv, Nat.reduceAdd, Nat.reduceEqDiff, Nat.reduceLeDiff, Nat.reduceLT, reduceCtorEq, Int.reduceNeg, Int.reduceLT, Int.reduceLE, Int.reduceAdd, Int.reduceToNat, Nat.reduceBEq, Int.reduceMul, Int.reduceSub, Nat.reduceSub, Int.reduceBNe, Nat.reduceBNe, tyO, Tnum_Abs, Tnum_Cmp, Tnum_Sign, Tor_top, Tnum_Scale, gdO, kClo, uA, uE, grU, d, hS, hk1, hk2, hkw, h10, h20]
      generalize G v.length = g
      refine loop_ind 700 (fun j => [(0, pA_ v), (8, .s (.own 4 0)), (9, .v true g.L), (28, pA_ v), (30, iA (v.length : Int)), (32, iA (v.length : Int)), (16, iA k), (18, .s (.ol 35 v.length)), (71, .pre 34 3 ((mixN (E j).1 v).flatMap X.L)), (72, .s (.ol 35 v.length)), (74, iA (v.length : Int)), (76, iA (j : Int))]) v.length (fun j => (E j).2 = 0) 0 (fun j _ => by simp only [List.all_cons, List.all_nil, mentA, ment, X.L, nL_me, Bool.and_true]; rfl) (fun j m2 _ hj hI ih => ?_) (by omega) (by rw [← hE]; rfl) (by rw [← hE]; rfl)
      have hI' : (eachN F j).2 = 0 := by rw [hE]; exact hI
      have hlen : (E j).1.length = j := by rw [← hE]; exact eachN_len hI'
      have hml : ((mixN (E j).1 v).flatMap X.L).length = v.length * 3 := by rw [nL_len, mix_len (by omega)]
      rcases Nat.lt_or_ge j v.length with hlt | hge
      · have hyj := at_get zX hlt
        have hFj := hFj j
        generalize v.getD j zX = y at *
        have hm := nL_at ((mix_at hlen).trans hyj)
        have g3 := nL_ok (mixN (E j).1 v)
        have hset : ∀ y, List.take (j * 3) ((mixN (E j).1 v).flatMap X.L) ++ [.lit (.bool y.s), .lit (.int .i64 y.e), .ws y.xs] ++ List.drop (j * 3 + 3) ((mixN (E j).1 v).flatMap X.L) = (mixN ((E j).1 ++ [y]) v).flatMap X.L := fun y => mix_set y hlen hlt
        have d := decide_eq_true (show (j : Int) < (v.length : Int) by omega)
        have g0 : (0 ≤ (j : Int)) = True := eq_true (by omega)
        have g1 : (j < v.length) = True := eq_true hlt
        have g2 : (j * 3 + 3 ≤ v.length * 3) = True := eq_true (by omega)
        have hw := wrap_nat (j := j) (by omega)
        cases hM : (scalex y k).2 != 0 with
        | true =>
          have hr : E v.length = ([], (scalex y k).2) := by
            rw [← hE, eachN_at hI' (by rw [hFj]; exact hM) hlt, hFj]
          rw [hr]
          simp (maxSteps := 10000000) only [go_sem, ↓reduceIte, Nat.reduceMul, Nat.reduceDiv, Nat.reduceAdd, Nat.reduceEqDiff, Nat.reduceLeDiff, Nat.reduceLT, reduceCtorEq, Int.reduceNeg, Int.reduceLT, Int.reduceLE, Int.reduceAdd, Int.reduceToNat, Nat.reduceBEq, Int.reduceMul, Int.reduceSub, Nat.reduceSub, Int.reduceBNe, Nat.reduceBNe, tyO, Tnum_Abs, Tnum_Cmp, Tnum_Sign, Tor_top, Tnum_Scale, gdO, kClo, uA, uE, grU, d, g0, g1, g2, hw, hm, hml, g3, hM]
          repeat' first | (with_reducible apply And.intro) | (with_reducible apply condP <;> intro _)
          all_goals first | (show chk _ _ = true; kernel_rfl) | assumption | rfl | (simp only [AV.s, cond_true, cond_false, Bool.and_true, Bool.true_and, Bool.and_false, Bool.false_and, Bool.not_true, Bool.not_false, *] <;> rfl)
        | false =>
          have hs : E (j + 1) = ((E j).1 ++ [qx (scalex y k).1], 0) := by
            rw [← hE, eachN_ok hI' (by rw [hFj]; simpa using hM), hFj]
          replace ih := ih hlt (by rw [hs])
          simp (maxSteps := 10000000) only [go_sem, ↓reduceIte, Nat.reduceMul, Nat.reduceDiv, Nat.reduceAdd, Nat.reduceEqDiff, Nat.reduceLeDiff, Nat.reduceLT, reduceCtorEq, Int.reduceNeg, Int.reduceLT, Int.reduceLE, Int.reduceAdd, Int.reduceToNat, Nat.reduceBEq, Int.reduceMul, Int.reduceSub, Nat.reduceSub, Int.reduceBNe, Nat.reduceBNe, tyO, Tnum_Abs, Tnum_Cmp, Tnum_Sign, Tor_top, Tnum_Scale, gdO, kClo, uA, uE, grU, d, g0, g1, g2, hw, hm, hml, g3, hM, hset]
          repeat' first | (with_reducible apply And.intro) | (with_reducible apply condP <;> intro _)
          all_goals first | (show chk _ _ = true; kernel_rfl) | (exact ih _ _ (by rw [hs]; rfl)) | assumption | rfl
      · obtain rfl : j = v.length := by omega
        have hfin : pxe (E v.length) = .tup [(false, [.sl true 3 v.length (pC (E v.length).1)]), (false, [.lit (.int .i64 0)])] := by
          rw [show E v.length = ((E v.length).1, 0) from Prod.ext rfl hI, pxe_ok (by omega)]
          show AV.tup [(false, [.sl true 3 (E v.length).1.length (pC (E v.length).1)]), _] = _
          rw [hlen]
        have hmf : mixN (E v.length).1 v = (E v.length).1 := mix_full (by omega)
        rw [hfin]
        rw [hmf] at hml
        have hd := nL_dn (E v.length).1
        have d : decide ((v.length : Int) < (v.length : Int)) = false := decide_eq_false (by omega)
        simp (maxSteps := 10000000) only [go_sem, ↓reduceIte, Nat.reduceMul, Nat.reduceDiv, Nat.reduceAdd, Nat.reduceEqDiff, Nat.reduceLeDiff, Nat.reduceLT, reduceCtorEq, Int.reduceNeg, Int.reduceLT, Int.reduceLE, Int.reduceAdd, Int.reduceToNat, Nat.reduceBEq, Int.reduceMul, Int.reduceSub, Nat.reduceSub, Int.reduceBNe, Nat.reduceBNe, tyO, Tnum_Abs, Tnum_Cmp, Tnum_Sign, Tor_top, Tnum_Scale, gdO, kClo, uA, uE, grU, d, hmf, hml, hd]
        repeat' first | (with_reducible apply And.intro) | (with_reducible apply condP <;> intro _)
        all_goals first | (show chk _ _ = true; kernel_rfl) | assumption | rfl | (simp only [AV.s, cond_true, cond_false, Bool.and_true, Bool.true_and, Bool.and_false, Bool.false_and, Bool.not_true, Bool.not_false, *] <;> rfl)
theorem o_sca (v : List X) (h1 : 1 ≤ v.length) (h2 : v.length ≤ 1000) (hg : (signx (grN v v.length) == 0) = false → (grN v v.length).ok = true ∧ 0 < (grN v v.length).xs.length) : Ct Tryd.prog 25 [pA_ v] (· = vxe (scaS v)) := (o_sca0 v h1 h2 hg).wk (pxe_v _)
noncomputable def Tor_sca : Tbl := one 25 (gA asP fun v => gE (1 ≤ v.length ∧ v.length ≤ 1000 ∧ ((signx (grN v v.length) == 0) = false → (grN v v.length).ok = true ∧ 0 < (grN v v.length).xs.length), vxe (scaS v)))
theorem Tor_sca_ok : TbOK Tryd.prog Tor_sca := one_t (ent Tryd.func25 (by kernel_rfl) rfl) (.a asP_ok fun v => .e fun h => o_sca v h.1 h.2.1 h.2.2)
end Go.Proofs.YtpacpmmdjmnamaaDoor
