/- Code on states, and a function's contract out of it. -/
import Derived.Test.YtfggnoejcgehdaaGreatDoorPAiF
namespace Go.Proofs.YtfggnoejcgehdaaGreatDoor
open Go.RowKit Nx
set_option linter.unusedVariables false
set_option linter.unusedSimpArgs false
inductive It where
  | code (c : Code)
  | blk (id : Nat)
  | ops (ops : Array Oper) (l : List Oper) (rs : List (List Nat × List Nat)) (d : Bool)
  | brk (g : Nat)
  | lp (c : Code)
  | exe (ops : Array Oper) (o : Oper) (l : List Oper) (rs : List (List Nat × List Nat)) (d : Bool)
def dropTo (id : Nat) : List It → Option (List It)
  | [] => none
  | .blk i :: k => if i = id then some k else dropTo id k
  | .code _ :: k => dropTo id k
  | .lp _ :: k => dropTo id k
  | _ => none
def brkK (ops : Array Oper) (o : Oper) (k : List It) : List It :=
  match o.guard, o.op with
  | some (j, _), .pick (.tmp t) _ _ => (match (ops[j]?).bind (·.dst) with
    | some g => .brk (2 * g) :: .brk (2 * t) :: k
    | none => .brk (2 * t) :: k)
  | some (j, _), _ => (match (ops[j]?).bind (·.dst) with
    | some g => .brk (2 * g) :: k
    | none => k)
  | none, .pick (.tmp t) _ _ => .brk (2 * t) :: k
  | none, _ => k
def condf (R : List It → St → Prop) (v : Option AV) (x y : Code) (k : List It) (st : St) : Prop := match v with
  | some (.v false [.lit (.bool b)]) => bif b then R (.code x :: k) st else R (.code y :: k) st
  | _ => False
def brkf (R : List It → St → Prop) (v : Option AV) (g : Nat) (k : List It) (st : St) : Prop := match v with
  | some (.v false [.lit (.bool b)]) => bif b then R k ((g, .s (.lit (.bool true))) :: st) else R k ((g, .s (.lit (.bool false))) :: st)
  | _ => R k st
def exef (R : List It → St → Prop) (N : Nat) (oe : Option Ef) (ops : Array Oper) (o : Oper) (l : List Oper) (rs : List (List Nat × List Nat)) (d : Bool) (k : List It) (st : St) : Prop := match oe with
  | some e => okD N o = true ∧ e.1 ∧ R (.ops ops l (keysOf e :: rs) d :: k) (e.2.2 ++ st)
  | none => False
def exif (R : List It → St → Prop) (k : Option (List It)) (st : St) : Prop := match k with
  | some k => R k st
  | none => False
def ment (st : St) : Lf → Bool
  | .own b _ => dom st b
  | .osl b _ => dom st b
  | .clo _ cs => cs.all (dom st)
  | _ => true
def mentA (st : St) : AV → Bool
  | .v _ ls => ls.all (ment st)
  | .tup ps => ps.all fun p => p.2.all (ment st)
def inL (ks : List Nat) (k : Nat) : Bool := match ks with
  | [] => false
  | x :: xs => bif x == k then true else inL xs k
def forget (ks : List Nat) : St → St
  | [] => []
  | (k, a) :: st => bif inL ks k then forget ks st else (k, a) :: forget ks st
def lpf (R : St → Prop) (st : St) : Prop := (st.all fun p => mentA st p.2) = true ∧ R st
section
variable (ty : TypeId → Option TI) (O : Orac) (N : Nat) (Post : St → Prop) (fg : List Nat)
def run : Nat → List It → St → Prop
  | 0, _, _ => False
  | _ + 1, [], st => Post st
  | n + 1, .blk _ :: k, st => run n k st
  | n + 1, .brk g :: k, st => brkf (run n) (look st g) g k st
  | n + 1, .exe ops o l rs d :: k, st => exef (run n) N (opf ty O ops o st) ops o l rs d k st
  | n + 1, .ops ops [] rs d :: k, st => (d = true → chk ops rs.reverse = true) ∧ run n k st
  | n + 1, .ops ops (o :: l) rs d :: k, st => run n (brkK ops o (.exe ops o l rs d :: k)) st
  | n + 1, .lp c :: k, st => lpf (run n (.code c :: .lp c :: k)) (forget fg st)
  | n + 1, .code (.loop c) :: k, st => run n (.code c :: .lp c :: k) st
  | n + 1, .code .skip :: k, st => run n k st
  | n + 1, .code (.seq a b) :: k, st => run n (.code a :: .code b :: k) st
  | n + 1, .code (.region _ ops d) :: k, st => run n (.ops ops ops.toList [] d :: k) st
  | n + 1, .code (.cond c x y) :: k, st => condf (run n) (evs st c) x y k st
  | n + 1, .code (.block id b) :: k, st => run n (.code b :: .blk id :: k) st
  | n + 1, .code (.exit id) :: k, st => exif (run n) (dropTo id k) st
  | _ + 1, .code .ret :: _, st => Post st
  | _ + 1, .code _ :: _, _ => False
end
section
variable {P : Program} {ty : TypeId → Option TI} {O : Orac} {N : Nat} {Post : St → Prop} {fg : List Nat}
theorem brk_eq {n g : Nat} {k : List It} {st : St} (h : run ty O N Post fg n (.brk g :: k) st) : ∃ n' st', n' < n ∧ (∀ k, look st' k = look st k) ∧ run ty O N Post fg n' k st' := by
  cases n with
  | zero => exact h.elim
  | succ n =>
    have h : brkf (run ty O N Post fg n) (look st g) g k st := h
    unfold brkf at h
    split at h
    · rename_i b hb
      have key : ∀ b', b = b' → ∀ k, look ((g, AV.s (.lit (.bool b'))) :: st) k = look st k := fun b' e k => by
        subst e
        by_cases e : k = g
        · subst e; rw [look_same, hb]
        · rw [look_other e]
      cases b with
      | true => exact ⟨n, _, by omega, key true rfl, h⟩
      | false => exact ⟨n, _, by omega, key false rfl, h⟩
    · exact ⟨n, st, by omega, fun _ => rfl, h⟩
theorem brkK_eq {n : Nat} {ops : Array Oper} {o : Oper} {k : List It} {st : St} (h : run ty O N Post fg n (brkK ops o k) st) : ∃ n' st', n' ≤ n ∧ (∀ k, look st' k = look st k) ∧ run ty O N Post fg n' k st' := by
  unfold brkK at h
  split at h
  · split at h
    · obtain ⟨n1, s1, l1, e1, r1⟩ := brk_eq h
      obtain ⟨n2, s2, l2, e2, r2⟩ := brk_eq r1
      exact ⟨n2, s2, by omega, fun k => (e2 k).trans (e1 k), r2⟩
    · obtain ⟨n1, s1, l1, e1, r1⟩ := brk_eq h
      exact ⟨n1, s1, by omega, e1, r1⟩
  · split at h
    · obtain ⟨n1, s1, l1, e1, r1⟩ := brk_eq h
      exact ⟨n1, s1, by omega, e1, r1⟩
    · exact ⟨n, st, Nat.le_refl _, fun _ => rfl, h⟩
  · obtain ⟨n1, s1, l1, e1, r1⟩ := brk_eq h
    exact ⟨n1, s1, by omega, e1, r1⟩
  · exact ⟨n, st, Nat.le_refl _, fun _ => rfl, h⟩
theorem run_path {ops : Array Oper} {d : Bool} : ∀ (l : List Oper) (n : Nat) (rs : List (List Nat × List Nat)) (k : List It) (st : St), run ty O N Post fg n (.ops ops l rs d :: k) st →
    ∃ es st' n', n' < n ∧ Pth ty O ops l st es st' ∧ l.all (okD N) = true ∧ (d = true → chk ops (rs.reverse ++ es.map keysOf) = true) ∧ run ty O N Post fg n' k st' := by
  intro l
  induction l with
  | nil =>
    intro n rs k st h
    cases n with
    | zero => exact h.elim
    | succ n =>
      obtain ⟨h1, h2⟩ : (d = true → chk ops rs.reverse = true) ∧ run ty O N Post fg n k st := h
      exact ⟨[], st, n, by omega, .nil (fun _ => rfl), rfl, by simpa using h1, h2⟩
  | cons o l ih =>
    intro n rs k st h
    cases n with
    | zero => exact h.elim
    | succ n =>
      have h : run ty O N Post fg n (brkK ops o (.exe ops o l rs d :: k)) st := h
      obtain ⟨n1, s1, l1, e1, r1⟩ := brkK_eq h
      cases n1 with
      | zero => exact r1.elim
      | succ n1 =>
        have r1 : exef (run ty O N Post fg n1) N (opf ty O ops o s1) ops o l rs d k s1 := r1
        unfold exef at r1
        split at r1
        · rename_i e he
          obtain ⟨c1, c2, c3⟩ := r1
          obtain ⟨es, st', n', l', hp, hD, hc, hr⟩ := ih n1 _ k _ c3
          refine ⟨e :: es, st', n', by omega, .cons e1 he c2 hp, by rw [List.all_cons, c1, hD]; rfl, fun hd => ?_, hr⟩
          have := hc hd
          simpa using this
        · exact r1.elim
theorem look_forget (ks : List Nat) : ∀ (st : St) (k : Nat), look (forget ks st) k = bif inL ks k then none else look st k := by
  intro st k
  induction st with
  | nil => unfold forget; cases inL ks k <;> rfl
  | cons p st ih =>
    obtain ⟨j, a⟩ := p
    unfold forget
    cases hj : inL ks j with
    | true =>
      rw [cond_true, ih]
      cases hk : inL ks k with
      | true => rfl
      | false =>
        have : k ≠ j := fun e => by subst e; rw [hj] at hk; cases hk
        rw [cond_false, cond_false, look_other this]
    | false =>
      rw [cond_false]
      by_cases e : k = j
      · subst e; rw [look_same, hj, cond_false, look_same]
      · rw [look_other e, ih, look_other e]
section
variable {ρ : Nat → Nat} {D D' : Nat → Bool} {w : World}
theorem Lf.R.dom {l : Lf} {u : Value} (h : l.R ρ D w u) (hm : ∀ st : St, D' = dom st → ment st l = true) (he : ∃ st : St, D' = dom st) : l.R ρ D' w u := by
  obtain ⟨st, rfl⟩ := he
  have hm := hm st rfl
  cases l with
  | own b o => exact ⟨hm, h.2⟩
  | osl b n => exact ⟨hm, h.2⟩
  | clo f cs => exact ⟨fun b hb => List.all_eq_true.1 hm b hb, h.2⟩
  | _ => exact h
theorem RL.dom {st : St} {ls : List Lf} {us : List Value} (h : RL ρ D w ls us) (hm : ls.all (ment st) = true) : RL ρ (dom st) w ls us := by
  induction ls generalizing us with
  | nil => exact h
  | cons l ls ih =>
    rw [List.all_cons, Bool.and_eq_true] at hm
    obtain ⟨u, r, e, h1, h2⟩ := h
    refine ⟨u, r, e, h1.dom (fun s hs => ?_) ⟨st, rfl⟩, ih h2 hm.2⟩
    have h3 := hm.1
    unfold ment at h3 ⊢
    rw [← hs]; exact h3
theorem VR.dom {st : St} {g : Bool} {ls : List Lf} {u : Value} (h : VR ρ D w g ls u) (hm : ls.all (ment st) = true) : VR ρ (dom st) w g ls u := by
  cases g with
  | true => obtain ⟨us, e, h1⟩ := h; exact ⟨us, e, h1.dom hm⟩
  | false => exact RL.dom h hm
theorem RT.dom {st : St} {ps : List (Bool × List Lf)} {us : List Value} (h : RT ρ D w ps us) (hm : (ps.all fun p => p.2.all (ment st)) = true) : RT ρ (dom st) w ps us := by
  induction ps generalizing us with
  | nil => exact h
  | cons p ps ih =>
    rw [List.all_cons, Bool.and_eq_true] at hm
    obtain ⟨u, r, e, h1, h2⟩ := h; exact ⟨u, r, e, h1.dom hm.1, ih h2 hm.2⟩
theorem AV.R.dom {st : St} {a : AV} {u : Value} (h : a.R ρ D w u) (hm : mentA st a = true) : a.R ρ (dom st) w u := by
  cases a with
  | v g ls => exact VR.dom h hm
  | tup ps => obtain ⟨us, e, h1⟩ := h; exact ⟨us, e, h1.dom hm⟩
end
theorem look_mem : ∀ {st : St} {k : Nat} {v : AV}, look st k = some v → (k, v) ∈ st := by
  intro st
  induction st with
  | nil => intro k v h; cases h
  | cons p st ih =>
    intro k v h
    obtain ⟨j, a⟩ := p
    by_cases e : k = j
    · subst e; rw [look_same] at h; injection h with h; subst h; simp
    · rw [look_other e] at h; exact List.mem_cons_of_mem _ (ih h)
theorem Cz.fgt {F : Nat → Prop} {w0 w : World} {N : Nat} {ρ : Nat → Nat} {st : St} {a : Act} (ks : List Nat) (h : Cz F w0 N ρ st a w) (hm : ((forget ks st).all fun p => mentA (forget ks st) p.2) = true) : Cz F w0 N ρ (forget ks st) a w := by
  have hl : ∀ k v, look (forget ks st) k = some v → look st k = some v := fun k v hv => by
    have hv : look (forget ks st) k = some v := hv
    rw [look_forget] at hv
    cases hk : inL ks k with
    | true => rw [hk] at hv; cases hv
    | false => rw [hk] at hv; exact hv
  have hmm : ∀ k v, look (forget ks st) k = some v → mentA (forget ks st) v = true := fun k v hv => List.all_eq_true.1 hm (k, v) (look_mem hv)
  refine ⟨h.tb, h.bel, h.sz, h.df, fun t v hv => ?_, fun b v hv => ?_, fun b b' h1 h2 => ?_⟩
  · obtain ⟨u, hu, hr⟩ := h.sl t v (hl _ _ hv)
    exact ⟨u, hu, hr.dom (hmm _ _ hv)⟩
  · obtain ⟨g, ls, T, cs, e, hB, hr, ho, hg⟩ := h.mm b v (hl _ _ hv)
    subst e
    exact ⟨g, ls, T, cs, rfl, hB, hr.dom (hmm _ _ hv), ho, hg⟩
  · have hd : ∀ b, dom (forget ks st) b = true → dom st b = true := fun b hb => by
      unfold dom at hb ⊢
      obtain ⟨v, hv⟩ := Option.isSome_iff_exists.1 hb
      rw [hl _ _ hv]; rfl
    exact h.inj b b' (hd b h1) (hd b' h2)
def Wk (P : Program) (Fin : Act → World → Prop) (B : Nat → List It → Act → World → Prop) (n : Nat) : List It → Exit → Act → World → Prop
  | [], .normal, a, w => Fin a w
  | [], .ret, a, w => Fin a w
  | [], _, _, _ => False
  | .code c :: k, e, a, w => Exit.then (c.wp P (Wk P Fin B n k)) (Wk P Fin B n k) e a w
  | .blk id :: k, e, a, w => Exit.inBlock id (Wk P Fin B n k) e a w
  | .lp c :: k, e, a, w => Exit.then (fun a w => ∃ m, m < n ∧ B m (.lp c :: k) a w) (Wk P Fin B n k) e a w
  | _ :: _, _, _, _ => True
section
variable {Fin : Act → World → Prop} {B : Nat → List It → Act → World → Prop}
theorem wk_mono {n m : Nat} (hnm : n ≤ m) : ∀ k e a w, Wk P Fin B n k e a w → Wk P Fin B m k e a w := by
  intro k
  induction k with
  | nil => intro e a w h; cases e <;> exact h
  | cons i k ih =>
    intro e a w h
    cases i with
    | code c =>
      cases e with
      | normal => exact wp_mono h (fun e a w => ih e a w)
      | _ => exact ih _ a w h
    | blk id =>
      cases e with
      | exit id' =>
        show Exit.inBlock id (Wk P Fin B m k) (.exit id') a w
        have h : Exit.inBlock id (Wk P Fin B n k) (.exit id') a w := h
        unfold Exit.inBlock at h ⊢
        simp only at h ⊢
        split
        · rename_i e; rw [if_pos e] at h; exact ih _ a w h
        · rename_i e; rw [if_neg e] at h; exact ih _ a w h
      | _ => exact ih _ a w h
    | lp c =>
      cases e with
      | normal => obtain ⟨x, hx, hb⟩ := h; exact ⟨x, by omega, hb⟩
      | _ => exact ih _ a w h
    | _ => trivial
theorem wk_ret {n : Nat} {a : Act} {w : World} (h : Fin a w) : ∀ k, Wk P Fin B n k .ret a w := by
  intro k
  induction k with
  | nil => exact h
  | cons i k ih =>
    cases i with
    | code c => exact ih
    | blk id => exact ih
    | lp c => exact ih
    | _ => trivial
theorem wk_exit {n : Nat} {a : Act} {w : World} {id : Nat} : ∀ k k', dropTo id k = some k' → Wk P Fin B n k' .normal a w → Wk P Fin B n k (.exit id) a w := by
  intro k
  induction k with
  | nil => intro k' h; cases h
  | cons i k ih =>
    intro k' h hw
    cases i with
    | code c => exact ih k' h hw
    | lp c => exact ih k' h hw
    | blk j =>
      show Exit.inBlock j (Wk P Fin B n k) (.exit id) a w
      unfold Exit.inBlock
      simp only
      unfold dropTo at h
      split at h
      · rename_i e
        injection h with h; subst h; subst e
        rw [if_pos rfl]; exact hw
      · rename_i e
        rw [if_neg (fun h => e h.symm)]; exact ih k' h hw
    | _ => trivial
end
theorem least_of {p : Nat → Prop} (h : ∃ m, p m) : ∃ m, p m ∧ ∀ k, p k → m ≤ k := by
  obtain ⟨m, hm⟩ := h
  induction m using Nat.strongRecOn with
  | ind m ih =>
    by_cases hx : ∃ k, k < m ∧ p k
    · obtain ⟨k, h1, h2⟩ := hx; exact ih k h1 h2
    · refine ⟨m, hm, fun k hk => ?_⟩
      rcases Nat.lt_or_ge k m with h1 | h1
      · exact absurd ⟨k, h1, hk⟩ hx
      · exact h1
theorem run_sound (hm : P.follows .mixedOrders = true) (hty : ∀ t i, ty t = some i → TiOK P t i) {F : Nat → Prop} {w0 : World} (hO : OrOK P O F w0) {Fin : Act → World → Prop} (hF : ∀ ρ st a w, Post st → Cz F w0 N ρ st a w → Fin a w) :
    ∀ (n : Nat) (k : List It) (ρ : Nat → Nat) (st : St) (a : Act) (w : World), run ty O N Post fg n k st → Cz F w0 N ρ st a w → Wk P Fin (fun m k a w => ∃ ρ st, run ty O N Post fg m k st ∧ Cz F w0 N ρ st a w) (n + 1) k .normal a w := by
  intro n
  induction n using Nat.strongRecOn with
  | ind n ih =>
    intro k ρ st a w h hz
    cases n with
    | zero => exact h.elim
    | succ n =>
      have up : ∀ m, m ≤ n → ∀ k ρ st a w, run ty O N Post fg m k st → Cz F w0 N ρ st a w → Wk P Fin (fun m k a w => ∃ ρ st, run ty O N Post fg m k st ∧ Cz F w0 N ρ st a w) (n + 1 + 1) k .normal a w :=
        fun m hm k ρ st a w h hz => wk_mono (by omega) k .normal a w (ih m (by omega) k ρ st a w h hz)
      cases k with
      | nil => exact hF ρ st a w h hz
      | cons i k =>
        cases i with
        | blk id => exact up n (by omega) k ρ st a w h hz
        | lp c => exact ⟨n + 1, by omega, ρ, st, h, hz⟩
        | brk g => trivial
        | exe _ _ _ _ _ => trivial
        | ops _ _ _ _ => trivial
        | code c =>
          show c.wp P _ a w
          cases c with
          | skip => exact wp_skip (up n (by omega) k ρ st a w h hz)
          | seq x y => exact wp_seq (up n (by omega) (.code x :: .code y :: k) ρ st a w h hz)
          | region id ops d =>
            obtain ⟨es, st', n', hl, hp, hD, hc, hr⟩ := run_path ops.toList n [] k st h
            have hQ : ∀ ρ' a' w', Cz F w0 N ρ' st' a' w' → Wk P Fin (fun m k a w => ∃ ρ st, run ty O N Post fg m k st ∧ Cz F w0 N ρ st a w) (n + 1 + 1) k .normal a' w' := fun ρ' a' w' hz' => up n' (by omega) k ρ' st' a' w' hr hz'
            cases d with
            | false => exact plain_sound hty hO hD hz hp hQ
            | true => exact drawn_sound hm hty hO hD hz hp (by simpa using hc rfl) hQ
          | cond c x y =>
            have h : condf (run ty O N Post fg n) (evs st c) x y k st := h
            unfold condf at h
            split at h
            · rename_i b hb
              refine wp_cond_split (t := b) (RL.one.1 (hz.ev hb)) (fun hbt => ?_) (fun hbf => ?_)
              · exact up n (by omega) (.code x :: k) ρ st a w (by rw [hbt] at h; exact h) hz
              · exact up n (by omega) (.code y :: k) ρ st a w (by rw [hbf] at h; exact h) hz
            · exact h.elim
          | block id b => exact wp_block (up n (by omega) (.code b :: .blk id :: k) ρ st a w h hz)
          | exit id =>
            have h : exif (run ty O N Post fg n) (dropTo id k) st := h
            unfold exif at h
            split at h
            · rename_i k' hk
              exact wp_exit (wk_exit k k' hk (up n (by omega) k' ρ st a w h hz))
            · exact h.elim
          | ret => exact wp_ret (wk_ret (hF ρ st a w h hz) k)
          | loop c =>
            have h : run ty O N Post fg n (.code c :: .lp c :: k) st := h
            let I : Nat → Act → World → Prop := fun m a w => m ≤ n ∧ ∃ ρ st, run ty O N Post fg m (.code c :: .lp c :: k) st ∧ Cz F w0 N ρ st a w
            let μ : Act → World → Nat := fun a w => open Classical in if hx : ∃ m, I m a w then Classical.choose (least_of hx) else 0
            refine wp_loop (fun a w => ∃ m, I m a w) μ ⟨n, Nat.le_refl _, ρ, st, h, hz⟩ ?_
            intro a1 w1 hI
            have hμ : ∀ a w (hx : ∃ m, I m a w), I (μ a w) a w ∧ ∀ k, I k a w → μ a w ≤ k := fun a w hx => by
              have e : μ a w = Classical.choose (least_of hx) := by
                show (open Classical in if hx : ∃ m, I m a w then Classical.choose (least_of hx) else 0) = _
                rw [dif_pos hx]
              rw [e]; exact Classical.choose_spec (least_of hx)
            obtain ⟨hm1, ρ1, s1, r1, z1⟩ := (hμ a1 w1 hI).1
            have hw := ih (μ a1 w1) (by omega) (.code c :: .lp c :: k) ρ1 s1 a1 w1 r1 z1
            refine wp_mono (show c.wp P _ a1 w1 from hw) ?_
            intro e a2 w2 he
            cases e with
            | normal =>
              obtain ⟨m, hm2, ρ2, s2, r2, z2⟩ := he
              cases m with
              | zero => exact r2.elim
              | succ m =>
                obtain ⟨q1, q2⟩ : lpf (run ty O N Post fg m (.code c :: .lp c :: k)) (forget fg s2) := r2
                have hI2 : I m a2 w2 := ⟨by omega, ρ2, _, q2, z2.fgt fg q1⟩
                refine ⟨⟨m, hI2⟩, ?_⟩
                have := (hμ a2 w2 ⟨m, hI2⟩).2 m hI2
                omega
            | _ => exact wk_mono (by omega) k _ a2 w2 he
          | rangeFunc _ _ _ _ => exact h.elim
          | scope _ => exact h.elim
          | label _ => exact h.elim
          | goto _ => exact h.elim
          | refuse _ => exact h.elim
end
def resA (ty : TypeId → Option TI) (st : St) : List ResultVar → Option (List (Bool × List Lf))
  | [] => some []
  | .tmp t :: r => (match look st (2 * t), resA ty st r with
    | some (.v g ls), some ps => some ((g, ls) :: ps)
    | _, _ => none)
  | .cell t T :: r => (match look st (2 * t), resA ty st r with
    | some (.v false [.own b o]), some ps => (match ty T, look st (2 * b + 1) with
      | some i, some (.v _ ls) => if i.agg = true then (if o + i.size ≤ ls.length then some ((true, (ls.drop o).take i.size) :: ps) else none)
        else (match ls[o]? with
          | some l => some ((false, [l]) :: ps)
          | none => none)
      | _, _ => none)
    | _, _ => none)
def tupA : List (Bool × List Lf) → AV
  | [p] => .v p.1 p.2
  | ps => .tup ps
def clL : Lf → Bool
  | .own _ _ => false
  | .osl _ _ => false
  | .clo _ cs => cs.isEmpty
  | _ => true
def clA : AV → Bool
  | .v _ ls => ls.all clL
  | .tup ps => ps.all fun p => p.2.all clL
def postf (Pst : AV → Prop) (r : Option (List (Bool × List Lf))) : Prop := match r with
  | some ps => clA (tupA ps) = true ∧ Pst (tupA ps)
  | none => False
section
variable {P : Program} {ρ ρ' : Nat → Nat} {D D' : Nat → Bool} {w : World}
theorem Lf.R.closed {l : Lf} {u : Value} (h : l.R ρ D w u) (hc : clL l = true) : l.R ρ' D' w u := by
  cases l with
  | own _ _ => cases hc
  | osl _ _ => cases hc
  | clo f cs => cases cs with
    | nil => exact ⟨(fun b hb => by cases hb), h.2⟩
    | cons _ _ => cases hc
  | _ => exact h
theorem RL.closed {ls : List Lf} {us : List Value} (h : RL ρ D w ls us) (hc : ls.all clL = true) : RL ρ' D' w ls us := by
  induction ls generalizing us with
  | nil => exact h
  | cons l ls ih =>
    rw [List.all_cons, Bool.and_eq_true] at hc
    obtain ⟨u, r, e, h1, h2⟩ := h; exact ⟨u, r, e, h1.closed hc.1, ih h2 hc.2⟩
theorem VR.closed {g : Bool} {ls : List Lf} {u : Value} (h : VR ρ D w g ls u) (hc : ls.all clL = true) : VR ρ' D' w g ls u := by
  cases g with
  | true => obtain ⟨us, e, h1⟩ := h; exact ⟨us, e, h1.closed hc⟩
  | false => exact RL.closed h hc
theorem RT.closed {ps : List (Bool × List Lf)} {us : List Value} (h : RT ρ D w ps us) (hc : (ps.all fun p => p.2.all clL) = true) : RT ρ' D' w ps us := by
  induction ps generalizing us with
  | nil => exact h
  | cons p ps ih =>
    rw [List.all_cons, Bool.and_eq_true] at hc
    obtain ⟨u, r, e, h1, h2⟩ := h; exact ⟨u, r, e, h1.closed hc.1, ih h2 hc.2⟩
theorem AV.R.closed {a : AV} {u : Value} (h : a.R ρ D w u) (hc : clA a = true) : a.R ρ' D' w u := by
  cases a with
  | v g ls => exact VR.closed h hc
  | tup ps => obtain ⟨us, e, h1⟩ := h; exact ⟨us, e, h1.closed hc⟩
theorem RA.closed {xs : List AV} {us : List Value} (h : RA ρ D w xs us) (hc : xs.all clA = true) : RA ρ' D' w xs us := by
  induction xs generalizing us with
  | nil => exact h
  | cons l ls ih =>
    rw [List.all_cons, Bool.and_eq_true] at hc
    obtain ⟨u, r, e, h1, h2⟩ := h; exact ⟨u, r, e, h1.closed hc.1, ih h2 hc.2⟩
theorem RA.get {xs : List AV} {us : List Value} (h : RA ρ D w xs us) {n : Nat} {p : AV} (hl : xs[n]? = some p) : ∃ u, us[n]? = some u ∧ p.R ρ D w u := by
  induction n generalizing xs us with
  | zero =>
    cases xs with
    | nil => simp at hl
    | cons k ps => obtain ⟨u, r, e, h1, h2⟩ := h; simp at hl; subst hl; exact ⟨u, by rw [e]; rfl, h1⟩
  | succ n ih =>
    cases xs with
    | nil => simp at hl
    | cons k ps =>
      obtain ⟨u, r, e, h1, h2⟩ := h
      obtain ⟨x, hx, hr⟩ := ih h2 (by simpa using hl)
      exact ⟨x, by rw [e]; simpa using hx, hr⟩
theorem RA.len {xs : List AV} {us : List Value} (h : RA ρ D w xs us) : us.length = xs.length := by
  induction xs generalizing us with
  | nil => rw [h]; rfl
  | cons l ls ih => obtain ⟨u, r, e, h1, h2⟩ := h; rw [e, List.length_cons, List.length_cons, ih h2]
variable {F : Nat → Prop} {w0 : World} {N : Nat} {st : St} {a : Act} {ty : TypeId → Option TI}
def resOne (tmps : Array Value) : ResultVar → Sem Value
  | .tmp t => pure (tmps.getD t undef)
  | .cell x t => do loadVar t (← asAddr (tmps.getD x undef))
theorem res_list (hty : ∀ t i, ty t = some i → TiOK P t i) (h : Cz F w0 N ρ st a w) : ∀ (rs : List ResultVar) (ps : List (Bool × List Lf)), resA ty st rs = some ps →
    ∃ us, (rs.mapM (resOne a.tmps)).run P w = .ok us w ∧ RT ρ (dom st) w ps us := by
  intro rs
  induction rs with
  | nil => intro ps hp; injection hp with hp; subst hp; exact ⟨[], by simp, rfl⟩
  | cons r rs ih =>
    intro ps hp
    cases r with
    | tmp t =>
      unfold resA at hp
      split at hp
      · rename_i g ls qs h1 h2
        injection hp with hp; subst hp
        obtain ⟨us, hu, hR⟩ := ih qs h2
        obtain ⟨u, hu1, hr1⟩ := h.sl t _ h1
        refine ⟨u :: us, ?_, u, us, rfl, hr1, hR⟩
        have e : a.tmps.getD t undef = u := by rw [Array.getD_eq_getD_getElem?, hu1]; rfl
        simp [List.mapM_cons, resOne, e, hu]
      · cases hp
    | cell t T =>
      unfold resA at hp
      split at hp
      · rename_i b o qs h1 h2
        obtain ⟨us, hu, hR⟩ := ih qs h2
        obtain ⟨u, hu1, hr1⟩ := h.sl t _ h1
        obtain ⟨hdb, rfl⟩ := RL.one.1 hr1
        have e : a.tmps.getD t undef = .pointer (some ⟨ρ b, o, none⟩) := by rw [Array.getD_eq_getD_getElem?, hu1]; rfl
        split at hp
        · rename_i i g ls hi hl
          have hT := hty T i hi
          obtain ⟨g0, ls0, T0, cs, e0, hB, hr0, ho0, hg⟩ := h.mm b _ hl
          injection e0 with _ e0; subst e0
          have hlen := hr0.len
          rw [Array.length_toList] at hlen
          split at hp
          · rename_i hag
            split at hp
            · rename_i hle
              injection hp with hp; subst hp
              have hrun := run_loadA (w := w) hT hB (o := o) (by omega) hag
              simp only [Instr.loadAt, Instr.sureAddr, Sem.run_bind, Sem.run_pure, Result.andThen_ok] at hrun
              refine ⟨_ :: us, ?_, _, us, rfl, ⟨_, rfl, (hr0.drop o).take _⟩, hR⟩
              simp [List.mapM_cons, resOne, e, asAddr, hrun, hu]
            · cases hp
          · rename_i hag
            split at hp
            · rename_i l hl'
              injection hp with hp; subst hp
              obtain ⟨u, hu', hr⟩ := hr0.get hl'
              have hrun := run_loadS (w := w) hT hB hu' (by simpa using hag)
              simp only [Instr.loadAt, Instr.sureAddr, Sem.run_bind, Sem.run_pure, Result.andThen_ok] at hrun
              refine ⟨u :: us, ?_, u, us, rfl, RL.one.2 hr, hR⟩
              simp [List.mapM_cons, resOne, e, asAddr, hrun, hu]
            · cases hp
        · cases hp
      · cases hp
theorem res_run (hty : ∀ t i, ty t = some i → TiOK P t i) (h : Cz F w0 N ρ st a w) {fn : Func} {ps : List (Bool × List Lf)} (hp : resA ty st fn.results.toList = some ps) :
    ∃ u, (results fn a.tmps).run P w = .ok u w ∧ (tupA ps).R ρ (dom st) w u := by
  obtain ⟨us, hu, hR⟩ := res_list hty h _ _ hp
  have hrun : (results fn a.tmps).run P w = .ok (if h : us.toArray.size = 1 then us.toArray[0] else .tuple us.toArray) w := by
    show Sem.run P (do let vs ← fn.results.mapM (resOne a.tmps); pure (if h : vs.size = 1 then vs[0] else .tuple vs)) w = _
    rw [Sem.run_bind, Array.mapM_eq_mapM_toList]
    simp [hu]
  rw [hrun]
  refine ⟨_, rfl, ?_⟩
  match ps, us, hR with
  | [], _, rfl => simp [tupA, AV.R, RT]
  | [p], _, ⟨u, _, rfl, h1, rfl⟩ => simpa [tupA, AV.R] using h1
  | p :: q :: r, _, ⟨u, us, rfl, h1, h2⟩ =>
    obtain ⟨u2, us2, rfl, h3, h4⟩ := h2
    simp [tupA, AV.R]
    exact ⟨u, _, rfl, h1, u2, us2, rfl, h3, h4⟩
end
def Ct (P : Program) (f : FuncId) (args : List AV) (Pst : AV → Prop) : Prop := ∀ ρ D w us, Tab w → RA ρ D w args us →
  Calls P f us.toArray w fun e w' => ∃ u r, e = .returned u ∧ Pst r ∧ clA r = true ∧ r.R ρ D w' u ∧ Below w.heap.size w w'
def init : Nat → List AV → St
  | _, [] => []
  | n, a :: xs => (2 * n, a) :: init (n + 1) xs
theorem init_look : ∀ (xs : List AV) (n k : Nat) (v : AV), look (init n xs) k = some v → ∃ t, k = 2 * (n + t) ∧ xs[t]? = some v := by
  intro xs
  induction xs with
  | nil => intro n k v h; cases h
  | cons a xs ih =>
    intro n k v h
    unfold init at h
    by_cases e : k = 2 * n
    · subst e
      rw [look_same] at h; injection h with h; subst h
      exact ⟨0, rfl, rfl⟩
    · rw [look_other e] at h
      obtain ⟨t, h1, h2⟩ := ih (n + 1) k v h
      exact ⟨t + 1, by omega, by simpa using h2⟩
theorem call_of {P : Program} {ty : TypeId → Option TI} {O : Orac} (hm : P.follows .mixedOrders = true) (hty : ∀ t i, ty t = some i → TiOK P t i) {w : World} (hO : OrOK P O (fun _ => False) w) {f : FuncId} {fn : Func} {c : Code} {args : List AV} {mem : St} (fg : List Nat) {Pst : AV → Prop} {ρ : Nat → Nat} {us : List Value}
    (fuel N : Nat) (rs : List ResultVar) (hf : P.funcs[f]? = some fn) (hb : fn.body = some c) (hN : fn.ntmps = N) (hr : fn.results.toList = rs) (hl : args.length ≤ N) (ht : Tab w) (hodd : ∀ k v, look mem k = some v → ∃ b, k = 2 * b + 1)
    (hmem : ∀ b v, look mem (2 * b + 1) = some v → ∃ ls T cs, v = .v false ls ∧ Blk w (ρ b) T cs ∧ RL ρ (dom mem) w ls cs.toList ∧ ls.all okLf = true) (hinj : ∀ b b', dom mem b = true → dom mem b' = true → ρ b = ρ b' → b = b') (hA : RA ρ (dom mem) w args us)
    (h : run ty O N (fun st => postf Pst (resA ty st rs)) fg fuel [.code c] (init 0 args ++ mem)) :
    Calls P f us.toArray w fun e w' => ∃ u r, e = .returned u ∧ Pst r ∧ clA r = true ∧ (∀ ρ D, r.R ρ D w' u) ∧ Below w.heap.size w w' := by
  refine calls_of_wp hf hb ?_
  have hlen := hA.len
  have hlk : ∀ b, look (init 0 args ++ mem) (2 * b + 1) = look mem (2 * b + 1) := fun b => by
    rw [look_append]
    cases hh : look (init 0 args) (2 * b + 1) with
    | none => rfl
    | some v => obtain ⟨t, h1, _⟩ := init_look _ _ _ _ hh; omega
  have hst : dom (init 0 args ++ mem) = dom mem := funext fun b => by unfold dom; rw [hlk]
  have hz : Cz (fun _ => False) w N ρ (init 0 args ++ mem) { tmps := us.toArray ++ Array.replicate (fn.ntmps - us.toArray.size) undef, defers := [] } w := by
    refine ⟨⟨ht, fun h => h⟩, Bel.refl _ _, ?_, rfl, fun t v hv => ?_, fun b v hv => ?_, fun b b' h1 h2 => ?_⟩
    · simp; omega
    · rw [look_append] at hv
      split at hv
      · rename_i v' hv'
        injection hv with hv; subst hv
        obtain ⟨t', h1, h2⟩ := init_look _ _ _ _ hv'
        have : t = t' := by omega
        subst this
        obtain ⟨u, h3, h4⟩ := hA.get h2
        refine ⟨u, ?_, by rw [hst]; exact h4⟩
        have hlt : t < us.length := by
          rcases Nat.lt_or_ge t us.length with h | h
          · exact h
          · rw [List.getElem?_eq_none h] at h3; cases h3
        rw [Array.getElem?_append_left (by simpa using hlt)]
        simpa using h3
      · obtain ⟨b, hb⟩ := hodd _ _ hv; omega
    · rw [hlk] at hv
      obtain ⟨ls, T, cs, e, hB, hR, ho⟩ := hmem b v hv
      exact ⟨false, ls, T, cs, e, hB, by rw [hst]; exact hR, ho, fun h => by cases h⟩
    · rw [hst] at h1 h2; exact hinj b b' h1 h2
  have hF : ∀ ρ' st a w', postf Pst (resA ty st rs) → Cz (fun _ => False) w N ρ' st a w' → bodyPost P fn (fun e w' => ∃ u r, e = .returned u ∧ Pst r ∧ clA r = true ∧ (∀ ρ D, r.R ρ D w' u) ∧ Below w.heap.size w w') .ret a w' := by
    intro ρ' st a w' hp hz'
    unfold postf at hp
    split at hp
    · rename_i ps hps
      obtain ⟨u, hu, hR⟩ := res_run hty hz' (fn := fn) (by rw [hr]; exact hps)
      exact bodyPost_ret hu hz'.df ⟨u, _, rfl, hp.2, hp.1, fun _ _ => hR.closed hp.1, hz'.bel.to⟩
    · exact hp.elim
  have := run_sound hm hty hO hF fuel [.code c] ρ _ _ w h hz
  refine wp_mono this ?_
  intro e a' w' he
  cases e with
  | normal => exact he
  | ret => exact he
  | exit id => exact he.elim
  | goto l => exact he.elim
  | panic ch => exact he.elim
  | outgrown => exact he.elim
def smL : Lf → Prop
  | .ws xs => Small B64 xs ∧ xs.length ≤ 100000
  | _ => True
def smLs : List Lf → Prop
  | [] => True
  | l :: ls => smL l ∧ smLs ls
def smAs : List AV → Prop
  | [] => True
  | .v _ ls :: r => smLs ls ∧ smAs r
  | .tup _ :: r => smAs r
theorem RL.sm {ρ : Nat → Nat} {D : Nat → Bool} {w : World} {ls : List Lf} {us : List Value} (h : RL ρ D w ls us) : smLs ls := by
  induction ls generalizing us with
  | nil => trivial
  | cons l ls ih =>
    obtain ⟨u, r, e, h1, h2⟩ := h
    refine ⟨?_, ih h2⟩
    cases l with
    | ws xs => obtain ⟨A, n, c, _, ha, hn⟩ := h1; exact ⟨ha.2, by have := ha.1.1; omega⟩
    | _ => trivial
theorem RA.sm {ρ : Nat → Nat} {D : Nat → Bool} {w : World} {xs : List AV} {us : List Value} (h : RA ρ D w xs us) : smAs xs := by
  induction xs generalizing us with
  | nil => trivial
  | cons a xs ih =>
    obtain ⟨u, r, e, h1, h2⟩ := h
    cases a with
    | tup _ => exact ih h2
    | v g ls =>
      refine ⟨?_, ih h2⟩
      cases g with
      | true => obtain ⟨us, _, hr⟩ := h1; exact hr.sm
      | false => exact RL.sm h1
theorem ct_of {P : Program} {ty : TypeId → Option TI} {O : Orac} (hm : P.follows .mixedOrders = true) (hty : ∀ t i, ty t = some i → TiOK P t i) (hO : ∀ w, OrOK P O (fun _ => False) w) {f : FuncId} {fn : Func} {c : Code} {args : List AV} (fg : List Nat) {Pst : AV → Prop}
    (fuel N : Nat) (rs : List ResultVar) (hf : P.funcs[f]? = some fn) (hb : fn.body = some c) (hN : fn.ntmps = N) (hr : fn.results.toList = rs) (hl : args.length ≤ N) (hc : args.all clA = true)
    (h : smAs args → run ty O N (fun st => postf Pst (resA ty st rs)) fg fuel [.code c] (init 0 args)) : Ct P f args Pst := by
  intro ρ D w us ht hA
  replace h := h hA.sm
  refine (call_of (mem := []) (ρ := ρ) hm hty (hO w) fg fuel N rs hf hb hN hr hl ht (fun k v h => by cases h) (fun b v h => by cases h) (fun b b' h => by cases h) (hA.closed hc) (by rw [List.append_nil]; exact h)).mono ?_
  rintro e w' ⟨u, r, he, hp, hcl, hR, hb⟩
  exact ⟨u, r, he, hp, hcl, hR ρ D, hb⟩
end Go.Proofs.YtfggnoejcgehdaaGreatDoor
