/- Code on states, and a function's contract out of it. -/
import Derived.Test.YtobcbhppmgnioaaGreatDoorSAiF
import Derived.Scope
namespace Go.Proofs.YtobcbhppmgnioaaGreatDoor
open Go.RowKit Nx
set_option linter.unusedVariables false
set_option linter.unusedSimpArgs false
inductive It where
 | code (c : Code)
 | blk (id : Nat)
 | ops (ops : Array Oper) (l : List Oper) (rs : List (List Nat × List Nat)) (d : Bool)
 | brk (g : Nat)
 | lp (c : Code)
 | scp
 | exe (ops : Array Oper) (o : Oper) (l : List Oper) (rs : List (List Nat × List Nat)) (d : Bool)
def dropTo (id : Nat) : List It → Option (List It)
 | [] => none
 | .blk i :: k => if i = id then some k else dropTo id k
 | .code _ :: k => dropTo id k
 | .lp _ :: k => dropTo id k
 | .scp :: k => dropTo id k
 | _ => none
def brkK (ops : Array Oper) (o : Oper) (k : List It) : List It :=
 match o.guard, o.op with
 | some (j, _), .pick (.tmp t) _ _ => (match (ops[j]?).bind (·.dst) with
  | some g => .brk (2 * g) :: .brk (2 * t) :: k
  | none => .brk (2 * t) :: k)
 | some (j, _), _ => (match (ops[j]?).bind (·.dst) with
  | some g => .brk (2 * g) :: k
  | none => k)
 | none, .pick (.tmp t) _ _ => .brk (2 * t) :: k
 | none, _ => k
def condf (R : List It → St → Prop) (v : Option AV) (x y : Code) (k : List It) (st : St) : Prop := match v with
 | some (.v false [.lit (.bool b)]) => bif b then R (.code x :: k) st else R (.code y :: k) st
 | _ => False
def brkf (R : List It → St → Prop) (v : Option AV) (g : Nat) (k : List It) (st : St) : Prop := match v with
 | some (.v false [.lit (.bool b)]) => bif b then R k ((g, .s (.lit (.bool true))) :: st) else R k ((g, .s (.lit (.bool false))) :: st)
 | _ => R k st
def exef (R : List It → St → Prop) (N : Nat) (oe : Option Ef) (ops : Array Oper) (o : Oper) (l : List Oper) (rs : List (List Nat × List Nat)) (d : Bool) (k : List It) (st : St) : Prop := match oe with
 | some e => okD N o = true ∧ e.1 ∧ R (.ops ops l (keysOf e :: rs) d :: k) (e.2.2 ++ st)
 | none => False
def exif (R : List It → St → Prop) (k : Option (List It)) (st : St) : Prop := match k with
 | some k => R k st
 | none => False
def ment (st : St) : Lf → Bool
 | .own b _ => dom st b
 | .osl b _ => dom st b
 | .clo _ cs => cs.all (dom st)
 | .ol b _ => (match look st (2 * b + 1) with
  | some (.pre _ _ _) => true
  | _ => false)
 | .oe b _ _ => (match look st (2 * b + 1) with
  | some (.pre _ _ _) => true
  | _ => false)
 | .ov b _ _ _ => (match look st (2 * b + 1) with
  | some (.pre _ _ _) => true
  | _ => false)
 | _ => true
def mentA (st : St) : AV → Bool
 | .v _ ls => ls.all (ment st)
 | .tup ps => ps.all fun p => p.2.all (ment st)
 | .pre _ _ ls => ls.all (ment st)
def inL (ks : List Nat) (k : Nat) : Bool := match ks with
 | [] => false
 | x :: xs => bif x == k then true else inL xs k
def forget (ks : List Nat) : St → St
 | [] => []
 | (k, a) :: st => bif inL ks k then forget ks st else (k, a) :: forget ks st
def pick : List Nat → St → St
 | [], _ => []
 | k :: ks, st => match look st k with
  | some v => (k, v) :: pick ks st
  | none => pick ks st
def dnT : List Lf → Option (List Lc)
 | [] => some []
 | .lit v :: r => (match dnT r with
  | some k => some (.lit v :: k)
  | none => none)
 | .ws v :: r => (match dnT r with
  | some k => some (.ws v :: k)
  | none => none)
 | .dg v :: r => (match dnT r with
  | some k => some (.dg v :: k)
  | none => none)
 | .sl true a b c :: r => (match dnT r with
  | some k => some (.sl a b c :: k)
  | none => none)
 | _ :: _ => none
def outL (st : St) : Lf → Lf
 | .osl b n => (match look st (2 * b + 1) with
  | some (.v true ls) => (match dnT ls with
   | some ls' => if b < 1000 ∧ ls.length = n * (ls.length / n) then .sl true (ls.length / n) n ls' else .osl b n
   | none => .osl b n)
  | _ => .osl b n)
 | .ol b k => (match look st (2 * b + 1) with
  | some (.pre _ sz ls) => (match dnT ls with
   | some ls' => if ls.length = k * sz then .sl true sz k ls' else .ol b k
   | none => .ol b k)
  | _ => .ol b k)
 | .lit v => .lit v
 | .own b o => .own b o
 | .ws xs => .ws xs
 | .dg N => .dg N
 | .clo f cs => .clo f cs
 | .sl f sz n ls => .sl f sz n ls
 | .im ls => .im ls
 | .oe b k o => .oe b k o
 | .ov b k o n => .ov b k o n
def clL : Lf → Bool
 | .own _ _ => false
 | .osl _ _ => false
 | .clo _ cs => cs.isEmpty
 | .sl f _ _ _ => f
 | .im _ => false
 | .ol _ _ => false
 | .oe _ _ _ => false
 | .ov _ _ _ _ => false
 | _ => true
def frL (b : Nat) (st : St) : Lf → Lf
 | .osl b' n => bif b' == b then outL st (.osl b' n) else .osl b' n
 | .ol b' k => bif b' == b then outL st (.ol b' k) else .ol b' k
 | .lit v => .lit v
 | .own b o => .own b o
 | .ws xs => .ws xs
 | .dg N => .dg N
 | .clo f cs => .clo f cs
 | .sl f sz n ls => .sl f sz n ls
 | .im ls => .im ls
 | .oe b k o => .oe b k o
 | .ov b k o n => .ov b k o n
theorem frL_osl {b b' n : Nat} {st : St} : frL b st (.osl b' n) = bif b' == b then outL st (.osl b' n) else .osl b' n := rfl
theorem frL_ol {b b' n : Nat} {st : St} : frL b st (.ol b' n) = bif b' == b then outL st (.ol b' n) else .ol b' n := rfl
def frA (b : Nat) (st : St) : AV → AV
 | .v g ls => .v g (ls.map (frL b st))
 | .tup ps => .tup (ps.map fun p => (p.1, p.2.map (frL b st)))
 | .pre e sz ls => .pre e sz (ls.map (frL b st))
def frS (b : Nat) (s0 : St) : St → St
 | [] => []
 | (k, a) :: st => bif k == 2 * b + 1 then frS b s0 st else (k, frA b s0 a) :: frS b s0 st
def frz (b : Nat) (st : St) : St := match look st (2 * b + 1) with
 | some (.v true ls) => (match dnT ls with
  | some _ => frS b st st
  | none => st)
 | some (.pre _ _ ls) => (match dnT ls with
  | some _ => frS b st st
  | none => st)
 | _ => st
def frh : List Nat → St → St
 | [], st => st
 | b :: ks, st => bif b == 9999999 then pick ks st else frz b (frh ks st)
def swp (d d' b : Nat) : Nat := bif b == d then d' else bif b == d' then d else b
def swK (d d' k : Nat) : Nat := bif k == 2 * d + 1 then 2 * d' + 1 else bif k == 2 * d' + 1 then 2 * d + 1 else k
def swL (d d' : Nat) : Lf → Lf
 | .ol b k => .ol (swp d d' b) k
 | .oe b k o => .oe (swp d d' b) k o
 | .ov b k o n => .ov (swp d d' b) k o n
 | .osl b n => .osl b n
 | .lit v => .lit v
 | .own b o => .own b o
 | .ws xs => .ws xs
 | .dg N => .dg N
 | .clo f cs => .clo f cs
 | .sl f sz n ls => .sl f sz n ls
 | .im ls => .im ls
def swA (d d' : Nat) : AV → AV
 | .v g ls => .v g (ls.map (swL d d'))
 | .tup ps => .tup (ps.map fun p => (p.1, p.2.map (swL d d')))
 | .pre e sz ls => .pre e sz (ls.map (swL d d'))
def swS (d d' : Nat) : St → St
 | [] => []
 | (k, a) :: st => (swK d d' k, swA d d' a) :: swS d d' st
def swh (d d' : Nat) (st : St) : St := bif dom st d then st else bif dom st d' then st else swS d d' st
def rnK : List Nat → St → St
 | d :: d' :: ks, st => swh d d' (frh ks st)
 | _, st => st
def hd1 : List Nat → St → St
 | [], st => st
 | x :: ks, st => bif x == 9999999 then pick ks st else bif x == 9999998 then frh ks st else bif x == 9999995 then rnK ks st else forget (x :: ks) st
def hdT : List Nat → St → St
 | g :: n :: ks, st => bif (look st g).isSome then hd1 (ks.take n) st else hd1 (ks.drop n) st
 | _, st => st
def hdU : List Nat → St → St
 | g :: n :: g' :: n' :: ks, st => bif (look st g).isSome then hd1 (ks.take n) st else bif (look st g').isSome then hd1 ((ks.drop n).take n') st else hd1 ((ks.drop n).drop n') st
 | _, st => st
def hdV : Nat → List Nat → St → St
 | 0, ks, st => hd1 ks st
 | m + 1, g :: n :: ks, st => bif (look st g).isSome then hd1 (ks.take n) st else hdV m (ks.drop n) st
 | _ + 1, _, st => st
def hdW : List Nat → St → St
 | m :: ks, st => hdV m ks st
 | [], st => st
def hdS : List Nat → St → St
 | [], st => st
 | x :: ks, st => bif x == 9999997 then hdT ks st else bif x == 9999996 then hdU ks st else bif x == 9999994 then hdW ks st else hd1 (x :: ks) st
def lpf (R : List It → St → Prop) (k : List It) (st : St) : Prop := (st.all fun p => mentA st p.2) = true ∧ R k st
section
variable (ty : TypeId → Option TI) (O : Orac) (N : Nat) (Post : St → Prop) (fg : List Nat)
def run : Nat → List It → St → Prop
 | 0, _, _ => False
 | _ + 1, [], st => Post st
 | n + 1, .blk _ :: k, st => run n k st
 | n + 1, .scp :: k, st => run n k st
 | n + 1, .code (.scope c) :: k, st => run n (.code c :: .scp :: k) st
 | n + 1, .code (.label _) :: k, st => run n k st
 | n + 1, .brk g :: k, st => brkf (run n) (look st g) g k st
 | n + 1, .exe ops o l rs d :: k, st => exef (run n) N (opf ty O ops o st) ops o l rs d k st
 | n + 1, .ops ops [] rs d :: k, st => (d = true → chk ops rs.reverse = true) ∧ run n k st
 | n + 1, .ops ops (o :: l) rs d :: k, st => run n (brkK ops o (.exe ops o l rs d :: k)) st
 | n + 1, .lp c :: k, st => lpf (run n) (.code c :: .lp c :: k) (hdS fg st)
 | n + 1, .code (.loop c) :: k, st => lpf (run n) (.code c :: .lp c :: k) (hdS fg st)
 | n + 1, .code .skip :: k, st => run n k st
 | n + 1, .code (.seq a b) :: k, st => run n (.code a :: .code b :: k) st
 | n + 1, .code (.region _ ops d) :: k, st => run n (.ops ops ops.toList [] d :: k) st
 | n + 1, .code (.cond c x y) :: k, st => condf (run n) (evs st c) x y k st
 | n + 1, .code (.block id b) :: k, st => run n (.code b :: .blk id :: k) st
 | n + 1, .code (.exit id) :: k, st => exif (run n) (dropTo id k) st
 | _ + 1, .code .ret :: _, st => Post st
 | _ + 1, .code _ :: _, _ => False
end
section
variable {P : Program} {ty : TypeId → Option TI} {O : Orac} {N : Nat} {Post : St → Prop} {fg : List Nat}
theorem brk_eq {n g : Nat} {k : List It} {st : St} (h : run ty O N Post fg n (.brk g :: k) st) : ∃ n' st', n' < n ∧ (∀ k, look st' k = look st k) ∧ run ty O N Post fg n' k st' := by
 cases n with
 | zero => exact h.elim
 | succ n =>
  have h : brkf (run ty O N Post fg n) (look st g) g k st := h
  unfold brkf at h
  split at h
  ·rename_i b hb
   have key : ∀ b', b = b' → ∀ k, look ((g, AV.s (.lit (.bool b'))) :: st) k = look st k := fun b' e k => by
    subst e
    by_cases e : k = g
    ·subst e; rw [look_same, hb]
    ·rw [look_other e]
   cases b with
   | true => exact ⟨n, _, by omega, key true rfl, h⟩
   | false => exact ⟨n, _, by omega, key false rfl, h⟩
  ·exact ⟨n, st, by omega, fun _ => rfl, h⟩
theorem brkK_eq {n : Nat} {ops : Array Oper} {o : Oper} {k : List It} {st : St} (h : run ty O N Post fg n (brkK ops o k) st) : ∃ n' st', n' ≤ n ∧ (∀ k, look st' k = look st k) ∧ run ty O N Post fg n' k st' := by
 unfold brkK at h
 split at h
 ·split at h
  ·obtain ⟨n1, s1, l1, e1, r1⟩ := brk_eq h
   obtain ⟨n2, s2, l2, e2, r2⟩ := brk_eq r1
   exact ⟨n2, s2, by omega, fun k => (e2 k).trans (e1 k), r2⟩
  ·obtain ⟨n1, s1, l1, e1, r1⟩ := brk_eq h
   exact ⟨n1, s1, by omega, e1, r1⟩
 ·split at h
  ·obtain ⟨n1, s1, l1, e1, r1⟩ := brk_eq h
   exact ⟨n1, s1, by omega, e1, r1⟩
  ·exact ⟨n, st, Nat.le_refl _, fun _ => rfl, h⟩
 ·obtain ⟨n1, s1, l1, e1, r1⟩ := brk_eq h
  exact ⟨n1, s1, by omega, e1, r1⟩
 ·exact ⟨n, st, Nat.le_refl _, fun _ => rfl, h⟩
theorem run_path {ops : Array Oper} {d : Bool} : ∀ (l : List Oper) (n : Nat) (rs : List (List Nat × List Nat)) (k : List It) (st : St), run ty O N Post fg n (.ops ops l rs d :: k) st →
  ∃ es st' n', n' < n ∧ Pth ty O ops l st es st' ∧ l.all (okD N) = true ∧ (d = true → chk ops (rs.reverse ++ es.map keysOf) = true) ∧ run ty O N Post fg n' k st' := by
 intro l
 induction l with
 | nil =>
  intro n rs k st h
  cases n with
  | zero => exact h.elim
  | succ n =>
   obtain ⟨h1, h2⟩ : (d = true → chk ops rs.reverse = true) ∧ run ty O N Post fg n k st := h
   exact ⟨[], st, n, by omega, .nil (fun _ => rfl), rfl, by simpa using h1, h2⟩
 | cons o l ih =>
  intro n rs k st h
  cases n with
  | zero => exact h.elim
  | succ n =>
   have h : run ty O N Post fg n (brkK ops o (.exe ops o l rs d :: k)) st := h
   obtain ⟨n1, s1, l1, e1, r1⟩ := brkK_eq h
   cases n1 with
   | zero => exact r1.elim
   | succ n1 =>
    have r1 : exef (run ty O N Post fg n1) N (opf ty O ops o s1) ops o l rs d k s1 := r1
    unfold exef at r1
    split at r1
    ·rename_i e he
     obtain ⟨c1, c2, c3⟩ := r1
     obtain ⟨es, st', n', l', hp, hD, hc, hr⟩ := ih n1 _ k _ c3
     refine ⟨e :: es, st', n', by omega, .cons e1 he c2 hp, by rw [List.all_cons, c1, hD]; rfl, fun hd => ?_, hr⟩
     have := hc hd
     simpa using this
    ·exact r1.elim
theorem look_forget (ks : List Nat) : ∀ (st : St) (k : Nat), look (forget ks st) k = bif inL ks k then none else look st k := by
 intro st k
 induction st with
 | nil => unfold forget; cases inL ks k <;> rfl
 | cons p st ih =>
  obtain ⟨j, a⟩ := p
  unfold forget
  cases hj : inL ks j with
  | true =>
   rw [cond_true, ih]
   cases hk : inL ks k with
   | true => rfl
   | false =>
    have : k ≠ j := fun e => by subst e; rw [hj] at hk; cases hk
    rw [cond_false, cond_false, look_other this]
  | false =>
   rw [cond_false]
   by_cases e : k = j
   ·subst e; rw [look_same, hj, cond_false, look_same]
   ·rw [look_other e, ih, look_other e]
section
variable {ρ : Env} {D D' : Nat → Bool} {w : World}
structure Fewer (ρ ρ' : Env) (D : Nat → Bool) (st : St) : Prop where
 r : ρ'.r = ρ.r
 z : ρ'.z = ρ.z
 gh : ρ'.gh = ρ.gh
 gv : ρ'.gv = ρ.gv
 dm : ∀ b, dom st b = true → D b = true
 al : ∀ b, ρ'.al b = true → ρ.al b = true
 pre : ∀ b e sz ls, look st (2 * b + 1) = some (.pre e sz ls) → ρ'.al b = true
theorem Fewer.sep {ρ' : Env} {st : St} (h : Fewer ρ ρ' D st) {g : Nat} (hg : Sep ρ D g) : Sep ρ' (dom st) g := ⟨fun b hb => by rw [h.r]; exact hg.1 b (h.dm b hb), fun b hb => by rw [h.gh]; exact hg.2 b (h.al b hb)⟩
theorem Lf.R.dom {ρ' : Env} {st : St} {l : Lf} {u : Value} (h : l.R ρ D w u) (hm : ment st l = true) (hs : Fewer ρ ρ' D st) : l.R ρ' (dom st) w u := by
 cases l with
 | own b o => exact ⟨hm, by rw [hs.r]; exact h.2⟩
 | osl b n => exact ⟨hm, by rw [hs.r]; exact h.2⟩
 | clo f cs => exact ⟨fun b hb => List.all_eq_true.1 hm b hb, by rw [hs.r]; exact h.2⟩
 | sl f sz n ls => exact Lc.R.mono (Keeps.refl _ _) (fun _ _ _ _ h => ⟨hs.sep h.1, fun e => by rw [hs.z]; exact h.2 e⟩) _ _ h
 | im ls => exact ImR.mono h (Keeps.refl _ _) fun _ _ _ _ h => hs.sep h
 | ol b k =>
  have hm : (match look st (2 * b + 1) with
   | some (.pre _ _ _) => true
   | _ => false) = true := hm
  split at hm
  ·rename_i e sz ls hl
   exact ⟨hs.pre b e sz ls hl, by rw [hs.gv]; exact h.2.1, by rw [hs.gv, hs.gh]; exact h.2.2.1, h.2.2.2⟩
  ·cases hm
 | oe b k o =>
  have hm : (match look st (2 * b + 1) with
   | some (.pre _ _ _) => true
   | _ => false) = true := hm
  split at hm
  ·rename_i e sz ls hl
   exact ⟨hs.pre b e sz ls hl, by rw [hs.gv]; exact h.2.1, by rw [hs.gv, hs.gh]; exact h.2.2.1, h.2.2.2⟩
  ·cases hm
 | ov b k o n =>
  have hm : (match look st (2 * b + 1) with
   | some (.pre _ _ _) => true
   | _ => false) = true := hm
  split at hm
  ·rename_i e sz ls hl
   exact ⟨hs.pre b e sz ls hl, by rw [hs.gv]; exact h.2.1, by rw [hs.gv, hs.gh]; exact h.2.2.1, h.2.2.2⟩
  ·cases hm
 | _ => exact h
theorem RL.dom {ρ' : Env} {st : St} {ls : List Lf} {us : List Value} (h : RL ρ D w ls us) (hm : ls.all (ment st) = true) (hs : Fewer ρ ρ' D st) : RL ρ' (dom st) w ls us := by
 induction ls generalizing us with
 | nil => exact h
 | cons l ls ih =>
  rw [List.all_cons, Bool.and_eq_true] at hm
  obtain ⟨u, r, e, h1, h2⟩ := h
  exact ⟨u, r, e, h1.dom hm.1 hs, ih h2 hm.2⟩
theorem VR.dom {ρ' : Env} {st : St} {g : Bool} {ls : List Lf} {u : Value} (h : VR ρ D w g ls u) (hm : ls.all (ment st) = true) (hs : Fewer ρ ρ' D st) : VR ρ' (dom st) w g ls u := by
 cases g with
 | true => obtain ⟨us, e, h1⟩ := h; exact ⟨us, e, h1.dom hm hs⟩
 | false => exact RL.dom h hm hs
theorem RT.dom {ρ' : Env} {st : St} {ps : List (Bool × List Lf)} {us : List Value} (h : RT ρ D w ps us) (hm : (ps.all fun p => p.2.all (ment st)) = true) (hs : Fewer ρ ρ' D st) : RT ρ' (dom st) w ps us := by
 induction ps generalizing us with
 | nil => exact h
 | cons p ps ih =>
  rw [List.all_cons, Bool.and_eq_true] at hm
  obtain ⟨u, r, e, h1, h2⟩ := h; exact ⟨u, r, e, h1.dom hm.1 hs, ih h2 hm.2⟩
theorem AV.R.dom {ρ' : Env} {st : St} {a : AV} {u : Value} (h : a.R ρ D w u) (hm : mentA st a = true) (hs : Fewer ρ ρ' D st) : a.R ρ' (dom st) w u := by
 cases a with
 | v g ls => exact VR.dom h hm hs
 | tup ps => obtain ⟨us, e, h1⟩ := h; exact ⟨us, e, h1.dom hm hs⟩
 | pre _ _ _ => exact h
end
theorem look_mem : ∀ {st : St} {k : Nat} {v : AV}, look st k = some v → (k, v) ∈ st := by
 intro st
 induction st with
 | nil => intro k v h; cases h
 | cons p st ih =>
  intro k v h
  obtain ⟨j, a⟩ := p
  by_cases e : k = j
  ·subst e; rw [look_same] at h; injection h with h; subst h; simp
  ·rw [look_other e] at h; exact List.mem_cons_of_mem _ (ih h)
def alS (st : St) (b : Nat) : Bool := match look st (2 * b + 1) with
 | some (.pre _ _ _) => true
 | _ => false
theorem Cz.sub {F : Fx} {w0 w : World} {N : Nat} {ρ : Env} {st st' : St} {a : Act} (h : Cz F w0 N ρ st a w) (hl : ∀ k v, look st' k = some v → look st k = some v) (hmm : ∀ k v, look st' k = some v → mentA st' v = true) : Cz F w0 N { ρ with al := alS st' } st' a w := by
 have hd : ∀ b, dom st' b = true → dom st b = true := fun b hb => by
  obtain ⟨g, ls, hv⟩ := dom_some hb
  unfold dom; rw [hl _ _ hv]
 have hp : ∀ b, alS st' b = true → ∃ e sz ls, look st' (2 * b + 1) = some (.pre e sz ls) := fun b hb => by
  unfold alS at hb
  split at hb
  ·rename_i e sz ls hv; exact ⟨e, sz, ls, hv⟩
  ·cases hb
 have ha : ∀ b, alS st' b = true → ρ.al b = true := fun b hb => by
  obtain ⟨e, sz, ls, hv⟩ := hp b hb
  exact (h.gc b e sz ls (hl _ _ hv)).1
 have hs : Fewer ρ { ρ with al := alS st' } (dom st) st' := ⟨rfl, rfl, rfl, rfl, hd, ha, fun b e sz ls hv => by show alS st' b = true; unfold alS; rw [hv]⟩
 refine ⟨h.tb, h.bel, h.sz, h.df, fun t v hv => ?_, fun b v hv hne => ?_, fun b b' h1 h2 => h.inj b b' (hd b h1) (hd b' h2), h.zz, hp, fun b e sz ls hv => ?_, fun b b' g h1 h2 => h.gi b b' g (ha b h1) (ha b' h2), fun b b' h1 h2 => h.gd b b' (ha b h1) (hd b' h2)⟩
 ·obtain ⟨u, hu, hr⟩ := h.sl t v (hl _ _ hv)
  exact ⟨u, hu, hr.dom (hmm _ _ hv) hs⟩
 ·obtain ⟨g, ls, T, cs, e, hB, hr, ho, hg⟩ := h.mm b v (hl _ _ hv) hne
  subst e
  exact ⟨g, ls, T, cs, rfl, hB, hr.dom (hmm _ _ hv) hs, ho, hg⟩
 ·obtain ⟨h1, h2, h3, h4, us, h5, h6⟩ := h.gc b e sz ls (hl _ _ hv)
  exact ⟨by show alS st' b = true; unfold alS; rw [hv], h2, h3, h4, us, h5, h6.dom (hmm _ _ hv) hs⟩
section
variable {ρ : Env} {D : Nat → Bool} {w : World}
theorem dnT_len : ∀ {ls : List Lf} {ks : List Lc}, dnT ls = some ks → ks.length = ls.length := by
 intro ls
 induction ls with
 | nil => intro ks h; injection h with h; subst h; rfl
 | cons l ls ih =>
  intro ks h
  have key : ∀ (c : Lc), (match dnT ls with
   | some k => some (c :: k)
   | none => none) = some ks → ks.length = (l :: ls).length := fun c h => by
   split at h
   ·rename_i k hk; injection h with h; subst h; simp [ih hk]
   ·cases h
  cases l with
  | lit v => exact key (.lit v) h
  | ws v => exact key (.ws v) h
  | dg v => exact key (.dg v) h
  | sl f a b c =>
   cases f with
   | false => cases h
   | true => exact key (.sl a b c) h
  | _ => cases h
theorem dnT_R {S : Nat → Prop} (hS : ∀ g, Sep ρ D g → ρ.z ≤ g → S g) : ∀ {ls : List Lf} {ks : List Lc} {us : List Value}, dnT ls = some ks → RL ρ D w ls us → LcL S w ks us := by
 intro ls
 induction ls with
 | nil => intro ks us h hR; injection h with h; subst h; exact hR
 | cons l ls ih =>
  intro ks us h hR
  obtain ⟨u, r, e, h1, h2⟩ := hR
  cases l with
  | lit v =>
   unfold dnT at h
   split at h
   ·rename_i k hk; injection h with h; subst h; exact ⟨u, r, e, h1, ih hk h2⟩
   ·cases h
  | ws v =>
   unfold dnT at h
   split at h
   ·rename_i k hk; injection h with h; subst h; exact ⟨u, r, e, h1, ih hk h2⟩
   ·cases h
  | dg v =>
   unfold dnT at h
   split at h
   ·rename_i k hk; injection h with h; subst h; exact ⟨u, r, e, h1, ih hk h2⟩
   ·cases h
  | sl f a b c =>
   cases f with
   | false => cases h
   | true =>
    unfold dnT at h
    split at h
    ·rename_i k hk; injection h with h; subst h
     exact ⟨u, r, e, Lc.R.mono (Keeps.refl _ _) (fun g _ _ _ h => hS g h.1 (h.2 rfl)) _ _ h1, ih hk h2⟩
    ·cases h
  | _ => cases h
end
section
variable {F : Fx} {w0 w : World} {N : Nat} {ρ ρ' : Env} {D' : Nat → Bool} {st : St} {a : Act}
theorem outO_R (h : Cz F w0 N ρ st a w) (hS : ∀ g, Sep ρ (dom st) g → ρ.z ≤ g → SepF true ρ' D' g) {b n : Nat} {u : Value} (hb : w0.heap.size ≤ ρ b → dom st b = true → SepF true ρ' D' (ρ b)) (hR : (Lf.osl b n).R ρ (dom st) w u) (hc : clL (outL st (.osl b n)) = true) : (outL st (.osl b n)).R ρ' D' w u := by
 have hq : (∃ ls ks, look st (2 * b + 1) = some (.v true ls) ∧ dnT ls = some ks ∧ (b < 1000 ∧ ls.length = n * (ls.length / n)) ∧ outL st (.osl b n) = .sl true (ls.length / n) n ks) ∨ outL st (.osl b n) = .osl b n := by
  simp only [outL]
  split
  ·rename_i ls hl
   split
   ·rename_i ks hk
    split
    ·rename_i hn; exact .inl ⟨ls, ks, hl, hk, hn, rfl⟩
    ·exact .inr rfl
   ·exact .inr rfl
  ·exact .inr rfl
 rcases hq with ⟨ls, ks, hl, hk, hn, e⟩ | e
 case inr => rw [e] at hc; cases hc
 rw [e]
 obtain ⟨hdb, hu⟩ := hR
 obtain ⟨g0, ls0, T, cs, e0, hB, hr0, ho0, hg⟩ := h.mv hl
 injection e0 with e1 e0; subst e0
 have hlen := hr0.len
 rw [Array.length_toList] at hlen
 have hkl := dnT_len hk
 have hge : w0.heap.size ≤ ρ b := by
  rcases hg e1.symm with h1 | h1
  ·exact h1.2
  ·omega
 refine ⟨by rw [hkl]; exact hn.2, _, n, hu, Nat.le_refl _, .inr ⟨⟨ρ b, 0, none⟩, T, cs, rfl, rfl, hb hge hdb, hB.wb, ?_, ?_⟩⟩
 ·show 0 + ks.length ≤ cs.size; omega
 ·show LcL _ w ks ((cs.toList.drop 0).take ks.length)
  rw [List.drop_zero, List.take_of_length_le (by rw [Array.length_toList]; omega)]
  exact dnT_R hS hk hr0
theorem outA_R (h : Cz F w0 N ρ st a w) (hS : ∀ g, Sep ρ (dom st) g → ρ.z ≤ g → SepF true ρ' D' g) {b k : Nat} {u : Value} (hb : ∀ g, (ρ.gh b).ownBlock = some g → ρ.al b = true → w0.heap.size ≤ g → SepF true ρ' D' g) (hR : (Lf.ol b k).R ρ (dom st) w u) (hc : clL (outL st (.ol b k)) = true) : (outL st (.ol b k)).R ρ' D' w u := by
 have hq : (∃ e sz ls ks, look st (2 * b + 1) = some (.pre e sz ls) ∧ dnT ls = some ks ∧ ls.length = k * sz ∧ outL st (.ol b k) = .sl true sz k ks) ∨ outL st (.ol b k) = .ol b k := by
  simp only [outL]
  split
  ·rename_i e sz ls hl
   split
   ·rename_i ks hk
    split
    ·rename_i hn; exact .inl ⟨e, sz, ls, ks, hl, hk, hn, rfl⟩
    ·exact .inr rfl
   ·exact .inr rfl
  ·exact .inr rfl
 rcases hq with ⟨e, sz, ls, ks, hl, hk, hn, e'⟩ | e
 case inr => rw [e] at hc; cases hc
 rw [e']
 obtain ⟨hal, hgk, hk0, hsz, hok, hdm, g, cap, cur, us, hgh, hob, hbg, ⟨T0, hB⟩, hkc, hcm, hcs, htk, hul, hcok, hRl⟩ := h.cur hl hn
 obtain ⟨_, _, hu, _⟩ := hR
 have hu := (hu hgk.symm).trans hgh
 have hkl := dnT_len hk
 have hcl : k * sz ≤ cur.size := by rw [hcs]; exact Nat.mul_le_mul_right _ hkc
 refine ⟨by rw [hkl]; exact hn, _, cap, hu, hkc, .inr ⟨⟨g, 0, none⟩, T0, cur, rfl, rfl, hb g hob hal hbg, hB.wb, ?_, ?_⟩⟩
 ·show 0 + ks.length ≤ cur.size; omega
 ·show LcL _ w ks ((cur.toList.drop 0).take ks.length)
  rw [List.drop_zero, hkl, hn, htk]
  exact dnT_R hS hk hRl
end
theorem look_pick : ∀ (ks : List Nat) (st : St) (k : Nat) (v : AV), look (pick ks st) k = some v → look st k = some v := by
 intro ks
 induction ks with
 | nil => intro st k v h; cases h
 | cons x ks ih =>
  intro st k v h
  unfold pick at h
  split at h
  ·rename_i y hy
   by_cases e : k = x
   ·subst e; rw [look_same] at h; rw [hy]; exact h
   ·rw [look_other e] at h; exact ih st k v h
  ·exact ih st k v h
section
variable {F : Fx} {w0 w : World} {N : Nat} {ρ : Env} {st : St} {a : Act}
theorem outO_or (st : St) (b n : Nat) : (∃ sz ks, outL st (.osl b n) = .sl true sz n ks) ∨ outL st (.osl b n) = .osl b n := by
 simp only [outL]
 repeat' split
 all_goals first | exact .inr rfl | exact .inl ⟨_, _, rfl⟩
theorem outA_or (st : St) (b k : Nat) : (∃ sz ks, outL st (.ol b k) = .sl true sz k ks) ∨ outL st (.ol b k) = .ol b k := by
 simp only [outL]
 repeat' split
 all_goals first | exact .inr rfl | exact .inl ⟨_, _, rfl⟩
theorem frL_ok {b : Nat} {st : St} {l : Lf} (h : okLf l = true) : okLf (frL b st l) = true := by
 cases l with
 | osl b' n =>
  rw [frL_osl]
  cases b' == b with
  | false => rfl
  | true => rw [cond_true]; rcases outO_or st b' n with ⟨_, _, e⟩ | e <;> rw [e] <;> rfl
 | ol b' n =>
  rw [frL_ol]
  cases b' == b with
  | false => rfl
  | true => rw [cond_true]; rcases outA_or st b' n with ⟨_, _, e⟩ | e <;> rw [e] <;> rfl
 | _ => exact h
theorem frL_oks {b : Nat} {st : St} {ls : List Lf} (h : ls.all okLf = true) : (ls.map (frL b st)).all okLf = true := by
 rw [List.all_map]
 exact List.all_eq_true.2 fun l hl => frL_ok (List.all_eq_true.1 h l hl)
theorem look_frS (b : Nat) (s0 : St) : ∀ (st : St) (k : Nat), look (frS b s0 st) k = bif k == 2 * b + 1 then none else (look st k).map (frA b s0) := by
 intro st k
 induction st with
 | nil => unfold frS; cases k == 2 * b + 1 <;> rfl
 | cons p st ih =>
  obtain ⟨j, a⟩ := p
  unfold frS
  cases hj : j == 2 * b + 1 with
  | true =>
   rw [cond_true, ih]
   cases hk : k == 2 * b + 1 with
   | true => rfl
   | false =>
    have : k ≠ j := fun e => by subst e; rw [hj] at hk; cases hk
    rw [cond_false, cond_false, look_other this]
  | false =>
   rw [cond_false]
   by_cases e : k = j
   ·subst e; rw [look_same, look_same, hj]; rfl
   ·rw [look_other e, look_other e, ih]
theorem frS_look {b : Nat} {st : St} {k : Nat} {v' : AV} (hv : look (frS b st st) k = some v') : k ≠ 2 * b + 1 ∧ ∃ v, look st k = some v ∧ v' = frA b st v := by
 rw [look_frS] at hv
 cases hk : k == 2 * b + 1 with
 | true => rw [hk] at hv; cases hv
 | false =>
  rw [hk, cond_false] at hv
  cases hl : look st k with
  | none => rw [hl] at hv; cases hv
  | some v => rw [hl] at hv; injection hv with hv; exact ⟨by simpa using hk, v, rfl, hv.symm⟩
theorem frS_dom {b x : Nat} {st : St} (hx : dom (frS b st st) x = true) : dom st x = true ∧ x ≠ b := by
 obtain ⟨g, ls, hv⟩ := dom_some hx
 obtain ⟨h1, v, h2, h3⟩ := frS_look hv
 refine ⟨?_, fun e => h1 (by rw [e])⟩
 cases v with
 | v g' ls' => unfold dom; rw [h2]
 | tup _ => cases h3
 | pre _ _ _ => cases h3
theorem frS_pre {b x : Nat} {st : St} {e : TypeId} {sz : Nat} {ls : List Lf} (hv : look (frS b st st) (2 * x + 1) = some (.pre e sz ls)) : x ≠ b ∧ ∃ ls', look st (2 * x + 1) = some (.pre e sz ls') ∧ ls = ls'.map (frL b st) := by
 obtain ⟨h1, v, h2, h3⟩ := frS_look hv
 refine ⟨fun e => h1 (by rw [e]), ?_⟩
 cases v with
 | pre e' sz' ls' => injection h3 with e1 e2 e3; subst e1; subst e2; exact ⟨ls', h2, e3⟩
 | tup _ => cases h3
 | v _ _ => cases h3
theorem Cz.fS (h : Cz F w0 N ρ st a w) (b : Nat) (hmm : ∀ k v, look (frS b st st) k = some v → mentA (frS b st st) v = true) : Cz F w0 N { ρ with al := alS (frS b st st) } (frS b st st) a w := by
 have hp : ∀ x, alS (frS b st st) x = true → ∃ e sz ls, look (frS b st st) (2 * x + 1) = some (.pre e sz ls) := fun x hx => by
  unfold alS at hx
  split at hx
  ·rename_i e sz ls hv; exact ⟨e, sz, ls, hv⟩
  ·cases hx
 have ha : ∀ x, alS (frS b st st) x = true → ρ.al x = true ∧ x ≠ b := fun x hx => by
  obtain ⟨e, sz, ls, hv⟩ := hp x hx
  obtain ⟨h1, ls', h2, _⟩ := frS_pre hv
  exact ⟨(h.gc x e sz ls' h2).1, h1⟩
 have hs : Fewer ρ { ρ with al := alS (frS b st st) } (dom st) (frS b st st) := ⟨rfl, rfl, rfl, rfl, fun x hx => (frS_dom hx).1, fun x hx => (ha x hx).1, fun x e sz ls hv => by show alS _ x = true; unfold alS; rw [hv]⟩
 have hS : ∀ g, Sep ρ (dom st) g → ρ.z ≤ g → SepF true { ρ with al := alS (frS b st st) } (dom (frS b st st)) g := fun g hg hz => ⟨hs.sep hg, fun _ => hz⟩
 have leaf : ∀ l u, l.R ρ (dom st) w u → ment (frS b st st) (frL b st l) = true → (frL b st l).R { ρ with al := alS (frS b st st) } (dom (frS b st st)) w u := fun l u hR hm => by
  cases l with
  | osl b' n =>
   rw [frL_osl] at hm ⊢
   cases hb : b' == b with
   | false => rw [hb, cond_false] at hm; rw [cond_false]; exact hR.dom hm hs
   | true =>
    rw [hb, cond_true] at hm
    rw [cond_true]
    have e : b' = b := by simpa using hb
    subst e
    rcases outO_or st b' n with ⟨sz, ks, e⟩ | e
    ·refine outO_R h hS (fun hg hdb => ⟨⟨fun x hx e' => (frS_dom hx).2 (h.inj x b' (frS_dom hx).1 hdb e'), fun x hx e' => h.gd x b' (ha x hx).1 hdb e'⟩, fun _ => ?_⟩) hR (by rw [e]; rfl)
     show ρ.z ≤ ρ b'; rw [h.zz]; exact hg
    ·rw [e] at hm; exact absurd rfl (frS_dom hm).2
  | ol b' n =>
   rw [frL_ol] at hm ⊢
   cases hb : b' == b with
   | false => rw [hb, cond_false] at hm; rw [cond_false]; exact hR.dom hm hs
   | true =>
    rw [hb, cond_true] at hm
    rw [cond_true]
    have e : b' = b := by simpa using hb
    subst e
    rcases outA_or st b' n with ⟨sz, ks, e⟩ | e
    ·refine outA_R h hS (fun g hg hal hge => ⟨⟨fun x hx e' => h.gd b' x hal (frS_dom hx).1 (by rw [hg, ← e']), fun x hx e' => (ha x hx).2 (h.gi x b' g (ha x hx).1 hal e' hg)⟩, fun _ => ?_⟩) hR (by rw [e]; rfl)
     show ρ.z ≤ g; rw [h.zz]; exact hge
    ·rw [e] at hm
     have hm : (match look (frS b' st st) (2 * b' + 1) with
      | some (.pre _ _ _) => true
      | _ => false) = true := hm
     split at hm
     ·rename_i hl; exact absurd rfl (frS_pre hl).1
     ·cases hm
  | _ => exact hR.dom hm hs
 have rl : ∀ (ls : List Lf) (us : List Value), RL ρ (dom st) w ls us → (ls.map (frL b st)).all (ment (frS b st st)) = true → RL { ρ with al := alS (frS b st st) } (dom (frS b st st)) w (ls.map (frL b st)) us := fun ls => by
  induction ls with
  | nil => intro us h _; exact h
  | cons l ls ih =>
   intro us h hm
   obtain ⟨u, r, e, h1, h2⟩ := h
   rw [List.map_cons, List.all_cons, Bool.and_eq_true] at hm
   exact ⟨u, r, e, leaf l u h1 hm.1, ih r h2 hm.2⟩
 have vr : ∀ (g : Bool) (ls : List Lf) (u : Value), VR ρ (dom st) w g ls u → (ls.map (frL b st)).all (ment (frS b st st)) = true → VR { ρ with al := alS (frS b st st) } (dom (frS b st st)) w g (ls.map (frL b st)) u := fun g ls u h hm => by
  cases g with
  | true => obtain ⟨us, e, h1⟩ := h; exact ⟨us, e, rl ls us h1 hm⟩
  | false => exact rl ls [u] h hm
 have rt : ∀ (ps : List (Bool × List Lf)) (us : List Value), RT ρ (dom st) w ps us → ((ps.map fun p => (p.1, p.2.map (frL b st))).all fun p => p.2.all (ment (frS b st st))) = true → RT { ρ with al := alS (frS b st st) } (dom (frS b st st)) w (ps.map fun p => (p.1, p.2.map (frL b st))) us := fun ps => by
  induction ps with
  | nil => intro us h _; exact h
  | cons p ps ih =>
   intro us h hm
   obtain ⟨u, r, e, h1, h2⟩ := h
   rw [List.map_cons, List.all_cons, Bool.and_eq_true] at hm
   exact ⟨u, r, e, vr p.1 p.2 u h1 hm.1, ih r h2 hm.2⟩
 have va : ∀ (v : AV) (u : Value), v.R ρ (dom st) w u → mentA (frS b st st) (frA b st v) = true → (frA b st v).R { ρ with al := alS (frS b st st) } (dom (frS b st st)) w u := fun v u h hm => by
  cases v with
  | v g ls => exact vr g ls u h hm
  | tup ps => obtain ⟨us, e, h1⟩ := h; exact ⟨us, e, rt ps us h1 hm⟩
  | pre _ _ _ => exact h
 refine ⟨h.tb, h.bel, h.sz, h.df, fun t v hv => ?_, fun x v hv hne => ?_, fun x x' h1 h2 => h.inj x x' (frS_dom h1).1 (frS_dom h2).1, h.zz, hp, fun x e sz ls hv => ?_, fun x x' g h1 h2 => h.gi x x' g (ha x h1).1 (ha x' h2).1, fun x x' h1 h2 => h.gd x x' (ha x h1).1 (frS_dom h2).1⟩
 ·obtain ⟨_, v0, h2, rfl⟩ := frS_look hv
  obtain ⟨u, hu, hr⟩ := h.sl t v0 h2
  exact ⟨u, hu, va v0 u hr (hmm _ _ hv)⟩
 ·obtain ⟨_, v0, h2, rfl⟩ := frS_look hv
  obtain ⟨g, ls, T, cs, e, hB, hr, ho, hg⟩ := h.mm x v0 h2 (fun e sz ls e' => by subst e'; exact hne _ _ _ rfl)
  subst e
  exact ⟨g, _, T, cs, rfl, hB, rl ls _ hr (hmm _ _ hv), frL_oks ho, hg⟩
 ·obtain ⟨_, ls', h2, rfl⟩ := frS_pre hv
  obtain ⟨h1, h2', h3, h4, us, h5, h6⟩ := h.gc x _ _ ls' h2
  exact ⟨by show alS _ x = true; unfold alS; rw [hv], h2'.imp (fun e => by rw [e]; rfl) id, h3, frL_oks h4, us, h5, rl ls' us h6 (hmm _ _ hv)⟩
theorem ment_back {b : Nat} {st : St} {l : Lf} (h : ment (frS b st st) (frL b st l) = true) : ment st l = true := by
 have hpre : ∀ x, (match look (frS b st st) (2 * x + 1) with
   | some (.pre _ _ _) => true
   | _ => false) = true → (match look st (2 * x + 1) with
   | some (.pre _ _ _) => true
   | _ => false) = true := fun x hx => by
  split at hx
  ·rename_i hl
   obtain ⟨_, ls', h2, _⟩ := frS_pre hl
   rw [h2]
  ·cases hx
 cases l with
 | own b' o => exact (frS_dom h).1
 | clo f cs => exact List.all_eq_true.2 fun x hx => (frS_dom (List.all_eq_true.1 h x hx)).1
 | oe b' k o => exact hpre b' h
 | ov b' k o n => exact hpre b' h
 | osl b' n =>
  rw [frL_osl] at h
  cases hb : b' == b with
  | false => rw [hb, cond_false] at h; exact (frS_dom h).1
  | true =>
   rw [hb, cond_true] at h
   rcases outO_or st b' n with ⟨sz, ks, e⟩ | e
   ·simp only [outL] at e
    split at e
    ·rename_i ls hl; show dom st b' = true; unfold dom; rw [hl]
    ·cases e
   ·rw [e] at h; exact (frS_dom h).1
 | ol b' n =>
  rw [frL_ol] at h
  cases hb : b' == b with
  | false => rw [hb, cond_false] at h; exact hpre b' h
  | true =>
   rw [hb, cond_true] at h
   rcases outA_or st b' n with ⟨sz, ks, e⟩ | e
   ·simp only [outL] at e
    split at e
    ·rename_i hl
     show (match look st (2 * b' + 1) with
      | some (.pre _ _ _) => true
      | _ => false) = true
     rw [hl]
    ·cases e
   ·rw [e] at h; exact hpre b' h
 | _ => rfl
theorem dnT_ment {st : St} : ∀ {ls : List Lf} {ks : List Lc}, dnT ls = some ks → ls.all (ment st) = true := by
 intro ls
 induction ls with
 | nil => intro ks _; rfl
 | cons l ls ih =>
  intro ks h
  cases l with
  | sl f a b c =>
   cases f with
   | false => cases h
   | true =>
    unfold dnT at h
    split at h
    ·rename_i k hk; rw [List.all_cons, ih hk]; rfl
    ·cases h
  | lit v =>
   unfold dnT at h
   split at h
   ·rename_i k hk; rw [List.all_cons, ih hk]; rfl
   ·cases h
  | ws v =>
   unfold dnT at h
   split at h
   ·rename_i k hk; rw [List.all_cons, ih hk]; rfl
   ·cases h
  | dg v =>
   unfold dnT at h
   split at h
   ·rename_i k hk; rw [List.all_cons, ih hk]; rfl
   ·cases h
  | _ => cases h
theorem ment_backs {b : Nat} {st : St} {v0 : AV} (hc : look st (2 * b + 1) = some v0) (h0 : mentA st v0 = true) (hmm : ∀ k v, look (frS b st st) k = some v → mentA (frS b st st) v = true) (k : Nat) (v : AV) (hv : look st k = some v) : mentA st v = true := by
 by_cases e : k = 2 * b + 1
 ·subst e; rw [hc] at hv; injection hv with hv; subst hv; exact h0
 ·have h1 : look (frS b st st) k = some (frA b st v) := by
   rw [look_frS, hv, beq_false_of_ne e]; rfl
  have h2 := hmm _ _ h1
  have back : ∀ ls : List Lf, (ls.map (frL b st)).all (ment (frS b st st)) = true → ls.all (ment st) = true := fun ls h => by
   rw [List.all_map] at h
   exact List.all_eq_true.2 fun l hl => ment_back (List.all_eq_true.1 h l hl)
  cases v with
  | v g ls => exact back ls h2
  | pre e sz ls => exact back ls h2
  | tup ps =>
   have h2 : ((ps.map fun p => (p.1, p.2.map (frL b st))).all fun p => p.2.all (ment (frS b st st))) = true := h2
   rw [List.all_map] at h2
   exact List.all_eq_true.2 fun p hp => back p.2 (List.all_eq_true.1 h2 p hp)
theorem Cz.fh (h : Cz F w0 N ρ st a w) : ∀ ks, (∀ k v, look (frh ks st) k = some v → mentA (frh ks st) v = true) → Cz F w0 N { ρ with al := alS (frh ks st) } (frh ks st) a w := by
 intro ks
 induction ks with
 | nil => intro hmm; exact h.sub (fun k v hv => hv) hmm
 | cons b ks ih =>
  intro hmm
  cases hb : b == 9999999 with
  | true =>
   have e : frh (b :: ks) st = pick ks st := by
    show (bif b == 9999999 then _ else _) = _
    rw [hb]; rfl
   rw [e] at hmm ⊢
   exact h.sub (look_pick ks st) hmm
  | false =>
   have e : frh (b :: ks) st = frz b (frh ks st) := by
    show (bif b == 9999999 then _ else _) = _
    rw [hb]; rfl
   rw [e] at hmm ⊢
   generalize hs : frh ks st = s1 at hmm ih ⊢
   unfold frz at hmm ⊢
   split at hmm
   ·rename_i ls hl
    split at hmm
    ·rename_i q hq; exact (ih (ment_backs hl (dnT_ment (st := s1) hq) hmm)).fS b hmm
    ·rename_i hq; exact ih hmm
   ·rename_i e1 sz ls hl
    split at hmm
    ·rename_i q hq; exact (ih (ment_backs hl (dnT_ment (st := s1) hq) hmm)).fS b hmm
    ·rename_i hq; exact ih hmm
   ·exact ih hmm
theorem swp_swp (d d' b : Nat) : swp d d' (swp d d' b) = b := by
 unfold swp
 by_cases h1 : b = d
 ·subst h1
  rw [beq_self_eq_true, cond_true]
  by_cases h2 : d' = b
  ·subst h2; rw [beq_self_eq_true, cond_true]
  ·rw [beq_false_of_ne h2, cond_false, beq_self_eq_true, cond_true]
 ·rw [beq_false_of_ne h1, cond_false]
  by_cases h2 : b = d'
  ·subst h2; rw [beq_self_eq_true, cond_true, beq_self_eq_true, cond_true]
  ·rw [beq_false_of_ne h2, cond_false, beq_false_of_ne h1, cond_false, beq_false_of_ne h2, cond_false]
theorem swp_inj {d d' b b' : Nat} (h : swp d d' b = swp d d' b') : b = b' := by rw [← swp_swp d d' b, h, swp_swp]
theorem swK_odd (d d' b : Nat) : swK d d' (2 * b + 1) = 2 * swp d d' b + 1 := by
 unfold swK swp
 by_cases h1 : b = d
 ·subst h1; simp only [beq_self_eq_true, cond_true]
 ·rw [beq_false_of_ne h1, beq_false_of_ne (show 2 * b + 1 ≠ 2 * d + 1 by omega), cond_false, cond_false]
  by_cases h2 : b = d'
  ·subst h2; simp only [beq_self_eq_true, cond_true]
  ·rw [beq_false_of_ne h2, beq_false_of_ne (show 2 * b + 1 ≠ 2 * d' + 1 by omega), cond_false, cond_false]
theorem swK_even (d d' t : Nat) : swK d d' (2 * t) = 2 * t := by
 unfold swK
 rw [beq_false_of_ne (show 2 * t ≠ 2 * d + 1 by omega), beq_false_of_ne (show 2 * t ≠ 2 * d' + 1 by omega), cond_false, cond_false]
theorem swK_swK (d d' k : Nat) : swK d d' (swK d d' k) = k := by
 rcases Nat.mod_two_eq_zero_or_one k with h | h
 ·obtain ⟨t, rfl⟩ : ∃ t, k = 2 * t := ⟨k / 2, by omega⟩
  rw [swK_even, swK_even]
 ·obtain ⟨b, rfl⟩ : ∃ b, k = 2 * b + 1 := ⟨k / 2, by omega⟩
  rw [swK_odd, swK_odd, swp_swp]
theorem look_sw (d d' : Nat) : ∀ (st : St) (k : Nat), look (swS d d' st) k = (look st (swK d d' k)).map (swA d d') := by
 intro st k
 induction st with
 | nil => rfl
 | cons p st ih =>
  obtain ⟨j, a⟩ := p
  unfold swS
  by_cases e : k = swK d d' j
  ·subst e; rw [look_same, swK_swK, look_same]; rfl
  ·rw [look_other e, look_other (fun h => e (by rw [← h, swK_swK])), ih]
theorem swL_ok {d d' : Nat} {l : Lf} : okLf (swL d d' l) = okLf l := by cases l <;> rfl
theorem swL_oks {d d' : Nat} (ls : List Lf) : (ls.map (swL d d')).all okLf = ls.all okLf := by
 rw [List.all_map]; congr 1; exact funext fun l => swL_ok
theorem sw_dom {d d' : Nat} {st : St} (h1 : dom st d = false) (h2 : dom st d' = false) : dom (swS d d' st) = dom st := funext fun b => by
 have e : dom (swS d d' st) b = dom st (swp d d' b) := by
  unfold dom
  rw [look_sw, swK_odd]
  cases look st (2 * swp d d' b + 1) with
  | none => rfl
  | some v => cases v <;> rfl
 rw [e]
 unfold swp
 by_cases e1 : b = d
 ·subst e1; rw [beq_self_eq_true, cond_true, h1, h2]
 ·rw [beq_false_of_ne e1, cond_false]
  by_cases e2 : b = d'
  ·subst e2; rw [beq_self_eq_true, cond_true, h1, h2]
  ·rw [beq_false_of_ne e2, cond_false]
theorem sw_ment {d d' : Nat} {st : St} (h1 : dom st d = false) (h2 : dom st d' = false) (l : Lf) : ment (swS d d' st) (swL d d' l) = ment st l := by
 have hpre : ∀ b, (match look (swS d d' st) (2 * swp d d' b + 1) with
   | some (.pre _ _ _) => true
   | _ => false) = (match look st (2 * b + 1) with
   | some (.pre _ _ _) => true
   | _ => false) := fun b => by
  rw [look_sw, ← swK_odd, swK_swK]
  cases look st (2 * b + 1) with
  | none => rfl
  | some v => cases v <;> rfl
 have hd := sw_dom h1 h2
 cases l with
 | own b o => show dom (swS d d' st) b = dom st b; rw [hd]
 | osl b n => show dom (swS d d' st) b = dom st b; rw [hd]
 | clo f cs => show cs.all (dom (swS d d' st)) = cs.all (dom st); rw [hd]
 | ol b k => exact hpre b
 | oe b k o => exact hpre b
 | ov b k o n => exact hpre b
 | _ => rfl
theorem sw_ments {d d' : Nat} {st : St} (h1 : dom st d = false) (h2 : dom st d' = false) (v : AV) : mentA (swS d d' st) (swA d d' v) = mentA st v := by
 have key : ∀ ls : List Lf, (ls.map (swL d d')).all (ment (swS d d' st)) = ls.all (ment st) := fun ls => by
  rw [List.all_map]; congr 1; exact funext fun l => sw_ment h1 h2 l
 cases v with
 | v g ls => exact key ls
 | pre e sz ls => exact key ls
 | tup ps =>
  show ((ps.map fun p => (p.1, p.2.map (swL d d'))).all fun p => p.2.all (ment (swS d d' st))) = ps.all fun p => p.2.all (ment st)
  rw [List.all_map]; congr 1; exact funext fun p => key p.2
abbrev Env.sw (ρ : Env) (d d' : Nat) : Env := { ρ with gh := fun x => ρ.gh (swp d d' x), gv := fun x => ρ.gv (swp d d' x), al := fun x => ρ.al (swp d d' x) }
theorem sw_sep {ρ : Env} {D : Nat → Bool} {d d' g : Nat} (h : Sep ρ D g) : Sep (ρ.sw d d') D g := ⟨h.1, fun b hb => h.2 (swp d d' b) hb⟩
theorem Lf.R.sw {ρ : Env} {D : Nat → Bool} {d d' : Nat} {l : Lf} {u : Value} (h : l.R ρ D w u) : (swL d d' l).R (ρ.sw d d') D w u := by
 cases l with
 | sl f sz n ls => exact Lc.R.mono (Keeps.refl _ _) (fun _ _ _ _ h => ⟨sw_sep h.1, h.2⟩) _ _ h
 | im ls => exact ImR.mono h (Keeps.refl _ _) fun _ _ _ _ h => sw_sep h
 | ol b k =>
  show ρ.al (swp d d' (swp d d' b)) = true ∧ k ≤ ρ.gv (swp d d' (swp d d' b)) ∧ (k = ρ.gv (swp d d' (swp d d' b)) → u = ρ.gh (swp d d' (swp d d' b))) ∧ _
  rw [swp_swp]; exact h
 | oe b k o =>
  show ρ.al (swp d d' (swp d d' b)) = true ∧ k ≤ ρ.gv (swp d d' (swp d d' b)) ∧ (k = ρ.gv (swp d d' (swp d d' b)) → ∃ g, (ρ.gh (swp d d' (swp d d' b))).ownBlock = some g ∧ _) ∧ _
  rw [swp_swp]; exact h
 | ov b k o n =>
  show ρ.al (swp d d' (swp d d' b)) = true ∧ k ≤ ρ.gv (swp d d' (swp d d' b)) ∧ (k = ρ.gv (swp d d' (swp d d' b)) → 0 < n → ∃ g c, (ρ.gh (swp d d' (swp d d' b))).ownBlock = some g ∧ _) ∧ _
  rw [swp_swp]; exact h
 | _ => exact h
theorem RL.sw {ρ : Env} {D : Nat → Bool} {d d' : Nat} : ∀ {ls : List Lf} {us : List Value}, RL ρ D w ls us → RL (ρ.sw d d') D w (ls.map (swL d d')) us := by
 intro ls
 induction ls with
 | nil => intro us h; exact h
 | cons l ls ih => intro us h; obtain ⟨u, r, e, h1, h2⟩ := h; exact ⟨u, r, e, h1.sw, ih h2⟩
theorem AV.R.sw {ρ : Env} {D : Nat → Bool} {d d' : Nat} {v : AV} {u : Value} (h : v.R ρ D w u) : (swA d d' v).R (ρ.sw d d') D w u := by
 have vr : ∀ (g : Bool) (ls : List Lf) (u : Value), VR ρ D w g ls u → VR (ρ.sw d d') D w g (ls.map (swL d d')) u := fun g ls u h => by
  cases g with
  | true => obtain ⟨us, e, h1⟩ := h; exact ⟨us, e, h1.sw⟩
  | false => exact RL.sw (us := [u]) h
 have rt : ∀ (ps : List (Bool × List Lf)) (us : List Value), RT ρ D w ps us → RT (ρ.sw d d') D w (ps.map fun p => (p.1, p.2.map (swL d d'))) us := fun ps => by
  induction ps with
  | nil => intro us h; exact h
  | cons p ps ih => intro us h; obtain ⟨u, r, e, h1, h2⟩ := h; exact ⟨u, r, e, vr p.1 p.2 u h1, ih r h2⟩
 cases v with
 | v g ls => exact vr g ls u h
 | tup ps => obtain ⟨us, e, h1⟩ := h; exact ⟨us, e, rt ps us h1⟩
 | pre _ _ _ => exact h
theorem Cz.sw (h : Cz F w0 N ρ st a w) {d d' : Nat} (h1 : dom st d = false) (h2 : dom st d' = false) : Cz F w0 N (ρ.sw d d') (swS d d' st) a w := by
 have hd := sw_dom h1 h2
 have back : ∀ b v, look (swS d d' st) (2 * b + 1) = some v → ∃ v0, look st (2 * swp d d' b + 1) = some v0 ∧ v = swA d d' v0 := fun b v hv => by
  rw [look_sw, swK_odd] at hv
  cases hl : look st (2 * swp d d' b + 1) with
  | none => rw [hl] at hv; cases hv
  | some v0 => rw [hl] at hv; injection hv with hv; exact ⟨v0, rfl, hv.symm⟩
 have pback : ∀ b e sz ls, look (swS d d' st) (2 * b + 1) = some (.pre e sz ls) → ∃ ls', look st (2 * swp d d' b + 1) = some (.pre e sz ls') ∧ ls = ls'.map (swL d d') := fun b e sz ls hv => by
  obtain ⟨v0, hl, e1⟩ := back b _ hv
  cases v0 with
  | pre e' sz' ls' => injection e1 with e1 e2 e3; subst e1; subst e2; exact ⟨ls', hl, e3⟩
  | v _ _ => cases e1
  | tup _ => cases e1
 refine ⟨h.tb, h.bel, h.sz, h.df, fun t v hv => ?_, fun b v hv hne => ?_, fun b b' hb hb' => ?_, h.zz, fun b hb => ?_, fun b e sz ls hv => ?_, fun b b' g hb hb' e1 e2 => swp_inj (h.gi _ _ g hb hb' e1 e2), fun b b' hb hb' => ?_⟩
 ·rw [look_sw, swK_even] at hv
  cases hl : look st (2 * t) with
  | none => rw [hl] at hv; cases hv
  | some v0 =>
   rw [hl] at hv; injection hv with hv; subst hv
   obtain ⟨u, hu, hr⟩ := h.sl t v0 hl
   exact ⟨u, hu, by rw [hd]; exact hr.sw⟩
 ·obtain ⟨v0, hl, rfl⟩ := back b v hv
  obtain ⟨g, ls, T, cs, e, hB, hr, ho, hg⟩ := h.mm _ v0 hl (fun e sz ls e' => by subst e'; exact hne _ _ _ rfl)
  subst e
  have hb : swp d d' b = b := by
   have hx : dom st (swp d d' b) = true := by unfold dom; rw [hl]
   unfold swp at hx ⊢
   by_cases e1 : b = d
   ·subst e1; rw [beq_self_eq_true, cond_true, h2] at hx; cases hx
   ·rw [beq_false_of_ne e1, cond_false] at hx ⊢
    by_cases e2 : b = d'
    ·subst e2; rw [beq_self_eq_true, cond_true, h1] at hx; cases hx
    ·rw [beq_false_of_ne e2, cond_false]
  rw [hb] at hB hg
  exact ⟨g, ls.map (swL d d'), T, cs, rfl, hB, by rw [hd]; exact hr.sw, by rw [swL_oks]; exact ho, hg⟩
 ·rw [hd] at hb hb'; exact h.inj b b' hb hb'
 ·obtain ⟨e, sz, ls, hl⟩ := h.gm (swp d d' b) hb
  exact ⟨e, sz, ls.map (swL d d'), by rw [look_sw, swK_odd, hl]; rfl⟩
 ·obtain ⟨ls', hl, rfl⟩ := pback b e sz ls hv
  obtain ⟨g1, g2, g3, g4, us, g5, g6⟩ := h.gc _ e sz ls' hl
  exact ⟨g1, g2.imp (fun e => by rw [e]; rfl) id, g3, by rw [swL_oks]; exact g4, us, g5, by rw [hd]; exact g6.sw⟩
 ·rw [hd] at hb'; exact h.gd _ b' hb hb'
theorem Cz.rk (h : Cz F w0 N ρ st a w) (ks : List Nat) (hmm : ∀ k v, look (rnK ks st) k = some v → mentA (rnK ks st) v = true) : ∃ ρ', Cz F w0 N ρ' (rnK ks st) a w := by
 match ks, hmm with
 | [], _ => exact ⟨ρ, h⟩
 | [_], _ => exact ⟨ρ, h⟩
 | d :: d' :: ks, hmm =>
  have e : rnK (d :: d' :: ks) st = swh d d' (frh ks st) := rfl
  rw [e] at hmm ⊢
  generalize hs : frh ks st = s1 at hmm ⊢
  unfold swh at hmm ⊢
  cases h1 : dom s1 d with
  | true =>
   rw [h1, cond_true] at hmm
   rw [cond_true, ← hs]; rw [← hs] at hmm
   exact ⟨_, h.fh ks hmm⟩
  | false =>
   rw [h1, cond_false] at hmm
   rw [cond_false]
   cases h2 : dom s1 d' with
   | true =>
    rw [h2, cond_true] at hmm
    rw [cond_true, ← hs]; rw [← hs] at hmm
    exact ⟨_, h.fh ks hmm⟩
   | false =>
    rw [h2, cond_false] at hmm
    rw [cond_false]
    have h3 : Cz F w0 N { ρ with al := alS (frh ks st) } (frh ks st) a w := h.fh ks (by
     rw [hs]
     intro k v hv
     have := hmm (swK d d' k) (swA d d' v) (by rw [look_sw, swK_swK, hv]; rfl)
     rwa [sw_ments h1 h2] at this)
    rw [hs] at h3
    exact ⟨_, h3.sw h1 h2⟩
theorem Cz.hone (ks : List Nat) (h : Cz F w0 N ρ st a w) (hm : ((hd1 ks st).all fun p => mentA (hd1 ks st) p.2) = true) : ∃ ρ', Cz F w0 N ρ' (hd1 ks st) a w := by
 have hmm : ∀ k v, look (hd1 ks st) k = some v → mentA (hd1 ks st) v = true := fun k v hv => List.all_eq_true.1 hm (k, v) (look_mem hv)
 clear hm
 cases ks with
 | nil => exact ⟨_, h.sub (fun k v hv => hv) hmm⟩
 | cons x ks =>
  have e0 : hd1 (x :: ks) st = bif x == 9999999 then pick ks st else bif x == 9999998 then frh ks st else bif x == 9999995 then rnK ks st else forget (x :: ks) st := rfl
  cases hx : x == 9999999 with
  | true =>
   rw [hx, cond_true] at e0
   rw [e0] at hmm ⊢
   exact ⟨_, h.sub (look_pick ks st) hmm⟩
  | false =>
   rw [hx, cond_false] at e0
   cases hy : x == 9999998 with
   | true =>
    rw [hy, cond_true] at e0
    rw [e0] at hmm ⊢
    exact ⟨_, h.fh ks hmm⟩
   | false =>
    rw [hy, cond_false] at e0
    cases hz : x == 9999995 with
    | true =>
     rw [hz, cond_true] at e0
     rw [e0] at hmm ⊢
     exact h.rk ks hmm
    | false =>
     rw [hz, cond_false] at e0
     rw [e0] at hmm ⊢
     refine ⟨_, h.sub (fun k v hv => ?_) hmm⟩
     rw [look_forget] at hv
     cases hk : inL (x :: ks) k with
     | true => rw [hk] at hv; cases hv
     | false => rw [hk] at hv; exact hv
theorem hdT_1 (ks : List Nat) (st : St) : hdT ks st = st ∨ ∃ ks', hdT ks st = hd1 ks' st := by
 unfold hdT
 split
 ·cases (look st _).isSome with
  | true => exact .inr ⟨_, rfl⟩
  | false => exact .inr ⟨_, rfl⟩
 ·exact .inl rfl
theorem hdU_1 (ks : List Nat) (st : St) : hdU ks st = st ∨ ∃ ks', hdU ks st = hd1 ks' st := by
 unfold hdU
 split
 ·rename_i g n g' n' r
  cases (look st g).isSome with
  | true => exact .inr ⟨_, rfl⟩
  | false => cases (look st g').isSome with
   | true => exact .inr ⟨_, rfl⟩
   | false => exact .inr ⟨_, rfl⟩
 ·exact .inl rfl
theorem hdV_1 : ∀ (m : Nat) (ks : List Nat) (st : St), hdV m ks st = st ∨ ∃ ks', hdV m ks st = hd1 ks' st := by
 intro m
 induction m with
 | zero => exact fun ks st => .inr ⟨ks, rfl⟩
 | succ m ih =>
  intro ks st
  cases ks with
  | nil => exact .inl rfl
  | cons g ks => cases ks with
   | nil => exact .inl rfl
   | cons n ks =>
    have e : hdV (m + 1) (g :: n :: ks) st = bif (look st g).isSome then hd1 (ks.take n) st else hdV m (ks.drop n) st := rfl
    rw [e]
    cases (look st g).isSome with
    | true => exact .inr ⟨_, rfl⟩
    | false => exact ih _ st
theorem hdW_1 (ks : List Nat) (st : St) : hdW ks st = st ∨ ∃ ks', hdW ks st = hd1 ks' st := by
 cases ks with
 | nil => exact .inl rfl
 | cons m ks => exact hdV_1 m ks st
theorem hdS_1 (ks : List Nat) (st : St) : hdS ks st = st ∨ ∃ ks', hdS ks st = hd1 ks' st := by
 cases ks with
 | nil => exact .inl rfl
 | cons x ks =>
  have e0 : hdS (x :: ks) st = bif x == 9999997 then hdT ks st else bif x == 9999996 then hdU ks st else bif x == 9999994 then hdW ks st else hd1 (x :: ks) st := rfl
  cases hx : x == 9999997 with
  | true => rw [e0, hx]; exact hdT_1 ks st
  | false =>
   cases hy : x == 9999996 with
   | true => rw [e0, hx, hy]; exact hdU_1 ks st
   | false =>
    cases hz : x == 9999994 with
    | true => rw [e0, hx, hy, hz]; exact hdW_1 ks st
    | false => rw [e0, hx, hy, hz]; exact .inr ⟨x :: ks, rfl⟩
theorem Cz.hd (ks : List Nat) (h : Cz F w0 N ρ st a w) (hm : ((hdS ks st).all fun p => mentA (hdS ks st) p.2) = true) : ∃ ρ', Cz F w0 N ρ' (hdS ks st) a w := by
 rcases hdS_1 ks st with e | ⟨ks', e⟩
 ·rw [e] at hm ⊢
  exact ⟨_, h.sub (fun k v hv => hv) fun k v hv => List.all_eq_true.1 hm (k, v) (look_mem hv)⟩
 ·rw [e] at hm ⊢
  exact h.hone ks' hm
end
def Wk (P : Program) (Fin : Act → World → Prop) (B : Nat → List It → Act → World → Prop) (n : Nat) : List It → Exit → Act → World → Prop
 | [], .normal, a, w => Fin a w
 | [], .ret, a, w => Fin a w
 | [], _, _, _ => False
 | .code c :: k, e, a, w => Exit.then (c.wp P (Wk P Fin B n k)) (Wk P Fin B n k) e a w
 | .blk id :: k, e, a, w => Exit.inBlock id (Wk P Fin B n k) e a w
 | .lp c :: k, e, a, w => Exit.then (fun a w => ∃ m, m < n ∧ B m (.lp c :: k) a w) (Wk P Fin B n k) e a w
 | .scp :: k, e, a, w => Exit.noGoto (Wk P Fin B n k) e a w
 | _ :: _, _, _, _ => True
section
variable {Fin : Act → World → Prop} {B : Nat → List It → Act → World → Prop}
theorem wk_mono {n m : Nat} (hnm : n ≤ m) : ∀ k e a w, Wk P Fin B n k e a w → Wk P Fin B m k e a w := by
 intro k
 induction k with
 | nil => intro e a w h; cases e <;> exact h
 | cons i k ih =>
  intro e a w h
  cases i with
  | code c =>
   cases e with
   | normal => exact wp_mono h (fun e a w => ih e a w)
   | _ => exact ih _ a w h
  | blk id =>
   cases e with
   | exit id' =>
    show Exit.inBlock id (Wk P Fin B m k) (.exit id') a w
    have h : Exit.inBlock id (Wk P Fin B n k) (.exit id') a w := h
    unfold Exit.inBlock at h ⊢
    simp only at h ⊢
    split
    ·rename_i e; rw [if_pos e] at h; exact ih _ a w h
    ·rename_i e; rw [if_neg e] at h; exact ih _ a w h
   | _ => exact ih _ a w h
  | lp c =>
   cases e with
   | normal => obtain ⟨x, hx, hb⟩ := h; exact ⟨x, by omega, hb⟩
   | _ => exact ih _ a w h
  | scp =>
   cases e with
   | goto _ => exact h
   | _ => exact ih _ a w h
  | _ => trivial
theorem wk_ret {n : Nat} {a : Act} {w : World} (h : Fin a w) : ∀ k, Wk P Fin B n k .ret a w := by
 intro k
 induction k with
 | nil => exact h
 | cons i k ih =>
  cases i with
  | code c => exact ih
  | blk id => exact ih
  | lp c => exact ih
  | scp => exact ih
  | _ => trivial
theorem wk_exit {n : Nat} {a : Act} {w : World} {id : Nat} : ∀ k k', dropTo id k = some k' → Wk P Fin B n k' .normal a w → Wk P Fin B n k (.exit id) a w := by
 intro k
 induction k with
 | nil => intro k' h; cases h
 | cons i k ih =>
  intro k' h hw
  cases i with
  | code c => exact ih k' h hw
  | lp c => exact ih k' h hw
  | scp => exact ih k' h hw
  | blk j =>
   show Exit.inBlock j (Wk P Fin B n k) (.exit id) a w
   unfold Exit.inBlock
   simp only
   unfold dropTo at h
   split at h
   ·rename_i e
    injection h with h; subst h; subst e
    rw [if_pos rfl]; exact hw
   ·rename_i e
    rw [if_neg (fun h => e h.symm)]; exact ih k' h hw
  | _ => trivial
end
theorem least_of {p : Nat → Prop} (h : ∃ m, p m) : ∃ m, p m ∧ ∀ k, p k → m ≤ k := by
 obtain ⟨m, hm⟩ := h
 induction m using Nat.strongRecOn with
 | ind m ih =>
  by_cases hx : ∃ k, k < m ∧ p k
  ·obtain ⟨k, h1, h2⟩ := hx; exact ih k h1 h2
  ·refine ⟨m, hm, fun k hk => ?_⟩
   rcases Nat.lt_or_ge k m with h1 | h1
   ·exact absurd ⟨k, h1, hk⟩ hx
   ·exact h1
theorem run_sound (hm : P.follows .mixedOrders = true) (hty : ∀ t i, ty t = some i → TiOK P t i) {F : Fx} {w0 : World} (hO : OrOK P O F w0) {Fin : Act → World → Prop} (hF : ∀ ρ st a w, Post st → Cz F w0 N ρ st a w → Fin a w) :
  ∀ (n : Nat) (k : List It) (ρ : Env) (st : St) (a : Act) (w : World), run ty O N Post fg n k st → Cz F w0 N ρ st a w → Wk P Fin (fun m k a w => ∃ ρ st, run ty O N Post fg m k st ∧ Cz F w0 N ρ st a w) (n + 1) k .normal a w := by
 intro n
 induction n using Nat.strongRecOn with
 | ind n ih =>
  intro k ρ st a w h hz
  cases n with
  | zero => exact h.elim
  | succ n =>
   have up : ∀ m, m ≤ n → ∀ k ρ st a w, run ty O N Post fg m k st → Cz F w0 N ρ st a w → Wk P Fin (fun m k a w => ∃ ρ st, run ty O N Post fg m k st ∧ Cz F w0 N ρ st a w) (n + 1 + 1) k .normal a w :=
    fun m hm k ρ st a w h hz => wk_mono (by omega) k .normal a w (ih m (by omega) k ρ st a w h hz)
   cases k with
   | nil => exact hF ρ st a w h hz
   | cons i k =>
    cases i with
    | blk id => exact up n (by omega) k ρ st a w h hz
    | scp => exact up n (by omega) k ρ st a w h hz
    | lp c => exact ⟨n + 1, by omega, ρ, st, h, hz⟩
    | brk g => trivial
    | exe _ _ _ _ _ => trivial
    | ops _ _ _ _ => trivial
    | code c =>
     show c.wp P _ a w
     cases c with
     | skip => exact wp_skip (up n (by omega) k ρ st a w h hz)
     | seq x y => exact wp_seq (up n (by omega) (.code x :: .code y :: k) ρ st a w h hz)
     | region id ops d =>
      obtain ⟨es, st', n', hl, hp, hD, hc, hr⟩ := run_path ops.toList n [] k st h
      have hQ : ∀ ρ' a' w', Cz F w0 N ρ' st' a' w' → Wk P Fin (fun m k a w => ∃ ρ st, run ty O N Post fg m k st ∧ Cz F w0 N ρ st a w) (n + 1 + 1) k .normal a' w' := fun ρ' a' w' hz' => up n' (by omega) k ρ' st' a' w' hr hz'
      cases d with
      | false => exact plain_sound hty hO hD hz hp hQ
      | true => exact drawn_sound hm hty hO hD hz hp (by simpa using hc rfl) hQ
     | cond c x y =>
      have h : condf (run ty O N Post fg n) (evs st c) x y k st := h
      unfold condf at h
      split at h
      ·rename_i b hb
       refine wp_cond_split (t := b) (RL.one.1 (hz.ev hb)) (fun hbt => ?_) (fun hbf => ?_)
       ·exact up n (by omega) (.code x :: k) ρ st a w (by rw [hbt] at h; exact h) hz
       ·exact up n (by omega) (.code y :: k) ρ st a w (by rw [hbf] at h; exact h) hz
      ·exact h.elim
     | block id b => exact wp_block (up n (by omega) (.code b :: .blk id :: k) ρ st a w h hz)
     | exit id =>
      have h : exif (run ty O N Post fg n) (dropTo id k) st := h
      unfold exif at h
      split at h
      ·rename_i k' hk
       exact wp_exit (wk_exit k k' hk (up n (by omega) k' ρ st a w h hz))
      ·exact h.elim
     | ret => exact wp_ret (wk_ret (hF ρ st a w h hz) k)
     | loop c =>
      obtain ⟨h1, h⟩ : lpf (run ty O N Post fg n) (.code c :: .lp c :: k) (hdS fg st) := h
      obtain ⟨ρ0, hz⟩ := hz.hd fg h1
      let I : Nat → Act → World → Prop := fun m a w => m ≤ n ∧ ∃ ρ st, run ty O N Post fg m (.code c :: .lp c :: k) st ∧ Cz F w0 N ρ st a w
      let μ : Act → World → Nat := fun a w => open Classical in if hx : ∃ m, I m a w then Classical.choose (least_of hx) else 0
      refine wp_loop (fun a w => ∃ m, I m a w) μ ⟨n, Nat.le_refl _, _, _, h, hz⟩ ?_
      intro a1 w1 hI
      have hμ : ∀ a w (hx : ∃ m, I m a w), I (μ a w) a w ∧ ∀ k, I k a w → μ a w ≤ k := fun a w hx => by
       have e : μ a w = Classical.choose (least_of hx) := by
        show (open Classical in if hx : ∃ m, I m a w then Classical.choose (least_of hx) else 0) = _
        rw [dif_pos hx]
       rw [e]; exact Classical.choose_spec (least_of hx)
      obtain ⟨hm1, ρ1, s1, r1, z1⟩ := (hμ a1 w1 hI).1
      have hw := ih (μ a1 w1) (by omega) (.code c :: .lp c :: k) ρ1 s1 a1 w1 r1 z1
      refine wp_mono (show c.wp P _ a1 w1 from hw) ?_
      intro e a2 w2 he
      cases e with
      | normal =>
       obtain ⟨m, hm2, ρ2, s2, r2, z2⟩ := he
       cases m with
       | zero => exact r2.elim
       | succ m =>
        obtain ⟨q1, q2⟩ : lpf (run ty O N Post fg m) (.code c :: .lp c :: k) (hdS fg s2) := r2
        obtain ⟨ρ3, z3⟩ := z2.hd fg q1
        have hI2 : I m a2 w2 := ⟨by omega, _, _, q2, z3⟩
        refine ⟨⟨m, hI2⟩, ?_⟩
        have := (hμ a2 w2 ⟨m, hI2⟩).2 m hI2
        omega
      | _ => exact wk_mono (by omega) k _ a2 w2 he
     | rangeFunc _ _ _ _ => exact h.elim
     | scope c => exact wp_scope_straight (up n (by omega) (.code c :: .scp :: k) ρ st a w h hz)
     | label _ => exact wp_label (up n (by omega) k ρ st a w h hz)
     | goto _ => exact h.elim
     | refuse _ => exact h.elim
end
def resB (ty : TypeId → Option TI) (st : St) : List ResultVar → Option (List (Bool × List Lf))
 | [] => some []
 | .tmp t :: r => (match look st (2 * t), resB ty st r with
  | some (.v g ls), some ps => some ((g, ls) :: ps)
  | _, _ => none)
 | .cell t T :: r => (match look st (2 * t), resB ty st r with
  | some (.v false [.own b o]), some ps => (match ty T, look st (2 * b + 1) with
   | some i, some (.v _ ls) => if i.agg = true then (if o + i.size ≤ ls.length then some ((true, (ls.drop o).take i.size) :: ps) else none)
    else (match ls[o]? with
     | some l => some ((false, [l]) :: ps)
     | none => none)
   | _, _ => none)
  | _, _ => none)
def outLs (st : St) : List Lf → List Lf
 | [] => []
 | l :: ls => outL st l :: outLs st ls
def outPs (st : St) : List (Bool × List Lf) → List (Bool × List Lf)
 | [] => []
 | p :: ps => (p.1, outLs st p.2) :: outPs st ps
def resA (ty : TypeId → Option TI) (st : St) (rs : List ResultVar) : Option (List (Bool × List Lf)) := match resB ty st rs with
 | some ps => some (outPs st ps)
 | none => none
def tupA : List (Bool × List Lf) → AV
 | [p] => .v p.1 p.2
 | ps => .tup ps
def clA : AV → Bool
 | .v _ ls => ls.all clL
 | .tup ps => ps.all fun p => p.2.all clL
 | .pre _ _ _ => false
def postf (Pst : AV → Prop) (r : Option (List (Bool × List Lf))) : Prop := match r with
 | some ps => clA (tupA ps) = true ∧ Pst (tupA ps)
 | none => False
section
variable {P : Program} {ρ ρ' : Env} {D D' : Nat → Bool} {w : World}
structure Old (ρ : Env) (D : Nat → Bool) (w : World) : Prop where
 own : ∀ b, D b = true → ρ b < w.heap.size
 gro : ∀ b g, ρ.al b = true → (ρ.gh b).ownBlock = some g → g < w.heap.size
 z : ρ.z ≤ w.heap.size
theorem Old.sep {w : World} (h : Old ρ D w) {g : Nat} (hg : w.heap.size ≤ g) : Sep ρ D g := ⟨fun b hb e => by have := h.own b hb; omega, fun b hb e => by have := h.gro b g hb e; omega⟩
theorem Lf.R.out {w0 : World} {l : Lf} {u : Value} (h : l.R ρ D w u) (hc : clL l = true) (hz : w0.heap.size ≤ ρ.z) (ho : Old ρ' D' w0) : l.R ρ' D' w u := by
 cases l with
 | own _ _ => cases hc
 | osl _ _ => cases hc
 | im _ => cases hc
 | ol _ _ => cases hc
 | oe _ _ _ => cases hc
 | ov _ _ _ _ => cases hc
 | clo f cs => cases cs with
  | nil => exact ⟨(fun b hb => by cases hb), h.2⟩
  | cons _ _ => cases hc
 | sl f sz n ls =>
  have hc : f = true := hc
  subst hc
  exact Lc.R.mono (Keeps.refl _ _) (fun g _ _ _ h => ⟨ho.sep (Nat.le_trans hz (h.2 rfl)), fun _ => by have := h.2 rfl; have := ho.z; omega⟩) _ _ h
 | _ => exact h
theorem RL.out {w0 : World} {ls : List Lf} {us : List Value} (h : RL ρ D w ls us) (hc : ls.all clL = true) (hz : w0.heap.size ≤ ρ.z) (ho : Old ρ' D' w0) : RL ρ' D' w ls us := by
 induction ls generalizing us with
 | nil => exact h
 | cons l ls ih =>
  rw [List.all_cons, Bool.and_eq_true] at hc
  obtain ⟨u, r, e, h1, h2⟩ := h; exact ⟨u, r, e, h1.out hc.1 hz ho, ih h2 hc.2⟩
theorem VR.out {w0 : World} {g : Bool} {ls : List Lf} {u : Value} (h : VR ρ D w g ls u) (hc : ls.all clL = true) (hz : w0.heap.size ≤ ρ.z) (ho : Old ρ' D' w0) : VR ρ' D' w g ls u := by
 cases g with
 | true => obtain ⟨us, e, h1⟩ := h; exact ⟨us, e, h1.out hc hz ho⟩
 | false => exact RL.out h hc hz ho
theorem RT.out {w0 : World} {ps : List (Bool × List Lf)} {us : List Value} (h : RT ρ D w ps us) (hc : (ps.all fun p => p.2.all clL) = true) (hz : w0.heap.size ≤ ρ.z) (ho : Old ρ' D' w0) : RT ρ' D' w ps us := by
 induction ps generalizing us with
 | nil => exact h
 | cons p ps ih =>
  rw [List.all_cons, Bool.and_eq_true] at hc
  obtain ⟨u, r, e, h1, h2⟩ := h; exact ⟨u, r, e, h1.out hc.1 hz ho, ih h2 hc.2⟩
theorem AV.R.out {w0 : World} {a : AV} {u : Value} (h : a.R ρ D w u) (hc : clA a = true) (hz : w0.heap.size ≤ ρ.z) (ho : Old ρ' D' w0) : a.R ρ' D' w u := by
 cases a with
 | v g ls => exact VR.out h hc hz ho
 | tup ps => obtain ⟨us, e, h1⟩ := h; exact ⟨us, e, h1.out hc hz ho⟩
 | pre _ _ _ => exact h
def cbL : Lf → Bool
 | .own _ _ => false
 | .osl _ _ => false
 | .clo _ cs => cs.isEmpty
 | .sl f _ _ _ => !f
 | .ol _ _ => false
 | .oe _ _ _ => false
 | .ov _ _ _ _ => false
 | _ => true
def cbA : AV → Bool
 | .v _ ls => ls.all cbL
 | .tup ps => ps.all fun p => p.2.all cbL
 | .pre _ _ _ => false
theorem Lf.R.closed {l : Lf} {u : Value} (h : l.R ρ D w u) (hc : cbL l = true) (hS : ∀ g, Sep ρ D g → Sep ρ' D' g) : l.R ρ' D' w u := by
 cases l with
 | own _ _ => cases hc
 | osl _ _ => cases hc
 | ol _ _ => cases hc
 | oe _ _ _ => cases hc
 | ov _ _ _ _ => cases hc
 | clo f cs => cases cs with
  | nil => exact ⟨(fun b hb => by cases hb), h.2⟩
  | cons _ _ => cases hc
 | sl f sz n ls =>
  have hc : f = false := by simpa [cbL] using hc
  subst hc
  exact Lc.R.mono (Keeps.refl _ _) (fun g _ _ _ h => ⟨hS g h.1, fun e => by cases e⟩) _ _ h
 | im ls => exact ImR.mono h (Keeps.refl _ _) fun g _ _ _ h => hS g h
 | _ => exact h
theorem RL.closed {ls : List Lf} {us : List Value} (h : RL ρ D w ls us) (hc : ls.all cbL = true) (hS : ∀ g, Sep ρ D g → Sep ρ' D' g) : RL ρ' D' w ls us := by
 induction ls generalizing us with
 | nil => exact h
 | cons l ls ih =>
  rw [List.all_cons, Bool.and_eq_true] at hc
  obtain ⟨u, r, e, h1, h2⟩ := h; exact ⟨u, r, e, h1.closed hc.1 hS, ih h2 hc.2⟩
theorem VR.closed {g : Bool} {ls : List Lf} {u : Value} (h : VR ρ D w g ls u) (hc : ls.all cbL = true) (hS : ∀ g, Sep ρ D g → Sep ρ' D' g) : VR ρ' D' w g ls u := by
 cases g with
 | true => obtain ⟨us, e, h1⟩ := h; exact ⟨us, e, h1.closed hc hS⟩
 | false => exact RL.closed h hc hS
theorem RT.closed {ps : List (Bool × List Lf)} {us : List Value} (h : RT ρ D w ps us) (hc : (ps.all fun p => p.2.all cbL) = true) (hS : ∀ g, Sep ρ D g → Sep ρ' D' g) : RT ρ' D' w ps us := by
 induction ps generalizing us with
 | nil => exact h
 | cons p ps ih =>
  rw [List.all_cons, Bool.and_eq_true] at hc
  obtain ⟨u, r, e, h1, h2⟩ := h; exact ⟨u, r, e, h1.closed hc.1 hS, ih h2 hc.2⟩
theorem AV.R.closed {a : AV} {u : Value} (h : a.R ρ D w u) (hc : cbA a = true) (hS : ∀ g, Sep ρ D g → Sep ρ' D' g) : a.R ρ' D' w u := by
 cases a with
 | v g ls => exact VR.closed h hc hS
 | tup ps => obtain ⟨us, e, h1⟩ := h; exact ⟨us, e, h1.closed hc hS⟩
 | pre _ _ _ => exact h
theorem RA.closed {xs : List AV} {us : List Value} (h : RA ρ D w xs us) (hc : xs.all cbA = true) (hS : ∀ g, Sep ρ D g → Sep ρ' D' g) : RA ρ' D' w xs us := by
 induction xs generalizing us with
 | nil => exact h
 | cons l ls ih =>
  rw [List.all_cons, Bool.and_eq_true] at hc
  obtain ⟨u, r, e, h1, h2⟩ := h; exact ⟨u, r, e, h1.closed hc.1 hS, ih h2 hc.2⟩
theorem RA.get {xs : List AV} {us : List Value} (h : RA ρ D w xs us) {n : Nat} {p : AV} (hl : xs[n]? = some p) : ∃ u, us[n]? = some u ∧ p.R ρ D w u := by
 induction n generalizing xs us with
 | zero =>
  cases xs with
  | nil => simp at hl
  | cons k ps => obtain ⟨u, r, e, h1, h2⟩ := h; simp at hl; subst hl; exact ⟨u, by rw [e]; rfl, h1⟩
 | succ n ih =>
  cases xs with
  | nil => simp at hl
  | cons k ps =>
   obtain ⟨u, r, e, h1, h2⟩ := h
   obtain ⟨x, hx, hr⟩ := ih h2 (by simpa using hl)
   exact ⟨x, by rw [e]; simpa using hx, hr⟩
theorem RA.len {xs : List AV} {us : List Value} (h : RA ρ D w xs us) : us.length = xs.length := by
 induction xs generalizing us with
 | nil => rw [h]; rfl
 | cons l ls ih => obtain ⟨u, r, e, h1, h2⟩ := h; rw [e, List.length_cons, List.length_cons, ih h2]
variable {F : Fx} {w0 : World} {N : Nat} {st : St} {a : Act} {ty : TypeId → Option TI}
def resOne (tmps : Array Value) : ResultVar → Sem Value
 | .tmp t => pure (tmps.getD t undef)
 | .cell x t => do loadVar t (← asAddr (tmps.getD x undef))
theorem res_list (hty : ∀ t i, ty t = some i → TiOK P t i) (h : Cz F w0 N ρ st a w) : ∀ (rs : List ResultVar) (ps : List (Bool × List Lf)), resB ty st rs = some ps →
  ∃ us, (rs.mapM (resOne a.tmps)).run P w = .ok us w ∧ RT ρ (dom st) w ps us := by
 intro rs
 induction rs with
 | nil => intro ps hp; injection hp with hp; subst hp; exact ⟨[], by simp, rfl⟩
 | cons r rs ih =>
  intro ps hp
  cases r with
  | tmp t =>
   unfold resB at hp
   split at hp
   ·rename_i g ls qs h1 h2
    injection hp with hp; subst hp
    obtain ⟨us, hu, hR⟩ := ih qs h2
    obtain ⟨u, hu1, hr1⟩ := h.sl t _ h1
    refine ⟨u :: us, ?_, u, us, rfl, hr1, hR⟩
    have e : a.tmps.getD t undef = u := by rw [Array.getD_eq_getD_getElem?, hu1]; rfl
    simp [List.mapM_cons, resOne, e, hu]
   ·cases hp
  | cell t T =>
   unfold resB at hp
   split at hp
   ·rename_i b o qs h1 h2
    obtain ⟨us, hu, hR⟩ := ih qs h2
    obtain ⟨u, hu1, hr1⟩ := h.sl t _ h1
    obtain ⟨hdb, rfl⟩ := RL.one.1 hr1
    have e : a.tmps.getD t undef = .pointer (some ⟨ρ b, o, none⟩) := by rw [Array.getD_eq_getD_getElem?, hu1]; rfl
    split at hp
    ·rename_i i g ls hi hl
     have hT := hty T i hi
     obtain ⟨g0, ls0, T0, cs, e0, hB, hr0, ho0, hg⟩ := h.mm b _ hl (fun _ _ _ e => by cases e)
     injection e0 with _ e0; subst e0
     have hlen := hr0.len
     rw [Array.length_toList] at hlen
     split at hp
     ·rename_i hag
      split at hp
      ·rename_i hle
       injection hp with hp; subst hp
       have hrun := run_loadA (w := w) hT hB.wb (o := o) (by omega) hag
       simp only [Instr.loadAt, Instr.sureAddr, Sem.run_bind, Sem.run_pure, Result.andThen_ok] at hrun
       refine ⟨_ :: us, ?_, _, us, rfl, ⟨_, rfl, (hr0.drop o).take _⟩, hR⟩
       simp [List.mapM_cons, resOne, e, asAddr, hrun, hu]
      ·cases hp
     ·rename_i hag
      split at hp
      ·rename_i l hl'
       injection hp with hp; subst hp
       obtain ⟨u, hu', hr⟩ := hr0.get hl'
       have hrun := run_loadS (w := w) hT hB.wb hu' (by simpa using hag)
       simp only [Instr.loadAt, Instr.sureAddr, Sem.run_bind, Sem.run_pure, Result.andThen_ok] at hrun
       refine ⟨u :: us, ?_, u, us, rfl, RL.one.2 hr, hR⟩
       simp [List.mapM_cons, resOne, e, asAddr, hrun, hu]
      ·cases hp
    ·cases hp
   ·cases hp
end
section
variable {P : Program} {F : Fx} {w0 w : World} {N : Nat} {ρ ρ' : Env} {D' : Nat → Bool} {st : St} {a : Act}
theorem outL_R (h : Cz F w0 N ρ st a w) (ho : Old ρ' D' w0) {l : Lf} {u : Value} (hR : l.R ρ (dom st) w u) (hc : clL (outL st l) = true) : (outL st l).R ρ' D' w u := by
 have hz : w0.heap.size ≤ ρ.z := by rw [h.zz]; exact Nat.le_refl _
 have hS : ∀ g, w0.heap.size ≤ g → SepF true ρ' D' g := fun g hg => ⟨ho.sep hg, fun _ => by have := ho.z; omega⟩
 cases l with
 | osl b n => exact outO_R h (fun g _ hg => hS g (Nat.le_trans hz hg)) (fun hg _ => hS _ hg) hR hc
 | ol b k => exact outA_R h (fun g _ hg => hS g (Nat.le_trans hz hg)) (fun g _ _ hg => hS g hg) hR hc
 | _ => exact hR.out hc hz ho
theorem outLs_R (h : Cz F w0 N ρ st a w) (ho : Old ρ' D' w0) : ∀ {ls : List Lf} {us : List Value}, RL ρ (dom st) w ls us → (outLs st ls).all clL = true → RL ρ' D' w (outLs st ls) us := by
 intro ls
 induction ls with
 | nil => intro us hR _; exact hR
 | cons l ls ih =>
  intro us hR hc
  obtain ⟨u, r, e, h1, h2⟩ := hR
  have hc : (outL st l :: outLs st ls).all clL = true := hc
  rw [List.all_cons, Bool.and_eq_true] at hc
  exact ⟨u, r, e, outL_R h ho h1 hc.1, ih h2 hc.2⟩
theorem outPs_R (h : Cz F w0 N ρ st a w) (ho : Old ρ' D' w0) : ∀ {ps : List (Bool × List Lf)} {us : List Value}, RT ρ (dom st) w ps us → ((outPs st ps).all fun p => p.2.all clL) = true → RT ρ' D' w (outPs st ps) us := by
 intro ps
 induction ps with
 | nil => intro us hR _; exact hR
 | cons p ps ih =>
  intro us hR hc
  obtain ⟨u, r, e, h1, h2⟩ := hR
  have hc : (((p.1, outLs st p.2) :: outPs st ps).all fun p => p.2.all clL) = true := hc
  rw [List.all_cons, Bool.and_eq_true] at hc
  refine ⟨u, r, e, ?_, ih h2 hc.2⟩
  obtain ⟨g, ls⟩ := p
  cases g with
  | true => obtain ⟨us, e1, h3⟩ := h1; exact ⟨us, e1, outLs_R h ho h3 hc.1⟩
  | false => exact outLs_R h ho h1 hc.1
theorem clA_all {ps : List (Bool × List Lf)} (h : clA (tupA ps) = true) : (ps.all fun p => p.2.all clL) = true := by
 match ps, h with
 | [], _ => rfl
 | [p], h => simpa [tupA, clA] using h
 | p :: q :: r, h => simpa [tupA, clA] using h
theorem res_run {ty : TypeId → Option TI} (hty : ∀ t i, ty t = some i → TiOK P t i) (h : Cz F w0 N ρ st a w) {fn : Func} {ps : List (Bool × List Lf)} (hp : resA ty st fn.results.toList = some ps) (hc : clA (tupA ps) = true) :
  ∃ u, (results fn a.tmps).run P w = .ok u w ∧ ∀ ρ' D', Old ρ' D' w0 → (tupA ps).R ρ' D' w u := by
 unfold resA at hp
 split at hp
 case h_2 => cases hp
 rename_i qs hq
 injection hp with hp; subst hp
 obtain ⟨us, hu, hR⟩ := res_list hty h _ _ hq
 have hrun : (results fn a.tmps).run P w = .ok (if h : us.toArray.size = 1 then us.toArray[0] else .tuple us.toArray) w := by
  show Sem.run P (do let vs ← fn.results.mapM (resOne a.tmps); pure (if h : vs.size = 1 then vs[0] else .tuple vs)) w = _
  rw [Sem.run_bind, Array.mapM_eq_mapM_toList]
  simp [hu]
 rw [hrun]
 refine ⟨_, rfl, fun ρ' D' ho => ?_⟩
 have hR := outPs_R h ho hR (clA_all hc)
 generalize outPs st qs = ps at hR
 match ps, us, hR with
 | [], _, rfl => simp [tupA, AV.R, RT]
 | [p], _, ⟨u, _, rfl, h1, rfl⟩ => simpa [tupA, AV.R] using h1
 | p :: q :: r, _, ⟨u, us, rfl, h1, h2⟩ =>
  obtain ⟨u2, us2, rfl, h3, h4⟩ := h2
  simp [tupA, AV.R]
  exact ⟨u, _, rfl, h1, u2, us2, rfl, h3, h4⟩
end
theorem Cz.old {F : Fx} {w0 w : World} {N : Nat} {ρ : Env} {st : St} {a : Act} (h : Cz F w0 N ρ st a w) : Old ρ (dom st) w := ⟨fun _ hb => h.lt hb, fun _ _ hb e => (h.glt hb e).2, by rw [h.zz]; exact h.bel.size⟩
def Ct (P : Program) (f : FuncId) (args : List AV) (Pst : AV → Prop) : Prop := ∀ ρ D w us, Tab w → RA ρ D w args us →
 Calls P f us.toArray w fun e w' => ∃ u r, e = .returned u ∧ Pst r ∧ clA r = true ∧ (∀ ρ' D', Old ρ' D' w → r.R ρ' D' w' u) ∧ Below w.heap.size w w'
def init : Nat → List AV → St
 | _, [] => []
 | n, a :: xs => (2 * n, a) :: init (n + 1) xs
theorem init_look : ∀ (xs : List AV) (n k : Nat) (v : AV), look (init n xs) k = some v → ∃ t, k = 2 * (n + t) ∧ xs[t]? = some v := by
 intro xs
 induction xs with
 | nil => intro n k v h; cases h
 | cons a xs ih =>
  intro n k v h
  unfold init at h
  by_cases e : k = 2 * n
  ·subst e
   rw [look_same] at h; injection h with h; subst h
   exact ⟨0, rfl, rfl⟩
  ·rw [look_other e] at h
   obtain ⟨t, h1, h2⟩ := ih (n + 1) k v h
   exact ⟨t + 1, by omega, by simpa using h2⟩
theorem call_raw {P : Program} {ty : TypeId → Option TI} {O : Orac} (hm : P.follows .mixedOrders = true) (hty : ∀ t i, ty t = some i → TiOK P t i) {w : World} (hO : OrOK P O Fx.no w) {f : FuncId} {fn : Func} {c : Code} {args : List AV} {mem : St} (fg : List Nat) {post : St → Prop} {Φ : Ending → World → Prop} {ρ : Env} {us : List Value}
  (fuel N : Nat) (hf : P.funcs[f]? = some fn) (hb : fn.body = some c) (hN : fn.ntmps = N) (hl : args.length ≤ N) (ht : Tab w) (hodd : ∀ k v, look mem k = some v → ∃ b, k = 2 * b + 1)
  (hmem : ∀ b v, look mem (2 * b + 1) = some v → ∃ ls T cs, v = .v false ls ∧ Blk w (ρ b) T cs ∧ RL ρ (dom mem) w ls cs.toList ∧ ls.all okLf = true) (hinj : ∀ b b', dom mem b = true → dom mem b' = true → ρ b = ρ b' → b = b') (hA : RA ρ (dom mem) w args us) (hz0 : ρ.z = w.heap.size) (hal : ρ.al = fun _ => false)
  (hF : ∀ ρ' st a w', post st → Cz Fx.no w N ρ' st a w' → bodyPost P fn Φ .ret a w') (h : run ty O N post fg fuel [.code c] (init 0 args ++ mem)) :
  Calls P f us.toArray w Φ := by
 refine calls_of_wp hf hb ?_
 have hlen := hA.len
 have hlk : ∀ b, look (init 0 args ++ mem) (2 * b + 1) = look mem (2 * b + 1) := fun b => by
  rw [look_append]
  cases hh : look (init 0 args) (2 * b + 1) with
  | none => rfl
  | some v => obtain ⟨t, h1, _⟩ := init_look _ _ _ _ hh; omega
 have hst : dom (init 0 args ++ mem) = dom mem := funext fun b => by unfold dom; rw [hlk]
 have hz : Cz Fx.no w N ρ (init 0 args ++ mem) { tmps := us.toArray ++ Array.replicate (fn.ntmps - us.toArray.size) undef, defers := [] } w := by
  refine ⟨⟨ht, fun h => h⟩, Bel.refl _ _, ?_, rfl, fun t v hv => ?_, fun b v hv _ => ?_, fun b b' h1 h2 => ?_, hz0, (fun b hb => by rw [hal] at hb; cases hb), fun b x y z hv => ?_, (fun b b' g hb => by rw [hal] at hb; cases hb), (fun b b' hb => by rw [hal] at hb; cases hb)⟩
  ·simp; omega
  ·rw [look_append] at hv
   split at hv
   ·rename_i v' hv'
    injection hv with hv; subst hv
    obtain ⟨t', h1, h2⟩ := init_look _ _ _ _ hv'
    have : t = t' := by omega
    subst this
    obtain ⟨u, h3, h4⟩ := hA.get h2
    refine ⟨u, ?_, by rw [hst]; exact h4⟩
    have hlt : t < us.length := by
     rcases Nat.lt_or_ge t us.length with h | h
     ·exact h
     ·rw [List.getElem?_eq_none h] at h3; cases h3
    rw [Array.getElem?_append_left (by simpa using hlt)]
    simpa using h3
   ·obtain ⟨b, hb⟩ := hodd _ _ hv; omega
  ·rw [hlk] at hv
   obtain ⟨ls, T, cs, e, hB, hR, ho⟩ := hmem b v hv
   exact ⟨false, ls, T, cs, e, hB, by rw [hst]; exact hR, ho, fun h => by cases h⟩
  ·rw [hst] at h1 h2; exact hinj b b' h1 h2
  ·rw [hlk] at hv
   obtain ⟨ls, T, cs, e, _⟩ := hmem b _ hv
   cases e
 have := run_sound hm hty hO hF fuel [.code c] ρ _ _ w h hz
 refine wp_mono this ?_
 intro e a' w' he
 cases e with
 | normal => exact he
 | ret => exact he
 | exit id => exact he.elim
 | goto l => exact he.elim
 | panic ch => exact he.elim
 | outgrown => exact he.elim
theorem call_of {P : Program} {ty : TypeId → Option TI} {O : Orac} (hm : P.follows .mixedOrders = true) (hty : ∀ t i, ty t = some i → TiOK P t i) {w : World} (hO : OrOK P O Fx.no w) {f : FuncId} {fn : Func} {c : Code} {args : List AV} {mem : St} (fg : List Nat) {Pst : AV → Prop} {ρ : Env} {us : List Value}
  (fuel N : Nat) (rs : List ResultVar) (hf : P.funcs[f]? = some fn) (hb : fn.body = some c) (hN : fn.ntmps = N) (hr : fn.results.toList = rs) (hl : args.length ≤ N) (ht : Tab w) (hodd : ∀ k v, look mem k = some v → ∃ b, k = 2 * b + 1)
  (hmem : ∀ b v, look mem (2 * b + 1) = some v → ∃ ls T cs, v = .v false ls ∧ Blk w (ρ b) T cs ∧ RL ρ (dom mem) w ls cs.toList ∧ ls.all okLf = true) (hinj : ∀ b b', dom mem b = true → dom mem b' = true → ρ b = ρ b' → b = b') (hA : RA ρ (dom mem) w args us) (hz0 : ρ.z = w.heap.size) (hal : ρ.al = fun _ => false)
  (h : run ty O N (fun st => postf Pst (resA ty st rs)) fg fuel [.code c] (init 0 args ++ mem)) :
  Calls P f us.toArray w fun e w' => ∃ u r, e = .returned u ∧ Pst r ∧ clA r = true ∧ (∀ ρ' D', Old ρ' D' w → r.R ρ' D' w' u) ∧ Below w.heap.size w w' := by
 have hF : ∀ ρ' st a w', postf Pst (resA ty st rs) → Cz Fx.no w N ρ' st a w' → bodyPost P fn (fun e w' => ∃ u r, e = .returned u ∧ Pst r ∧ clA r = true ∧ (∀ ρ' D', Old ρ' D' w → r.R ρ' D' w' u) ∧ Below w.heap.size w w') .ret a w' := by
  intro ρ' st a w' hp hz'
  unfold postf at hp
  split at hp
  ·rename_i ps hps
   obtain ⟨u, hu, hR⟩ := res_run hty hz' (fn := fn) (by rw [hr]; exact hps) hp.1
   exact bodyPost_ret hu hz'.df ⟨u, _, rfl, hp.2, hp.1, hR, hz'.bel.to⟩
  ·exact hp.elim
 exact call_raw hm hty hO fg fuel N hf hb hN hl ht hodd hmem hinj hA hz0 hal hF h
mutual
def smC : Lc → Prop
 | .ws xs => Small B64 xs ∧ xs.length ≤ 100000
 | .sl _ _ ls => smCs ls
 | .lit _ => True
 | .dg _ => True
def smCs : List Lc → Prop
 | [] => True
 | l :: ls => smC l ∧ smCs ls
end
mutual
theorem Lc.R.sm {S : Nat → Prop} {w : World} : ∀ (l : Lc) (u : Value), l.R S w u → smC l
 | .lit _, _, _ => trivial
 | .dg _, _, _ => trivial
 | .ws _, _, ⟨_, _, _, _, ha, hn⟩ => ⟨ha.2, by have := ha.1.1; omega⟩
 | .sl _ _ ls, _, ⟨_, _, _, _, _, h⟩ => by
  rcases h with h | ⟨_, _, _, _, _, _, _, _, h⟩
  ·rw [h]; trivial
  ·exact LcL.sm ls _ h
theorem LcL.sm {S : Nat → Prop} {w : World} : ∀ (ls : List Lc) (us : List Value), LcL S w ls us → smCs ls
 | [], _, _ => trivial
 | l :: ls, _, ⟨u, r, _, h1, h2⟩ => ⟨Lc.R.sm l u h1, LcL.sm ls r h2⟩
end
def smL : Lf → Prop
 | .ws xs => Small B64 xs ∧ xs.length ≤ 100000
 | .sl _ _ _ ls => smCs ls
 | .im ls => smCs ls
 | _ => True
def smLs : List Lf → Prop
 | [] => True
 | l :: ls => smL l ∧ smLs ls
def smAs : List AV → Prop
 | [] => True
 | .v _ ls :: r => smLs ls ∧ smAs r
 | .tup _ :: r => smAs r
 | .pre _ _ _ :: r => smAs r
theorem RL.sm {ρ : Env} {D : Nat → Bool} {w : World} {ls : List Lf} {us : List Value} (h : RL ρ D w ls us) : smLs ls := by
 induction ls generalizing us with
 | nil => trivial
 | cons l ls ih =>
  obtain ⟨u, r, e, h1, h2⟩ := h
  refine ⟨?_, ih h2⟩
  cases l with
  | ws xs => obtain ⟨A, n, c, _, ha, hn⟩ := h1; exact ⟨ha.2, by have := ha.1.1; omega⟩
  | sl f sz n ls => exact Lc.R.sm _ _ h1
  | im ls => obtain ⟨_, _, _, _, _, _, _, _, h⟩ := h1; exact LcL.sm _ _ h
  | _ => trivial
theorem RA.sm {ρ : Env} {D : Nat → Bool} {w : World} {xs : List AV} {us : List Value} (h : RA ρ D w xs us) : smAs xs := by
 induction xs generalizing us with
 | nil => trivial
 | cons a xs ih =>
  obtain ⟨u, r, e, h1, h2⟩ := h
  cases a with
  | tup _ => exact ih h2
  | pre _ _ _ => exact ih h2
  | v g ls =>
   refine ⟨?_, ih h2⟩
   cases g with
   | true => obtain ⟨us, _, hr⟩ := h1; exact hr.sm
   | false => exact RL.sm h1
theorem ct_of {P : Program} {ty : TypeId → Option TI} {O : Orac} (hm : P.follows .mixedOrders = true) (hty : ∀ t i, ty t = some i → TiOK P t i) (hO : ∀ w, OrOK P O Fx.no w) {f : FuncId} {fn : Func} {c : Code} {args : List AV} (fg : List Nat) {Pst : AV → Prop}
  (fuel N : Nat) (rs : List ResultVar) (hf : P.funcs[f]? = some fn) (hb : fn.body = some c) (hN : fn.ntmps = N) (hr : fn.results.toList = rs) (hl : args.length ≤ N) (hc : args.all cbA = true)
  (h : smAs args → run ty O N (fun st => postf Pst (resA ty st rs)) fg fuel [.code c] (init 0 args)) : Ct P f args Pst := by
 intro ρ D w us ht hA
 replace h := h hA.sm
 refine (call_of (mem := []) (ρ := ⟨fun n => n, w.heap.size, fun _ => undef, fun _ => 0, fun _ => false⟩) hm hty (hO w) fg fuel N rs hf hb hN hr hl ht (fun k v h => by cases h) (fun b v h => by cases h) (fun b b' h => by cases h) (hA.closed hc fun g h => ⟨fun b hb => (by cases hb), fun b hb => (by cases hb)⟩) rfl rfl (by rw [List.append_nil]; exact h)).mono ?_
 rintro e w' ⟨u, r, he, hp, hcl, hR, hb⟩
 exact ⟨u, r, he, hp, hcl, hR, hb⟩
end Go.Proofs.YtobcbhppmgnioaaGreatDoor
