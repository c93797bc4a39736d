/- A range over a function: a round's body on states; what stays of the frame between two rounds. -/
import Derived.Test.YtobcbhppmgnioaaGreatDoorSAiG
import Derived.RangeFuncNested
namespace Go.Proofs.YtobcbhppmgnioaaGreatDoor
open Go.RowKit Nx
set_option linter.unusedVariables false
set_option linter.unusedSimpArgs false
theorem nc_of {o : Obj} (h : o.isCells = false) : ∀ cs T fr, o ≠ .cells cs T fr := fun cs T fr e => by subst e; cases h
theorem rd_put {k : IntKind} {w : World} {l : Nat} {o o' : Obj} (hl : w.heap[l]? = some o) (hn : o.isCells = false) {lo hi n c : Nat} {A : Option Addr} {xs : List Nat} (h : Rd k w lo hi A n c xs) : Rd k (w.putObj l o') lo hi A n c xs := by
 refine ⟨h.1, h.2.1, fun hz => ?_⟩
 obtain ⟨ad, e, hl', hh, hc⟩ := h.2.2 hz
 exact ⟨ad, e, hl', hh, fun j u hu => cell_kept (hc j u hu) (grownBy_putObj' w l o') (fun r e => by cases e; exact ⟨o, hl, hn⟩)⟩
theorem wb_put {w : World} {l g : Nat} {T : TypeId} {cs : Array Value} {o : Obj} (hl : w.heap[l]? = some o) (hn : o.isCells = false) (h : Wb w g T cs) : g ≠ l := fun e => by
 subst e
 obtain ⟨fr, h⟩ := h
 rw [hl] at h; injection h with h
 exact nc_of hn _ _ _ h
theorem keeps_put {S : Nat → Prop} {w : World} {l : Nat} {o : Obj} (o' : Obj) (hl : w.heap[l]? = some o) (hn : o.isCells = false) : Keeps S w (w.putObj l o') := by
 refine ⟨fun A n c xs h => ⟨?_, h.2⟩, fun A n c N h => ?_, fun g T cs _ h2 => h2.of (World.putObj_heap_other (wb_put hl hn h2))⟩
 ·have := rd_put (o' := o') hl hn h.1
  rwa [show w.heap.size = (w.putObj l o').heap.size by simp] at this
 ·have h' : Rd .u32 w 0 w.heap.size A n c (digs B32 N) := h
  have := rd_put (o' := o') hl hn h'
  rwa [show w.heap.size = (w.putObj l o').heap.size by simp] at this
section
variable {F F' : Fx} {w0 w w' : World} {N : Nat} {ρ : Env} {st : St} {a a' : Act}
theorem Cz.reF (h : Cz F w0 N ρ st a w) (hf : F'.f = F.f) (hsz : a'.tmps.size = N) (hdf : a'.defers = F'.df) (hs : ∀ k x, F'.sp k = some x → w.heap[k]? = some x ∧ x.isCells = false) (hsl : ∀ t v, look st (2 * t) = some v → a'.tmps[t]? = a.tmps[t]?) : Cz F' w0 N ρ st a' w :=
 ⟨⟨h.tb.1, by show ¬ F'.f _; rw [hf]; exact h.tb.2⟩, ⟨h.bel.os, h.bel.tape, h.bel.output, h.bel.size, fun k hk hF => h.bel.block k hk (by show ¬ F.f _; rw [← hf]; exact hF), fun k o e => ⟨(hs k o e).1, nc_of (hs k o e).2⟩⟩, hsz, hdf,
  fun t v hv => by rw [hsl t v hv]; exact h.sl t v hv, fun b v hv hne => by
   obtain ⟨g, ls, T, cs, e, hB, hr, ho, hg⟩ := h.mm b v hv hne
   exact ⟨g, ls, T, cs, e, hB, hr, ho, fun e => (hg e).imp id fun x => ⟨x.1, by show F'.f _; rw [hf]; exact x.2⟩⟩, h.inj, h.zz, h.gm, h.gc, h.gi, h.gd⟩
theorem Cz.grow (h : Cz F w0 N ρ st a w) (hb : Below w.heap.size w w') : Cz F w0 N ρ st a w' := by
 have hk : Keeps (Sep ρ (dom st)) w w' := Keeps.below hb
 refine ⟨h.tb, h.bel.below hb, h.sz, h.df, fun t v hv => ?_, fun b v hv hne => ?_, h.inj, h.zz, h.gm, fun b x y z hv => h.gcs (grown_below hb) (fun _ _ _ e => by cases e) hk (Ext.refl _ _) rfl rfl rfl hv, h.gi, h.gd⟩
 ·obtain ⟨u, h1, h2⟩ := h.sl t v hv; exact ⟨u, h1, h2.mono (Ext.refl _ _) hk⟩
 ·obtain ⟨g, ls, T, cs, e, hB, hr, ho, hg⟩ := h.mm b v hv hne
  exact ⟨g, ls, T, cs, e, hB.below hb hB.lt, hr.mono (Ext.refl _ _) hk, ho, hg⟩
theorem Cz.putO {l : Nat} {o : Obj} (o' : Obj) (h : Cz F w0 N ρ st a w) (hF : F.sp = fun _ => none) (hl : w.heap[l]? = some o) (hn : o.isCells = false) (hge : w0.heap.size ≤ l) : Cz F w0 N ρ st a (w.putObj l o') := by
 have hk : Keeps (Sep ρ (dom st)) w (w.putObj l o') := keeps_put o' hl hn
 refine ⟨h.tb, ⟨h.bel.os, h.bel.tape, h.bel.output, by simpa using h.bel.size, fun k hk1 hF => (World.putObj_heap_other (by omega)).trans (h.bel.block k hk1 hF), fun k o e => by rw [hF] at e; cases e⟩, h.sz, h.df, fun t v hv => ?_, fun b v hv hne => ?_, h.inj, h.zz, h.gm, fun b x y z hv => h.gcs (grownBy_putObj' w l o') (fun b' g hb' e1 e2 => ?_) hk (Ext.refl _ _) rfl rfl rfl hv, h.gi, h.gd⟩
 ·obtain ⟨u, h1, h2⟩ := h.sl t v hv; exact ⟨u, h1, h2.mono (Ext.refl _ _) hk⟩
 ·obtain ⟨g, ls, T, cs, e, hB, hr, ho, hg⟩ := h.mm b v hv hne
  exact ⟨g, ls, T, cs, e, (World.putObj_heap_other (wb_put hl hn hB.wb)).trans hB, hr.mono (Ext.refl _ _) hk, ho, hg⟩
 ·injection e1 with e1; subst e1
  obtain ⟨e3, s3, l3, hl3⟩ := h.gm b' hb'
  obtain ⟨_, _, _, _, us3, ⟨g3, c3, r3, e4, _, ⟨T3, hB3⟩, _⟩, _⟩ := h.gc b' e3 s3 l3 hl3
  rw [e4] at e2
  injection e2 with e2
  exact wb_put hl hn hB3.wb e2
end
def ndO (T : Nat → Bool) (o : Oper) : Bool := (match o.op with
 | .defer _ => false
 | _ => true) && (match o.dst with
 | some d => T d
 | none => true)
theorem ndO_nd {T : Nat → Bool} {o : Oper} (h : ndO T o = true) : ∀ c, o.op ≠ .defer c := fun c e => by
 unfold ndO at h
 rw [e] at h
 cases h
theorem ndO_dst {T : Nat → Bool} {o : Oper} (h : ndO T o = true) {d : Nat} (e : o.dst = some d) : T d = true := by
 unfold ndO at h
 rw [e, Bool.and_eq_true] at h
 exact h.2
abbrev Wf (ro : Option Nat) : Fence := { Fence.wide with round := ro }
section
variable {P : Program} {ro : Option Nat} {m : Nat} {Q : Exit → Act → World → Prop}
theorem rows_in {row : String} {args : Array Value} {w : World} {R : Value → World → Prop} (h : Rows P row args w R) : RowsIn (Wf ro) m P row args w R := fun c cs _ => by
 obtain ⟨v, w', h1, h2⟩ := h c cs
 exact ⟨v, w', h1, stepsIn_wide.2 h2⟩
theorem oper_in {o : Oper} {a : Act} {w : World} {K K' : Act → World → Prop} (hd : ∀ c, o.op ≠ .defer c) (hK : ∀ a w, K a w → K' a w) (h : o.wp P a w K Q) : o.wpIn (Wf ro) m P a w K' Q := by
 refine ⟨fun _ _ => trivial, ?_⟩
 rw [Oper.semAt_eq _ _ _ hd]
 unfold Oper.wp at h
 generalize (execOp a.eval o).run P w = x at h ⊢
 unfold Oper.upon at h
 split at h
 ·exact hK _ _ h
 ·exact hK _ _ h
 ·exact hK _ _ h
 ·refine ⟨fun e => (by cases e), (show CallsIn (Wf ro) _ P _ _ _ _ from ((callsIn_wide.2 h).mono fun e w' he => ?_))⟩
  cases e with
  | returned v => exact hK _ _ he
  | panicked c => exact he
  | outgrown => exact he
 ·refine ⟨fun e => (by cases e), (rows_in h).mono fun v w' he => hK _ _ he⟩
 ·exact h
 ·exact h.elim
theorem ops_in {ops : Array Oper} (hQ : ¬ LetsOut Q) : ∀ (l : List Nat) (a : Act) (w : World), (∀ (i : Nat) (o : Oper), ops[i]? = some o → ∀ c, o.op ≠ .defer c) → wpOps P ops Q l a w → wpOpsIn (Wf ro) m P ops Q l a w := by
 intro l
 induction l with
 | nil => intro a w _ h; exact h
 | cons i l ih =>
  intro a w hn h
  unfold wpOps at h
  unfold wpOpsIn
  split
  ·rename_i ho
   rw [ho] at h
   exact ih a w hn h
  ·rename_i o ho
   rw [ho] at h
   simp only at h
   split
   ·rename_i hw
    rw [if_pos hw] at h
    rcases h with h | h
    ·exact oper_in (hn i o ho) (fun a w h => ih a w hn h) h
    ·exact absurd h.2 hQ
   ·rename_i hw
    rw [if_neg hw] at h
    exact ⟨fun _ _ => trivial, ih _ w hn h⟩
end
def Kt (T : Nat → Bool) (a a' : Act) : Prop := ∀ t, T t = false → a'.tmps[t]? = a.tmps[t]?
theorem Kt.put {T : Nat → Bool} {a a' : Act} (h : Kt T a a') {d : Option Nat} {u : Value} (hd : ∀ t, d = some t → T t = true) : Kt T a (a'.put d u) := fun t ht => by
 cases d with
 | none => exact h t ht
 | some d =>
  have : t ≠ d := fun e => by subst e; rw [hd t rfl] at ht; cases ht
  rw [kn_get_other (fun e => this e.symm)]
  exact h t ht
section
variable {P : Program} {F : Fx} {w0 w : World} {N : Nat} {ρ : Env} {st st' : St} {a a0 : Act} {Q : Exit → Act → World → Prop} {ty : TypeId → Option TI} {O : Orac} {es : List Ef} {ops : Array Oper} {T : Nat → Bool}
theorem plain_ops (hty : ∀ t i, ty t = some i → TiOK P t i) (hO : OrOK P O F w0) (hD : ops.toList.all (okD N) = true) (hT : ops.toList.all (ndO T) = true) (h : Cz F w0 N ρ st a w) (ht : Kt T a0 a) (hp : Pth ty O ops ops.toList st es st') (hQ : ∀ ρ' a' w', Cz F w0 N ρ' st' a' w' → Kt T a0 a' → Q .normal a' w') : wpOps P ops Q (List.range ops.size) a w := by
 rw [List.range_eq_range']
 have key : ∀ (l : List Oper) (i : Nat) (ρ : Env) (st : St) (a : Act) (w : World) (es : List Ef), ops.toList.drop i = l → Cz F w0 N ρ st a w → Kt T a0 a → Pth ty O ops l st es st' → wpOps P ops Q (List.range' i l.length) a w := by
  intro l
  induction l with
  | nil =>
   intro i ρ st a w es hl h ht hp
   cases hp with
   | nil he => exact hQ ρ a w (h.congr he) ht
  | cons o l ih =>
   intro i ρ st a w es hl h ht hp
   cases hp with
   | cons he ho hpre hr =>
    rw [List.length_cons, List.range'_succ, wpOps_cons]
    have hi : ops[i]? = some o := by
     rw [← Array.getElem?_toList]
     have : (ops.toList.drop i)[0]? = some o := by rw [hl]; rfl
     rwa [List.getElem?_drop] at this
    have hm : o ∈ ops.toList := by rw [← Array.getElem?_toList] at hi; exact List.mem_of_getElem? hi
    refine opf_sound hty hO hi (h.congr he) ho hpre (okD_lt (List.all_eq_true.1 hD o hm)) (fun ρ' u w' hc => ?_)
    refine ih (i + 1) ρ' _ _ w' _ ?_ hc (ht.put fun t e => ndO_dst (List.all_eq_true.1 hT o hm) e) hr
    rw [← List.drop_drop, hl]; rfl
 have := key ops.toList 0 ρ st a w es (by simp) h ht hp
 simpa using this
end
section
variable (ty : TypeId → Option TI) (O : Orac) (N : Nat) (LF : Code → St → (St → Prop) → (St → Prop) → Prop) (PN PR : St → Prop) (T : Nat → Bool)
def runR : Bool → Nat → List It → St → Prop
 | _, 0, _, _ => False
 | _, _ + 1, [], st => PN st
 | b, n + 1, .blk _ :: k, st => runR b n k st
 | b, n + 1, .brk g :: k, st => brkf (runR b n) (look st g) g k st
 | b, n + 1, .exe ops o l rs d :: k, st => exef (runR b n) N (opf ty O ops o st) ops o l rs d k st
 | b, n + 1, .ops _ [] _ _ :: k, st => runR b n k st
 | b, n + 1, .ops ops (o :: l) rs d :: k, st => runR b n (brkK ops o (.exe ops o l rs d :: k)) st
 | b, n + 1, .code .skip :: k, st => runR b n k st
 | b, n + 1, .code (.seq x y) :: k, st => runR b n (.code x :: .code y :: k) st
 | b, n + 1, .code (.region _ ops d) :: k, st => (d = false ∧ ops.toList.all (ndO T) = true) ∧ runR b n (.ops ops ops.toList [] d :: k) st
 | b, n + 1, .code (.cond c x y) :: k, st => condf (runR b n) (evs st c) x y k st
 | b, n + 1, .code (.block id c) :: k, st => runR b n (.code c :: .blk id :: k) st
 | b, n + 1, .code (.exit id) :: k, st => exif (runR b n) (dropTo id k) st
 | _, _ + 1, .code .ret :: _, st => PR st
 | b, n + 1, .code (.rangeFunc g ps x y) :: k, st => b = false ∧ LF (.rangeFunc g ps x y) st (fun st' => runR true n k st') PR
 | _, _ + 1, _ :: _, _ => False
end
section
variable {P : Program} {ty : TypeId → Option TI} {O : Orac} {N : Nat} {LF : Code → St → (St → Prop) → (St → Prop) → Prop} {PN PR : St → Prop} {T : Nat → Bool} {b : Bool}
theorem brkR_eq {n g : Nat} {k : List It} {st : St} (h : runR ty O N LF PN PR T b n (.brk g :: k) st) : ∃ n' st', n' < n ∧ (∀ k, look st' k = look st k) ∧ runR ty O N LF PN PR T b n' k st' := by
 cases n with
 | zero => exact h.elim
 | succ n =>
  have h : brkf (runR ty O N LF PN PR T b n) (look st g) g k st := h
  unfold brkf at h
  split at h
  ·rename_i b1 hb
   have key : ∀ b', b1 = b' → ∀ k, look ((g, AV.s (.lit (.bool b'))) :: st) k = look st k := fun b' e k => by
    subst e
    by_cases e : k = g
    ·subst e; rw [look_same, hb]
    ·rw [look_other e]
   cases b1 with
   | true => exact ⟨n, _, by omega, key true rfl, h⟩
   | false => exact ⟨n, _, by omega, key false rfl, h⟩
  ·exact ⟨n, st, by omega, fun _ => rfl, h⟩
theorem brkKR_eq {n : Nat} {ops : Array Oper} {o : Oper} {k : List It} {st : St} (h : runR ty O N LF PN PR T b n (brkK ops o k) st) : ∃ n' st', n' ≤ n ∧ (∀ k, look st' k = look st k) ∧ runR ty O N LF PN PR T b n' k st' := by
 unfold brkK at h
 split at h
 ·split at h
  ·obtain ⟨n1, s1, l1, e1, r1⟩ := brkR_eq h
   obtain ⟨n2, s2, l2, e2, r2⟩ := brkR_eq r1
   exact ⟨n2, s2, by omega, fun k => (e2 k).trans (e1 k), r2⟩
  ·obtain ⟨n1, s1, l1, e1, r1⟩ := brkR_eq h
   exact ⟨n1, s1, by omega, e1, r1⟩
 ·split at h
  ·obtain ⟨n1, s1, l1, e1, r1⟩ := brkR_eq h
   exact ⟨n1, s1, by omega, e1, r1⟩
  ·exact ⟨n, st, Nat.le_refl _, fun _ => rfl, h⟩
 ·obtain ⟨n1, s1, l1, e1, r1⟩ := brkR_eq h
  exact ⟨n1, s1, by omega, e1, r1⟩
 ·exact ⟨n, st, Nat.le_refl _, fun _ => rfl, h⟩
theorem runR_path {ops : Array Oper} {d : Bool} : ∀ (l : List Oper) (n : Nat) (rs : List (List Nat × List Nat)) (k : List It) (st : St), runR ty O N LF PN PR T b n (.ops ops l rs d :: k) st →
  ∃ es st' n', n' < n ∧ Pth ty O ops l st es st' ∧ l.all (okD N) = true ∧ runR ty O N LF PN PR T b n' k st' := by
 intro l
 induction l with
 | nil =>
  intro n rs k st h
  cases n with
  | zero => exact h.elim
  | succ n =>
   exact ⟨[], st, n, by omega, .nil (fun _ => rfl), rfl, h⟩
 | cons o l ih =>
  intro n rs k st h
  cases n with
  | zero => exact h.elim
  | succ n =>
   have h : runR ty O N LF PN PR T b n (brkK ops o (.exe ops o l rs d :: k)) st := h
   obtain ⟨n1, s1, l1, e1, r1⟩ := brkKR_eq h
   cases n1 with
   | zero => exact r1.elim
   | succ n1 =>
    have r1 : exef (runR ty O N LF PN PR T b n1) N (opf ty O ops o s1) ops o l rs d k s1 := r1
    unfold exef at r1
    split at r1
    ·rename_i e he
     obtain ⟨c1, c2, c3⟩ := r1
     obtain ⟨es, st', n', l', hp, hD, hr⟩ := ih n1 _ k _ c3
     refine ⟨e :: es, st', n', by omega, .cons e1 he c2 hp, by rw [List.all_cons, c1, hD]; rfl, hr⟩
    ·exact r1.elim
def WkR (P : Program) (F : Fence) (m : Nat) (GN GR : Act → World → Prop) : List It → Exit → Act → World → Prop
 | [], .normal, a, w => GN a w
 | [], .ret, a, w => GR a w
 | [], _, _, _ => False
 | .code c :: k, e, a, w => Exit.then (c.wpIn F m P (WkR P F m GN GR k)) (WkR P F m GN GR k) e a w
 | .blk id :: k, e, a, w => Exit.inBlock id (WkR P F m GN GR k) e a w
 | _ :: _, _, _, _ => False
def isCB : It → Bool
 | .code _ => true
 | .blk _ => true
 | _ => false
section
variable {F : Fence} {m : Nat} {GN GR : Act → World → Prop} {a : Act} {w : World}
theorem wkR_ret (h : GR a w) : ∀ k, k.all isCB = true → WkR P F m GN GR k .ret a w := by
 intro k
 induction k with
 | nil => intro _; exact h
 | cons i k ih =>
  intro hk
  rw [List.all_cons, Bool.and_eq_true] at hk
  cases i with
  | code c => exact ih hk.2
  | blk id => exact ih hk.2
  | _ => cases hk.1
theorem wkR_out : ∀ k, ¬ LetsOut (WkR P F m GN GR k) := by
 intro k
 induction k with
 | nil => rintro ⟨a, w, h⟩; exact h
 | cons i k ih =>
  rintro ⟨a, w, h⟩
  cases i with
  | code c => exact ih ⟨a, w, h⟩
  | blk id => exact ih ⟨a, w, h⟩
  | _ => exact h
theorem wkR_exit {id : Nat} : ∀ k k', dropTo id k = some k' → WkR P F m GN GR k' .normal a w → k.all isCB = true → WkR P F m GN GR k (.exit id) a w := by
 intro k
 induction k with
 | nil => intro k' h; cases h
 | cons i k ih =>
  intro k' h hw hk
  rw [List.all_cons, Bool.and_eq_true] at hk
  cases i with
  | code c => exact ih k' h hw hk.2
  | blk j =>
   show Exit.inBlock j (WkR P F m GN GR k) (.exit id) a w
   unfold Exit.inBlock
   simp only
   unfold dropTo at h
   split at h
   ·rename_i e
    injection h with h; subst h; subst e
    rw [if_pos rfl]; exact hw
   ·rename_i e
    rw [if_neg (fun h => e h.symm)]; exact ih k' h hw hk.2
  | _ => cases hk.1
theorem drop_isCB {id : Nat} : ∀ k k', dropTo id k = some k' → k.all isCB = true → k'.all isCB = true := by
 intro k
 induction k with
 | nil => intro k' h; cases h
 | cons i k ih =>
  intro k' h hk
  rw [List.all_cons, Bool.and_eq_true] at hk
  cases i with
  | code c => exact ih k' h hk.2
  | blk j =>
   unfold dropTo at h
   split at h
   ·injection h with h; subst h; exact hk.2
   ·exact ih k' h hk.2
  | _ => cases hk.1
end
theorem runR_sound (hty : ∀ t i, ty t = some i → TiOK P t i) {G : Bool → Fx → Prop} {w0 : World} (hO : ∀ F, OrOK P O F w0) {ro : Option Nat} {m : Nat} {a0 : Act} {GN GR : Act → World → Prop}
  (hL : ∀ F c st K KX ρ a w, G false F → LF c st K KX → Cz F w0 N ρ st a w → Kt T a0 a → c.wpIn (Wf ro) m P (fun e a' w' => match e with
   | .normal => ∃ F' ρ' st', G true F' ∧ K st' ∧ Cz F' w0 N ρ' st' a' w' ∧ Kt T a0 a'
   | .ret => ∃ F' ρ' st', G true F' ∧ KX st' ∧ Cz F' w0 N ρ' st' a' w' ∧ Kt T a0 a'
   | _ => False) a w)
  (hN : ∀ b F ρ st a w, G b F → PN st → Cz F w0 N ρ st a w → Kt T a0 a → GN a w) (hR : ∀ b F ρ st a w, G b F → PR st → Cz F w0 N ρ st a w → Kt T a0 a → GR a w) :
  ∀ (n : Nat) (b : Bool) (F : Fx) (k : List It) (ρ : Env) (st : St) (a : Act) (w : World), k.all isCB = true → G b F → runR ty O N LF PN PR T b n k st → Cz F w0 N ρ st a w → Kt T a0 a → WkR P (Wf ro) m GN GR k .normal a w := by
 intro n
 induction n using Nat.strongRecOn with
 | ind n ih =>
  intro b F k ρ st a w hk hG h hz ht
  cases n with
  | zero => exact h.elim
  | succ n =>
   cases k with
   | nil => exact hN b F ρ st a w hG h hz ht
   | cons i k =>
    have hk' := hk
    rw [List.all_cons, Bool.and_eq_true] at hk
    cases i with
    | blk id => exact ih n (by omega) b F k ρ st a w hk.2 hG h hz ht
    | code c =>
     show c.wpIn _ _ P _ a w
     cases c with
     | skip => exact wpIn_skip (ih n (by omega) b F k ρ st a w hk.2 hG h hz ht)
     | seq x y => exact wpIn_seq (ih n (by omega) b F (.code x :: .code y :: k) ρ st a w (by simpa [isCB] using hk.2) hG h hz ht)
     | region id ops d =>
      obtain ⟨⟨hd, hT⟩, h⟩ : (d = false ∧ ops.toList.all (ndO T) = true) ∧ runR ty O N LF PN PR T b n (.ops ops ops.toList [] d :: k) st := h
      subst hd
      obtain ⟨es, st', n', hl, hp, hD, hr⟩ := runR_path ops.toList n [] k st h
      refine wpIn_region (ops_in (wkR_out k) _ a w (fun i o ho => ndO_nd (List.all_eq_true.1 hT o ?_)) (plain_ops hty (hO F) hD hT hz ht hp fun ρ' a' w' hz' ht' => ih n' (by omega) b F k ρ' st' a' w' hk.2 hG hr hz' ht'))
      rw [← Array.getElem?_toList] at ho; exact List.mem_of_getElem? ho
     | cond c x y =>
      have h : condf (runR ty O N LF PN PR T b n) (evs st c) x y k st := h
      unfold condf at h
      split at h
      ·rename_i b1 hb
       refine wpIn_cond_split (t := b1) (RL.one.1 (hz.ev hb)) (fun hbt => ?_) (fun hbf => ?_)
       ·exact ih n (by omega) b F (.code x :: k) ρ st a w (by simpa [isCB] using hk.2) hG (by rw [hbt] at h; exact h) hz ht
       ·exact ih n (by omega) b F (.code y :: k) ρ st a w (by simpa [isCB] using hk.2) hG (by rw [hbf] at h; exact h) hz ht
      ·exact h.elim
     | block id c => exact wpIn_block (ih n (by omega) b F (.code c :: .blk id :: k) ρ st a w (by simpa [isCB] using hk.2) hG h hz ht)
     | exit id =>
      have h : exif (runR ty O N LF PN PR T b n) (dropTo id k) st := h
      unfold exif at h
      split at h
      ·rename_i k' hkk
       exact wpIn_exit (wkR_exit k k' hkk (ih n (by omega) b F k' ρ st a w (drop_isCB k k' hkk hk.2) hG h hz ht) hk.2)
      ·exact h.elim
     | ret => exact wpIn_ret (wkR_ret (hR b F ρ st a w hG h hz ht) k hk.2)
     | rangeFunc g ps x y =>
      obtain ⟨hb, h⟩ : b = false ∧ LF (.rangeFunc g ps x y) st (fun st' => runR ty O N LF PN PR T true n k st') PR := h
      subst hb
      refine wpIn_mono (hL F _ st _ _ ρ a w hG h hz ht) fun e a' w' he => ?_
      cases e with
      | normal =>
       obtain ⟨F', ρ', st', hG', hK, hz', ht'⟩ := he
       exact ih n (by omega) true F' k ρ' st' a' w' hk.2 hG' hK hz' ht'
      | ret =>
       obtain ⟨F', ρ', st', hG', hK, hz', ht'⟩ := he
       exact wkR_ret (hR true F' ρ' st' a' w' hG' hK hz' ht') k hk.2
      | _ => exact he.elim
     | _ => exact h.elim
    | _ => cases hk.1
end
end Go.Proofs.YtobcbhppmgnioaaGreatDoor
