/- Regions on states: in the text's order, and in any order that the edges leave open. -/
import Derived.Test.YtobcbhppmgnioaaGreatDoorSAi5
namespace Go.Proofs.YtobcbhppmgnioaaGreatDoor
open Go.RowKit Nx
set_option linter.unusedVariables false
set_option linter.unusedSimpArgs false
inductive Pth (ty : TypeId → Option TI) (O : Orac) (ops : Array Oper) : List Oper → St → List Ef → St → Prop
 | nil {st st' : St} : (∀ k, look st' k = look st k) → Pth ty O ops [] st [] st'
 | cons {o : Oper} {l : List Oper} {st s1 st' : St} {e : Ef} {es : List Ef} : (∀ k, look s1 k = look st k) → opf ty O ops o s1 = some e → e.1 → Pth ty O ops l (e.2.2 ++ s1) es st' → Pth ty O ops (o :: l) st (e :: es) st'
def okD (N : Nat) (o : Oper) : Bool := match o.dst with
 | some d => decide (d < N)
 | none => true
theorem okD_lt {N : Nat} {o : Oper} (h : okD N o = true) : ∀ d, o.dst = some d → d < N := fun d hd => by unfold okD at h; rw [hd] at h; simpa using h
theorem look_append (u s : St) (k : Nat) : look (u ++ s) k = match look u k with
  | some v => some v
  | none => look s k := by
 induction u with
 | nil => rfl
 | cons p u ih =>
  obtain ⟨j, a⟩ := p
  by_cases e : k = j
  ·simp [look, e]
  ·rw [List.cons_append, look_other e, look_other e]; exact ih
theorem look_app_congr {u s s' : St} (h : ∀ k, look s' k = look s k) (k : Nat) : look (u ++ s') k = look (u ++ s) k := by
 rw [look_append, look_append, h]
section
variable {P : Program} {F : Fx} {w0 w : World} {N : Nat} {ρ : Env} {st st' : St} {a : Act} {Q : Exit → Act → World → Prop} {ty : TypeId → Option TI} {O : Orac} {es : List Ef} {ops : Array Oper}
theorem plain_sound (hty : ∀ t i, ty t = some i → TiOK P t i) (hO : OrOK P O F w0) (hD : ops.toList.all (okD N) = true) (h : Cz F w0 N ρ st a w) (hp : Pth ty O ops ops.toList st es st') (hQ : ∀ ρ' a' w', Cz F w0 N ρ' st' a' w' → Q .normal a' w') {id : Nat} : (Code.region id ops false).wp P Q a w := by
 refine wp_region ?_
 rw [List.range_eq_range']
 have key : ∀ (l : List Oper) (i : Nat) (ρ : Env) (st : St) (a : Act) (w : World) (es : List Ef), ops.toList.drop i = l → Cz F w0 N ρ st a w → Pth ty O ops l st es st' → wpOps P ops Q (List.range' i l.length) a w := by
  intro l
  induction l with
  | nil =>
   intro i ρ st a w es hl h hp
   cases hp with
   | nil he => exact hQ ρ a w (h.congr he)
  | cons o l ih =>
   intro i ρ st a w es hl h hp
   cases hp with
   | cons he ho hpre hr =>
    rw [List.length_cons, List.range'_succ, wpOps_cons]
    have hi : ops[i]? = some o := by
     rw [← Array.getElem?_toList]
     have : (ops.toList.drop i)[0]? = some o := by rw [hl]; rfl
     rwa [List.getElem?_drop] at this
    have hm : o ∈ ops.toList := by rw [← Array.getElem?_toList] at hi; exact List.mem_of_getElem? hi
    refine opf_sound hty hO hi (h.congr he) ho hpre (okD_lt (List.all_eq_true.1 hD o hm)) (fun ρ' u w' hc => ?_)
    refine ih (i + 1) ρ' _ _ w' _ ?_ hc hr
    rw [← List.drop_drop, hl]; rfl
 have := key ops.toList 0 ρ st a w es (by simp) h hp
 simpa using this
end
theorem Cz.drew {F : Fx} {w0 w : World} {N : Nat} {ρ : Env} {st : St} {a : Act} (h : Cz F w0 N ρ st a w) : Cz F w0 N ρ st a w.drew := by
 have hb := bdr (Below.refl w.heap.size w)
 have hk : Keeps (Sep ρ (dom st)) w w.drew := Keeps.below hb
 refine ⟨h.tb, h.bel.below hb, h.sz, h.df, fun t v hv => ?_, fun b v hv hne => ?_, h.inj, h.zz, h.gm, fun b x y z hv => h.gcs (grown_below hb) (fun _ _ _ e => by cases e) hk (Ext.refl _ _) rfl rfl rfl hv, h.gi, h.gd⟩
 ·obtain ⟨u, h1, h2⟩ := h.sl t v hv; exact ⟨u, h1, h2.mono (Ext.refl _ _) hk⟩
 ·obtain ⟨g, ls, T, cs, e, hB, hr, ho, hg⟩ := h.mm b v hv hne
  exact ⟨g, ls, T, cs, e, hB.drew, hr.mono (Ext.refl _ _) hk, ho, hg⟩
def accum : List Bool → List Ef → St → St
 | b :: l, e :: es, st => accum l es (if b then e.2.2 ++ st else st)
 | _, _, st => st
def wrs (e : Ef) (k : Nat) : Prop := (look e.2.2 k).isSome = true
theorem accum_congr {k : Nat} : ∀ (es : List Ef) (l l' : List Bool) (s s' : St), l.length = es.length → l'.length = es.length → (∀ (j : Nat) (e : Ef), es[j]? = some e → wrs e k → l[j]? = l'[j]?) → look s k = look s' k → look (accum l es s) k = look (accum l' es s') k := by
 intro es
 induction es with
 | nil =>
  intro l l' s s' h1 h2 _ h
  cases l with
  | nil => cases l' with
   | nil => exact h
   | cons _ _ => simp at h2
  | cons _ _ => simp at h1
 | cons e es ih =>
  intro l l' s s' h1 h2 hw h
  cases l with
  | nil => simp at h1
  | cons b l => cases l' with
   | nil => simp at h2
   | cons b' l' =>
    unfold accum
    refine ih l l' _ _ (by simpa using h1) (by simpa using h2) (fun j e' he hw' => by simpa using hw (j + 1) e' (by simpa using he) hw') ?_
    by_cases hk : wrs e k
    ·have hb : b = b' := by simpa using hw 0 e rfl hk
     subst hb
     cases b with
     | false => simpa using h
     | true =>
      simp only [if_true]
      rw [look_append, look_append, h]
    ·have hn : look e.2.2 k = none := by
      unfold wrs at hk
      cases hh : look e.2.2 k with
      | none => rfl
      | some v => rw [hh] at hk; exact absurd rfl hk
     have e1 : ∀ (c : Bool) (s : St), look (if c then e.2.2 ++ s else s) k = look s k := fun c s => by
      cases c with
      | false => rfl
      | true => simp only [if_true]; rw [look_append, hn]
     rw [e1, e1, h]
theorem accum_last {k i : Nat} {e : Ef} : ∀ (es : List Ef) (l : List Bool) (s : St), l.length = es.length → es[i]? = some e → l[i]? = some true → wrs e k → (∀ (j : Nat) (e' : Ef), es[j]? = some e' → i < j → wrs e' k → l[j]? = some false) → look (accum l es s) k = look e.2.2 k := by
 induction i with
 | zero =>
  intro es l s h1 h2 h3 h4 h5
  cases es with
  | nil => simp at h2
  | cons e0 es =>
   cases l with
   | nil => simp at h1
   | cons b l =>
    simp at h2 h3
    subst h2; subst h3
    unfold accum
    simp only [if_true]
    have hnone : ∀ (es : List Ef) (l : List Bool) (s : St), l.length = es.length → (∀ (j : Nat) (e' : Ef), es[j]? = some e' → wrs e' k → l[j]? = some false) → look (accum l es s) k = look s k := by
     intro es
     induction es with
     | nil => intro l s h1 _; cases l with
      | nil => rfl
      | cons _ _ => simp at h1
     | cons e1 es ih =>
      intro l s h1 h2
      cases l with
      | nil => simp at h1
      | cons b l =>
       unfold accum
       rw [ih l _ (by simpa using h1) (fun j e' he hw => by simpa using h2 (j + 1) e' (by simpa using he) hw)]
       cases b with
       | false => rfl
       | true =>
        simp only [if_true]
        have : ¬ wrs e1 k := fun hw => by have := h2 0 e1 rfl hw; simp at this
        rw [look_append]
        unfold wrs at this
        cases hh : look e1.2.2 k with
        | none => rfl
        | some v => rw [hh] at this; exact absurd rfl this
    rw [hnone es l _ (by simpa using h1) (fun j e' he hw => by simpa using h5 (j + 1) e' (by simpa using he) (by omega) hw)]
    rw [look_append]
    unfold wrs at h4
    cases hh : look e0.2.2 k with
    | none => rw [hh] at h4; cases h4
    | some v => rfl
 | succ i ih =>
  intro es l s h1 h2 h3 h4 h5
  cases es with
  | nil => simp at h2
  | cons e0 es =>
   cases l with
   | nil => simp at h1
   | cons b l =>
    unfold accum
    exact ih es l _ (by simpa using h1) (by simpa using h2) (by simpa using h3) h4 (fun j e' he hlt hw => by simpa using h5 (j + 1) e' (by simpa using he) (by omega) hw)
theorem Pth.at_ {ty : TypeId → Option TI} {O : Orac} {ops : Array Oper} {l : List Oper} {st st' : St} {es : List Ef} (h : Pth ty O ops l st es st') :
  es.length = l.length ∧ (∀ k, look st' k = look (accum (List.replicate es.length true) es st) k) ∧
  ∀ i o e, l[i]? = some o → es[i]? = some e → e.1 ∧ ∃ s, opf ty O ops o s = some e ∧ ∀ k, look s k = look (accum (List.replicate i true ++ List.replicate (es.length - i) false) es st) k := by
 induction h with
 | nil he => exact ⟨rfl, he, fun i o e h => by simp at h⟩
 | @cons o l st s1 st' e es he ho hp hr ih =>
  obtain ⟨i1, i2, i3⟩ := ih
  have hcg : ∀ (es : List Ef) (bs : List Bool) (k : Nat) (s s' : St), (∀ k, look s k = look s' k) → look (accum bs es s) k = look (accum bs es s') k := by
   intro es
   induction es with
   | nil => intro bs k s s' h; cases bs <;> exact h k
   | cons e es ih2 =>
    intro bs k s s' h
    cases bs with
    | nil => exact h k
    | cons b bs =>
     unfold accum
     refine ih2 bs k _ _ (fun k => ?_)
     cases b with
     | false => exact h k
     | true => exact look_app_congr h k
  refine ⟨by simp [i1], fun k => ?_, fun i o' e' h1 h2 => ?_⟩
  ·rw [i2 k, List.length_cons, List.replicate_succ]
   show _ = look (accum (List.replicate es.length true) es (e.2.2 ++ st)) k
   exact hcg es _ k _ _ (fun k => look_app_congr he k)
  ·cases i with
   | zero =>
    simp at h1 h2
    subst h1; subst h2
    refine ⟨hp, s1, ho, fun k => ?_⟩
    rw [he k]
    have : ∀ (es : List Ef) (n : Nat) (s : St), look (accum (List.replicate n false) es s) k = look s k := by
     intro es
     induction es with
     | nil => intro n s; cases n <;> rfl
     | cons e es ih2 =>
      intro n s
      cases n with
      | zero => rfl
      | succ n => rw [List.replicate_succ]; exact ih2 n s
    simp only [List.replicate_zero, List.nil_append]
    rw [this]
   | succ i =>
    obtain ⟨j1, s, j2, j3⟩ := i3 i o' e' (by simpa using h1) (by simpa using h2)
    refine ⟨j1, s, j2, fun k => ?_⟩
    rw [j3 k, List.replicate_succ, List.length_cons, Nat.add_sub_add_right]
    show _ = look (accum (List.replicate i true ++ List.replicate (es.length - i) false) es (e.2.2 ++ st)) k
    exact hcg es _ k _ _ (fun k => look_app_congr he k)
def pmask (ms : List Nat) : List Edge → Nat
 | [] => 0
 | e :: es => (if Region.binds .any e then 2 ^ e.on ||| ms.getD e.on 0 else 0) ||| pmask ms es
def masks : List Oper → List Nat → List Nat
 | [], ms => ms
 | o :: l, ms => masks l (ms ++ [pmask ms o.after.toList])
def keysOf (e : Ef) : List Nat × List Nat := (e.2.1, e.2.2.map (·.1))
def clash (r s : List Nat × List Nat) : Bool := r.2.any (fun k => s.1.contains k || s.2.contains k) || r.1.any (fun k => s.2.contains k)
def backB : List Oper → Nat → Bool
 | [], _ => true
 | o :: l, j => o.after.toList.all (fun e => !Region.binds .any e || decide (e.on < j)) && backB l (j + 1)
def clashB (rs : List (List Nat × List Nat)) (ms : List Nat) : Bool := (List.range rs.length).all fun j => (List.range j).all fun i => !clash (rs.getD i ([], [])) (rs.getD j ([], [])) || (ms.getD j 0).testBit i
def chk (ops : Array Oper) (rs : List (List Nat × List Nat)) : Bool := backB ops.toList 0 && clashB rs (masks ops.toList [])
def bound (l : List Bool) (o : Oper) : Prop := ∀ e ∈ o.after.toList, Region.binds .any e = true → l.getD e.on false = true
def Closed (ops : Array Oper) (l : List Bool) : Prop := ∀ j o, ops[j]? = some o → l.getD j false = true → bound l o
theorem masks_pre : ∀ (l : List Oper) (ms : List Nat), ∃ r, masks l ms = ms ++ r := by
 intro l
 induction l with
 | nil => intro ms; exact ⟨[], by simp [masks]⟩
 | cons o l ih => intro ms; obtain ⟨r, hr⟩ := ih (ms ++ [pmask ms o.after.toList]); exact ⟨_, by rw [masks, hr, List.append_assoc]⟩
theorem pmask_bit {ms : List Nat} {i : Nat} : ∀ {es : List Edge}, (pmask ms es).testBit i = true → ∃ e ∈ es, Region.binds .any e = true ∧ (i = e.on ∨ (ms.getD e.on 0).testBit i = true) := by
 intro es
 induction es with
 | nil => intro h; simp [pmask] at h
 | cons e es ih =>
  intro h
  unfold pmask at h
  rw [Nat.testBit_or, Bool.or_eq_true] at h
  rcases h with h | h
  ·split at h
   ·rename_i hb
    rw [Nat.testBit_or, Bool.or_eq_true] at h
    refine ⟨e, by simp, hb, ?_⟩
    rcases h with h | h
    ·rw [Nat.testBit_two_pow] at h; simp at h; exact .inl h.symm
    ·exact .inr h
   ·simp at h
  ·obtain ⟨e', h1, h2⟩ := ih h; exact ⟨e', by simp [h1], h2⟩
theorem masks_get : ∀ (l : List Oper) (ms : List Nat) (j : Nat) (o : Oper), ms.length ≤ j → l[j - ms.length]? = some o → ∃ ms' : List Nat, ms'.length = j ∧ (∃ r, masks l ms = ms' ++ r) ∧ (masks l ms).getD j 0 = pmask ms' o.after.toList := by
 intro l
 induction l with
 | nil => intro ms j o h1 h2; simp at h2
 | cons o' l ih =>
  intro ms j o h1 h2
  by_cases e : j = ms.length
  ·subst e
   simp at h2; subst h2
   obtain ⟨r, hr⟩ := masks_pre l (ms ++ [pmask ms o'.after.toList])
   refine ⟨ms, rfl, ⟨pmask ms o'.after.toList :: r, by rw [masks, hr]; simp⟩, ?_⟩
   rw [masks, hr]
   simp [List.getD_eq_getElem?_getD]
  ·have hj : j - ms.length = (j - (ms.length + 1)) + 1 := by omega
   rw [hj, List.getElem?_cons_succ] at h2
   exact ih (ms ++ [pmask ms o'.after.toList]) j o (by simp; omega) (by simpa using h2)
theorem anc_listed {ops : Array Oper} {l : List Bool} (hc : Closed ops l) : ∀ (j : Nat) (o : Oper), ops[j]? = some o → bound l o → ∀ i, ((masks ops.toList []).getD j 0).testBit i = true → l.getD i false = true := by
 intro j
 induction j using Nat.strongRecOn with
 | ind j ih =>
  intro o ho hb i hi
  obtain ⟨ms', h1, ⟨r, h2⟩, h3⟩ := masks_get ops.toList [] j o (Nat.zero_le _) (by simpa using ho)
  rw [h3] at hi
  obtain ⟨e, he, hbd, hor⟩ := pmask_bit hi
  have hl := hb e he hbd
  rcases hor with rfl | hor
  ·exact hl
  ·have hlt : e.on < j := by
    rcases Nat.lt_or_ge e.on j with h | h
    ·exact h
    ·rw [List.getD_eq_getElem?_getD, List.getElem?_eq_none (by omega)] at hor; simp at hor
   have hm : ms'.getD e.on 0 = (masks ops.toList []).getD e.on 0 := by
    rw [h2, List.getD_eq_getElem?_getD, List.getD_eq_getElem?_getD, List.getElem?_append_left (by omega)]
   rw [hm] at hor
   cases hq : ops[e.on]? with
   | none =>
    have hsz : ops.size ≤ e.on := by
     rcases Nat.lt_or_ge e.on ops.size with h | h
     ·rw [Array.getElem?_eq_getElem h] at hq; cases hq
     ·exact h
    have hj : j < ops.size := by
     rcases Nat.lt_or_ge j ops.size with h | h
     ·exact h
     ·rw [Array.getElem?_eq_none h] at ho; cases ho
    omega
   | some o' => exact ih e.on hlt o' hq (hc e.on o' hq hl) i hor
theorem back_lt : ∀ (l : List Oper) (j i : Nat) (o : Oper), backB l j = true → l[i]? = some o → ∀ e ∈ o.after.toList, Region.binds .any e = true → e.on < j + i := by
 intro l
 induction l with
 | nil => intro j i o _ h; simp at h
 | cons o' l ih =>
  intro j i o hb h e he hbd
  unfold backB at hb
  rw [Bool.and_eq_true] at hb
  cases i with
  | zero =>
   simp at h; subst h
   have := List.all_eq_true.1 hb.1 e he
   rw [hbd] at this
   simpa using this
  | succ i => have := ih (j + 1) i o hb.2 (by simpa using h) e he hbd; omega
section
variable {P : Program} {F : Fx} {w0 w : World} {N : Nat} {ρ : Env} {st st' : St} {a : Act} {Q : Exit → Act → World → Prop} {ty : TypeId → Option TI} {O : Orac} {es : List Ef} {ops : Array Oper}
theorem wrs_key {e : Ef} {k : Nat} (h : wrs e k) : k ∈ (keysOf e).2 := by
 unfold wrs at h
 unfold keysOf
 simp only
 generalize e.2.2 = u at h
 induction u with
 | nil => simp [look] at h
 | cons p u ih =>
  obtain ⟨j, v⟩ := p
  unfold look at h
  split at h
  ·rename_i hj; subst hj; simp
  ·simp; exact .inr (by simpa using ih h)
theorem clash_anc {i j : Nat} {ei ej : Ef} (hc : clashB (es.map keysOf) (masks ops.toList []) = true) (hij : i < j) (hi : es[i]? = some ei) (hj : es[j]? = some ej) (hcl : clash (keysOf ei) (keysOf ej) = true) : ((masks ops.toList []).getD j 0).testBit i = true := by
 have hjl : j < es.length := by
  rcases Nat.lt_or_ge j es.length with h | h
  ·exact h
  ·rw [List.getElem?_eq_none h] at hj; cases hj
 have h1 := List.all_eq_true.1 (List.all_eq_true.1 hc j (by simpa using hjl)) i (by simpa using hij)
 have e1 : (es.map keysOf).getD i ([], []) = keysOf ei := by simp [List.getD_eq_getElem?_getD, hi]
 have e2 : (es.map keysOf).getD j ([], []) = keysOf ej := by simp [List.getD_eq_getElem?_getD, hj]
 rw [e1, e2, hcl] at h1
 simpa using h1
theorem drawn_sound (hm : P.follows .mixedOrders = true) (hty : ∀ t i, ty t = some i → TiOK P t i) (hO : OrOK P O F w0) (hD : ops.toList.all (okD N) = true) (h : Cz F w0 N ρ st a w) (hp : Pth ty O ops ops.toList st es st') (hc : chk ops (es.map keysOf) = true)
  (hQ : ∀ ρ' a' w', Cz F w0 N ρ' st' a' w' → Q .normal a' w') {id : Nat} : (Code.region id ops true).wp P Q a w := by
 obtain ⟨p1, p2, p3⟩ := hp.at_
 unfold chk at hc
 rw [Bool.and_eq_true] at hc
 obtain ⟨hback, hclash⟩ := hc
 have hn : es.length = ops.size := by rw [p1, Array.length_toList]
 have hrd : ∀ (l : List Bool), l.length = ops.size → ∀ i ∈ Region.ready .any ops l.toArray, ∃ o e, ops[i]? = some o ∧ es[i]? = some e ∧ l[i]? = some false ∧ bound l o := by
  intro l hl i hi
  unfold Region.ready at hi
  rw [List.mem_filter] at hi
  obtain ⟨h1, h2⟩ := hi
  have hlt : i < ops.size := by simpa using h1
  rw [Bool.and_eq_true] at h2
  obtain ⟨h3, h4⟩ := h2
  rw [Array.getElem?_eq_getElem hlt] at h4
  refine ⟨ops[i], es[i], Array.getElem?_eq_getElem hlt, List.getElem?_eq_getElem (by omega), ?_, ?_⟩
  ·have : i < l.length := by omega
   simp [this] at h3
   rw [List.getElem?_eq_getElem this, h3]
  ·intro e he hb
   simp only [Option.map_some, Option.getD_some, Array.all_eq_true_iff_forall_mem] at h4
   have := h4 e (by simpa using he)
   rw [hb] at this
   simpa using this
 refine region_inv (N := ops.size) hm rfl (fun L a w => ∃ l : List Bool, L = l.toArray ∧ l.length = ops.size ∧ Closed ops l ∧ ∃ ρ, Cz F w0 N ρ (accum l es st) a w) ?_ ?_ ?_ ?_
 ·refine ⟨List.replicate ops.size false, by simp, by simp, fun j o _ hj => ?_, ρ, ?_⟩
  ·rw [List.getD_eq_getElem?_getD, List.getElem?_replicate] at hj
   split at hj <;> cases hj
  ·have : ∀ (es : List Ef) (n : Nat) (s : St), accum (List.replicate n false) es s = s := by
    intro es
    induction es with
    | nil => intro n s; cases n <;> rfl
    | cons e es ih2 =>
     intro n s
     cases n with
     | zero => rfl
     | succ n => rw [List.replicate_succ]; exact ih2 n s
   rw [this]
   exact h.drew
 ·rintro L a w - ⟨l, rfl, hl, hcl, _⟩ i hi
  obtain ⟨o, e, h1, h2, h3, h4⟩ := hrd l hl i hi
  simpa using h3
 ·rintro L a w - ⟨l, rfl, hl, hcl, ρ, hz⟩ i hi
  obtain ⟨o, e, ho, he, hf, hb⟩ := hrd l hl i hi
  have hlt : i < ops.size := by
   rcases Nat.lt_or_ge i ops.size with h | h
   ·exact h
   ·rw [Array.getElem?_eq_none h] at ho; cases ho
  obtain ⟨hpre, s, hs, hsl⟩ := p3 i o e (by simpa using ho) he
  have hgd : ∀ j b, l[j]? = some b → l.getD j false = b := fun j b h => by rw [List.getD_eq_getElem?_getD, h]; rfl
  have hlater : ∀ j e', i < j → es[j]? = some e' → clash (keysOf e) (keysOf e') = true → l[j]? = some false := fun j e' hij hj hq => by
   have hjl : j < l.length := by
    rcases Nat.lt_or_ge j es.length with h | h
    ·omega
    ·rw [List.getElem?_eq_none h] at hj; cases hj
   have ha := clash_anc (ops := ops) hclash hij he hj hq
   rw [List.getElem?_eq_getElem hjl]
   cases hv : l[j] with
   | false => rfl
   | true =>
    have hjo : j < ops.size := by omega
    have hg : l.getD j false = true := hgd j true (by rw [List.getElem?_eq_getElem hjl, hv])
    have := anc_listed hcl j ops[j] (Array.getElem?_eq_getElem hjo) (hcl j _ (Array.getElem?_eq_getElem hjo) hg) i ha
    rw [hgd i false hf] at this; cases this
  have hreads : ∀ k ∈ e.2.1, look (accum l es st) k = look s k := fun k hk => by
   rw [hsl k]
   refine accum_congr es l _ st st (by omega) (by simp; omega) (fun j e' hj hw => ?_) rfl
   have hjl : j < es.length := by
    rcases Nat.lt_or_ge j es.length with h | h
    ·exact h
    ·rw [List.getElem?_eq_none h] at hj; cases hj
   have hwk := wrs_key hw
   rcases Nat.lt_trichotomy j i with hji | hji | hji
   ·have hq : clash (keysOf e') (keysOf e) = true := by
     unfold clash
     rw [Bool.or_eq_true]
     exact .inl (List.any_eq_true.2 ⟨k, hwk, by rw [Bool.or_eq_true]; exact .inl (by simpa [keysOf] using hk)⟩)
    have ha := clash_anc (ops := ops) hclash hji hj he hq
    have := anc_listed hcl i o ho hb j ha
    rw [List.getElem?_append_left (by simpa using hji), List.getElem?_replicate, if_pos hji]
    rw [List.getD_eq_getElem?_getD] at this
    cases hv : l[j]? with
    | none => rw [hv] at this; cases this
    | some b => rw [hv] at this; exact congrArg some this
   ·subst hji
    rw [hf, List.getElem?_append_right (by simp), List.getElem?_replicate, if_pos (by simp; omega)]
   ·have hq : clash (keysOf e) (keysOf e') = true := by
     unfold clash
     rw [Bool.or_eq_true]
     exact .inr (List.any_eq_true.2 ⟨k, by simpa [keysOf] using hk, by simpa using hwk⟩)
    rw [hlater j e' hji hj hq, List.getElem?_append_right (by simp; omega), List.getElem?_replicate, if_pos (by simp; omega)]
  have hop := opf_congr hO hs hreads
  have hmem : o ∈ ops.toList := by rw [← Array.getElem?_toList] at ho; exact List.mem_of_getElem? ho
  refine opf_sound hty hO ho hz hop hpre (okD_lt (List.all_eq_true.1 hD o hmem)) (fun ρ' u w' hz' => ?_)
  refine ⟨l.set i true, by simp, by simpa using hl, fun j o' hj' hjl => ?_, ρ', hz'.congr (fun k => ?_)⟩
  ·intro e' he' hb'
   have hset : ∀ j, (l.set i true).getD j false = if j = i then true else l.getD j false := by
    intro j
    rw [List.getD_eq_getElem?_getD, List.getElem?_set]
    by_cases e : i = j
    ·subst e; rw [if_pos rfl, if_pos rfl, if_pos (by omega)]; rfl
    ·rw [if_neg e, if_neg (fun h => e h.symm), List.getD_eq_getElem?_getD]
   rw [hset] at hjl ⊢
   split
   ·rfl
   ·split at hjl
    ·rename_i hji; subst hji
     rw [ho] at hj'; injection hj' with hj'; subst hj'
     exact hb e' he' hb'
    ·exact hcl j o' hj' hjl e' he' hb'
  ·by_cases hw : wrs e k
   ·rw [accum_last (i := i) (e := e) es (l.set i true) st (by simp; omega) he (by rw [List.getElem?_set_self (by omega)]) hw (fun j e' hj hij hw' => ?_)]
    ·rw [look_append]
     unfold wrs at hw
     cases hh : look e.2.2 k with
     | none => rw [hh] at hw; cases hw
     | some v => rfl
    ·rw [List.getElem?_set_ne (by omega)]
     refine hlater j e' hij hj ?_
     unfold clash
     rw [Bool.or_eq_true]
     exact .inl (List.any_eq_true.2 ⟨k, wrs_key hw, by rw [Bool.or_eq_true]; exact .inr (by simpa using wrs_key hw')⟩)
   ·have hnone : look e.2.2 k = none := by
     unfold wrs at hw
     cases hh : look e.2.2 k with
     | none => rfl
     | some v => rw [hh] at hw; exact absurd rfl hw
    rw [look_append, hnone]
    refine accum_congr es _ _ st st (by simp; omega) (by omega) (fun j e' hj hw' => ?_) rfl
    have : i ≠ j := fun hij => by subst hij; rw [he] at hj; injection hj with hj; subst hj; exact hw hw'
    rw [List.getElem?_set_ne this]
 ·rintro L a w - ⟨l, rfl, hl, hcl, ρ, hz⟩ hr
  have hall : ∀ j, j < ops.size → l[j]? = some true := by
   intro j
   induction j using Nat.strongRecOn with
   | ind j ih =>
    intro hj
    have hjl : j < l.length := by omega
    rw [List.getElem?_eq_getElem hjl]
    cases hv : l[j] with
    | true => rfl
    | false =>
     exfalso
     have hmem : j ∈ Region.ready .any ops l.toArray := by
      unfold Region.ready
      rw [List.mem_filter]
      refine ⟨by simpa using hj, ?_⟩
      rw [Bool.and_eq_true, Array.getElem?_eq_getElem hj]
      refine ⟨by simp [hjl, hv], ?_⟩
      simp only [Option.map_some, Option.getD_some, Array.all_eq_true_iff_forall_mem]
      intro e he
      cases hb : Region.binds .any e with
      | false => rfl
      | true =>
       have hlt := back_lt ops.toList 0 j ops[j] hback (by simp [hj]) e (by simpa using he) hb
       rw [Nat.zero_add] at hlt
       have := ih e.on hlt (by omega)
       have hel : e.on < l.length := by omega
       simp [hel]
       rw [List.getElem?_eq_getElem hel] at this
       injection this
     rw [hr] at hmem; cases hmem
  have hle : l = List.replicate es.length true := by
   apply List.ext_getElem?
   intro j
   rw [List.getElem?_replicate]
   rcases Nat.lt_or_ge j ops.size with hj | hj
   ·rw [hall j hj, if_pos (by omega)]
   ·rw [List.getElem?_eq_none (by omega), if_neg (by omega)]
  exact hQ ρ a w (hz.congr (fun k => by rw [p2 k, ← hle]))
end
end Go.Proofs.YtobcbhppmgnioaaGreatDoor
