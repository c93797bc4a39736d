/- Decks: a pointer to a block of numbers that are drawn one by one; calls to which it is lent for writing. -/
import Derived.Test.YtobcbhppmgnioaaGreatDoorSAi3
import Derived.Test.YtobcbhppmgnioaaGreatDoorSSeat
namespace Go.Proofs.YtobcbhppmgnioaaGreatDoor
set_option maxHeartbeats 2000000
set_option maxRecDepth 100000
open Go.RowKit Nx
set_option linter.unusedVariables false
set_option linter.unusedSimpArgs false
def dk (xs : List Nat) (k : Nat) : Nat := xs.getD k 0
theorem dk_lt {xs : List Nat} (h : Small B64 xs) (k : Nat) : dk xs k < B64 := by
 unfold dk
 cases hx : xs[k]? with
 | none => rw [List.getD_eq_getElem?_getD, hx]; show 0 < B64; unfold B64; omega
 | some x => rw [getD_of hx]; exact h.get hx
def DkT (w : World) (g : Nat) (T : TypeId) (A : Option Addr) (n c k : Nat) : Prop := Blk w g T #[.slice A n c, .int .i64 (k : Int)]
section
variable {w w' : World} {g : Nat} {T : TypeId} {A : Option Addr} {n c k : Nat}
theorem DkT.c0 (h : DkT w g T A n c k) : w.cell? ⟨g, 0, none⟩ = some (.slice A n c) := by have := Blk.cell h 0; simpa using this
theorem DkT.c1 (h : DkT w g T A n c k) : w.cell? ⟨g, 1, none⟩ = some (.int .i64 (k : Int)) := by have := Blk.cell h 1; simpa using this
theorem DkT.fz (h : DkT w g T A n c k) (i : Nat) : w.frozen? ⟨g, i, none⟩ = false := Blk.frozen h i
theorem DkT.step (h : DkT w g T A n c k) (hb : Below w.heap.size w w') : DkT w' g T A n c k := Blk.below h hb h.lt
theorem DkT.end_ {m : Nat} (h : DkT w g T A n c k) : DkT ((w.drewN m).setCell ⟨g, 1, none⟩ (.int .i64 ((k : Int) + 1))) g T A n c (k + 1) ∧ Mv g w ((w.drewN m).setCell ⟨g, 1, none⟩ (.int .i64 ((k : Int) + 1))) := by
 refine ⟨?_, ?_⟩
 ·have h1 : Blk (w.drewN m) g T #[.slice A n c, .int .i64 (k : Int)] := Blk.drewN h m
  have := Blk.set_ h1 1 (.int .i64 ((k : Int) + 1))
  unfold DkT
  simpa using this
 ·have b0 : Below w.heap.size w (w.drewN m) := below_drewN (Below.refl _ _) m
  refine ⟨?_, ?_, ?_, ?_, fun i hi hg => ?_⟩
  ·exact b0.os
  ·exact b0.tape
  ·exact b0.output
  ·simp
  ·exact (Below.heap_setCell (w.drewN m) ⟨g, 1, none⟩ _ i (by simpa using hg)).trans (b0.block i hi)
theorem deck_ne (hd : DkT w g T A n c k) {kd : IntKind} (hk : kd = .u64 ∨ kd = .u32) {lo hi n' c' : Nat} {A' : Option Addr} {xs : List Nat} (h : Rd kd w lo hi A' n' c' xs) {ad : Addr} (h0 : 0 < n') (hA : A' = some ad) : ad.block ≠ g := by
 intro e
 obtain ⟨ad', e', _, _, hc⟩ := h.2.2 h0
 rw [hA] at e'; injection e' with e'; subst e'
 have hx : xs[0]? = some (xs[0]'(by have := h.1; omega)) := List.getElem?_eq_getElem _
 have h1 := hc 0 _ hx
 unfold World.cell? at h1
 rw [block_of_add, e, show w.heap[g]? = some (.cells _ T (0, 0)) from hd] at h1
 simp only at h1
 split at h1
 ·cases h1
 ·rw [← Array.getElem?_toList] at h1
  have h2 := List.mem_of_getElem? h1
  simp at h2
  rcases hk with rfl | rfl
  ·cases h2.1
  ·cases h2.1
theorem rd_mv (hd : DkT w g T A n c k) (m : Mv g w w') {kd : IntKind} (hk : kd = .u64 ∨ kd = .u32) {lo n' c' : Nat} {A' : Option Addr} {xs : List Nat} (h : Rd kd w lo w.heap.size A' n' c' xs) : Rd kd w' lo w'.heap.size A' n' c' xs := by
 refine ⟨h.1, h.2.1, fun hn => ?_⟩
 obtain ⟨ad, e, hl, hh, hc⟩ := h.2.2 hn
 refine ⟨ad, e, hl, Nat.lt_of_lt_of_le hh m.size, fun j u hu => ?_⟩
 rw [← hc j u hu]
 exact World.cell?_of_block (by rw [block_of_add]; exact m.block _ hh (deck_ne hd hk h hn e))
theorem mv_keeps {S : Nat → Prop} (hd : DkT w g T A n c k) (m : Mv g w w') (hS : ¬ S g) : Keeps S w w' :=
 ⟨fun _ _ _ _ h => ⟨rd_mv hd m (.inl rfl) h.1, h.2⟩, fun _ _ _ _ h => rd_mv hd m (.inr rfl) h, fun x _ _ h1 h2 => h2.of (m.block x h2.lt (fun e => by subst e; exact hS h1))⟩
theorem tab_ne (ht : Tab w) (hd : DkT w g T A n c k) : 0 ≠ g := by
 intro e
 have h1 := ht 0 (by omega)
 have h2 := hd.c0
 rw [← e] at h2
 rw [h2] at h1
 cases h1
end
def DPost (w : World) (g : Nat) (A : Option Addr) (n c k : Nat) (r : AV) (e : Ending) (w' : World) : Prop := ∃ u, e = .returned u ∧ (∀ ρ D, Old ρ D w → r.R ρ D w' u) ∧ (∃ T, DkT w' g T A n c k) ∧ Mv g w w'
def DCt (f : FuncId) (xs : List Nat) (rest : List AV) (k : Nat) (r : AV) (k' : Nat) : Prop := ∀ ρ D w g T A n c us, Tab w → DkT w g T A n c k → Arg w A n c xs → RA ρ D w rest us → (∀ x, Sep ρ D x → x ≠ g) → Calls Tryz.prog f (Value.pointer (some ⟨g, 0, none⟩) :: us).toArray w (DPost w g A n c k' r)
theorem Bel.mv {F : Fx} {w0 w w' : World} {g : Nat} {T : TypeId} {cs0 : Array Value} (hB : Blk w g T cs0) (h : Bel F w0 w) (hg : w0.heap.size ≤ g ∨ F g) (m : Mv g w w') : Bel F w0 w' :=
 ⟨m.os.trans h.os, m.tape.trans h.tape, m.output.trans h.output, Nat.le_trans h.size m.size, fun k hk hF => (m.block k (Nat.lt_of_lt_of_le hk h.size) (fun e => by subst e; rcases hg with hg | hg; omega; exact hF hg)).trans (h.block k hk hF), fun k o e => by
  obtain ⟨h1, h2⟩ := h.oth k o e
  refine ⟨?_, h2⟩
  rw [m.block k (Array.getElem?_eq_some_iff.1 h1).1 (fun e2 => by subst e2; rw [show w.heap[k]? = some (.cells cs0 T (0, 0)) from hB] at h1; injection h1 with h1; exact h2 _ _ _ h1.symm)]
  exact h1⟩
theorem Cz.move {F : Fx} {w0 w w' : World} {N : Nat} {ρ : Env} {st : St} {a : Act} {d b : Nat} {v : AV} {u : Value} {ls ls' : List Lf} {cs' : Array Value} {T : TypeId} (h : Cz F w0 N ρ st a w) (hl : look st (2 * b + 1) = some (.v true ls)) (m : Mv (ρ b) w w') (hk : Keeps (Sep ρ (dom st)) w w')
  (hB : Blk w' (ρ b) T cs') (hr : ∀ ρ D, RL ρ D w' ls' cs'.toList) (ho : ls'.all okLf = true) (hd : d < N) (hv : v.R ρ (dom st) w' u) : Cz F w0 N ρ ((2 * d, v) :: (2 * b + 1, .v true ls') :: st) (a.put (some d) u) w' := by
 obtain ⟨g0, ls0, T0, cs0, e0, hB0, hr0, ho0, hg⟩ := h.mv hl
 injection e0 with e1 e0; subst e0
 replace hg := hg e1.symm
 have hdb : dom st b = true := by unfold dom; rw [hl]
 have hdm : dom ((2 * d, v) :: (2 * b + 1, .v true ls') :: st) = dom st := funext fun x => by
  rw [dom_even]; unfold dom
  by_cases e : x = b
  ·subst e; rw [look_same, hl]
  ·rw [look_other (by omega)]
 refine ⟨h.tb, h.bel.mv hB0 (hg.imp (fun x => x.2) fun x => x.2) m, by rw [kn_size_put]; exact h.sz, h.df, fun t x hx => ?_, fun x v' hx hne => ?_, fun x x' h1 h2 => ?_, h.zz, fun x hx => ?_, fun x y z q hv' => ?_, h.gi, fun x x' h1 h2 => h.gd x x' h1 (by rw [← hdm]; exact h2)⟩
 ·rw [hdm]
  by_cases e : t = d
  ·subst e
   rw [look_same] at hx; injection hx with hx; subst hx
   exact ⟨u, kn_get_same (by rw [h.sz]; exact hd), hv⟩
  ·rw [look_other (by omega), look_other (by omega)] at hx
   obtain ⟨y, hy, hr⟩ := h.sl t x hx
   exact ⟨y, by rw [kn_get_other (fun h => e h.symm)]; exact hy, hr.mono (Ext.refl _ _) hk⟩
 ·rw [hdm]
  rw [look_other (by omega)] at hx
  by_cases e : x = b
  ·subst e
   rw [look_same] at hx; injection hx with hx; subst hx
   exact ⟨true, ls', T, cs', rfl, hB, hr _ _, ho, fun _ => hg⟩
  ·rw [look_other (by omega)] at hx
   obtain ⟨g2, l2, T2, c2, e2, hB2, hr2, ho2, hg2⟩ := h.mm x v' hx hne
   have hdx : dom st x = true := by unfold dom; rw [hx, e2]
   exact ⟨g2, l2, T2, c2, e2, (m.block _ hB2.lt (fun e' => e (h.inj _ _ hdx hdb e'))).trans hB2, hr2.mono (Ext.refl _ _) hk, ho2, hg2⟩
 ·rw [hdm] at h1 h2; exact h.inj x x' h1 h2
 ·obtain ⟨y, z, u, hl'⟩ := h.gm x hx
  have : x ≠ b := fun e => by subst e; rw [hl] at hl'; injection hl' with hl'; cases hl'
  exact ⟨y, z, u, by rw [look_other (by omega), look_other (by omega)]; exact hl'⟩
 ·have hxb : x ≠ b := fun e => by
   subst e
   rw [look_other (by omega), look_same] at hv'; injection hv' with hv'; cases hv'
  rw [look_other (by omega), look_other (by omega)] at hv'
  exact h.gcs (row := some (ρ b)) ⟨m.os, m.tape, m.output, m.size, fun k h1 h2 => m.block k h1 (fun e => h2 (by rw [e]))⟩ (fun c g hc e e' => by injection e with e; subst e; exact h.gd c b hc hdb e') hk (by rw [hdm]; exact Ext.refl _ _) rfl rfl rfl hv'
abbrev DK := Nat → List AV → Option (Prop × AV × Nat)
def dkO (f0 : FuncId) (A : Option Addr) (n c : Nat) (K : DK) : Orac := fun f d st args => if f = f0 then (match args with
 | .v false [.own b 0] :: rest => (match look st (2 * b + 1) with
  | some (.v true [.lit (.slice A' n' c'), .lit (.int .i64 k)]) => if (rest.flatMap olA).isEmpty = true ∧ (rest.map (cvA st)).all cbA = true then (match K k.toNat (rest.map (cvA st)) with
   | some e => some (e.1 ∧ (A' = A ∧ n' = n ∧ c' = c) ∧ 0 ≤ k, [2 * b + 1], [(2 * d, e.2.1), (2 * b + 1, .v true [.lit (.slice A n c), .lit (.int .i64 (e.2.2 : Int))])])
   | none => none) else none
  | _ => none)
 | _ => none) else none
theorem cvL_same {ρ : Env} {D : Nat → Bool} {w : World} {st : St} {l : Lf} {u : Value} (h0 : olL l = []) (h : l.R ρ D w u) : (cvL st l).R ρ D w u := by
 cases l with
 | osl b n => cases h0
 | ol b k => cases h0
 | sl f sz n ls => exact Lc.R.mono (Keeps.refl _ _) (fun _ _ _ _ h => ⟨h.1, fun e => by cases e⟩) _ _ h
 | _ => exact h
theorem cvLs_same {ρ : Env} {D : Nat → Bool} {w : World} {st : St} : ∀ {ls : List Lf} {us : List Value}, ls.flatMap olL = [] → RL ρ D w ls us → RL ρ D w (ls.map (cvL st)) us := by
 intro ls
 induction ls with
 | nil => intro us _ h; exact h
 | cons l ls ih =>
  intro us h0 h
  rw [List.flatMap_cons, List.append_eq_nil_iff] at h0
  obtain ⟨u, r, e, h1, h2⟩ := h
  exact ⟨u, r, e, cvL_same h0.1 h1, ih h0.2 h2⟩
theorem cvA_same {ρ : Env} {D : Nat → Bool} {w : World} {st : St} {a : AV} {u : Value} (h0 : olA a = []) (h : a.R ρ D w u) : (cvA st a).R ρ D w u := by
 cases a with
 | v g ls =>
  cases g with
  | true => obtain ⟨us, e, h⟩ := h; exact ⟨us, e, cvLs_same h0 h⟩
  | false => exact cvLs_same (us := [u]) h0 h
 | tup ps => exact h
 | pre _ _ _ => exact h
theorem cvAs_same {ρ : Env} {D : Nat → Bool} {w : World} {st : St} : ∀ {xs : List AV} {us : List Value}, xs.flatMap olA = [] → RA ρ D w xs us → RA ρ D w (xs.map (cvA st)) us := by
 intro xs
 induction xs with
 | nil => intro us _ h; exact h
 | cons x xs ih =>
  intro us h0 h
  rw [List.flatMap_cons, List.append_eq_nil_iff] at h0
  obtain ⟨u, r, e, h1, h2⟩ := h
  exact ⟨u, r, e, cvA_same h0.1 h1, ih h0.2 h2⟩
theorem dkO_only {f0 : FuncId} {A : Option Addr} {n c : Nat} {K : DK} : Only (dkO f0 A n c K) f0 := fun f d st args h => by unfold dkO; rw [if_neg h]
theorem arg_bel {F : Fx} {w0 w : World} {A : Option Addr} {n c : Nat} {xs : List Nat} (h : Bel F w0 w) (hA : Arg w0 A n c xs) (hn : ∀ ad, 0 < n → A = some ad → ¬ F ad.block) : Arg w A n c xs := by
 refine ⟨⟨hA.1.1, hA.1.2.1, fun h0 => ?_⟩, hA.2⟩
 obtain ⟨ad, e, hl, hh, hc⟩ := hA.1.2.2 h0
 refine ⟨ad, e, hl, Nat.lt_of_lt_of_le hh h.size, fun j u hu => ?_⟩
 rw [← hc j u hu]
 exact World.cell?_of_block (by rw [block_of_add]; exact h.block _ hh (hn ad h0 e))
theorem dkO_ok {f0 : FuncId} {A : Option Addr} {n c : Nat} {K : DK} {F : Fx} {w0 : World} {xs : List Nat} (hen : ∀ (vs : Array Value) (w : World), (callFunc f0 vs).run Tryz.prog w = .ok (.enter f0 vs) w)
  (hK : ∀ k rest e, K k rest = some e → e.1 → DCt f0 xs rest k e.2.1 e.2.2) (hA : Arg w0 A n c xs) (hn : ∀ ad, 0 < n → A = some ad → ¬ F ad.block) : OrOK Tryz.prog (dkO f0 A n c K) F w0 := by
 refine ⟨fun f d st args e he => ?_, fun f d st args e he hp N ρ a w us hz hd hR => ?_, fun f d st st' args e he hk => ?_⟩
 ·unfold dkO at he
  split at he
  ·rename_i hf; subst hf; exact hen
  ·cases he
 ·unfold dkO at he
  split at he
  ·rename_i hf
   subst hf
   split at he
   ·rename_i b rest
    split at he
    ·rename_i A' n' c' k hl
     split at he
     ·rename_i hcl
      split at he
      ·rename_i e0 he0
       injection he with he; subst he
       obtain ⟨hp0, ⟨rfl, rfl, rfl⟩, hk0⟩ := hp
       obtain ⟨u, r, rfl, h1, h2⟩ := hR
       obtain ⟨hdb, rfl⟩ := RL.one.1 h1
       obtain ⟨g0, ls0, T0, cs0, e0', hB0, hr0, ho0, hg0⟩ := hz.mv hl
       injection e0' with _ e0'; subst e0'
       obtain ⟨x1, r1, ex, rfl, x2, r2, rfl, rfl, rfl⟩ := hr0
       have hcs : cs0 = #[.slice A' n' c', .int .i64 k] := by cases cs0; simp at ex; rw [ex]
       subst hcs
       obtain ⟨kn, rfl⟩ := Int.eq_ofNat_of_zero_le hk0
       have hD : DkT w (ρ b) T0 A' n' c' kn := hB0
       have := hK _ _ _ he0 hp0 ρ (dom st) w (ρ b) T0 A' n' c' r (hz.tb.tab hz.bel) (by simpa using hD) (arg_bel hz.bel hA hn) (cvAs_same (List.isEmpty_iff.1 hcl.1) h2) (fun x hx e => hx.1 b hdb e.symm)
       refine this.mono ?_
       rintro en w' ⟨u, rfl, hR, ⟨T', hD'⟩, hm⟩
       exact ⟨u, ρ, rfl, hz.move (T := T') hl hm (mv_keeps hD hm fun h => h.1 b hdb rfl) hD' (fun ρ D => ⟨_, _, rfl, rfl, _, _, rfl, rfl, rfl⟩) rfl hd (hR _ _ hz.old)⟩
      ·cases he
     ·cases he
    ·cases he
   ·cases he
  ·cases he
 ·have h0 := he
  unfold dkO at he
  split at he
  ·rename_i hf
   split at he
   ·rename_i b rest
    split at he
    ·split at he
     ·split at he
      ·rename_i hcl _ _ _
       injection he with he; subst he
       rw [← h0]
       have hm : rest.map (cvA st') = rest.map (cvA st) := List.map_congr_left fun x hx => cvA_congr fun k hk' => by
        have h1 := List.isEmpty_iff.1 hcl.1
        have : k ∈ rest.flatMap olA := List.mem_flatMap.2 ⟨x, hx, hk'⟩
        rw [h1] at this; cases this
       unfold dkO
       simp only [hk (2 * b + 1) (by simp), hm]
      ·cases he
     ·cases he
    ·cases he
   ·cases he
  ·cases he
def dpf (r : AV) (A : Option Addr) (n c k : Nat) (res : Option (List (Bool × List Lf))) (m : Option AV) : Prop := match res with
 | some ps => clA (tupA ps) = true ∧ tupA ps = r ∧ m = some (.v true [.lit (.slice A n c), .lit (.int .i64 (k : Int))])
 | none => False
theorem dpf_some {r : AV} {A : Option Addr} {n c k : Nat} {ps : List (Bool × List Lf)} {m : Option AV} : dpf r A n c k (some ps) m = (clA (tupA ps) = true ∧ tupA ps = r ∧ m = some (.v true [.lit (.slice A n c), .lit (.int .i64 (k : Int))])) := rfl
theorem dct_of {ty : TypeId → Option TI} {O : Option Addr → Nat → Nat → Orac} (hm : Tryz.prog.follows .mixedOrders = true) (hty : ∀ t i, ty t = some i → TiOK Tryz.prog t i) {f : FuncId} {fn : Func} {c0 : Code} {rest : List AV} {xs : List Nat} {k k' : Nat} {r : AV} (hO : ∀ A n c F w, Arg w A n c xs → (∀ ad, 0 < n → A = some ad → ¬ F ad.block) → OrOK Tryz.prog (O A n c) F w) (fg : List Nat)
  (fuel N : Nat) (rs : List ResultVar) (hf : Tryz.prog.funcs[f]? = some fn) (hb : fn.body = some c0) (hN : fn.ntmps = N) (hN2 : N ≤ 1000) (hr : fn.results.toList = rs) (hl : rest.length < N) (hcl : rest.all cbA = true)
  (h : ∀ A n c, smAs rest → Small B64 xs → run ty (O A n c) N (fun st => dpf r A n c k' (resA ty st rs) (look st 2001)) fg fuel [.code c0] (init 0 (.s (.own 1000 0) :: rest) ++ [(2001, .v true [.lit (.slice A n c), .lit (.int .i64 (k : Int))])])) : DCt f xs rest k r k' := by
 intro ρ D w g T A n c us ht hD hA hR hne
 have h := h A n c hR.sm hA.2
 refine calls_of_wp hf hb ?_
 have hlen := hR.len
 have hnF : ∀ ad, 0 < n → A = some ad → ¬ (Fx.on fun b => b = g) ad.block := fun ad h0 e => deck_ne hD (.inl rfl) hA.1 h0 e
 have hlk : ∀ q v, look (init 0 (AV.s (.own 1000 0) :: rest) ++ [(2001, AV.v true [.lit (.slice A n c), .lit (.int .i64 (k : Int))])]) (2 * q + 1) = some v → q = 1000 ∧ v = AV.v true [.lit (.slice A n c), .lit (.int .i64 (k : Int))] := fun q v hv => by
  rw [look_append] at hv
  cases hh : look (init 0 (AV.s (.own 1000 0) :: rest)) (2 * q + 1) with
  | some v' => obtain ⟨t, h1, _⟩ := init_look _ _ _ _ hh; omega
  | none =>
   rw [hh] at hv
   by_cases e : 2 * q + 1 = 2001
   ·rw [e, look_same] at hv; injection hv with hv; exact ⟨by omega, hv.symm⟩
   ·simp [look, e] at hv
 have hdom : dom (init 0 (AV.s (.own 1000 0) :: rest) ++ [(2001, AV.v true [.lit (.slice A n c), .lit (.int .i64 (k : Int))])]) 1000 = true := by
  unfold dom
  rw [look_append]
  cases hh : look (init 0 (AV.s (.own 1000 0) :: rest)) (2 * 1000 + 1) with
  | some v' => obtain ⟨t, h1, _⟩ := init_look _ _ _ _ hh; omega
  | none => rw [show 2 * 1000 + 1 = 2001 from rfl]; simp [look_same]
 have hz : Cz (Fx.on fun b => b = g) w N ⟨fun _ => g, w.heap.size, fun _ => undef, fun _ => 0, fun _ => false⟩ (init 0 (AV.s (.own 1000 0) :: rest) ++ [(2001, AV.v true [.lit (.slice A n c), .lit (.int .i64 (k : Int))])]) { tmps := (Value.pointer (some ⟨g, 0, none⟩) :: us).toArray ++ Array.replicate (fn.ntmps - (Value.pointer (some ⟨g, 0, none⟩) :: us).toArray.size) undef, defers := [] } w := by
  refine ⟨⟨ht, fun h => tab_ne ht hD h⟩, Bel.refl _ _, ?_, rfl, fun t v hv => ?_, fun b v hv _ => ?_, fun b b' h1 h2 _ => ?_, rfl, (fun b hb => by cases hb), fun b x y z hv => ?_, (fun b b' g hb => by cases hb), (fun b b' hb => by cases hb)⟩
  ·simp; omega
  ·rw [look_append] at hv
   split at hv
   ·rename_i v' hv'
    injection hv with hv; subst hv
    obtain ⟨t', h1, h2⟩ := init_look _ _ _ _ hv'
    have : t = t' := by omega
    subst this
    have hRA : RA ⟨fun _ => g, w.heap.size, fun _ => undef, fun _ => 0, fun _ => false⟩ (dom (init 0 (AV.s (.own 1000 0) :: rest) ++ [(2001, AV.v true [.lit (.slice A n c), .lit (.int .i64 (k : Int))])])) w (AV.s (.own 1000 0) :: rest) (Value.pointer (some ⟨g, 0, none⟩) :: us) := ⟨_, _, rfl, RL.one.2 ⟨hdom, rfl⟩, hR.closed hcl fun x hx => ⟨fun b _ e => hne x hx e.symm, fun b hb => (by cases hb)⟩⟩
    obtain ⟨u, h3, h4⟩ := hRA.get h2
    refine ⟨u, ?_, h4⟩
    have hlt : t < (Value.pointer (some ⟨g, 0, none⟩) :: us).length := by
     rcases Nat.lt_or_ge t (Value.pointer (some ⟨g, 0, none⟩) :: us).length with h | h
     ·exact h
     ·rw [List.getElem?_eq_none h] at h3; cases h3
    rw [Array.getElem?_append_left (by simpa using hlt)]
    simpa using h3
   ·by_cases e : 2 * t = 2001
    ·omega
    ·simp [look, e] at hv
  ·obtain ⟨rfl, rfl⟩ := hlk b v hv
   exact ⟨true, _, T, _, rfl, hD, ⟨_, _, rfl, rfl, _, _, rfl, rfl, rfl⟩, rfl, fun _ => .inr ⟨by omega, rfl⟩⟩
  ·obtain ⟨_, _, hv⟩ := dom_some h1
   obtain ⟨_, _, hv'⟩ := dom_some h2
   rw [(hlk b _ hv).1, (hlk b' _ hv').1]
  ·obtain ⟨_, e⟩ := hlk b _ hv
   cases e
 have hF : ∀ ρ' st a w', dpf r A n c k' (resA ty st rs) (look st 2001) → Cz (Fx.on fun b => b = g) w N ρ' st a w' → bodyPost Tryz.prog fn (DPost w g A n c k' r) .ret a w' := by
  intro ρ' st a w' hp hz'
  unfold dpf at hp
  split at hp
  ·rename_i ps hps
   obtain ⟨hc1, rfl, hlk'⟩ := hp
   obtain ⟨g0, ls0, T0, cs0, e0, hB0, hr0, ho0, hg0⟩ := hz'.mv (b := 1000) hlk'
   injection e0 with e1 e0; subst e0
   have hg1 : ρ' 1000 = g := by
    rcases hg0 e1.symm with hx | hx
    ·omega
    ·exact hx.2
   rw [hg1] at hB0
   obtain ⟨x1, r1, ex, rfl, x2, r2, rfl, rfl, rfl⟩ := hr0
   have hcs : cs0 = #[.slice A n c, .int .i64 (k' : Int)] := by cases cs0; simp at ex; rw [ex]
   subst hcs
   obtain ⟨u, hu, hR'⟩ := res_run hty hz' (fn := fn) (by rw [hr]; exact hps) hc1
   exact bodyPost_ret hu hz'.df ⟨u, rfl, hR', ⟨T0, hB0⟩, ⟨hz'.bel.os, hz'.bel.tape, hz'.bel.output, hz'.bel.size, fun i hi hne => hz'.bel.block i hi hne⟩⟩
  ·exact hp.elim
 have := run_sound hm hty (hO A n c (Fx.on fun b => b = g) w hA hnF) hF fuel [.code c0] _ _ _ w h hz
 refine wp_mono this ?_
 intro e a' w' he
 cases e with
 | normal => exact he
 | ret => exact he
 | exit id => exact he.elim
 | goto l => exact he.elim
 | panic ch => exact he.elim
 | outgrown => exact he.elim
def rK (K : Nat → Prop × AV × Nat) : DK := fun k rest => match rest with
 | [] => some (K k)
 | _ => none
theorem rK_ok {f0 : FuncId} {xs : List Nat} {K : Nat → Prop × AV × Nat} (h : ∀ k, (K k).1 → DCt f0 xs [] k (K k).2.1 (K k).2.2) : ∀ k rest e, rK K k rest = some e → e.1 → DCt f0 xs rest k e.2.1 e.2.2 := by
 intro k rest e he hp
 unfold rK at he
 split at he
 ·injection he with he; subst he; exact h k hp
 ·cases he
def rKI (K : Nat → Int → Prop × AV × Nat) : DK := fun k rest => match rest with
 | [.v false [.lit (.int .i64 z)]] => some (K k z)
 | _ => none
theorem rKI_ok {f0 : FuncId} {xs : List Nat} {K : Nat → Int → Prop × AV × Nat} (h : ∀ k z, (K k z).1 → DCt f0 xs [iA z] k (K k z).2.1 (K k z).2.2) : ∀ k rest e, rKI K k rest = some e → e.1 → DCt f0 xs rest k e.2.1 e.2.2 := by
 intro k rest e he hp
 unfold rKI at he
 split at he
 ·injection he with he; subst he; exact h k _ hp
 ·cases he
def rKJ (K : Nat → J → Prop × AV × Nat) : DK := fun k rest => match rest with
 | [.v true mj] => (match asIv mj with
  | some j => some (K k j)
  | none => none)
 | _ => none
theorem rKJ_ok {f0 : FuncId} {xs : List Nat} {K : Nat → J → Prop × AV × Nat} (h : ∀ k j, (K k j).1 → DCt f0 xs [.v true j.L] k (K k j).2.1 (K k j).2.2) : ∀ k rest e, rKJ K k rest = some e → e.1 → DCt f0 xs rest k e.2.1 e.2.2 := by
 intro k rest e he hp
 unfold rKJ at he
 split at he
 ·split at he
  ·rename_i j hj
   injection he with he; subst he
   rw [asIv_eq hj]; exact h k j hp
  ·cases he
 ·cases he
theorem next_fn (w : World) (g : Nat) (T : TypeId) (A : Option Addr) (n c k : Nat) (xs : List Nat) (hd : DkT w g T A n c k) (hr : Arg w A n c xs) (hk : k ≤ 1000) :
  Calls Tryz.prog 39 #[.pointer (some ⟨g, 0, none⟩)] w fun e w' => e = .returned (.int .u64 (dk xs k : Int)) ∧ DkT w' g T A n c (k + 1) ∧ Mv g w w' := by
 have HD := Lib.hid hd; have HR := Lib.hid hr.1
 have c0 := hd.c0; have c1 := hd.c1
 have z1 := hd.fz 1
 have g1 : IntKind.i64.wrap ((k : Int) + 1) = (k : Int) + 1 := by rw [IntKind.wrap_i64]; omega
 have HL := Lib.hid hr.1.1
 obtain ⟨v, hv⟩ : ∃ v, v = dk xs k := ⟨_, rfl⟩
 rw [← hv]
 have HV := Lib.hid hv
 clear hd hr hv
 go_enter Tryz.func39, Tryz.ntmps39
 by_cases hlt : k < n
 ·obtain ⟨ad, x, hA, _, _, hx, hcx⟩ := HR.out.get_ (j := k) hlt
  subst hA
  have i1 : (0 : Int) ≤ (k : Int) := by omega
  have i2 : (k : Int) < (n : Int) := by omega
  have hvx : v = x := by rw [HV.out]; exact getD_of hx.out
  subst hvx
  go_wp2
  go_quiet (fail)
  go_wp2
  go_quiet (fail)
  go_wp2
  go_ret
  obtain ⟨h1, h2⟩ := DkT.end_ HD.out
  exact ⟨rfl, h1, h2⟩
 ·have i2 : ¬ (k : Int) < (n : Int) := by omega
  have hv0 : v = 0 := by rw [HV.out]; exact getD_out (by rw [HL.out]; omega)
  subst hv0
  go_wp2
  go_quiet (fail)
  go_wp2
  go_ret
  obtain ⟨h1, h2⟩ := DkT.end_ HD.out
  exact ⟨rfl, h1, h2⟩
theorem next_dct {xs : List Nat} {k : Nat} (hk : k ≤ 1000) : DCt 39 xs [] k (.s (.lit (.int .u64 (dk xs k : Int)))) (k + 1) := by
 intro ρ D w g T A n c us ht hD hA hR _
 rw [show us = [] from hR]
 refine (next_fn w g T A n c k xs hD hA hk).mono ?_
 rintro e w' ⟨rfl, h1, h2⟩
 exact ⟨_, rfl, fun _ _ _ => RL.one.2 rfl, ⟨T, h1⟩, h2⟩
theorem dn_fn (w : World) (g : Nat) (T : TypeId) (A : Option Addr) (n c k m : Nat) (xs : List Nat) (hd : DkT w g T A n c k) (hr : Arg w A n c xs) (hk : k ≤ 1000) (hm : 0 < m) (hm2 : m ≤ 1000) :
  Calls Tryz.prog 12 #[.pointer (some ⟨g, 0, none⟩), .int .i64 (m : Int)] w fun e w' => e = .returned (.int .i64 ((dk xs k % m : Nat) : Int)) ∧ DkT w' g T A n c (k + 1) ∧ Mv g w w' := by
 have C := Lib.hid (next_fn w g T A n c k xs hd hr hk)
 have f1 : IntKind.u64.wrap (m : Int) = (m : Int) := by rw [IntKind.wrap_u64]; omega
 have f2 : ((m : Int) == 0) = false := by simp; omega
 clear hd hr
 obtain ⟨v, hv⟩ : ∃ v, v = dk xs k := ⟨_, rfl⟩
 rw [← hv] at C ⊢
 obtain ⟨u, hu⟩ : ∃ u : Nat, u = v % m := ⟨_, rfl⟩
 rw [← hu]
 have f3 : (v : Int) % (m : Int) = (u : Int) := by rw [hu]; exact (Int.natCast_emod v m).symm
 have f4 : Int.tmod (v : Int) (m : Int) = (u : Int) := by rw [hu, Int.tmod_eq_emod_of_nonneg (by omega)]; exact (Int.natCast_emod v m).symm
 have hlt : u < m := by rw [hu]; exact Nat.mod_lt _ hm
 have f5 : IntKind.i64.wrap (u : Int) = (u : Int) := by rw [IntKind.wrap_i64]; omega
 have hne : (m : Int) ≠ 0 := by omega
 clear hv hu
 go_enter Tryz.func12, Tryz.ntmps12
 go_wp2_with fail
 refine C.out.mono ?_
 clear C
 rintro _ w2 ⟨rfl, d2, m2⟩
 have D2 := Lib.hid d2; have M2 := Lib.hid m2
 clear d2 m2
 go_wp2
 go_ret
 exact ⟨rfl, D2.out, M2.out⟩
theorem dn_dct {xs : List Nat} {k : Nat} {z : Int} (hp : k ≤ 1000 ∧ 0 < z ∧ z ≤ 1000) : DCt 12 xs [iA z] k (iA ((dk xs k % z.toNat : Nat) : Int)) (k + 1) := by
 intro ρ D w g T A n c us ht hD hA hR _
 obtain ⟨u, r, rfl, h1, h2⟩ := hR
 rw [show r = [] from h2]
 have h1 : u = .int .i64 z := RL.one.1 h1
 subst h1
 obtain ⟨m, rfl⟩ := Int.eq_ofNat_of_zero_le (show 0 ≤ z by omega)
 refine (dn_fn w g T A n c k m xs hD hA hp.1 (by omega) (by omega)).mono ?_
 rintro e w' ⟨rfl, h1, h2⟩
 exact ⟨_, rfl, fun _ _ _ => RL.one.2 (by simp; rfl), ⟨T, h1⟩, h2⟩
theorem sof_is (w : World) (A : Option Addr) (n c : Nat) : Calls Tryz.prog 11 #[.slice A n c] w fun e w' => e = .returned (.pointer (some ⟨w.heap.size, 0, none⟩)) ∧ w' = w.alloc (.cells #[.slice A n c, .int .i64 0] 69) := by
 go_enter Tryz.func11, Tryz.ntmps11
 go_wp2
 go_ret
 exact ⟨rfl, rfl⟩
def ofO : Orac := fun f d st args => if f = 11 then (match args with
 | [.v false [.lit (.slice A n c)]] => (match look st (2 * d + 1) with
  | none => some (True, [2 * d + 1], [(2 * d, .s (.own d 0)), (2 * d + 1, .v true [.lit (.slice A n c), .lit (.int .i64 ((0 : Nat) : Int))])])
  | some _ => none)
 | _ => none) else none
theorem ofO_ok (F : Fx) (w0 : World) : OrOK Tryz.prog ofO F w0 := by
 refine ⟨fun f d st args e he => ?_, fun f d st args e he hp N ρ a w us hz hd hA => ?_, fun f d st st' args e he hk => ?_⟩
 ·unfold ofO at he
  split at he
  ·rename_i hf; subst hf; exact ent Tryz.func11 (by kernel_rfl) rfl
  ·cases he
 ·unfold ofO at he
  split at he
  ·rename_i hf
   subst hf
   split at he
   ·rename_i A n c
    split at he
    ·rename_i hn
     injection he with he; subst he
     obtain ⟨u, r, rfl, h1, h2⟩ := hA
     rw [show r = [] from h2]
     have h1 : u = .slice A n c := RL.one.1 h1
     subst h1
     refine (sof_is w A n c).mono ?_
     rintro en w' ⟨rfl, rfl⟩
     refine ⟨_, { ρ with r := fun b => if b = d then w.heap.size else ρ b }, rfl, ?_⟩
     exact Cz.new (cs := [.slice A n c, .int .i64 0]) (l := .own d 0) (fun ρ' D' w' h1 h2 => ⟨h1, by simp [h2]⟩) hz hd hn ⟨_, _, rfl, rfl, _, _, rfl, rfl, rfl⟩ rfl
    ·cases he
   ·cases he
  ·cases he
 ·have h0 := he
  unfold ofO at he
  split at he
  ·rename_i hf
   split at he
   ·split at he
    ·rename_i hn
     injection he with he; subst he
     rw [← h0]
     unfold ofO
     rw [hk (2 * d + 1) (by simp)]
    ·cases he
   ·cases he
  ·cases he
theorem ofO_only : Only ofO 11 := fun f d st args h => by unfold ofO; rw [if_neg h]
end Go.Proofs.YtobcbhppmgnioaaGreatDoor
