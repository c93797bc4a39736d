/- Package series: the function that makes the iterator; a product, coefficient by coefficient. -/
import Derived.Test.YtobcbhppmgnioaaGreatDoorSArD
namespace Go.Proofs.YtobcbhppmgnioaaGreatDoor
open Go.RowKit Go.Shelf Nx
attribute [local irreducible] chk
section
variable {F : Fx} {w0 w w' : World} {N : Nat} {ρ : Env} {st : St} {a : Act}
theorem Cz.newB {d : Nat} {ls : List Lf} {cs : List Value} {T : TypeId} (h : Cz F w0 N ρ st a w) (hn : look st (2 * d + 1) = none) (hr : RL ρ (dom st) w ls cs) (ho : ls.all okLf = true) :
  Cz F w0 N { ρ with r := fun b => if b = d then w.heap.size else ρ b } ((2 * d + 1, .v false ls) :: st) a (w.alloc (.cells cs.toArray T)) ∧ Ext ρ { ρ with r := fun b => if b = d then w.heap.size else ρ b } (dom st) (dom ((2 * d + 1, .v false ls) :: st)) w ∧ Keeps (Sep ρ (dom st)) w (w.alloc (.cells cs.toArray T)) := by
 have hb := one_below w (.cells cs.toArray T)
 have hk : Keeps (Sep ρ (dom st)) w _ := Keeps.below hb
 have hdm : ∀ b, dom ((2 * d + 1, .v false ls) :: st) b = if b = d then true else dom st b := fun b => by
  unfold dom
  by_cases e : b = d
  ·subst e; rw [look_same, if_pos rfl]
  ·rw [look_other (by omega), if_neg e]
 have hnd : dom st d = false := by unfold dom; rw [hn]
 have he : Ext ρ { ρ with r := fun b => if b = d then w.heap.size else ρ b } (dom st) (dom ((2 * d + 1, .v false ls) :: st)) w := by
  refine ⟨fun b hb => ?_, fun b hb => ?_, fun b hb => ?_, rfl, fun _ h => ⟨h, Nat.le_refl _, fun _ => rfl⟩, fun _ _ h1 h2 => .inl ⟨h1, h2⟩⟩
  ·rw [hdm]; split
   ·rfl
   ·exact hb
  ·have : b ≠ d := fun e => by subst e; rw [hnd] at hb; cases hb
   simp [this]
  ·rw [hdm] at hb
   by_cases e : b = d
   ·right; simp [e]
   ·rw [if_neg e] at hb; exact .inl hb
 refine ⟨?_, he, hk⟩
 refine ⟨h.tb, h.bel.below hb, h.sz, h.df, fun t x hx => ?_, fun b x hx hne => ?_, fun b b' h1 h2 e => ?_, h.zz, fun b hb' => ?_, fun b x y z hv => ?_, h.gi, fun b b' h1 h2 e => ?_⟩
 ·rw [look_other (by omega)] at hx
  obtain ⟨y, hy, hr⟩ := h.sl t x hx
  exact ⟨y, hy, hr.mono he hk⟩
 ·by_cases e : b = d
  ·subst e
   rw [look_same] at hx; injection hx with hx; subst hx
   refine ⟨false, ls, T, cs.toArray, rfl, ?_, by simpa using hr.mono he hk, ho, fun h => by cases h⟩
   simp only [if_pos]; exact Blk.new w T _
  ·rw [look_other (by omega)] at hx
   obtain ⟨g', ls', T', cs', e', hB, hr', ho', hg⟩ := h.mm b x hx hne
   refine ⟨g', ls', T', cs', e', ?_, hr'.mono he hk, ho', ?_⟩
   ·simp only [if_neg e]; exact hB.below hb hB.lt
   ·simp only [if_neg e]; exact hg
 ·rw [hdm] at h1 h2
  have hlt : ∀ x, dom st x = true → ρ x < w.heap.size := fun x hx => h.lt hx
  by_cases e1 : b = d <;> by_cases e2 : b' = d
  ·rw [e1, e2]
  ·rw [if_neg e2] at h2
   simp only [e1, if_pos, if_neg e2] at e
   have := hlt b' h2; omega
  ·rw [if_neg e1] at h1
   simp only [e2, if_pos, if_neg e1] at e
   have := hlt b h1; omega
  ·rw [if_neg e1] at h1; rw [if_neg e2] at h2
   simp only [if_neg e1, if_neg e2] at e
   exact h.inj b b' h1 h2 e
 ·obtain ⟨x, y, z, hl⟩ := h.gm b hb'
  have : b ≠ d := fun e => by subst e; rw [hn] at hl; cases hl
  exact ⟨x, y, z, by rw [look_other (by omega)]; exact hl⟩
 ·have hbd : b ≠ d := fun e => by
   subst e
   rw [look_same] at hv; injection hv with hv; cases hv
  rw [look_other (by omega)] at hv
  exact h.gcs (grown_below hb) (fun _ _ _ e => by cases e) hk he rfl rfl rfl hv
 ·rw [hdm] at h2
  by_cases e1 : b' = d
  ·have e : (ρ.gh b).ownBlock = some (if b' = d then w.heap.size else ρ b') := e
   rw [if_pos e1] at e
   have := (h.glt h1 e).2; omega
  ·rw [if_neg e1] at h2
   have e : (ρ.gh b).ownBlock = some (if b' = d then w.heap.size else ρ b') := e
   rw [if_neg e1] at e
   exact h.gd b b' h1 h2 e
end
set_option maxRecDepth 100000 in
set_option maxHeartbeats 4000000 in
theorem coefs_any (w : World) (va vb vk vz : Value) (h1 : va.oneCell' = true) (h2 : vb.oneCell' = true) (h3 : vk.oneCell' = true) (h4 : vz.oneCell' = true) : Calls Tryz.prog 133 #[va, vb, vk, vz] w fun e w' =>
  e = .returned (.func (.func 147) #[] #[.pointer (some ⟨w.heap.size + 2, 0, none⟩), .pointer (some ⟨w.heap.size, 0, none⟩), .pointer (some ⟨w.heap.size + 1, 0, none⟩), .pointer (some ⟨w.heap.size + 3, 0, none⟩)]) ∧
  w' = (((w.alloc (.cells #[va] 23)).alloc (.cells #[vb] 23)).alloc (.cells #[vk] 3)).alloc (.cells #[vz] 3) := by
 refine calls_of_wp Tryz.func133 rfl ?_
 simp only [Tryz.ntmps133, List.size_toArray, List.length_cons, List.length_nil, Nat.reduceAdd, Nat.reduceSub, Array.replicate_succ, Array.replicate_zero, List.push_toArray, List.append_toArray, List.nil_append, List.cons_append]
 go_wp2
 exact bodyPost_ret (results_tmp rfl _ _ _) rfl ⟨rfl, rfl⟩
def coefO : Orac := fun f d st args => if f = 133 then (match args with
 | [.v false [la], .v false [lb], .v false [lk], .v false [lz]] => if ((okLf la && okLf lb && okLf lk && okLf lz) && ((look st 83).isNone && (look st 85).isNone && (look st 87).isNone && (look st 89).isNone)) = true then some (True, [83, 85, 87, 89], [(2 * d, .s (.clo 147 [43, 41, 42, 44])), (89, .v false [lz]), (87, .v false [lk]), (85, .v false [lb]), (83, .v false [la])]) else none
 | _ => none) else none
theorem coefO_ok (F : Fx) (w0 : World) : OrOK Tryz.prog coefO F w0 := by
 have inv : ∀ f d st args q, coefO f d st args = some q → f = 133 ∧ ∃ la lb lk lz, args = [.v false [la], .v false [lb], .v false [lk], .v false [lz]] ∧ (okLf la && okLf lb && okLf lk && okLf lz) = true ∧ (look st 83 = none ∧ look st 85 = none ∧ look st 87 = none ∧ look st 89 = none) ∧
   q = (True, [83, 85, 87, 89], [(2 * d, .s (.clo 147 [43, 41, 42, 44])), (89, .v false [lz]), (87, .v false [lk]), (85, .v false [lb]), (83, .v false [la])]) := by
  intro f d st args q h
  unfold coefO at h
  split at h
  case isFalse => cases h
  rename_i hf
  split at h
  case h_2 => cases h
  rename_i la lb lk lz
  split at h
  case isFalse => cases h
  rename_i hc
  injection h with h
  simp only [Bool.and_eq_true, Option.isNone_iff_eq_none] at hc
  exact ⟨hf, la, lb, lk, lz, rfl, by simp only [Bool.and_eq_true]; exact hc.1, ⟨hc.2.1.1.1, hc.2.1.1.2, hc.2.1.2, hc.2.2⟩, h.symm⟩
 refine ⟨fun f d st args e he => ?_, fun f d st args q he hp N ρ a w us hz hd hA => ?_, fun f d st st' args q he hkk => ?_⟩
 ·obtain ⟨rfl, _⟩ := inv _ _ _ _ _ he; exact ent Tryz.func133 (by kernel_rfl) rfl
 ·obtain ⟨rfl, la, lb, lk, lz, rfl, hok, ⟨n1, n2, n3, n4⟩, rfl⟩ := inv _ _ _ _ _ he
  simp only [Bool.and_eq_true] at hok
  obtain ⟨⟨⟨o1, o2⟩, o3⟩, o4⟩ := hok
  obtain ⟨va, r1, rfl, ha, vb, r2, rfl, hb, vk, r3, rfl, hk, vz, r4, rfl, hzz, hr⟩ := hA
  have hr : r4 = [] := hr
  subst hr
  replace ha := RL.one.1 ha
  replace hb := RL.one.1 hb
  replace hk := RL.one.1 hk
  replace hzz := RL.one.1 hzz
  refine (coefs_any w va vb vk vz (okLf_one o1 ha).1 (okLf_one o2 hb).1 (okLf_one o3 hk).1 (okLf_one o4 hzz).1).mono ?_
  rintro en w' ⟨rfl, rfl⟩
  obtain ⟨z1, e1, k1⟩ := hz.newB (d := 41) (T := 23) (cs := [va]) n1 (RL.one.2 ha) (by simp [o1])
  obtain ⟨z2, e2, k2⟩ := z1.newB (d := 42) (T := 23) (cs := [vb]) (by rw [look_other (by omega)]; exact n2) (RL.one.2 (hb.mono e1 k1)) (by simp [o2])
  obtain ⟨z3, e3, k3⟩ := z2.newB (d := 43) (T := 3) (cs := [vk]) (by rw [look_other (by omega), look_other (by omega)]; exact n3) (RL.one.2 ((hk.mono e1 k1).mono e2 k2)) (by simp [o3])
  obtain ⟨z4, e4, k4⟩ := z3.newB (d := 44) (T := 3) (cs := [vz]) (by rw [look_other (by omega), look_other (by omega), look_other (by omega)]; exact n4) (RL.one.2 (((hzz.mono e1 k1).mono e2 k2).mono e3 k3)) (by simp [o4])
  exact ⟨_, _, rfl, z4.val (v := .s (.clo 147 [43, 41, 42, 44])) (Below.refl _ _) hd (RL.one.2 ⟨fun b hb => by
   simp only [List.mem_cons, List.not_mem_nil, or_false] at hb
   rcases hb with rfl | rfl | rfl | rfl <;> rfl, by simp⟩)⟩
 ·obtain ⟨rfl, la, lb, lk, lz, rfl, hok, ⟨n1, n2, n3, n4⟩, rfl⟩ := inv _ _ _ _ _ he
  unfold coefO
  rw [if_pos rfl]
  have h1 := hkk 83 (by simp)
  have h2 := hkk 85 (by simp)
  have h3 := hkk 87 (by simp)
  have h4 := hkk 89 (by simp)
  rw [n1] at h1; rw [n2] at h2; rw [n3] at h3; rw [n4] at h4
  simp only [hok, h1, h2, h3, h4, Option.isNone_none, Bool.and_self, if_true]
end Go.Proofs.YtobcbhppmgnioaaGreatDoor
