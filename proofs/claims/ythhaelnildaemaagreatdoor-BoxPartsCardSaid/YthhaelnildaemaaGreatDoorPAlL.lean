/- light: few intervals of few words. -/
import Derived.Test.YthhaelnildaemaaGreatDoorPAl5
import Derived.Test.YthhaelnildaemaaGreatDoorPAl6
namespace Go.Proofs.YthhaelnildaemaaGreatDoor
open Go.RowKit Nx
set_option linter.unusedVariables false
set_option linter.unusedSimpArgs false
theorem l6_2 (la lb : List K) : Ct Tryz.prog 9 [kA2 la lb] (· = bA (lightK (la.map K.p) && lightK (lb.map K.p))) := by
  rcases Nat.lt_or_ge 6 la.length with h | h
  · exact ltxx la lb (decide_eq_true (by omega))
  rcases Nat.lt_or_ge 6 lb.length with h1 | h1
  · match la, h with
    | [], _ => exact lt0x  lb (decide_eq_true (by omega))
    | [a], _ => exact lt1x a lb (decide_eq_true (by omega))
    | [a, b], _ => exact lt2x a b lb (decide_eq_true (by omega))
    | [a, b, c], _ => exact lt3x a b c lb (decide_eq_true (by omega))
    | [a, b, c, d], _ => exact lt4x a b c d lb (decide_eq_true (by omega))
    | [a, b, c, d, e], _ => exact lt5x a b c d e lb (decide_eq_true (by omega))
    | [a, b, c, d, e, g], _ => exact lt6x a b c d e g lb (decide_eq_true (by omega))
    | _ :: _ :: _ :: _ :: _ :: _ :: _ :: _, h => exact absurd h (by simp)
  match la, lb, h, h1 with
  | [], [], _, _ => exact lt00
  | [], [s], _, _ => exact lt01 s
  | [], [s, t], _, _ => exact lt02 s t
  | [], [s, t, u], _, _ => exact lt03 s t u
  | [], [s, t, u, v], _, _ => exact lt04 s t u v
  | [], [s, t, u, v, x], _, _ => exact lt05 s t u v x
  | [], [s, t, u, v, x, y], _, _ => exact lt06 s t u v x y
  | [a], [], _, _ => exact lt10 a
  | [a], [s], _, _ => exact lt11 a s
  | [a], [s, t], _, _ => exact lt12 a s t
  | [a], [s, t, u], _, _ => exact lt13 a s t u
  | [a], [s, t, u, v], _, _ => exact lt14 a s t u v
  | [a], [s, t, u, v, x], _, _ => exact lt15 a s t u v x
  | [a], [s, t, u, v, x, y], _, _ => exact lt16 a s t u v x y
  | [a, b], [], _, _ => exact lt20 a b
  | [a, b], [s], _, _ => exact lt21 a b s
  | [a, b], [s, t], _, _ => exact lt22 a b s t
  | [a, b], [s, t, u], _, _ => exact lt23 a b s t u
  | [a, b], [s, t, u, v], _, _ => exact lt24 a b s t u v
  | [a, b], [s, t, u, v, x], _, _ => exact lt25 a b s t u v x
  | [a, b], [s, t, u, v, x, y], _, _ => exact lt26 a b s t u v x y
  | [a, b, c], [], _, _ => exact lt30 a b c
  | [a, b, c], [s], _, _ => exact lt31 a b c s
  | [a, b, c], [s, t], _, _ => exact lt32 a b c s t
  | [a, b, c], [s, t, u], _, _ => exact lt33 a b c s t u
  | [a, b, c], [s, t, u, v], _, _ => exact lt34 a b c s t u v
  | [a, b, c], [s, t, u, v, x], _, _ => exact lt35 a b c s t u v x
  | [a, b, c], [s, t, u, v, x, y], _, _ => exact lt36 a b c s t u v x y
  | [a, b, c, d], [], _, _ => exact lt40 a b c d
  | [a, b, c, d], [s], _, _ => exact lt41 a b c d s
  | [a, b, c, d], [s, t], _, _ => exact lt42 a b c d s t
  | [a, b, c, d], [s, t, u], _, _ => exact lt43 a b c d s t u
  | [a, b, c, d], [s, t, u, v], _, _ => exact lt44 a b c d s t u v
  | [a, b, c, d], [s, t, u, v, x], _, _ => exact lt45 a b c d s t u v x
  | [a, b, c, d], [s, t, u, v, x, y], _, _ => exact lt46 a b c d s t u v x y
  | [a, b, c, d, e], [], _, _ => exact lt50 a b c d e
  | [a, b, c, d, e], [s], _, _ => exact lt51 a b c d e s
  | [a, b, c, d, e], [s, t], _, _ => exact lt52 a b c d e s t
  | [a, b, c, d, e], [s, t, u], _, _ => exact lt53 a b c d e s t u
  | [a, b, c, d, e], [s, t, u, v], _, _ => exact lt54 a b c d e s t u v
  | [a, b, c, d, e], [s, t, u, v, x], _, _ => exact lt55 a b c d e s t u v x
  | [a, b, c, d, e], [s, t, u, v, x, y], _, _ => exact lt56 a b c d e s t u v x y
  | [a, b, c, d, e, g], [], _, _ => exact lt60 a b c d e g
  | [a, b, c, d, e, g], [s], _, _ => exact lt61 a b c d e g s
  | [a, b, c, d, e, g], [s, t], _, _ => exact lt62 a b c d e g s t
  | [a, b, c, d, e, g], [s, t, u], _, _ => exact lt63 a b c d e g s t u
  | [a, b, c, d, e, g], [s, t, u, v], _, _ => exact lt6_4 a b c d e g s t u v
  | [a, b, c, d, e, g], [s, t, u, v, x], _, _ => exact lt65 a b c d e g s t u v x
  | [a, b, c, d, e, g], [s, t, u, v, x, y], _, _ => exact lt66 a b c d e g s t u v x y
  | _ :: _ :: _ :: _ :: _ :: _ :: _ :: _, _, h, _ => exact absurd h (by simp)
  | _, _ :: _ :: _ :: _ :: _ :: _ :: _ :: _, _, h => exact absurd h (by simp)
theorem l6_1 (a : List K) : Ct Tryz.prog 9 [kA1 a] (· = bA (lightK (a.map K.p))) := by
  rcases Nat.lt_or_ge 6 a.length with h | h
  · exact lox a (decide_eq_true (by omega))
  match a, h with
  | [], _ => exact lo0
  | [a], _ => exact lo1 a
  | [a, b], _ => exact lo2 a b
  | [a, b, c], _ => exact lo3 a b c
  | [a, b, c, d], _ => exact lo4 a b c d
  | [a, b, c, d, e], _ => exact lo5 a b c d e
  | [a, b, c, d, e, g], _ => exact lo6 a b c d e g
  | _ :: _ :: _ :: _ :: _ :: _ :: _ :: _, h => exact absurd h (by simp)
theorem l6_2r {n m : Nat} {ls ms : List Lc} {a b : List (Nat × Nat)} (ha : asKs ls = some a) (hb : asKs ms = some b) : Ct Tryz.prog 9 [.s (.sl false 1 2 [.sl 6 n ls, .sl 6 m ms])] (· = bA (lightK a && lightK b)) := by
  intro ρ D w us ht hA
  obtain ⟨u, r, rfl, h1, h2⟩ := hA
  have h1 : (Lc.sl 1 2 [.sl 6 n ls, .sl 6 m ms]).R (SepF false ρ D) w u := RL.one.1 h1
  obtain ⟨h3, A, c, e, hc, h4⟩ := h1
  rcases h4 with h4 | ⟨ad, T, cs, e1, e2, hS, hB, h5, v1, vs, e3, r1, v2, ws, e4, r2, r3⟩
  · cases h4
  obtain ⟨ka, ra, rfl⟩ := slK ha r1
  obtain ⟨kb, rb, rfl⟩ := slK hb r2
  exact l6_2 ka kb ρ D w _ ht ⟨u, r, rfl, RL.one.2 ⟨rfl, A, c, e, hc, .inr ⟨ad, T, cs, e1, e2, hS, hB, h5, v1, vs, e3, ra, v2, ws, e4, rb, r3⟩⟩, h2⟩
theorem l6_1r {n : Nat} {ls : List Lc} {a : List (Nat × Nat)} (ha : asKs ls = some a) : Ct Tryz.prog 9 [.s (.sl false 1 1 [.sl 6 n ls])] (· = bA (lightK a)) := by
  intro ρ D w us ht hA
  obtain ⟨u, r, rfl, h1, h2⟩ := hA
  have h1 : (Lc.sl 1 1 [.sl 6 n ls]).R (SepF false ρ D) w u := RL.one.1 h1
  obtain ⟨h3, A, c, e, hc, h4⟩ := h1
  rcases h4 with h4 | ⟨ad, T, cs, e1, e2, hS, hB, h5, v1, vs, e3, r1, r3⟩
  · cases h4
  obtain ⟨ka, ra, rfl⟩ := slK ha r1
  exact l6_1 ka ρ D w _ ht ⟨u, r, rfl, RL.one.2 ⟨rfl, A, c, e, hc, .inr ⟨ad, T, cs, e1, e2, hS, hB, h5, v1, vs, e3, ra, r3⟩⟩, h2⟩
def gLt : List AV → Option (Prop × AV)
  | [.v false [.sl false sz k [.sl s1 _ ls, .sl s2 _ ms]]] => (match asKs ls, asKs ms with
    | some a, some b => some (sz = 1 ∧ k = 2 ∧ s1 = 6 ∧ s2 = 6, bA (lightK a && lightK b))
    | _, _ => none)
  | [.v false [.sl false sz k [.sl s1 _ ls]]] => (match asKs ls with
    | some a => some (sz = 1 ∧ k = 1 ∧ s1 = 6, bA (lightK a))
    | none => none)
  | _ => none
noncomputable def Tlaw6_light : Tbl := one 9 gLt
theorem Tlaw6_light_ok : TbOK Tryz.prog Tlaw6_light := one_ok (ent Tryz.func9 (by kernel_rfl) rfl) fun args e he hp => by
  unfold gLt at he
  split at he
  · split at he
    · rename_i h1 h2
      injection he with he; subst he
      obtain ⟨rfl, rfl, rfl, rfl⟩ := hp
      exact l6_2r h1 h2
    · cases he
  · split at he
    · rename_i h1
      injection he with he; subst he
      obtain ⟨rfl, rfl, rfl⟩ := hp
      exact l6_1r h1
    · cases he
  · cases he
end Go.Proofs.YthhaelnildaemaaGreatDoor
