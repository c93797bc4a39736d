/- The document's matrices by loops: sums, multiples, middles, products with boxes; columns. -/
import Derived.Test.YtcpfepjdeikchaaGreatDoorYAo3
import Derived.Test.YtcpfepjdeikchaaGreatDoorYAl7
namespace Go.Proofs.YtcpfepjdeikchaaGreatDoor
section
set_option linter.unusedSimpArgs false
set_option linter.unusedVariables false
section
open Go.RowKit Nx
attribute [local irreducible] chk
abbrev uX : X := ⟨false, 0, [1]⟩
def onR (n j : Nat) : List X := List.replicate j zX ++ uX :: List.replicate (n - 1 - j) zX
def onM (n : Nat) : List (List X) := (List.range n).map (onR n)
theorem onR_len {n j : Nat} (h : j < n) : (onR n j).length = n := by unfold onR; simp; omega
theorem onM_len (n : Nat) : (onM n).length = n := by unfold onM; simp
theorem id_on (n : Nat) : idM n = (onM n).map poi := by
 unfold idM onM
 rw [List.map_map]
 refine List.map_congr_left fun j _ => ?_
 show idR n j = poi (onR n j)
 unfold idR onR poi
 rw [List.map_append, List.map_cons, List.map_replicate, List.map_replicate]
 rw [show oJ = (⟨uX, uX⟩ : J) from by kernel_rfl]
 rfl
def onZ (z : Int) : List (List X) := bif rng z 1 4 then onM z.toNat else []
theorem mId (z : Int) : Ct Tryz.prog 15 [iA z] (· = .s (mL ((onZ z).map poi))) := by
 unfold onZ
 cases h : rng z 1 4 with
 | false => exact mId0 z h
 | true =>
  have hr := rng_true h
  obtain ⟨n, rfl⟩ : ∃ n : Nat, z = (n : Int) := ⟨z.toNat, by omega⟩
  rw [cond_true, show ((n : Int)).toNat = n from rfl, ← id_on]
  exact mId1 n h
noncomputable def TmId : Tbl := one 15 (gA asZ fun z => gE (True, .s (mL ((onZ z).map poi))))
theorem TmId_ok : TbOK Tryz.prog TmId := one_t (ent Tryz.func15 (by kernel_rfl) rfl) (.a asZ_ok fun z => .e fun _ => mId z)
end
section
open Go.RowKit Nx
attribute [local irreducible] chk
end
section
open Go.ChangeShapes Go.WideShapes Go.ChangeAt Go.RowKit Go.Joins Nx
abbrev P2 := Nat × Nat
def ML (W : World) : List (List J) → List Value → Prop
 | [], us => us = []
 | l :: m, us => ∃ (u : Value) (r : List Value), us = u :: r ∧ BoxV W u l ∧ ML W m r
def MatV (W : World) (v : Value) (m : List (List J)) : Prop := SlV W v m.length 1 (ML W m)
section
variable {W : World} {v : Value}
theorem ML.ws : ∀ {m : List (List J)} {us : List Value}, ML W m us → (∀ l ∈ m, ∀ j ∈ l, j.lo.xs.length ≤ 100000 ∧ j.hi.xs.length ≤ 100000) → LcL (SepF false envA noD) W (m.map rC) us := by
 intro m
 induction m with
 | nil => intro us h _; exact h
 | cons l m ih =>
  rintro us ⟨u, r, rfl, h1, h2⟩ hs
  exact ⟨u, r, rfl, h1.R noSep (bC_len l) fun _ h => h.ws (hs l (List.mem_cons_self ..)), ih h2 fun l hl => hs l (List.mem_cons_of_mem _ hl)⟩
theorem MatV.ws {m : List (List J)} (h : MatV W v m) (hs : ∀ l ∈ m, ∀ j ∈ l, j.lo.xs.length ≤ 100000 ∧ j.hi.xs.length ≤ 100000) : (mA_ m).R envA noD W v := RL.one.2 (h.R noSep (by simp) fun _ h => h.ws hs)
end
section
variable {H : Type} {enc : TypeId × Value → H} {W : World}
end
end
end
section
section
set_option linter.unusedSimpArgs false
set_option linter.unusedVariables false
open Go.RowKit Nx
attribute [local irreducible] chk
section
theorem fm_all {α : Type} {cf : α → List Lf} {p : Lf → Bool} (h : ∀ a, (cf a).all p = true) : ∀ (l : List α), (l.flatMap cf).all p = true := by
 intro l
 induction l with
 | nil => rfl
 | cons a l ih => rw [List.flatMap_cons, List.all_append, h, ih]; rfl
theorem fm_snoc {α : Type} {cf : α → List Lf} (l : List α) (a : α) : l.flatMap cf ++ cf a = (l ++ [a]).flatMap cf := by rw [List.flatMap_append, List.flatMap_cons, List.flatMap_nil, List.append_nil]
end
section

end
end
section
set_option linter.unusedSimpArgs false
set_option linter.unusedVariables false
open Go.RowKit Nx
attribute [local irreducible] chk
section

end
section

end
end
end
end Go.Proofs.YtcpfepjdeikchaaGreatDoor
