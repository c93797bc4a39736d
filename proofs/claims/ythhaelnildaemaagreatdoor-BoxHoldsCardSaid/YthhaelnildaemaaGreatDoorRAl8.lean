/- The document's boxes: sums, differences, multiples, middles. -/
import Derived.Test.YthhaelnildaemaaGreatDoorRAl4
import Derived.Test.YthhaelnildaemaaGreatDoorRAi4
import Derived.Test.YthhaelnildaemaaGreatDoorRAl3
namespace Go.Proofs.YthhaelnildaemaaGreatDoor
open Go.RowKit Nx
set_option linter.unusedVariables false
set_option linter.unusedSimpArgs false
attribute [local irreducible] chk
def gJBI (k : J → List J → Int → Prop × AV) : List AV → Option (Prop × AV)
  | [.v true mj, x, .v false [.lit (.int .i64 z)]] => (match asIv mj, asB x with
    | some j, some l => some (k j l z)
    | _, _ => none)
  | _ => none
theorem gJBI_ct {P : Program} {f : FuncId} {k : J → List J → Int → Prop × AV} (h : ∀ j l z, (k j l z).1 → Ct P f [jA j, bA_ l, iA z] (· = (k j l z).2)) {args : List AV} {e : Prop × AV} (he : gJBI k args = some e) (hp : e.1) : Ct P f args (· = e.2) := by
  unfold gJBI at he
  split at he
  · split at he
    · rename_i j l hj hl
      injection he with he; subst he
      rw [asIv_eq hj]
      exact (h j l _ hp).of fun ρ D w => RA.c (fun u h => h) (RA.c (fun u => asB_R hl) fun us h => h)
    · cases he
  · cases he
noncomputable def Tbox_Times : Tbl := one 25 (gJBI fun x l z => (True, bxe (bothB (fun a _ => mulJ x a z) l l)))
theorem Tbox_Times_ok : TbOK Tryz.prog Tbox_Times := one_ok (ent Tryz.func25 (by kernel_rfl) rfl) fun args e h hp => gJBI_ct (fun x l z _ => b_times x l z) h hp
end Go.Proofs.YthhaelnildaemaaGreatDoor
namespace Go.Proofs.YthhaelnildaemaaGreatDoor
open Go.RowKit Nx
set_option linter.unusedVariables false
set_option linter.unusedSimpArgs false
attribute [local irreducible] chk
noncomputable def rblowJ (j : J) (z : Int) : J × Int := bif (rwide j z).2 != 0 then (zJ, (rwide j z).2) else bif (scalex (qx (rwide j z).1) (-2)).2 != 0 then (zJ, (scalex (qx (rwide j z).1) (-2)).2) else
  bif (rtwo (gk 1 z false) z j.lo (qx (scalex (qx (rwide j z).1) (-2)).1)).2 != 0 then (zJ, 2) else bif (rtwo (gk 0 z true) z j.hi (qx (scalex (qx (rwide j z).1) (-2)).1)).2 != 0 then (zJ, 2) else
  (⟨qx (rtwo (gk 1 z false) z j.lo (qx (scalex (qx (rwide j z).1) (-2)).1)).1, qx (rtwo (gk 0 z true) z j.hi (qx (scalex (qx (rwide j z).1) (-2)).1)).1⟩, 0)
theorem rwide_1 {z : Int} (h : prb z = false) (a : J) : rwide a z = (q0, 1) := by
  unfold rwide; rw [h]; cases okJ a <;> rfl
theorem prX_1 {z : Int} (h : prb z = false) (a : J) : prX (rwide a z) = (zX, 1) := by rw [rwide_1 h]; kernel_rfl
theorem rblow_1 {z : Int} (h : prb z = false) (a : J) : rblowJ a z = (zJ, 1) := by
  unfold rblowJ; rw [rwide_1 h]; rfl
end Go.Proofs.YthhaelnildaemaaGreatDoor
namespace Go.Proofs.YthhaelnildaemaaGreatDoor
open Go.RowKit Nx
set_option linter.unusedVariables false
set_option linter.unusedSimpArgs false
attribute [local irreducible] chk
end Go.Proofs.YthhaelnildaemaaGreatDoor
