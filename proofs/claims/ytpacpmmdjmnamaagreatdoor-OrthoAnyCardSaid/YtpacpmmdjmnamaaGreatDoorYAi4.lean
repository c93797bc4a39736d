/- What package iv answers against what the document says: sums and differences. -/
import Derived.Test.YtpacpmmdjmnamaaGreatDoorYAi3
namespace Go.Proofs.YtpacpmmdjmnamaaGreatDoor
section
section
open Go.RowKit Nx
set_option linter.unusedVariables false
set_option linter.unusedSimpArgs false
theorem so:((1:Nat):Int)=1:=rfl
theorem sr:((2:Nat):Int)=2:=rfl
theorem fX:IntKind.i64.wrap 1=1:=by kernel_rfl
theorem fW:IntKind.i64.wrap 0=0:=by kernel_rfl
theorem wP:IntKind.i64.wrap 2=2:=by kernel_rfl
def pQ (z:Int):Bool:=decide (8≤z)&&decide (z≤256)
structure SX where
 x:X
 e:Int
def SX.L (c:SX):List Lf:=[.lit (.bool c.x.s),.lit (.int .i64 c.x.e),.ws c.x.xs,.lit (.int .i64 c.e)]
theorem SX.eta (c:SX):SX.mk c.x c.e=c:=rfl
def uH:List Lf→Option SX
 |[.lit (.bool s),.lit (.int .i64 e),.ws xs,.lit (.int .i64 z)]=>some ⟨⟨s,e,xs⟩,z⟩
 |_=>none
def X.e0 (x:X):X:=⟨x.s,0,x.xs⟩
def JA (k:J→Bool→Prop×AV):List AV→Option (Prop×AV)
 |[.v true mj,.v false [.lit (.bool b)]]=>(match fi mj with
  |some j=>some (k j b)
  |_=>none)
 |_=>none
def gC (k:SX→Prop×AV):List AV→Option (Prop×AV)
 |[.v true mc]=>(match uH mc with
  |some c=>some (k c)
  |_=>none)
 |_=>none
def Jz (k:SX→SX→Prop×AV):List AV→Option (Prop×AV)
 |[.v true mc,.v true mc1]=>(match uH mc,uH mc1 with
  |some c,some c1=>some (k c c1)
  |_,_=>none)
 |_=>none
end
section
set_option linter.unusedSimpArgs false
set_option linter.unusedVariables false
open Go.RowKit Nx
section

end
section
theorem dv {P:Program} {A B:eJ} {g:FuncId} {F:Nat→Prop} {w0:World} (ho:BH A g) (hA:OrOK P A F w0) (hB:OrOK P B F w0) (hn:∀ d st args,B g d st args=none):OrOK P (fB A B) F w0:=
 Av hA hB fun f d st args e he st'=>by
  by_cases hf:f=g
  ·subst hf;rw [hn] at he;cases he
  ·exact ho f d st' args hf
end
end
end
section
set_option linter.unusedSimpArgs false
set_option linter.unusedVariables false
open Go.RowKit Nx
section
theorem jU (z:Int):vp z=pQ z:=by unfold vp pQ;rfl
theorem xI {z:Int} (h:pQ z=true):dO z=true:=by
 unfold pQ at h
 simp only [Bool.and_eq_true,decide_eq_true_eq] at h
 simp only [dO,decide_eq_true_eq];exact h
theorem gp {g:Q→Q→Q×Int} {z:Int} {x y:X} (hx:x.ok=true) (hy:y.ok=true) (hp:pQ z=true):an g z x y=g x.q y.q:=by
 unfold an iF
 unfold X.ok at hx hy
 rw [hx,hy,xI hp]
 rfl
def X.v (x:X):Int:=x.q.at 65536
theorem IF {x:X} (h:x.ok=true): -((65536:Nat):Int)≤x.q.e:=by
 show -((65536:Nat):Int)≤x.e
 unfold X.ok eP at h
 split at h
 ·simp only [Bool.and_eq_true,beq_iff_eq] at h;omega
 ·simp only [Bool.and_eq_true,decide_eq_true_eq] at h;omega
theorem Fa {x y:X} (hx:x.ok=true) (hy:y.ok=true):cmpx x y=if x.v<y.v then -1 else if y.v<x.v then 1 else 0:=by
 rw [EZ hx hy];exact vS (IF hx) (IF hy)
theorem jO {x y:X} (hx:x.ok=true) (hy:y.ok=true):cmpx x y>0↔y.v<x.v:=by
 rw [Fa hx hy]
 by_cases h1:x.v<y.v<;>by_cases h2:y.v<x.v<;>simp [h1,h2]
 omega
end
section
theorem tR {x:X} (h:x.ok=true):dF x=signq x.q:=by unfold dF;rw [if_pos h]
theorem zX_v:zX.v=0:=by unfold X.v;rw [Ko];exact Kt _
theorem CV {z:Int} {b:Bool} {x y:X} (hx:x.ok=true) (hy:y.ok=true) (hp:pQ z=true) (h0:y.q.m≠0):an (dq z b) z x y=res (ib z.toNat b x.q y.q):=by
 rw [gp hx hy hp];unfold dq;rw [if_neg h0]
end
section
theorem sgn_ge {x:X}:(signq x.q≥0↔0≤x.v):=by
 rw [pD (E:=65536)]
 show (if x.v<0 then (-1:Int) else if 0<x.v then 1 else 0)≥0↔_
 by_cases h:x.v<0<;>by_cases h2:0<x.v<;>simp [h,h2]<;>omega
theorem sgn_le {x:X}:(signq x.q≤0↔x.v≤0):=by
 rw [pD (E:=65536)]
 show (if x.v<0 then (-1:Int) else if 0<x.v then 1 else 0)≤0↔_
 by_cases h:x.v<0<;>by_cases h2:0<x.v<;>simp [h,h2]<;>omega
theorem sgn_gt {x:X}:(signq x.q>0↔0<x.v):=by
 rw [pD (E:=65536)]
 show (if x.v<0 then (-1:Int) else if 0<x.v then 1 else 0)>0↔_
 by_cases h:x.v<0<;>by_cases h2:0<x.v<;>simp [h,h2]
 omega
end
section

end
section
theorem rJ {z:Int} {b:Bool} {x y:X} (hx:x.ok=true) (hy:y.ok=true) (hp:pQ z=true):an (bf z b) z x y=res (dP z.toNat b (times x.q y.q)):=by
 rw [gp hx hy hp];rfl
end
section

end
end
end Go.Proofs.YtpacpmmdjmnamaaGreatDoor
