/- Decks: what is drawn. -/
import Derived.Test.YtpacpmmdjmnamaaGreatDoorYAo1
import Derived.Test.YtpacpmmdjmnamaaGreatDoorYAl5
import Derived.Test.YtpacpmmdjmnamaaGreatDoorYAi4
import Derived.Test.YtpacpmmdjmnamaaGreatDoorYAkA
namespace Go.Proofs.YtpacpmmdjmnamaaGreatDoor
section
open Go.RowKit Nx
set_option linter.unusedVariables false
set_option linter.unusedSimpArgs false
attribute [local irreducible] be
theorem ba {α:Type} {l:List α} {j:Nat} (d:α) (h:j<l.length):l[j]? =some (l.getD j d):=by
 rw [List.getD_eq_getElem?_getD,List.getElem?_eq_getElem h];rfl
theorem bZ {S T:fR} {f:FuncId} {args:List AV} (h1:S f args=none) (h2:T f args=none):dh S T f args=none:=by unfold dh;rw [h1];exact h2
theorem fq {l:List X} {j:Nat} {x:X} (h:l[j]? =some x):List.take 3 (List.drop (j*3) (pC l))=[.lit (.bool x.s),.lit (.int .i64 x.e),.ws x.xs]:=AA h
end
section
set_option linter.unusedSimpArgs false
set_option linter.unusedVariables false
open Go.RowKit Nx
section
theorem ub:IntKind.u64.bits=64:=rfl
theorem Ht {k:Nat}:(0:Int)≤((k:Nat):Int):=Int.natCast_nonneg k
noncomputable def kN:fR:=one 99 (uR fun b l z=>(l.length≤100,nA (res (nm b (nval B64 l) z)).1))
theorem rb:TbOK Tryz.prog kN:=cC (ew Tryz.func99 (by kernel_rfl) rfl) fun args e h hp=>by
 obtain ⟨b,l,z,rfl,rfl⟩:=Cg h
 exact Hp rfl (fun w Al nl cl ht hl hn=>(Ba w b z Al nl cl l hl (by have:=hl.1.1;have hp:l.length≤100:=hp;omega)).mono fun _ _ h=>AC (pv _) h)
theorem od {op:BinOp} {a b:Int}:(0≤bits op .u64 a b∧bits op .u64 a b<18446744073709551616)↔True:=by
 refine iff_of_true ?_ trivial
 unfold bits
 simp only [IntKind.wrap_u64]
 omega
theorem oB {a:Int}:(0≤IntKind.u64.wrap a∧IntKind.u64.wrap a<18446744073709551616)↔True:=by
 refine iff_of_true ?_ trivial
 rw [IntKind.wrap_u64];omega
theorem wF (v t:Nat) (ht:t≤64):((v:Int).fdiv (2^min t 64))=((v / 2^t:Nat):Int):=by
 rw [Nat.min_eq_left ht,Int.fdiv_eq_ediv_of_nonneg _ (Int.le_of_lt (mC t)),Int.natCast_ediv,Int.natCast_pow];rfl
end
section
def GX (x:X):Prop:=x.ok=true∧Small B64 x.xs
theorem uW {q:Q} (h:aH q):GX (qx q):=⟨(gF h).1,(gF h).2.1⟩
theorem yB {x:X} (h:GX x):GX (qx (absx x))∧0≤(qx (absx x)).v:=by
 have hv:=eQ h.1 h.2
 rw [rc h.1 h.2]
 exact ⟨uW (kO hv),by rw [nZ hv];exact Int.natCast_nonneg _⟩
end
end
end Go.Proofs.YtpacpmmdjmnamaaGreatDoor
