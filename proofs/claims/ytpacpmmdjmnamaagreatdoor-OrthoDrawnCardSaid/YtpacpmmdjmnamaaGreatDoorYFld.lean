/- A field of a number that is a value. -/
import Derived.Test.YtpacpmmdjmnamaaGreatDoorYNum1
import Derived.Test.YtpacpmmdjmnamaaGreatDoorYNumPR
namespace Go.Proofs.YtpacpmmdjmnamaaGreatDoor
open Go.RowKit Nx
section

end
section
theorem gY {a:Act} {d d':Tmp} {v:Value} (h:d≠d'):(a.put (some d) v).tmps[d']? =a.tmps[d']?:=by
 simp only [Act.put,Array.getElem?_setIfInBounds_ne h]
theorem iR {a:Act} {d:Tmp} {v:Value} (h:d<a.tmps.size):(a.put (some d) v).tmps[d]? =some v:=by
 simp [Act.put,h]
theorem iS (a:Act) (d:Tmp) (v:Value):(a.put (some d) v).tmps.size=a.tmps.size:=by simp [Act.put]
theorem yj {o:Oper} {f:Nat→Option Bool} (hg:o.guard=none):Region.wanted o f=true:=by simp [Region.wanted,hg]
def Kno (s:Nat) (a:Act) (l:List (Nat×Value)):Prop:=a.tmps.size=s∧a.defers=[]∧∀ t v,(t,v)∈l→a.tmps[t]? =some v
theorem Kno.put {s:Nat} {a:Act} {l:List (Nat×Value)} (h:Kno s a l) (d:Tmp) (v:Value) (hd:d<s) (hf:(l.all fun p=>!(p.1==d))=true):Kno s (a.put (some d) v) ((d,v)::l):=by
 refine ⟨(iS ..).trans h.1,h.2.1,fun t u hm=>?_⟩
 rcases List.mem_cons.1 hm with e |e
 ·injection e with e1 e2
  subst e1;subst e2
  exact iR (by rw [h.1];exact hd)
 ·have:=List.all_eq_true.1 hf _ e
  have hne:t≠d:=by simpa using this
  exact (gY (Ne.symm hne)).trans (h.2.2 t u e)
theorem Kno.ev {s:Nat} {a:Act} {l:List (Nat×Value)} (h:Kno s a l) {t:Nat} {v:Value} (hm:(t,v)∈l):a.eval (.tmp t)=v:=by
 simp only [Act.eval,Array.getD_eq_getD_getElem?]
 rw [h.2.2 t v hm];rfl
theorem Kno.less {s:Nat} {a:Act} {l l':List (Nat×Value)} (h:Kno s a l) (hs:∀ p,p∈l'→p∈l):Kno s a l':=⟨h.1,h.2.1,fun t v hm=>h.2.2 t v (hs _ hm)⟩
section
variable {ops:Array Oper} {Q:Exit→Act→World→Prop} {S:World→Prop} {fuel sz:Nat} {L L':Array Bool} {a:Act} {w:World} {l:List (Nat×Value)}
end
section
variable {ρ:Operand→Value} {o:Oper} {w:World}
end
end
end Go.Proofs.YtpacpmmdjmnamaaGreatDoor
