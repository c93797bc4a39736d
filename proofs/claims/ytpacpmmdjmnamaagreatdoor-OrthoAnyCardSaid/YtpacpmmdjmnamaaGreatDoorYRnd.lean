/- fathomlineref1: Fit. fathomlineref1: Reckon. -/
import Derived.Test.YtpacpmmdjmnamaaGreatDoorYRnd1
import Derived.Test.YtpacpmmdjmnamaaGreatDoorYReg
import Derived.Deep.DeepCutAuto
namespace Go.Proofs.YtpacpmmdjmnamaaGreatDoor
open Go.RowKit Nx
section
theorem lK {M P k:Nat} (h:nbits M≤P) (hP:P≤64*k):M<B64^k:=by
 rw [dC];exact Nat.lt_of_lt_of_le (kB h) (Nat.pow_le_pow_right (by omega) hP)
end
section
noncomputable def gk (kd p:Int) (up:Bool) (a b:Q):Q×Int:=if kd=3 then (if b.m=0 then (q0,3) else res (ib p.toNat up a b)) else res (dP p.toNat up (KA kd a b))
theorem FU {Z e:Int} {k:Nat} {b:Int} (hZ:Z.natAbs<B64^k) (h1: -b≤e) (h2:e≤b) (hb:0≤b):(mA Z e).m<B64^k∧ -b≤(mA Z e).e∧(mA Z e).e≤b+64*k:=
 ⟨Nat.lt_of_le_of_lt (FV _ _) hZ,my hZ h1 h2 hb⟩
theorem CJ {a b:Q} {k:Nat} (ha:a.m<B64^k) (hb:b.m<B64^k) (h1: -65536≤a.e) (h2:a.e≤65536) (h3: -65536≤b.e) (h4:b.e≤65536):
  (plus a b).m<B64^(k+2048+1)∧ -65536≤(plus a b).e∧(plus a b).e≤65536+64*(k+2048+1:Nat):=by
 have hl1:(a.e - lowe a b).toNat≤131072:=by unfold lowe;omega
 have hl2:(b.e - lowe a b).toNat≤131072:=by unfold lowe;omega
 refine FU (Nat.lt_of_le_of_lt (Int.natAbs_add_le _ _) ?_) (by unfold lowe;omega) (by unfold lowe;omega) (by omega)
 rw [sd,sd]
 exact la (nu ha hl1) (nu hb hl2)
end
section
section
variable {w:World} {a b:Q} {A B:Option Addr} {n c m d:Nat}
end
theorem zo (p:Int) (up:Bool):gk 0 p up=eB p up:=by funext a b;rfl
theorem Fs (p:Int) (up:Bool):gk 1 p up=jQ p up:=by funext a b;rfl
theorem uT (p:Int) (up:Bool):gk 2 p up=bf p up:=by funext a b;rfl
theorem rv (p:Int) (up:Bool):gk 3 p up=dq p up:=by funext a b;rfl
theorem oa {g:Q→Q→Q×Int} (hg:∀ a b,aH (g a b).1) (p:Int) (s:Bool) (e:Int) (n:Nat) (xs:List Nat) (s':Bool) (e':Int) (m:Nat) (ys:List Nat):aH (iF g p s e n xs s' e' m ys).1:=by
 unfold iF;split
 ·exact hg _ _
 ·exact pJ
theorem Fo (p:Int) (up:Bool) (a b:Q):aH (eB p up a b).1:=lf (dT _ _ _)
theorem Fz (p:Int) (up:Bool) (a b:Q):aH (jQ p up a b).1:=lf (dT _ _ _)
theorem Fu (p:Int) (up:Bool) (a b:Q):aH (bf p up a b).1:=lf (dT _ _ _)
theorem Fq (p:Int) (up:Bool) (a b:Q):aH (dq p up a b).1:=by
 unfold dq;split
 ·exact pJ
 ·exact lf (pt _ _ _ _)
def n1:Q:=⟨false,1,0⟩
def n3:Q:=⟨false,3,0⟩
end
section
def n4:Q:=⟨false,1,2⟩
def n9:Q:=⟨false,9,0⟩
theorem Kno.nil {s:Nat} {a:Act} {l:List (Nat×Value)} (h:Kno s a l):Kno s a []:=⟨h.1,h.2.1,fun _ _ hm=>by cases hm⟩
theorem Kno.add {s:Nat} {a:Act} {l l':List (Nat×Value)} {t:Nat} {v:Value} (h':Kno s a l') (h:Kno s a l) (hm:(t,v)∈l):Kno s a ((t,v)::l'):=⟨h.1,h.2.1,fun t' v' hm'=>by
 rcases List.mem_cons.1 hm' with e |e
 ·injection e with e1 e2
  subst e1;subst e2
  exact h.2.2 _ _ hm
 ·exact h'.2.2 t' v' e⟩
section
variable {ops:Array Oper} {QQ:Exit→Act→World→Prop} {sz n:Nat} {a:Act} {w:World} {l:List (Nat×Value)}
end
end
end Go.Proofs.YtpacpmmdjmnamaaGreatDoor
