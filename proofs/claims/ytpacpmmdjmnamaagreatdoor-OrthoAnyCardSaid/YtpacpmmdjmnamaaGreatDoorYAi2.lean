/- The document's side of package iv: quotients, the four operations, the middle. -/
import Derived.Test.YtpacpmmdjmnamaaGreatDoorYAiK
namespace Go.Proofs.YtpacpmmdjmnamaaGreatDoor
set_option linter.unusedSimpArgs false
set_option linter.unusedVariables false
open Go.RowKit Nx
section
theorem Ko:zX.q=q0:=rfl
theorem eQ {x:X} (h:x.ok=true) (hs:Small B64 x.xs):aH x.q:=by
 have ha:Arg (default:World) none x.xs.length x.xs.length x.xs→True:=fun _=>trivial
 clear ha
 unfold X.ok eP at h
 unfold X.q
 split at h
 ·rename_i h0
  have hx:x.xs=[]:=List.eq_nil_of_length_eq_zero h0
  rw [Bool.and_eq_true] at h
  obtain ⟨h1,h2⟩:=h
  have h1:x.e=0:=by simpa using h1
  have h2:x.s=false:=by simpa using h2
  rw [hx,h1,h2];exact pJ
 ·rename_i h0
  simp only [Bool.and_eq_true,decide_eq_true_eq] at h
  obtain ⟨⟨⟨⟨h1,h2⟩,h3⟩,h4⟩,h5⟩:=h
  have hl:=aM hs
  have hodd:nval B64 x.xs%2=1:=by
   cases hx:x.xs with
   |nil=>rw [hx] at h0;exact absurd rfl h0
   |cons a r=>
    rw [hx] at h3
    simp only [nval]
    have h3:a%2=1:=by simpa using h3
    have:B64*nval B64 r%2=0:=by
     rw [Nat.mul_mod,show B64%2=0 from rfl,Nat.zero_mul]
    omega
  refine ⟨⟨fun h=>?_,fun _=>hodd⟩,?_,h4,h5⟩
  ·have h:nval B64 x.xs=0:=h
   rw [h] at hodd;cases hodd
  ·exact Nat.lt_of_lt_of_le hl (Nat.pow_le_pow_right (by decide) h2)
theorem EZ {x y:X} (hx:x.ok=true) (hy:y.ok=true):cmpx x y=cmpq x.q y.q:=by
 unfold cmpx kp
 rw [if_pos (by unfold X.ok at hx hy;rw [hx,hy];rfl)];rfl
theorem tF {p:Int} (h:vp p=true):Pr p:=by unfold vp at h;rw [Bool.and_eq_true] at h;exact ⟨by simpa using h.1,by simpa using h.2⟩
def Vm (q:Q):Prop:=Vw q∧ -20000000≤q.e∧q.e≤20000000
theorem Bu {q:Q} (h:Vm q):Vw q:=h.1
theorem Ek {q:Q} (h:Vb q):Vm q:=⟨Je h,by have:=h.2.2.1;omega,by have:=h.2.2.2;omega⟩
theorem sh {a b:Q} (ha:aH a) (hb:aH b):Vm (plus a b):=by
 obtain ⟨k0,hk0⟩:∃ k0:Nat,k0=64:=⟨_,rfl⟩
 have h1:=ha.2.1;have h2:=hb.2.1
 rw [←hk0] at h1 h2
 obtain ⟨l1,l2,l3⟩:=CJ h1 h2 ha.2.2.1 ha.2.2.2 hb.2.2.1 hb.2.2.2
 refine ⟨⟨nb _ _,zB (b:=5000) (by omega) l1,?_,?_⟩,?_,?_⟩<;>omega
theorem uh {a b:Q} (ha:aH a) (hb:aH b):Vm (minus a b):=sh ha (xx hb)
theorem vw {p:Int} (hp:Pr p) (up:Bool) {q:Q} (h:Vm q):Vw (dP p.toNat up q):=Gi hp up h.1 h.2.1 h.2.2
structure GJ (j:J):Prop where
 lo:Small B64 j.lo.xs
 hi:Small B64 j.hi.xs
def wa (k:Int→J→J→Int→Prop×AV):List AV→Option (Prop×AV)
 |[.v false [.lit (.int .i64 z)],.v true mj,.v true mj1,.v false [.lit (.int .i64 z1)]]=>(match fi mj,fi mj1 with
  |some j,some j1=>some (k z j j1 z1)
  |_,_=>none)
 |_=>none
end
section
theorem gF {q:Q} (hv:aH q):(qx q).ok=true∧Small B64 (qx q).xs∧(qx q).q=q:=by
 refine ⟨?_,af B64_two _,by unfold X.q qx;simp only [ae B64_two]⟩
 obtain ⟨hc,f1,f2,f3⟩:=hv
 unfold X.ok qx eP
 simp only
 by_cases h0:(digs B64 q.m).length=0
 ·rw [if_pos h0]
  have hm:q.m=0:=(dl B64_two).1 (List.eq_nil_of_length_eq_zero h0)
  rw [hc.1 hm];rfl
 ·rw [if_neg h0]
  have hm:q.m≠0:=fun hm=>h0 (by rw [hm,aq];rfl)
  have hlast:(digs B64 q.m).getD ((digs B64 q.m).length - 1) 0≠0:=by
   obtain ⟨y,hg⟩:∃ y,(digs B64 q.m)[(digs B64 q.m).length - 1]? =some y:=⟨_,List.getElem?_eq_getElem (by omega)⟩
   rw [getD_of hg]
   exact jr B64_two _ _ (by rw [List.getLast?_eq_getElem?];exact hg)
  have hodd:(digs B64 q.m).getD 0 0%2=1:=by
   rw [dp B64_two hm]
   show q.m%B64%2=1
   have:=hc.2 hm
   unfold B64;omega
  have hle:(digs B64 q.m).length≤64:=bk B64_two f1
  simp only [Bool.and_eq_true,decide_eq_true_eq]
  exact ⟨⟨⟨⟨hlast,hle⟩,hodd⟩,f2⟩,f3⟩
def cd (q:Q):Int:=(nbits q.m:Int)+q.e
def Ie (v:Q):Q:=⟨v.s,v.m,IntKind.i64.wrap (v.e - 1)⟩
def JH (v:Q):Q:=bif decide (((digs B32 v.m).length:Int)>0) then Ie v else v
noncomputable def JZ (j:J) (p:Int):X×Int:=bif !(KB j)|| !(vp p) then (zX,1) else bif decide (cmpq (dP p.toNat false (JH (plus j.lo.q j.hi.q))) j.lo.q<0) then (j.lo,0) else (qx (res (dP p.toNat false (JH (plus j.lo.q j.hi.q)))).1,(res (dP p.toNat false (JH (plus j.lo.q j.hi.q)))).2)
abbrev yk (r:X×Int):AV:=.tup [(true,r.1.L),(false,[.lit (.int .i64 r.2)])]
theorem um:qx q0=zX:=by unfold qx zX;rw [show q0.m=0 from rfl,aq];rfl
end
section
section
variable {j:J} {z:Int} (g0:GJ j) (h:((JZ j z).2 !=0)=false)
include g0 h
end
end
end Go.Proofs.YtpacpmmdjmnamaaGreatDoor
