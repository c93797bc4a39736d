/- Boxes of which only the lengths are looked at. -/
import Derived.Test.YtpacpmmdjmnamaaGreatDoorYAi4
import Derived.Test.YtpacpmmdjmnamaaGreatDoorYAl1
namespace Go.Proofs.YtpacpmmdjmnamaaGreatDoor
section
set_option linter.unusedSimpArgs false
set_option linter.unusedVariables false
open Go.RowKit Nx
section
section
variable {E p:Nat} {q r a b:Q}
theorem DJ (q:Q):q.at E=sg q.s (q.m*2^(q.e+E).toNat):=by unfold Q.at;rw [Kr,Gp,Int.natCast_pow];rfl
end
theorem AQ {q:Q} (k:Int) (h:q.m≠0):jX q k=⟨q.s,q.m,q.e+k⟩:=by unfold jX;rw [if_neg h]
theorem zQ (s:Bool) (M:Nat) (e k:Int):nm s M (e+k)=jX (nm s M e) k:=by
 by_cases h:M=0
 ·rw [h,dd,dd];rfl
 ·have h2:M / 2^ntz M≠0:=fun h0=>by have h1:=(jC h).1;rw [h0,Nat.zero_mul] at h1;exact h h1
  unfold nm jX
  rw [if_neg h,if_neg h,if_neg h2]
  simp only
  congr 1;omega
structure Rp (r:Q):Prop where
 v:aH r
 nz:r.m≠0
 bits:nbits r.m≤256
 lo:0≤r.e
 hi:r.e≤8200
end
section
theorem yb {r:Q} (hv:aH r) (k:Int):ar (qx r) k=res (jX r k):=by
 have h1:=(gF hv).1
 unfold ar mR
 unfold X.ok at h1
 rw [h1]
 show res (nm r.s (nval B64 (digs B64 r.m)) (r.e+k))=_
 rw [ae B64_two,zQ,zP hv.1]
theorem vJ {r:Q} (hv:aH r):absx (qx r)=r.abs:=by
 have h1:=(gF hv).1
 unfold absx anssign
 unfold X.ok at h1
 rw [h1]
 show (if nval B64 (digs B64 r.m)=0 then q0 else ⟨false,nval B64 (digs B64 r.m),r.e⟩)=_
 rw [ae B64_two];rfl
theorem kO {r:Q} (h:aH r):aH r.abs:=by
 refine ⟨qi h.1,?_⟩
 unfold Q.abs
 split
 ·exact ju
 ·exact h.2
section
variable {z:Int} {b:Bool} {x y u v:X}
end
end
section
theorem Gc {x:X} (h:x.ok=true) (hs:Small B64 x.xs):qx x.q=x:=by
 obtain ⟨s,e,xs⟩:=x
 unfold qx X.q
 simp only
 congr 1
 refine mU B64_two hs (fun u hu h0=>?_)
 unfold X.ok eP at h
 simp only at h
 have hne:xs.length≠0:=fun hl=>by rw [List.eq_nil_of_length_eq_zero hl] at hu;cases hu
 rw [if_neg hne] at h
 simp only [Bool.and_eq_true,decide_eq_true_eq] at h
 have h1:=h.1.1.1.1
 rw [List.getLast?_eq_getElem?] at hu
 rw [getD_of hu] at h1
 exact h1 h0
theorem sX {q:Q} (hb:nbits q.m≤256) (h1: -65536≤q.e) (h2:q.e≤65536):iX q:=
 ⟨lK (k:=64) hb (by omega),h1,h2⟩
section
variable {j:J} {z:Int}
end
end
end
section
section
set_option linter.unusedSimpArgs false
set_option linter.unusedVariables false
open Go.RowKit Nx
section
section
variable {E:Nat} {q a b:Q}
theorem rg (q:Q):(q.at E).natAbs=q.m*2^(q.e+E).toNat:=by
 rw [DJ]
 obtain ⟨n,hn⟩:∃ n,n=q.m*2^(q.e+E).toNat:=⟨_,rfl⟩
 rw [←hn];unfold sg;cases q.s<;>simp
theorem Bm (h: -(E:Int)≤q.e):(q.at E).natAbs<2^(cd q+E).toNat:=by
 rw [rg,show (cd q+E).toNat=nbits q.m+(q.e+E).toNat by unfold cd;omega,Nat.pow_add]
 exact Nat.mul_lt_mul_of_pos_right (dt q.m) (Nat.two_pow_pos _)
theorem Bl (hn:q.m≠0) (h: -(E:Int)≤q.e):2^(cd q+E - 1).toNat≤(q.at E).natAbs:=by
 have h1:=dS hn
 rw [rg,show (cd q+E - 1).toNat=(nbits q.m - 1)+(q.e+E).toNat by unfold cd;omega,Nat.pow_add]
 exact Nat.mul_le_mul_right _ (gz hn)
theorem Gx (h: -(E:Int)≤q.e) {k:Nat} (hk:2^k≤(q.at E).natAbs):(k:Int)<cd q+E:=by
 have h1:=Nat.lt_of_le_of_lt hk (Bm h)
 rw [Nat.pow_lt_pow_iff_right (by omega)] at h1
 omega
end
theorem Dx {q:Q} (h:aH q):cd q≤q.e+4096:=by
 unfold cd
 have h1:nbits q.m≤64*64:=jV (k:=64) h.2.1
 omega
section
variable {j:J} {z:Int}
theorem BN {E:Nat} (r:Q):r.abs.at E=((r.at E).natAbs:Int):=by
 rw [rg,DJ]
 unfold Q.abs
 by_cases h0:r.m=0
 ·rw [if_pos h0,h0,Nat.zero_mul];show sg false (0*_)=_;rw [Nat.zero_mul];rfl
 ·rw [if_neg h0];rfl
theorem nZ {r:Q} (h:aH r):(qx r.abs).v=((r.at 65536).natAbs:Int):=by
 unfold X.v
 rw [(gF (kO h)).2.2]
 exact BN r
theorem rc {x:X} (h:x.ok=true) (hs:Small B64 x.xs):absx x=x.q.abs:=by
 have:=vJ (eQ h hs)
 rwa [Gc h hs] at this
end
end
section

end
end
section
section
set_option linter.unusedSimpArgs false
set_option linter.unusedVariables false
open Go.RowKit Nx
attribute [local irreducible] be
section

end
section

end
section
theorem fy {T:fR} {g:FuncId} {d:Nat} {st:St} {args:List AV} (h:∀ args,T g args=none):aD T g d st args=none:=by unfold aD;rw [h]
theorem aK {f g:FuncId} {k:List AV→Option (Prop×AV)} {args:List AV} (h:f≠g):one g k f args=none:=if_neg h
end
end
section
open Go.RowKit Nx
set_option linter.unusedVariables false
set_option linter.unusedSimpArgs false
structure K where
 (u0 u1:Value) (A:Option Addr) (n c:Nat) (u3 u4:Value) (B:Option Addr) (m d:Nat)
def K.C (k:K):List Lc:=[.lit k.u0,.lit k.u1,.lit (.slice k.A k.n k.c),.lit k.u3,.lit k.u4,.lit (.slice k.B k.m k.d)]
def kC (l:List K):List Lc:=l.flatMap K.C
theorem Cl {k:K} {l:List K}:kC (k::l)= .lit k.u0::.lit k.u1::.lit (.slice k.A k.n k.c)::.lit k.u3::.lit k.u4::.lit (.slice k.B k.m k.d)::kC l:=rfl
theorem vc:∀ (l:List K),(kC l).length=l.length*6:=by
 intro l
 induction l with
 |nil=>rfl
 |cons k l ih=>rw [Cl];simp only [List.length_cons,ih];omega
abbrev K.p (k:K):Nat×Nat:=(k.n,k.m)
abbrev J.p (j:J):Nat×Nat:=(j.lo.xs.length,j.hi.xs.length)
structure Kp where
 (u0 u1:Value) (A:Option Addr) (n c:Nat)
def Kp.C (k:Kp):List Lc:=[.lit k.u0,.lit k.u1,.lit (.slice k.A k.n k.c)]
def BB (l:List Kp):List Lc:=l.flatMap Kp.C
theorem tI {k:Kp} {l:List Kp}:BB (k::l)= .lit k.u0::.lit k.u1::.lit (.slice k.A k.n k.c)::BB l:=rfl
theorem mE:∀ (l:List Kp),(BB l).length=l.length*3:=by
 intro l
 induction l with
 |nil=>rfl
 |cons k l ih=>rw [tI];simp only [List.length_cons,ih];omega
section
variable {S:Nat→Prop} {w:World}
end
end
end
end
end Go.Proofs.YtpacpmmdjmnamaaGreatDoor
