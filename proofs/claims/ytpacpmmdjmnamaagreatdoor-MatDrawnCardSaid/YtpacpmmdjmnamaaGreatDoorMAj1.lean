/- Rounding keeps the order; products are the document's, where both intervals have both signs. -/
import Derived.Test.YtpacpmmdjmnamaaGreatDoorMAi4
namespace Go.Proofs.YtpacpmmdjmnamaaGreatDoor
set_option linter.unusedSimpArgs false
set_option linter.unusedVariables false
open Go.RowKit Nx
section
theorem xM {M p N u v:Nat} (hp:1≤p) (hN:N<2^p) (h:N*2^u≤M*2^v):N*2^u≤fp M p false*2^(nbits M - p)*2^v:=by
 obtain ⟨t,ht⟩:∃ t,t=nbits M - p:=⟨_,rfl⟩
 have e0:fp M p false=M / 2^t:=by unfold fp;simp [←ht]
 rw [e0,←ht]
 by_cases h0:t=0
 ·subst h0;simpa using h
 ·have hn:nbits M=p+t:=by omega
  have hM:M≠0:=by rintro rfl;rw [dY] at hn;omega
  have hge:=iN hM
  rw [hn] at hge
  rcases Nat.lt_or_ge u (t+v) with h1 |h1
  ·have hq:2^(p - 1)≤M / 2^t:=by
    rw [Nat.le_div_iff_mul_le (Nat.two_pow_pos t),←Nat.pow_add,show p - 1+t=p+t - 1 by omega];exact hge
   calc N*2^u≤2^p*2^u:=Nat.mul_le_mul_right _ (by omega)
    _=2^(p+u):=by rw [Nat.pow_add]
    _≤2^(p - 1+t+v):=Nat.pow_le_pow_right (by omega) (by omega)
    _=2^(p - 1)*2^t*2^v:=by rw [Nat.pow_add,Nat.pow_add]
    _≤_:=Nat.mul_le_mul_right _ (Nat.mul_le_mul_right _ hq)
  ·have e1:N*2^u=N*2^(u - t - v)*2^t*2^v:=by
    rw [Nat.mul_assoc,Nat.mul_assoc,←Nat.pow_add,←Nat.pow_add];congr 2;omega
   rw [e1] at h ⊢
   have h2:N*2^(u - t - v)*2^t≤M:=Nat.le_of_mul_le_mul_right h (Nat.two_pow_pos v)
   exact Nat.mul_le_mul_right _ (Nat.mul_le_mul_right _ ((Nat.le_div_iff_mul_le (Nat.two_pow_pos t)).2 h2))
theorem yD {M p N u v:Nat} (hp:1≤p) (hN:N<2^p) (h:M*2^v≤N*2^u):fp M p true*2^(nbits M - p)*2^v≤N*2^u:=by
 obtain ⟨t,ht⟩:∃ t,t=nbits M - p:=⟨_,rfl⟩
 by_cases h0:t=0
 ·rw [pS (by omega),←ht,h0];simpa using h
 ·have hn:nbits M=p+t:=by omega
  have hM:M≠0:=by rintro rfl;rw [dY] at hn;omega
  have hge:=iN hM
  rw [hn] at hge
  rcases Nat.lt_or_ge u (t+v) with h1 |h1
  ·exfalso
   have:N*2^u<M*2^v:=by
    calc N*2^u<2^p*2^u:=Nat.mul_lt_mul_of_pos_right hN (Nat.two_pow_pos u)
     _=2^(p+u):=by rw [Nat.pow_add]
     _≤2^(p+t - 1+v):=Nat.pow_le_pow_right (by omega) (by omega)
     _=2^(p+t - 1)*2^v:=by rw [Nat.pow_add]
     _≤_:=Nat.mul_le_mul_right _ hge
   omega
  ·have e1:N*2^u=N*2^(u - t - v)*2^t*2^v:=by
    rw [Nat.mul_assoc,Nat.mul_assoc,←Nat.pow_add,←Nat.pow_add];congr 2;omega
   rw [e1] at h ⊢
   have h2:M≤N*2^(u - t - v)*2^t:=Nat.le_of_mul_le_mul_right h (Nat.two_pow_pos v)
   refine Nat.mul_le_mul_right _ ?_
   rw [←ht]
   refine Nat.mul_le_mul_right _ ?_
   obtain ⟨K,hK⟩:∃ K,K=N*2^(u - t - v):=⟨_,rfl⟩
   rw [←hK] at h2 ⊢
   unfold fp
   rw [←ht]
   have hd:=Nat.div_add_mod M (2^t)
   have hlt:=Nat.mod_lt M (Nat.two_pow_pos t)
   by_cases hz:M%2^t=0
   ·rw [if_neg (by simp [hz]),Nat.add_zero]
    exact Nat.div_le_of_le_mul (by rw [Nat.mul_comm];exact h2)
   ·rw [if_pos ⟨hz,rfl⟩]
    refine Nat.div_lt_of_lt_mul ?_
    rcases Nat.lt_or_ge M (2^t*K) with h3 |h3
    ·exact h3
    ·have h4:M=2^t*K:=by rw [Nat.mul_comm] at h2;omega
     rw [h4,Nat.mul_mod_right] at hz;exact absurd rfl hz
section
variable {E p:Nat} {q r a b:Q}
theorem jK (q:Q):q.at E=sg q.s (q.m*2^(q.e+E).toNat):=by unfold Q.at;rw [yI,An,Int.natCast_pow];rfl
theorem Iq {up:Bool} (h: -(E:Int)≤q.e):(rnd p up q).at E=sg q.s (fp q.m p (q.s !=up)*2^(nbits q.m - p)*2^(q.e+E).toNat):=by rw [Aj h,An q.s (fp q.m p (q.s !=up)*2^(nbits q.m - p)) (2^(q.e+E).toNat),Int.natCast_pow];rfl
theorem MI {M N:Nat}:sg false M≤sg false N↔M≤N:=by unfold sg;simp
theorem MM {M N:Nat}:sg true M≤sg true N↔N≤M:=by unfold sg;simp
theorem MK {M N:Nat}:sg true M≤sg false N:=by show -(M:Int)≤(N:Int);omega
theorem MJ {M N:Nat}:sg false M≤sg true N↔M=0∧N=0:=by unfold sg;simp;omega
theorem mP (hp:1≤p) (hr:nbits r.m≤p) (h1: -(E:Int)≤q.e) (h:r.at E≤q.at E):r.at E≤(rnd p false q).at E:=by
 have hN:=iv hr
 rw [Iq h1]
 rw [jK,jK] at h
 rw [jK]
 cases hq:q.s<;>cases hs:r.s<;>rw [hq,hs] at h<;>rw [hq,hs] at*
 ·rw [MI] at h ⊢;exact xM hp hN h
 ·exact MK
 ·rw [MJ] at h ⊢
  refine ⟨h.1,?_⟩
  have hm:q.m=0:=by
   rcases Nat.eq_zero_or_pos q.m with h0 |h0
   ·exact h0
   ·have:=Nat.mul_pos h0 (Nat.two_pow_pos (q.e+E).toNat);omega
  rw [hm,qK,Nat.zero_mul,Nat.zero_mul]
 ·rw [MM] at h ⊢;exact yD hp hN h
theorem wo (hp:1≤p) (hr:nbits r.m≤p) (h1: -(E:Int)≤q.e) (h:q.at E≤r.at E):(rnd p true q).at E≤r.at E:=by
 have hN:=iv hr
 rw [Iq h1]
 rw [jK,jK] at h
 rw [jK]
 cases hq:q.s<;>cases hs:r.s<;>rw [hq,hs] at h<;>rw [hq,hs] at*
 ·rw [MI] at h ⊢;exact yD hp hN h
 ·rw [MJ] at h ⊢
  refine ⟨?_,h.2⟩
  have hm:q.m=0:=by
   rcases Nat.eq_zero_or_pos q.m with h0 |h0
   ·exact h0
   ·have:=Nat.mul_pos h0 (Nat.two_pow_pos (q.e+E).toNat);omega
  rw [hm,qK,Nat.zero_mul,Nat.zero_mul]
 ·exact MK
 ·rw [MM] at h ⊢;exact xM hp hN h
theorem pR {up:Bool} (hp:1≤p) (h1: -(E:Int)≤a.e) (h2: -(E:Int)≤b.e) (h:a.at E≤b.at E):(rnd p up a).at E≤(rnd p up b).at E:=by
 cases up
 ·exact mP hp (jl false a hp) h2 (Int.le_trans (pQ h1) h)
 ·exact wo hp (jl true b hp) h1 (Int.le_trans h (Ak h2))
end
theorem co {q:Q} (k:Int) (h:q.m≠0):aE q k=⟨q.s,q.m,q.e+k⟩:=by unfold aE;rw [if_neg h]
theorem pJ (s:Bool) (M:Nat) (e k:Int):nm s M (e+k)=aE (nm s M e) k:=by
 by_cases h:M=0
 ·rw [h,cD,cD];rfl
 ·have h2:M / 2^ntz M≠0:=fun h0=>by have h1:=(iO h).1;rw [h0,Nat.zero_mul] at h1;exact h h1
  unfold nm aE
  rw [if_neg h,if_neg h,if_neg h2]
  simp only
  congr 1;omega
theorem uO (p:Nat) (up s:Bool) (m:Nat) (e k:Int):rnd p up ⟨s,m,e+k⟩=aE (rnd p up ⟨s,m,e⟩) k:=by
 unfold rnd
 rw [←pJ]
 show nm s _ (e+k+_)=nm s _ (e+_+k)
 congr 1
 dsimp only
 omega
theorem tJ (a b:Q):times a b=nm (decide (a.z*b.z<0)) (a.z*b.z).natAbs (a.e+b.e):=rfl
theorem Io (p:Nat) (up:Bool) (x y:X):rnd p up (times x.q y.q)=aE (rnd p up (times x.e0.q y.e0.q)) (x.e+y.e):=by
 rw [tJ,tJ,tp,tp]
 show rnd p up ⟨_,_,x.e+y.e⟩=aE (rnd p up ⟨_,_,0+0⟩) (x.e+y.e)
 rw [←uO]
 show rnd p up ⟨_,_,x.e+y.e⟩=rnd p up ⟨_,_,0+0+(x.e+y.e)⟩
 rw [show (0:Int)+0+(x.e+y.e)=x.e+y.e by omega]
 rfl
theorem AZ {x:X} (h:x.ok=true):x.e0.ok=true:=by
 unfold X.ok iE at h ⊢
 unfold X.e0
 simp only
 by_cases h0:x.xs.length=0
 ·rw [if_pos h0] at h ⊢
  simp_all
 ·rw [if_neg h0] at h ⊢
  simp only [Bool.and_eq_true,decide_eq_true_eq] at h ⊢
  exact ⟨⟨h.1.1,by omega⟩,by omega⟩
theorem Li {m n a b c d:Nat} (h:a+d=b+c):m*2^a<n*2^b↔m*2^c<n*2^d:=by
 rcases Nat.le_total a c with h1 |h1
 ·obtain ⟨k,rfl⟩:=Nat.exists_eq_add_of_le h1
  have:d=b+k:=by omega
  subst this
  rw [Nat.pow_add,Nat.pow_add,←Nat.mul_assoc,←Nat.mul_assoc]
  exact (Nat.mul_lt_mul_right (Nat.two_pow_pos k)).symm
 ·obtain ⟨k,rfl⟩:=Nat.exists_eq_add_of_le h1
  have:b=d+k:=by omega
  subst this
  rw [Nat.pow_add,Nat.pow_add,←Nat.mul_assoc,←Nat.mul_assoc]
  exact Nat.mul_lt_mul_right (Nat.two_pow_pos k)
theorem rR {m n a b i:Nat} (hm:m<2^i) (hn:n≠0) (h:a+i≤b):m*2^a<n*2^b:=by
 calc m*2^a<2^i*2^a:=Nat.mul_lt_mul_of_pos_right hm (Nat.two_pow_pos a)
  _=2^(i+a):=by rw [Nat.pow_add]
  _≤2^b:=Nat.pow_le_pow_right (by omega) (by omega)
  _≤n*2^b:=Nat.le_mul_of_pos_left _ (by omega)
structure Rp (r:Q):Prop where
 v:aJ r
 nz:r.m≠0
 bits:nbits r.m≤256
 lo:0≤r.e
 hi:r.e≤8200
theorem Ph {p:Nat} {up:Bool} {q:Q} (hp:1≤p) (h:q.m≠0):(rnd p up q).m≠0:=by
 intro h0
 have hz:fp q.m p (q.s !=up)=0:=by
  unfold rnd nm at h0
  by_cases hz:fp q.m p (q.s !=up)=0
  ·exact hz
  ·rw [if_neg hz] at h0
   simp only at h0
   have h1:=(iO hz).1
   rw [h0,Nat.zero_mul] at h1;exact absurd h1 hz
 unfold fp at hz
 have h1:q.m / 2^(nbits q.m - p)=0:=(Nat.add_eq_zero_iff.1 hz).1
 rw [Nat.div_eq_zero_iff] at h1
 have h2:=iN h
 have h3:=iw h
 rcases h1 with h1 |h1
 ·have:=Nat.two_pow_pos (nbits q.m - p);omega
 ·have:=Nat.pow_le_pow_right (n:=2) (by omega) (show nbits q.m - p≤nbits q.m - 1 by omega)
  omega
theorem Iu {z:Int} {b:Bool} {x y:X} (hz:kf z=true) (hx:x.ok=true) (hy:y.ok=true) (sx:Small B64 x.xs) (sy:Small B64 y.xs) (nx:x.q.m≠0) (ny:y.q.m≠0):Rp (rnd z.toNat b (times x.e0.q y.e0.q)):=by
 unfold kf at hz
 simp only [Bool.and_eq_true,decide_eq_true_eq] at hz
 have vx:=ey (AZ hx) sx
 have vy:=ey (AZ hy) sy
 have hm:(times x.e0.q y.e0.q).m≠0:=by
  rw [tJ]
  have hne:(x.e0.q.z*y.e0.q.z).natAbs≠0:=by
   rw [Int.natAbs_mul]
   have h1:x.e0.q.z.natAbs=x.q.m:=by rw [yI];unfold sg;cases x.e0.q.s<;>simp [X.q,X.e0]
   have h2:y.e0.q.z.natAbs=y.q.m:=by rw [yI];unfold sg;cases y.e0.q.s<;>simp [X.q,X.e0]
   rw [h1,h2];exact Nat.mul_ne_zero nx ny
  unfold nm
  rw [if_neg hne]
  intro h0
  have h1:=(iO hne).1
  simp only at h0
  rw [h0,Nat.zero_mul] at h1;exact hne h1
 have hnz:=Ph (p:=z.toNat) (up:=b) (by omega) hm
 have hlo:0≤(rnd z.toNat b (times x.e0.q y.e0.q)).e:=by
  have h1: -((0:Nat):Int)≤(times x.e0.q y.e0.q).e:=oj (E:=0) (by show -((0:Nat):Int)≤0+0;omega)
  have:=jE (E:=0) (p:=z.toNat) (up:=b) h1
  omega
 have hb:=jl (p:=z.toNat) b (times x.e0.q y.e0.q) (by omega)
 have htop:bL (times x.e0.q y.e0.q)≤8192:=by
  have e1:times x.e0.q y.e0.q=fH (x.e0.q.z*y.e0.q.z) (0+0):=rfl
  have hne:x.e0.q.z*y.e0.q.z≠0:=fun h0=>by rw [e1,h0,pK] at hm;exact hm rfl
  rw [e1,BR _ hne]
  have h1:x.e0.q.z.natAbs=x.e0.q.m:=by rw [yI];unfold sg;cases x.e0.q.s<;>simp
  have h2:y.e0.q.z.natAbs=y.e0.q.m:=by rw [yI];unfold sg;cases y.e0.q.s<;>simp
  have h3:nbits (x.e0.q.z*y.e0.q.z).natAbs≤64*(64+64):=by
   refine mU (k:=64+64) ?_
   rw [Int.natAbs_mul,h1,h2]
   exact vZ vx.2.1 vy.2.1
  omega
 have htr:=wN (p:=z.toNat) b hnz
 have het:=Ga hnz
 have hbits:nbits (rnd z.toNat b (times x.e0.q y.e0.q)).m≤256:=by omega
 refine ⟨⟨cI _ _ _,?_,by omega,by omega⟩,hnz,hbits,hlo,by omega⟩
 exact mA (k:=64) hbits (by omega)
end
section
theorem iz {r:Q} (hv:aJ r) (k:Int):ez (qx r) k=res (aE r k):=by
 have h1:=(cS hv).1
 unfold ez vp
 unfold X.ok at h1
 rw [h1]
 show res (nm r.s (nval B64 (aS B64 r.m)) (r.e+k))=_
 rw [ay B64_two,pJ,xV hv.1]
theorem vo {r:Q} (hv:aJ r):absx (qx r)=r.abs:=by
 have h1:=(cS hv).1
 unfold absx anssign
 unfold X.ok at h1
 rw [h1]
 show (if nval B64 (aS B64 r.m)=0 then q0 else ⟨false,nval B64 (aS B64 r.m),r.e⟩)=_
 rw [ay B64_two];rfl
theorem jb {r:Q} (h:aJ r):aJ r.abs:=by
 refine ⟨Ck h.1,?_⟩
 unfold Q.abs
 split
 ·exact ka
 ·exact h.2
theorem Me {r:Q} (h:aJ r) (hn:r.m≠0):(qx r.abs).v=((r.m*2^(r.e+(65536:Nat)).toNat:Nat):Int):=by
 unfold X.v
 rw [(cS (jb h)).2.2,jK]
 unfold Q.abs
 rw [if_neg hn];rfl
def mg (q:Q):Nat:=q.m*2^(q.e+((65536+65536:Nat):Int)).toNat
theorem Iv {r:Q} (h:Rp r) {k:Int} (h1: -32768≤k) (h2:k≤32768):aJ (aE r k)∧(aE r k).m≠0:=by
 rw [co k h.nz]
 refine ⟨⟨⟨fun h0=>absurd h0 h.nz,h.v.1.2⟩,h.v.2.1,?_,?_⟩,h.nz⟩
 ·show -65536≤r.e+k;have:=h.lo;omega
 ·show r.e+k≤65536;have:=h.hi;omega
theorem OF {a b:Q} (ha:Rp a) (hb:Rp b) {i j:Int} (hi: -131072≤i∧i≤131072) (hj: -131072≤j∧j≤131072):qA ⟨qx a,i⟩ ⟨qx b,j⟩=if mg (aE a i)<mg (aE b j) then ⟨qx b,j⟩ else ⟨qx a,i⟩:=by
 unfold qA
 have hw:IntKind.i64.wrap (i - j)=i - j:=by rw [IntKind.wrap_i64];omega
 show (bif decide (cmpx (qx (absx (qx (ez (qx a) (min (max (IntKind.i64.wrap (i - j)) (-32768)) 32768)).1))) (qx (absx (qx b)))<0) then (⟨qx b,j⟩:SX) else ⟨qx a,i⟩)=_
 rw [hw]
 obtain ⟨k,hk⟩:∃ k,k=min (max (i - j) (-32768)) 32768:=⟨_,rfl⟩
 rw [←hk]
 obtain ⟨v1,n1⟩:=Iv ha (k:=k) (by omega) (by omega)
 rw [iz ha.v,cC v1.2,vo v1,vo hb.v]
 have key:cmpx (qx (aE a k).abs) (qx b.abs)<0↔mg (aE a i)<mg (aE b j):=by
  rw [AR (cS (jb v1)).1 (cS (jb hb.v)).1,Me v1 n1,Me hb.v hb.nz,co k ha.nz,Int.ofNat_lt]
  unfold mg
  rw [co i ha.nz,co j hb.nz]
  simp only
  have l1:=ha.lo;have l2:=hb.lo;have u1:=ha.hi;have u2:=hb.hi
  have ba:=iv ha.bits;have bb:=iv hb.bits
  rcases Int.lt_or_le (i - j) (-32768) with h1 |h1
  ·have e:k= -32768:=by omega
   subst e
   exact iff_of_true (rR ba hb.nz (by omega)) (rR ba hb.nz (by omega))
  ·rcases Int.lt_or_le 32768 (i - j) with h2 |h2
   ·have e:k=32768:=by omega
    subst e
    have f1:=rR (a:=(b.e+((65536:Nat):Int)).toNat) (b:=(a.e+32768+((65536:Nat):Int)).toNat) bb ha.nz (by omega)
    have f2:=rR (a:=(b.e+j+((65536+65536:Nat):Int)).toNat) (b:=(a.e+i+((65536+65536:Nat):Int)).toNat) bb ha.nz (by omega)
    exact iff_of_false (Nat.lt_asymm f1) (Nat.lt_asymm f2)
   ·have e:k=i - j:=by omega
    subst e
    exact Li (by omega)
 by_cases hc:mg (aE a i)<mg (aE b j)
 ·rw [if_pos hc,decide_eq_true (key.2 hc)];rfl
 ·rw [if_neg hc,decide_eq_false (fun h=>hc (key.1 h))];rfl
section
variable {z:Int} {b:Bool} {x y u v:X}
theorem Bp (hz:kf z=true) (hx:x.ok=true) (hy:y.ok=true) (sx:Small B64 x.xs) (sy:Small B64 y.xs) (nx:x.q.m≠0) (ny:y.q.m≠0):lG x y z b=⟨qx (rnd z.toNat b (times x.e0.q y.e0.q)),x.e+y.e⟩:=by
 have hr:=Iu (b:=b) hz hx hy sx sy nx ny
 unfold lG
 have h1:=(ey hx sx).2;have h2:=(ey hy sy).2
 have a1: -65536≤x.e:=h1.2.1
 have a2:x.e≤65536:=h1.2.2
 have a3: -65536≤y.e:=h2.2.1
 have a4:y.e≤65536:=h2.2.2
 rw [pP (AZ hx) (AZ hy) hz,cC hr.v.2,show IntKind.i64.wrap (x.e+y.e)=x.e+y.e by rw [IntKind.wrap_i64];omega]
theorem AN (hz:kf z=true) (hx:x.ok=true) (hy:y.ok=true) (hu:u.ok=true) (hv:v.ok=true) (sx:Small B64 x.xs) (sy:Small B64 y.xs) (su:Small B64 u.xs) (sv:Small B64 v.xs)
  (nx:x.q.m≠0) (ny:y.q.m≠0) (nu:u.q.m≠0) (nv:v.q.m≠0):ez (qA (lG x y z b) (lG u v z b)).x (qA (lG x y z b) (lG u v z b)).e=
   if mg (rnd z.toNat b (times x.q y.q))<mg (rnd z.toNat b (times u.q v.q)) then res (rnd z.toNat b (times u.q v.q)) else res (rnd z.toNat b (times x.q y.q)):=by
 have h1:=Iu (b:=b) hz hx hy sx sy nx ny
 have h2:=Iu (b:=b) hz hu hv su sv nu nv
 have rg:∀ {x y:X},x.ok=true→y.ok=true→Small B64 x.xs→Small B64 y.xs→ -131072≤x.e+y.e∧x.e+y.e≤131072:=fun {x y} hx hy sx sy=>by
  have h1:=(ey hx sx).2;have h2:=(ey hy sy).2
  have a1: -65536≤x.e:=h1.2.1
  have a2:x.e≤65536:=h1.2.2
  have a3: -65536≤y.e:=h2.2.1
  have a4:y.e≤65536:=h2.2.2
  omega
 have E1:=Io z.toNat b x y
 have E2:=Io z.toNat b u v
 rw [Bp hz hx hy sx sy nx ny,Bp hz hu hv su sv nu nv,OF h1 h2 (rg hx hy sx sy) (rg hu hv su sv),←E1,←E2]
 by_cases hc:mg (rnd z.toNat b (times x.q y.q))<mg (rnd z.toNat b (times u.q v.q))
 ·rw [if_pos hc,if_pos hc,E2];exact iz h2.v _
 ·rw [if_neg hc,if_neg hc,E1];exact iz h1.v _
theorem yE {x:X} (h:x.v≠0):x.q.m≠0:=fun h0=>h (by unfold X.v Q.at;rw [show x.q.z=0 by rw [yI,h0];unfold sg;cases x.q.s<;>rfl,Int.zero_mul])
theorem Hr {q:Q} (h:q.at (65536+65536)<0):q.at (65536+65536)= -(mg q:Int):=by
 rw [jK] at h ⊢
 cases hs:q.s
 ·rw [hs] at h
  have h2:(0:Int)≤sg false (q.m*2^(q.e+((65536+65536:Nat):Int)).toNat):=Int.natCast_nonneg _
  omega
 ·rfl
theorem Hs {q:Q} (h:0<q.at (65536+65536)):q.at (65536+65536)=(mg q:Int):=by
 rw [jK] at h ⊢
 cases hs:q.s
 ·rfl
 ·rw [hs] at h
  have h2:sg true (q.m*2^(q.e+((65536+65536:Nat):Int)).toNat)≤0:=Int.neg_nonpos_of_nonneg (Int.natCast_nonneg _)
  omega
theorem zy (hx:x.ok=true) (hy:y.ok=true) (hu:u.ok=true) (hv:v.ok=true) (sx:Small B64 x.xs) (sy:Small B64 y.xs) (h1:x.v<0) (h2:0<y.v) (h3:u.v<0):
  ii x.q y.q u.q v.q=bif decide (y.v*v.v<x.v*u.v) then times x.q u.q else times y.q v.q:=by
 obtain ⟨a1,a2,a3⟩:=ro hx sx
 obtain ⟨b1,b2,b3⟩:=ro hy sy
 unfold ii dE
 have e1:decide (signq (qx y.q.neg).q≥0)=decide (0≤(qx y.q.neg).v):=decide_eq_decide.2 qQ
 have e2:decide (signq u.q≥0)=decide (0≤u.v):=decide_eq_decide.2 qQ
 have e3:decide (signq (qx x.q.neg).q≤0)=decide ((qx x.q.neg).v≤0):=decide_eq_decide.2 wt
 have e4:decide (cmpq (times (qx x.q.neg).q u.q) (times (qx y.q.neg).q v.q)<0)=decide ((qx x.q.neg).v*u.v<(qx y.q.neg).v*v.v):=decide_eq_decide.2 (IH a1 hu b1 hv)
 rw [b2,b3] at e1
 rw [a2,a3] at e3
 rw [a2,b2,a3,b3] at e4
 rw [e1,e2,e3,e4,decide_eq_false (show ¬ (0≤ -y.v) by omega),decide_eq_false (show ¬ (0≤u.v) by omega),decide_eq_false (show ¬ (-x.v≤0) by omega)]
 simp only [Bool.false_and,cond_false,Int.neg_mul,Int.neg_lt_neg_iff]
 cases decide (y.v*v.v<x.v*u.v)
 ·exact tI hy sy hv
 ·exact tI hx sx hu
end
theorem ot {j:J} (h:okJ j=true) (hs:mf j=true):j.lo.v<0∧0<j.hi.v:=by
 rw [tG h,Bool.and_eq_true,decide_eq_true_eq,decide_eq_true_eq] at hs;exact hs
theorem pO {z:Int} (h:kf z=true):1≤z.toNat:=by
 unfold kf at h
 simp only [Bool.and_eq_true,decide_eq_true_eq] at h;omega
theorem zN {j j1:J} {z:Int} (hg:GJ j) (hg1:GJ j1) (ha:okJ j=true) (hb:okJ j1=true) (hz:kf z=true) (hs:mf j=true) (ht:mf j1=true):m8 j j1 z false=res (rnd z.toNat false (dE j.lo.q j.hi.q j1.lo.q j1.hi.q)):=by
 obtain ⟨a1,a2,a3⟩:=aM ha
 obtain ⟨b1,b2,b3⟩:=aM hb
 obtain ⟨s1,s2⟩:=ot ha hs
 obtain ⟨t1,t2⟩:=ot hb ht
 unfold m8
 rw [hs,ht]
 show ez (qA (lG j.lo (e8 j1 j.lo false) z false) (lG j.hi (e8 j1 j.hi false) z false)).x (qA (lG j.lo (e8 j1 j.lo false) z false) (lG j.hi (e8 j1 j.hi false) z false)).e=_
 rw [um a1,um a2,decide_eq_true s1,decide_eq_false (show ¬ j.hi.v<0 by omega)]
 simp only [cond_true,cond_false]
 rw [AN hz a1 b2 a2 b1 hg.lo hg1.hi hg.hi hg1.lo (yE (by omega)) (yE (by omega)) (yE (by omega)) (yE (by omega))]
 have p1:j.lo.v*j1.hi.v<0:=Int.mul_neg_of_neg_of_pos s1 t2
 have p2:j.hi.v*j1.lo.v<0:=Int.mul_neg_of_pos_of_neg s2 t1
 have l1:=oR a1 b2
 have l2:=oR a2 b1
 have d1:=pQ (p:=z.toNat) l1
 have d2:=pQ (p:=z.toNat) l2
 rw [tv a1 b2] at d1
 rw [tv a2 b1] at d2
 have m1:=Hr (show (rnd z.toNat false (times j.lo.q j1.hi.q)).at (65536+65536)<0 by omega)
 have m2:=Hr (show (rnd z.toNat false (times j.hi.q j1.lo.q)).at (65536+65536)<0 by omega)
 unfold dE
 rw [decide_eq_decide.2 (qQ (x:=j.lo)),decide_eq_decide.2 (qQ (x:=j1.lo)),decide_eq_decide.2 (wt (x:=j.hi)),decide_eq_decide.2 (IH a2 b1 a1 b2),
  decide_eq_false (show ¬ (0≤j.lo.v) by omega),decide_eq_false (show ¬ (0≤j1.lo.v) by omega),decide_eq_false (show ¬ (j.hi.v≤0) by omega)]
 simp only [Bool.false_and,cond_false]
 by_cases hc:j.hi.v*j1.lo.v<j.lo.v*j1.hi.v
 ·rw [decide_eq_true hc]
  have hm:=pR (up:=false) (pO hz) l2 l1 (by rw [tv a1 b2,tv a2 b1];omega)
  rw [m1,m2] at hm
  split
  ·rfl
  ·rename_i hn
   have e:rnd z.toNat false (times j.lo.q j1.hi.q)=rnd z.toNat false (times j.hi.q j1.lo.q):=qo (cI _ _ _) (cI _ _ _) (jE l1) (jE l2) (by rw [m1,m2];omega)
   rw [e];rfl
 ·rw [decide_eq_false hc]
  have hm:=pR (up:=false) (pO hz) l1 l2 (by rw [tv a1 b2,tv a2 b1];omega)
  rw [m1,m2] at hm
  rw [if_neg (by omega)];rfl
theorem zO {j j1:J} {z:Int} (hg:GJ j) (hg1:GJ j1) (ha:okJ j=true) (hb:okJ j1=true) (hz:kf z=true) (hs:mf j=true) (ht:mf j1=true):m8 j j1 z true=res (rnd z.toNat true (ii j.lo.q j.hi.q j1.lo.q j1.hi.q)):=by
 obtain ⟨a1,a2,a3⟩:=aM ha
 obtain ⟨b1,b2,b3⟩:=aM hb
 obtain ⟨s1,s2⟩:=ot ha hs
 obtain ⟨t1,t2⟩:=ot hb ht
 unfold m8
 rw [hs,ht]
 show ez (qA (lG j.lo (e8 j1 j.lo true) z true) (lG j.hi (e8 j1 j.hi true) z true)).x (qA (lG j.lo (e8 j1 j.lo true) z true) (lG j.hi (e8 j1 j.hi true) z true)).e=_
 rw [un a1,un a2,decide_eq_true s1,decide_eq_false (show ¬ j.hi.v<0 by omega)]
 simp only [cond_true,cond_false]
 rw [AN hz a1 b1 a2 b2 hg.lo hg1.lo hg.hi hg1.hi (yE (by omega)) (yE (by omega)) (yE (by omega)) (yE (by omega))]
 have p1:0<j.lo.v*j1.lo.v:=Int.mul_pos_of_neg_of_neg s1 t1
 have p2:0<j.hi.v*j1.hi.v:=Int.mul_pos s2 t2
 have l1:=oR a1 b1
 have l2:=oR a2 b2
 have d1:=Ak (p:=z.toNat) l1
 have d2:=Ak (p:=z.toNat) l2
 rw [tv a1 b1] at d1
 rw [tv a2 b2] at d2
 have m1:=Hs (show 0<(rnd z.toNat true (times j.lo.q j1.lo.q)).at (65536+65536) by omega)
 have m2:=Hs (show 0<(rnd z.toNat true (times j.hi.q j1.hi.q)).at (65536+65536) by omega)
 rw [zy a1 a2 b1 b2 hg.lo hg.hi s1 s2 t1]
 by_cases hc:j.hi.v*j1.hi.v<j.lo.v*j1.lo.v
 ·rw [decide_eq_true hc]
  have hm:=pR (up:=true) (pO hz) l2 l1 (by rw [tv a1 b1,tv a2 b2];omega)
  rw [m1,m2] at hm
  rw [if_neg (by omega)];rfl
 ·rw [decide_eq_false hc]
  have hm:=pR (up:=true) (pO hz) l1 l2 (by rw [tv a1 b1,tv a2 b2];omega)
  rw [m1,m2] at hm
  split
  ·rfl
  ·have e:rnd z.toNat true (times j.lo.q j1.lo.q)=rnd z.toNat true (times j.hi.q j1.hi.q):=qo (cI _ _ _) (cI _ _ _) (jE l1) (jE l2) (by rw [m1,m2];omega)
   rw [e];rfl
theorem lH {j j1:J} (hg:GJ j) (hg1:GJ j1) (z:Int):cB j j1 z=ft 2 j j1 z:=by
 unfold cB ft
 rw [jD]
 cases ha:okJ j<;>cases hb:okJ j1<;>cases hz:kf z<;>try rfl
 show sZ (fun b=>rD (m8 j j1 z b))=dr (rnd z.toNat false (dE j.lo.q j.hi.q j1.lo.q j1.hi.q)) (rnd z.toNat true (ii j.lo.q j.hi.q j1.lo.q j1.hi.q))
 cases hs:mf j
 ·exact nF (congrArg rD (Dp ha hb hz hs)) (congrArg rD (Dq hg ha hb hz hs))
 ·cases ht:mf j1
  ·exact nF (congrArg rD (Dr ha hb hz hs ht)) (congrArg rD (Ds hg ha hb hz hs ht))
  ·exact nF (congrArg rD (zN hg hg1 ha hb hz hs ht)) (congrArg rD (zO hg hg1 ha hb hz hs ht))
end
section
theorem eR {q:Q} (h:a8 q) (k:Int):a8 (aE q k):=by
 unfold aE
 split
 ·exact nj
 ·rename_i hn;exact ⟨fun h0=>absurd h0 hn,h.2⟩
theorem LA {q:Q} (k:Int) (h:q.m≠0):(aE q k).m=q.m:=by rw [co k h]
theorem qN (q:Q) (i j:Int):aE (aE q i) j=aE q (i+j):=by
 unfold aE
 by_cases h:q.m=0
 ·rw [if_pos h,if_pos h];rfl
 ·rw [if_neg h,if_neg h,if_neg h]
  simp only
  congr 1;omega
theorem tw {q:Q} (h:a8 q):aE q 0=q:=by
 unfold aE
 by_cases h0:q.m=0
 ·rw [if_pos h0,h.1 h0]
 ·rw [if_neg h0,Int.add_zero]
theorem iy {E:Nat} {q:Q} (n:Nat) (h: -(E:Int)≤q.e): -((E+n:Nat):Int)≤(aE q (-(n:Int))).e:=by
 unfold aE
 split
 ·show -((E+n:Nat):Int)≤0;omega
 ·show -((E+n:Nat):Int)≤q.e+ -(n:Int);omega
theorem kT {E:Nat} (q:Q) (n:Nat):(aE q (-(n:Int))).at (E+n)=q.at E:=by
 by_cases h:q.m=0
 ·have e1:aE q (-(n:Int))=q0:=by unfold aE;rw [if_pos h]
  rw [e1,So,jK,h,Nat.zero_mul];unfold sg;cases q.s<;>rfl
 ·rw [co _ h,jK,jK]
  show sg q.s (q.m*2^(q.e+ -(n:Int)+((E+n:Nat):Int)).toNat)=_
  rw [show q.e+ -(n:Int)+((E+n:Nat):Int)=q.e+E by omega]
theorem Ae {E:Nat} {a b:Q} (n:Nat) (h1: -(E:Int)≤a.e) (h2: -(E:Int)≤b.e):plus (aE a (-(n:Int))) (aE b (-(n:Int)))=aE (plus a b) (-(n:Int)):=by
 have l1:=iy n h1
 have l2:=iy n h2
 refine qo (dl _ _) (eR (dl _ _) _) (dP l1 l2) (iy n (dP h1 h2)) ?_
 rw [kj l1 l2,kT,kT,kT,kj h1 h2]
theorem tq (p:Nat) (up:Bool) (q:Q) (k:Int):rnd p up (aE q k)=aE (rnd p up q) k:=by
 obtain ⟨s,m,e⟩:=q
 by_cases h:m=0
 ·subst h;rw [iR];unfold aE;simp only [if_true];exact iR p up false 0
 ·rw [co k h];exact uO p up s m e k
theorem zA {q:Q} (h:a8 q):ke q=aE q (-1):=by
 unfold ke
 rw [pJ,xV h]
theorem Cr {E:Nat} {a b:Q} (n:Nat) (h1: -(E:Int)≤a.e) (h2: -(E:Int)≤b.e):cmpq (aE a (-(n:Int))) (aE b (-(n:Int)))=cmpq a b:=by
 rw [lg (iy n h1) (iy n h2),lg h1 h2,kT,kT]
theorem qO {x:X} (h:x.ok=true) (hs:Small B64 x.xs) (k:Int):ez x k=res (aE x.q k):=by
 have hv:=ey h hs
 have e:x.q=nm x.s (nval B64 x.xs) x.e:=(xV hv.1).symm
 rw [e,←pJ]
 unfold ez vp
 unfold X.ok at h
 rw [if_pos h]
theorem O4 {x:X} (h:x.ok=true) (hs:Small B64 x.xs):qx x.q=x:=by
 obtain ⟨s,e,xs⟩:=x
 unfold qx X.q
 simp only
 congr 1
 refine uk B64_two hs (fun u hu h0=>?_)
 unfold X.ok iE at h
 simp only at h
 have hne:xs.length≠0:=fun hl=>by rw [List.eq_nil_of_length_eq_zero hl] at hu;cases hu
 rw [if_neg hne] at h
 simp only [Bool.and_eq_true,decide_eq_true_eq] at h
 have h1:=h.1.1.1.1
 rw [List.getLast?_eq_getElem?] at hu
 rw [getD_of hu] at h1
 exact h1 h0
theorem Q0 {x:X} (h:x.ok=true) (hs:Small B64 x.xs):iM x 0=x:=by
 unfold iM
 have hv:=ey h hs
 rw [show IntKind.i64.wrap (0 - 0)=0 from eH,qO h hs,tw hv.1,cC hv.2]
 exact O4 h hs
theorem top_low {p:Nat} {up:Bool} {q:Q} (_:q.m≠0):bL q - p≤(rnd p up q).e∨(rnd p up q)=q0:=by
 have h1: -((-(q.e+((nbits q.m - p:Nat):Int))).toNat:Int)≤q.e+((nbits q.m - p:Nat):Int)∨True:=.inr trivial
 clear h1
 unfold rnd
 rw [mM]
 rcases ofz_e (if q.s=true then -((fp q.m p (q.s !=up):Nat):Int) else ((fp q.m p (q.s !=up):Nat):Int)) (q.e+((nbits q.m - p:Nat):Int)) with h1 |h1
 ·left;unfold bL;omega
 ·exact .inr h1
theorem rnd_place {p:Nat} {up:Bool} {q:Q} (hc:a8 q):(rnd p up q).e≤q.e→rnd p up q=q∨rnd p up q=q0:=by
 intro h
 by_cases h0:nbits q.m≤p
 ·exact .inl (Ip hc h0)
 ·right
  have h2:q.e<q.e+((nbits q.m - p:Nat):Int):=by omega
  unfold rnd at h ⊢
  rw [mM] at h ⊢
  rcases ofz_e (if q.s=true then -((fp q.m p (q.s !=up):Nat):Int) else ((fp q.m p (q.s !=up):Nat):Int)) (q.e+((nbits q.m - p:Nat):Int)) with h1 |h1
  ·omega
  ·exact h1
theorem l4 {q:Q} (hb:nbits q.m≤256) (h1: -65536≤q.e) (h2:q.e≤65536):fm q:=
 ⟨mA (k:=64) hb (by omega),h1,h2⟩
theorem sD {q:Q} (hc:a8 q) {B:Int} (hB:0≤B) (h:q.m≠0→bL q≤B):q.e≤B:=by
 by_cases h0:q.m=0
 ·rw [hc.1 h0];exact hB
 ·have:=Ga h0;have:=h h0;omega
theorem rS {z:Int} (h:kf z=true):8≤z.toNat∧z.toNat≤256:=by
 unfold kf at h
 simp only [Bool.and_eq_true,decide_eq_true_eq] at h;omega
theorem J7 {E:Nat} {a b:Q} (ha: -(E:Int)≤a.e) (hb: -(E:Int)≤b.e) (h:a.at E≤b.at E):¬ cmpq (aE (plus a b) (-1)) a<0:=by
 have l1:=dP ha hb
 have l2: -((E+1:Nat):Int)≤(aE (plus a b) (-1)).e:=iy 1 l1
 have e1:(aE (plus a b) (-1)).at (E+1)=(plus a b).at E:=kT (plus a b) 1
 rw [lg l2 (by omega),e1,kj ha hb,AJ ha]
 have:a.at E*2^1=a.at E+a.at E:=by omega
 rw [this]
 split
 ·omega
 ·split<;>omega
section
variable {j:J} {z:Int}
def sumQ (j:J) (z:Int):Q:=rnd z.toNat false (plus j.lo.q j.hi.q)
theorem Bo (hg:GJ j) (h:okJ j=true):rnd z.toNat false (Bi (plus j.lo.q j.hi.q))=aE (sumQ j z) (-1):=by
 rw [vT (g7 (kX hg h) (kW hg h)),zA (show a8 (plus j.lo.q j.hi.q) from dl _ _),tq];rfl
theorem jv (_:GJ j) (h:okJ j=true):j.lo.q.at 65536≤j.hi.q.at 65536:=(iJ (aM h).1 (aM h).2.1).1 (aM h).2.2
theorem wJ (_:GJ j) (h:okJ j=true): -65536≤(sumQ j z).e:=by
 have:=jE (E:=65536) (p:=z.toNat) (up:=false) (dP (lI (aM h).1) (lI (aM h).2.1))
 unfold sumQ;omega
theorem mh:a8 (sumQ j z):=cI _ _ _
theorem pX (hz:kf z=true):nbits (sumQ j z).m≤256:=Nat.le_trans (jl false _ (pO hz)) (rS hz).2
theorem BN {B:Int} (hB:bL j.lo.q≤B) (hB':bL j.hi.q≤B) (h0:0≤B) (hg:GJ j) (h:okJ j=true):(sumQ j z).e≤B+2:=by
 refine sD mh (by omega) fun hn=>?_
 have h1:=wN (p:=z.toNat) false (q:=plus j.lo.q j.hi.q) hn
 have hz:(plus j.lo.q j.hi.q).m≠0:=fun hz=>by
  apply hn
  unfold sumQ
  have:plus j.lo.q j.hi.q=q0:=(show a8 (plus j.lo.q j.hi.q) from dl _ _).1 hz
  rw [this];exact congrArg Q.m (iR z.toNat false false 0)
 have e1:j.lo.q.e≤B:=sD (kX hg h).1 h0 fun _=>hB
 have e2:j.hi.q.e≤B:=sD (kW hg h).1 h0 fun _=>hB'
 have h2:=yA hB hB' e1 e2 hz
 show bL (rnd z.toNat false (plus j.lo.q j.hi.q))≤_
 omega
theorem Au (hg:GJ j) (h:okJ j=true) (hz:kf z=true) (hf:¬ fm (aE (sumQ j z) (-1))) (ht:(sumQ j z).e≤65537):¬ cmpq (aE (sumQ j z) (-1)) j.lo.q<0:=by
 have hl:=wJ (z:=z) hg h
 by_cases h0:(sumQ j z).m=0
 ·exfalso;apply hf;unfold aE;rw [if_pos h0];exact ka
 ·have he:(sumQ j z).e= -65536:=by
   rcases Int.lt_or_le (-65536) (sumQ j z).e with h1 |h1
   ·exfalso;apply hf
    rw [co _ h0]
    exact l4 (pX hz) (by show -65536≤(sumQ j z).e+ -1;omega) (by show (sumQ j z).e+ -1≤65536;omega)
   ·omega
  have hl2:=dP (lI (aM h).1) (lI (aM h).2.1)
  rcases rnd_place (p:=z.toNat) (up:=false) (show a8 (plus j.lo.q j.hi.q) from dl _ _) (by show (sumQ j z).e≤_;omega) with h1 |h1
  ·have h1:sumQ j z=plus j.lo.q j.hi.q:=h1
   rw [h1]
   exact J7 (lI (aM h).1) (lI (aM h).2.1) (jv hg h)
  ·have h1:sumQ j z=q0:=h1
   rw [h1] at h0;exact absurd rfl h0
theorem Hu (hg:GJ j) (h:okJ j=true) (hz:kf z=true) (hr:mY j=0) (ht:(sumQ j z).e≤65536):iZ j z=lK j z:=by
 obtain ⟨a1,a2,a3⟩:=aM h
 unfold iZ lK t9
 rw [jD,h,hz,hr,Q0 a1 hg.lo,Q0 a2 hg.hi,Bo hg h]
 have fs:fm (sumQ j z):=l4 (pX hz) (wJ hg h) ht
 have e1:dZ (mI z false) z j.lo j.hi=(sumQ j z,0):=by
  rw [iS a1 a2 hz];exact cC fs
 rw [e1,iz ⟨mh,fs⟩]
 simp only [Bool.and_self,Bool.not_true,Bool.or_self,cond_true,cond_false]
 by_cases hf:fm (aE (sumQ j z) (-1))
 ·have hv:aJ (aE (sumQ j z) (-1)):=⟨eR mh _,hf⟩
  rw [cC hf]
  simp only
  rw [zl (cS hv).1 a1,(cS hv).2.2,iz hv,tw hv.1,cC hf]
  rfl
 ·rw [decide_eq_false (Au hg h hz hf (by omega)),fZ hf]
  simp only [cond_false]
  show (zX,(2:Int))=(qx q0,2)
  rw [RH]
theorem Dv {E p:Nat} {a d d':Q} {K:Nat} (hp:1≤p) (ha: -(E:Int)≤a.e) (hd: -(E:Int)≤d.e) (hd': -(E:Int)≤d'.e)
  (hK:∀ r:Q,r=rnd p false (plus a d)∨r=rnd p false (plus a d')→∃ t:Int,r.at E=t*K) (hA:∃ t:Int,a.at E=t*K) (h1:d.at E<K∧ -(K:Int)<d.at E) (h2:d'.at E<K∧ -(K:Int)<d'.at E)
  (hs:(0<d.at E∧0<d'.at E)∨(d.at E<0∧d'.at E<0)):rnd p false (plus a d)=rnd p false (plus a d'):=by
 have l1:=dP ha hd
 have l2:=dP ha hd'
 obtain ⟨ta,ea⟩:=hA
 have go:∀ (d d':Q), -(E:Int)≤d.e→ -(E:Int)≤d'.e→(∃ t:Int,(rnd p false (plus a d)).at E=t*K)→(d.at E<K∧ -(K:Int)<d.at E)→(d'.at E<K∧ -(K:Int)<d'.at E)→((0<d.at E∧0<d'.at E)∨(d.at E<0∧d'.at E<0))→(rnd p false (plus a d)).at E≤(rnd p false (plus a d')).at E:=by
  intro d d' hd hd' ⟨t,et⟩ h1 h2 hs
  refine mP hp (jl false _ hp) (dP ha hd') ?_
  have hle:=pQ (p:=p) (dP ha hd)
  rw [kj ha hd] at hle
  rw [kj ha hd']
  rw [et,ea] at*
  rcases hs with hs |hs
  ·have:t≤ta:=by
    rcases Int.lt_or_le ta t with h |h
    ·exfalso
     have:(ta+1)*(K:Int)≤t*K:=Int.mul_le_mul_of_nonneg_right h (by omega)
     rw [Int.add_mul] at this;omega
    ·exact h
   have:t*(K:Int)≤ta*K:=Int.mul_le_mul_of_nonneg_right this (by omega)
   omega
  ·have:t<ta:=by
    rcases Int.lt_or_le t ta with h |h
    ·exact h
    ·exfalso
     have:ta*(K:Int)≤t*K:=Int.mul_le_mul_of_nonneg_right h (by omega)
     omega
   have:(t+1)*(K:Int)≤ta*K:=Int.mul_le_mul_of_nonneg_right this (by omega)
   rw [Int.add_mul] at this
   omega
 refine qo (cI _ _ _) (cI _ _ _) (jE l1) (jE l2) ?_
 have g1:=go d d' hd hd' (hK _ (.inl rfl)) h1 h2 hs
 have g2:=go d' d hd' hd (hK _ (.inr rfl)) h2 h1 (by omega)
 omega
end
end
end Go.Proofs.YtpacpmmdjmnamaaGreatDoor
