/- The document's side of package iv (fathomlineref1). -/
import Derived.Test.YtpacpmmdjmnamaaGreatDoorYLift
namespace Go.Proofs.YtpacpmmdjmnamaaGreatDoor
open Go.RowKit Nx
set_option linter.unusedVariables false
set_option linter.unusedSimpArgs false
def vp (p:Int):Bool:=decide (p≥8)&&decide (p≤256)
def mW (x y u v:Q):Q:=bif decide (signq x≥0)&&decide (signq u≥0) then times x u else bif decide (signq x≥0) then times y u else bif decide (signq u≥0) then times x v else
 bif decide (signq y≤0)&&decide (signq v≤0) then times y v else bif decide (cmpq (times y u) (times x v)<0) then times y u else times x v
theorem zB {m a b:Nat} (hab:a≤b) (h:m<B64^a):m<B64^b:=Nat.lt_of_lt_of_le h (Nat.pow_le_pow_right (by decide) hab)
theorem qH {p k:Nat} (h:p<64*k):2^p<B64^k:=by rw [dC];exact Nat.pow_lt_pow_right (by decide) h
theorem jV {m k:Nat} (h:m<B64^k):nbits m≤64*k:=bh (by rw [←dC];exact h)
theorem qT {q:Q} (h:aH q):Vw q:=⟨h.1,zB (a:=64) (b:=5000) (by decide) h.2.1,by have:=h.2.2.1;omega,by have:=h.2.2.2;omega⟩
theorem uf {q:Q} (h:aH q):Vb q:=⟨h.1,zB (a:=64) (b:=3000) (by decide) h.2.1,by have:=h.2.2.1;omega,by have:=h.2.2.2;omega⟩
theorem jP {a b:Q} (ha:aH a) (hb:aH b):Vb (times a b):=by
 by_cases h0:a.m=0∨b.m=0
 ·rw [lU ha.1 hb.1 h0];exact uf pJ
 ·obtain ⟨s,M,e⟩:=a
  obtain ⟨t,K,f⟩:=b
  have h1:M≠0:=fun h=>h0 (.inl h)
  have h2:K≠0:=fun h=>h0 (.inr h)
  have hc:bg (times ⟨s,M,e⟩ ⟨t,K,f⟩):=nb _ _
  rw [nt ha.1 hb.1 h1 h2] at hc ⊢
  have hm:M*K<B64^(64+64):=zC ha.2.1 hb.2.1
  refine ⟨hc,zB (a:=64+64) (b:=3000) (by decide) hm,?_,?_⟩
  ·have:=ha.2.2.1;have:=hb.2.2.1;simp only at*;omega
  ·have:=ha.2.2.2;have:=hb.2.2.2;simp only at*;omega
theorem Je {q:Q} (h:Vb q):Vw q:=⟨h.1,zB (a:=3000) (b:=5000) (by decide) h.2.1,by have:=h.2.2.1;omega,by have:=h.2.2.2;omega⟩
theorem xx {q:Q} (h:aH q):aH q.neg:=by
 refine ⟨qy h.1,by rw [zD];exact h.2.1,?_,?_⟩
 ·rw [vX h.1];exact h.2.2.1
 ·rw [vX h.1];exact h.2.2.2
theorem least_in (x y u v:Q):mW x y u v=times x u∨mW x y u v=times y u∨mW x y u v=times x v∨mW x y u v=times y v:=by
 unfold mW
 cases decide (signq x≥0)&&decide (signq u≥0)<;>cases decide (signq x≥0)<;>cases decide (signq u≥0)<;>cases decide (signq y≤0)&&decide (signq v≤0)<;>cases decide (cmpq (times y u) (times x v)<0)<;>simp
theorem Bt {x y u v:Q} (hx:aH x) (hy:aH y) (hu:aH u) (hv:aH v):Vb (mW x y u v):=by
 rcases least_in x y u v with h |h |h |h<;>rw [h]
 ·exact jP hx hu
 ·exact jP hy hu
 ·exact jP hx hv
 ·exact jP hy hv
theorem IU {p:Nat} (up:Bool) (q:Q) (b:Int) (hb:0≤b) (h1: -b≤q.e) (h2:q.e+64*5000≤b) (hm:q.m<B64^5000) (hp:1≤p) (hp2:p≤256): -b≤(dP p up q).e∧(dP p up q).e≤b+64*5:=by
 have hn:nbits q.m≤64*5000:=jV (k:=5000) hm
 unfold dP
 refine my (k:=5) ?_ (by omega) (by omega) hb
 exact Nat.lt_of_le_of_lt (mG _ _ _) (qH (k:=5) (by omega))
theorem Gi {p:Int} (hp:Pr p) (up:Bool) {q:Q} (h:Vw q) (h1: -20000000≤q.e) (h2:q.e≤20000000):Vw (dP p.toNat up q):=by
 have hb:=lb up q (p:=p.toNat) (by have:=hp.1;omega)
 have he:=IU (p:=p.toNat) up q 30000000 (by omega) (by omega) (by omega) h.2.1 (by have:=hp.1;omega) (by have:=hp.2;omega)
 exact ⟨dT p.toNat up q,lK (k:=5000) hb (by have:=hp.2;omega),by omega,by omega⟩
theorem CK {p:Int} (hp:Pr p) (up:Bool) {x y:Q} (hx:aH x) (hy:aH y) (h0:y.m≠0):Vw (ib p.toNat up x y):=by
 have hb:=xK up x y (p:=p.toNat) (by have:=hp.1;omega)
 refine ⟨pt _ _ _ _,lK (k:=5000) hb (by have:=hp.2;omega),?_⟩
 by_cases hx0:x.m=0
 ·unfold ib;rw [if_pos hx0];exact ⟨by show (-50000000:Int)≤0;omega,by show (0:Int)≤50000000;omega⟩
 ·obtain ⟨R,k,l,e,h1,h2,h3,_⟩:=xL up (p:=p.toNat) (by have:=hp.1;omega) hx0 h0
  have hnx:nbits x.m≤64*64:=jV (k:=64) hx.2.1
  have hny:nbits y.m≤64*64:=jV (k:=64) hy.2.1
  have a1:=hx.2.2.1;have a2:=hx.2.2.2;have a3:=hy.2.2.1;have a4:=hy.2.2.2;have a5:=hp.2
  have hR:R<B64^5:=Nat.lt_of_le_of_lt h1 (qH (k:=5) (by omega))
  rw [e]
  have:=my (s:=(x.s !=y.s)) (b:=1000000) hR (show -1000000≤x.e - y.e - k+l by omega) (by omega) (by omega)
  omega
end Go.Proofs.YtpacpmmdjmnamaaGreatDoor
