/- The middle and the radius are the document's: numbers far from 1. -/
import Derived.Test.YtpacpmmdjmnamaaGreatDoorMAj1
namespace Go.Proofs.YtpacpmmdjmnamaaGreatDoor
set_option linter.unusedSimpArgs false
set_option linter.unusedVariables false
open Go.RowKit Nx
section
section
variable {E:Nat} {q a b:Q}
theorem so (q:Q):(q.at E).natAbs=q.m*2^(q.e+E).toNat:=by
 rw [jK]
 obtain ⟨n,hn⟩:∃ n,n=q.m*2^(q.e+E).toNat:=⟨_,rfl⟩
 rw [←hn];unfold sg;cases q.s<;>simp
theorem nM (h: -(E:Int)≤q.e):(q.at E).natAbs<2^(bL q+E).toNat:=by
 rw [so,show (bL q+E).toNat=nbits q.m+(q.e+E).toNat by unfold bL;omega,Nat.pow_add]
 exact Nat.mul_lt_mul_of_pos_right (e9 q.m) (Nat.two_pow_pos _)
theorem Av (hn:q.m≠0) (h: -(E:Int)≤q.e):2^(bL q+E - 1).toNat≤(q.at E).natAbs:=by
 have h1:=iw hn
 rw [so,show (bL q+E - 1).toNat=(nbits q.m - 1)+(q.e+E).toNat by unfold bL;omega,Nat.pow_add]
 exact Nat.mul_le_mul_right _ (iN hn)
theorem Ay (h: -(E:Int)≤q.e) {k:Nat} (hk:2^k≤(q.at E).natAbs):(k:Int)<bL q+E:=by
 have h1:=Nat.lt_of_le_of_lt hk (nM h)
 rw [Nat.pow_lt_pow_iff_right (by omega)] at h1
 omega
theorem DX (hn:q.m≠0) (h: -(E:Int)≤q.e) {k:Nat} (hk:(q.at E).natAbs<2^k):bL q+E≤k:=by
 have h1:=Nat.lt_of_le_of_lt (Av hn h) hk
 rw [Nat.pow_lt_pow_iff_right (by omega)] at h1
 omega
theorem v9 (hc:a8 q) (h:0<bL q):q.m≠0:=fun h0=>by
 rw [hc.1 h0] at h
 have:bL q0=0:=rfl
 omega
theorem Bc (ha: -(E:Int)≤a.e) (hb: -(E:Int)≤b.e) {k:Nat} (hna:a.m≠0) (h1:(k:Int)+1<bL a+E) (h2:bL b+E≤k):2^k≤((plus a b).at E).natAbs:=by
 rw [kj ha hb]
 have g1:=Av hna ha
 have g2:=nM hb
 have g3:2^(bL b+E).toNat≤2^k:=Nat.pow_le_pow_right (by omega) (by omega)
 have g4:2^(k+1)≤2^(bL a+E - 1).toNat:=Nat.pow_le_pow_right (by omega) (by omega)
 rw [Nat.pow_succ] at g4
 omega
end
theorem ov {q:Q} (h:aJ q):bL q≤q.e+4096:=by
 unfold bL
 have h1:nbits q.m≤64*64:=mU (k:=64) h.2.1
 omega
section
variable {j:J} {z:Int}
theorem one_raised:ez (qx (fH 1 0)) 32768=(⟨false,1,32768⟩,0)∧aJ ⟨false,1,32768⟩:=by
 have e1:fH 1 0=⟨false,1,0⟩:=zQ (s:=false) (M:=1) (e:=0) (t:=0) ⟨(fun h=>by cases h),fun _=>rfl⟩ (by omega)
 have hf:∀ e:Int,0≤e→e≤32768→aJ ⟨false,1,e⟩:=fun e h1 h2=>⟨⟨(fun h=>by cases h),fun _=>rfl⟩,l4 (q:=⟨false,1,e⟩) (by show nbits 1≤256;exact du (by decide)) (by show -65536≤e;omega) (by show e≤65536;omega)⟩
 refine ⟨?_,hf 32768 (by omega) (by omega)⟩
 rw [e1,iz (hf 0 (by omega) (by omega)),co _ (by show (1:Nat)≠0;omega)]
 show res ⟨false,1,0+32768⟩=_
 exact cC (hf 32768 (by omega) (by omega)).2
theorem Jj {E:Nat} (r:Q):r.abs.at E=((r.at E).natAbs:Int):=by
 rw [so,jK]
 unfold Q.abs
 by_cases h0:r.m=0
 ·rw [if_pos h0,h0,Nat.zero_mul];show sg false (0*_)=_;rw [Nat.zero_mul];rfl
 ·rw [if_neg h0];rfl
theorem vm {r:Q} (h:aJ r):(qx r.abs).v=((r.at 65536).natAbs:Int):=by
 unfold X.v
 rw [(cS (jb h)).2.2]
 exact Jj r
theorem Ij {E k n:Nat} (h:n=k+E):(⟨false,1,(k:Int)⟩:Q).at E=((2^n:Nat):Int):=by
 rw [jK]
 show sg false (1*2^((k:Int)+(E:Int)).toNat)=_
 rw [Nat.one_mul,show ((k:Int)+(E:Int)).toNat=n by omega];rfl
theorem vn {x:X} (h:x.ok=true) (hs:Small B64 x.xs):absx x=x.q.abs:=by
 have:=vo (ey h hs)
 rwa [O4 h hs] at this
theorem room_top (hg:GJ j) (h:okJ j=true):(mY j=0∧bL j.lo.q≤32768∧bL j.hi.q≤32768)∨(mY j=32768∧(32768<bL j.lo.q∨32768<bL j.hi.q)):=by
 obtain ⟨a1,a2,a3⟩:=aM h
 have v1:=kX hg h
 have v2:=kW hg h
 have o1:=cS (jb v1)
 have o2:=cS (jb v2)
 unfold mY iD
 rw [h,cond_true,one_raised.1,vn a1 hg.lo,vn a2 hg.hi,xQ o1.1 o2.1]
 have hv:(qe (qx j.lo.q.abs) (qx j.hi.q.abs)).v=max ((j.lo.q.at 65536).natAbs:Int) ((j.hi.q.at 65536).natAbs:Int):=by rw [RV o1.1 o2.1,vm v1,vm v2]
 obtain ⟨n,hn⟩:∃ n:Nat,n=98304:=⟨_,rfl⟩
 have hl:cmpx (qe (qx j.lo.q.abs) (qx j.hi.q.abs)) (qx ⟨false,1,32768⟩)<0↔max ((j.lo.q.at 65536).natAbs:Int) ((j.hi.q.at 65536).natAbs:Int)<((2^n:Nat):Int):=by
  rw [AR (Pw o1.1 o2.1) (cS one_raised.2).1,hv]
  have:(qx ⟨false,1,32768⟩).v=((2^n:Nat):Int):=by
   unfold X.v
   rw [(cS one_raised.2).2.2]
   exact Ij (k:=32768) (by omega)
  rw [this]
 obtain ⟨P,hP⟩:∃ P,P=2^n:=⟨_,rfl⟩
 have e1:=lI a1
 have e2:=lI a2
 have t0:∀ q:Q,a8 q→ -((65536:Nat):Int)≤q.e→(q.at 65536).natAbs<P→bL q≤32768:=fun q hc he hlt=>by
  by_cases h0:q.m=0
  ·rw [hc.1 h0];show (0:Int)≤32768;omega
  ·rw [hP] at hlt;have:=DX h0 he hlt;omega
 have t1:∀ q:Q, -((65536:Nat):Int)≤q.e→P≤(q.at 65536).natAbs→32768<bL q:=fun q he hge=>by
  rw [hP] at hge;have:=Ay he hge;omega
 rw [←hP] at hl
 by_cases hc:cmpx (qe (qx j.lo.q.abs) (qx j.hi.q.abs)) (qx ⟨false,1,32768⟩)<0
 ·rw [decide_eq_true hc]
  have:=hl.1 hc
  exact .inl ⟨rfl,t0 _ v1.1 e1 (by omega),t0 _ v2.1 e2 (by omega)⟩
 ·rw [decide_eq_false hc]
  have:¬ _:=fun g=>hc (hl.2 g)
  refine .inr ⟨rfl,?_⟩
  rcases Nat.lt_or_ge ((j.lo.q.at 65536).natAbs) P with g |g
  ·exact .inr (t1 _ e2 (by omega))
  ·exact .inl (t1 _ e1 g)
theorem nt {x:X} (h:x.ok=true) (hs:Small B64 x.xs) (hf:fm (aE x.q (-32768))):iM x 32768=qx (aE x.q (-32768)):=by
 unfold iM
 rw [show IntKind.i64.wrap (0 - 32768)= -32768 by rw [IntKind.wrap_i64];omega,qO h hs,cC hf];rfl
theorem sN {x:X} (h:x.ok=true) (hs:Small B64 x.xs) (hf:¬ fm (aE x.q (-32768))):iM x 32768=x∧x.q.m≠0∧x.q.e< -32768:=by
 have hv:=ey h hs
 have hm:x.q.m≠0:=fun h0=>hf (by unfold aE;rw [if_pos h0];exact ka)
 refine ⟨?_,hm,?_⟩
 ·unfold iM
  rw [show IntKind.i64.wrap (0 - 32768)= -32768 by rw [IntKind.wrap_i64];omega,qO h hs,fZ hf];rfl
 ·rcases Int.lt_or_le x.q.e (-32768) with h1 |h1
  ·exact h1
  ·exfalso;apply hf
   rw [co _ hm]
   exact ⟨hv.2.1,by show -65536≤x.q.e+ -32768;omega,by show x.q.e+ -32768≤65536;have:=hv.2.2.2;omega⟩
theorem PZ {q:Q} {E k:Nat} (hk:k≤E) (h: -((E - k:Nat):Int)≤q.e):∃ t:Int,q.at E=t*((2^k:Nat):Int):=by
 refine ⟨q.at (E - k),?_⟩
 have:=AJ (E:=E - k) (F:=k) h
 rw [show E - k+k=E by omega] at this
 rw [this,Int.natCast_pow];rfl
theorem tD {p:Nat} (hp:8≤p∧p≤256) {a d:Q} (va:aJ a) (vd:aJ d) (h1:32768<bL a) (hd:d.m≠0) (hde:d.e< -32768):
  rnd p false (plus (aE a (-32768)) d)=rnd p false (plus (aE a (-32768)) (aE d (-32768))):=by
 have hna:a.m≠0:=v9 va.1 (by omega)
 have ta:=ov va
 have td:=ov vd
 have la: -((131072:Nat):Int)≤(aE a (-32768)).e:=by rw [co _ hna];show _≤a.e+ -32768;omega
 have ld: -((131072:Nat):Int)≤d.e:=by have:=vd.2.2.1;omega
 have ld': -((131072:Nat):Int)≤(aE d (-32768)).e:=by rw [co _ hd];show _≤d.e+ -32768;have:=vd.2.2.1;omega
 have tsa:bL (aE a (-32768))=bL a - 32768:=by rw [co _ hna];unfold bL;simp only;omega
 have tsd:bL (aE d (-32768))=bL d - 32768:=by rw [co _ hd];unfold bL;simp only;omega
 have hnsa:(aE a (-32768)).m≠0:=by rw [LA _ hna];exact hna
 obtain ⟨n,hn⟩:∃ n:Nat,n=126976:=⟨_,rfl⟩
 obtain ⟨n2,hn2⟩:∃ n:Nat,n=131070:=⟨_,rfl⟩
 have mult:∀ d:Q, -((131072:Nat):Int)≤d.e→bL d≤ -28000→∃ t:Int,(rnd p false (plus (aE a (-32768)) d)).at 131072=t*((2^n:Nat):Int):=fun d hld htd=>by
  have hs:=Bc (E:=131072) (k:=n2) la hld hnsa (by omega) (by omega)
  have lp:=dP la hld
  have ht:=Ay lp hs
  have hn:(plus (aE a (-32768)) d).m≠0:=fun h0=>by
   rw [so,h0,Nat.zero_mul] at hs
   have:=Nat.two_pow_pos n2;omega
  rcases top_low (p:=p) (up:=false) hn with h2 |h2
  ·exact PZ (k:=n) (by omega) (by omega)
  ·rw [h2,So];exact ⟨0,by rw [Int.zero_mul]⟩
 have small:∀ d:Q, -((131072:Nat):Int)≤d.e→bL d≤ -28000→d.at 131072<((2^n:Nat):Int)∧ -((2^n:Nat):Int)<d.at 131072:=fun d hld htd=>by
  have g1:=nM hld
  have g2:2^(bL d+((131072:Nat):Int)).toNat≤2^n:=Nat.pow_le_pow_right (by omega) (by omega)
  obtain ⟨P,hP⟩:∃ P,P=2^n:=⟨_,rfl⟩
  rw [←hP] at g2 ⊢
  omega
 have sgn:(0<d.at 131072∧0<(aE d (-32768)).at 131072)∨(d.at 131072<0∧(aE d (-32768)).at 131072<0):=by
  rw [co _ hd,jK,jK]
  show (0<sg d.s _∧0<sg d.s (d.m*_))∨(sg d.s _<0∧sg d.s (d.m*_)<0)
  have p1:=Nat.mul_pos (Nat.pos_of_ne_zero hd) (Nat.two_pow_pos (d.e+((131072:Nat):Int)).toNat)
  have p2:=Nat.mul_pos (Nat.pos_of_ne_zero hd) (Nat.two_pow_pos (d.e+ -32768+((131072:Nat):Int)).toNat)
  unfold sg
  cases d.s
  ·left;simp only [Bool.false_eq_true,if_false];omega
  ·right;simp only [if_true];omega
 refine Dv (E:=131072) (K:=2^n) (by omega) la ld ld' ?_ ?_ (small d ld (by omega)) (small _ ld' (by omega)) sgn
 ·rintro r (rfl |rfl)
  ·exact mult d ld (by omega)
  ·exact mult _ ld' (by omega)
 ·refine PZ (k:=n) (by omega) ?_
  rw [co _ hna];show _≤a.e+ -32768;omega
theorem JZ (hg:GJ j) (h:okJ j=true) (hz:kf z=true) (ht:32768<bL j.lo.q∨32768<bL j.hi.q):(iM j.lo 32768).ok=true∧(iM j.hi 32768).ok=true∧rnd z.toNat false (plus (iM j.lo 32768).q (iM j.hi 32768).q)=aE (sumQ j z) (-32768):=by
 obtain ⟨a1,a2,a3⟩:=aM h
 have v1:=kX hg h
 have v2:=kW hg h
 have hp:=rS hz
 have all:rnd z.toNat false (plus (aE j.lo.q (-32768)) (aE j.hi.q (-32768)))=aE (sumQ j z) (-32768):=by
  have:=Ae 32768 (lI a1) (lI a2)
  rw [show (-((32768:Nat):Int))= -32768 from rfl] at this
  rw [this,tq];rfl
 have big:∀ x:X,aJ x.q→32768<bL x.q→fm (aE x.q (-32768)):=fun x hv ht=>by
  have hn:=v9 hv.1 (by omega)
  have:=ov hv
  rw [co _ hn]
  exact ⟨hv.2.1,by show -65536≤x.q.e+ -32768;omega,by show x.q.e+ -32768≤65536;have:=hv.2.2.2;omega⟩
 by_cases f1:fm (aE j.lo.q (-32768))
 ·have w1:aJ (aE j.lo.q (-32768)):=⟨eR v1.1 _,f1⟩
  by_cases f2:fm (aE j.hi.q (-32768))
  ·have w2:aJ (aE j.hi.q (-32768)):=⟨eR v2.1 _,f2⟩
   rw [nt a1 hg.lo f1,nt a2 hg.hi f2]
   exact ⟨(cS w1).1,(cS w2).1,by rw [(cS w1).2.2,(cS w2).2.2];exact all⟩
  ·obtain ⟨e2,n2,l2⟩:=sN a2 hg.hi f2
   have htl:32768<bL j.lo.q:=by
    rcases ht with ht |ht
    ·exact ht
    ·exact absurd (big _ v2 ht) f2
   rw [nt a1 hg.lo f1,e2]
   exact ⟨(cS w1).1,a2,by rw [(cS w1).2.2,tD hp v1 v2 htl n2 l2];exact all⟩
 ·obtain ⟨e1,n1,l1⟩:=sN a1 hg.lo f1
  have hth:32768<bL j.hi.q:=by
   rcases ht with ht |ht
   ·exact absurd (big _ v1 ht) f1
   ·exact ht
  have f2:=big _ v2 hth
  have w2:aJ (aE j.hi.q (-32768)):=⟨eR v2.1 _,f2⟩
  rw [nt a2 hg.hi f2,e1]
  exact ⟨a1,(cS w2).1,by rw [(cS w2).2.2,ma,tD hp v2 v1 hth n1 l1,ma];exact all⟩
theorem Gc (hg:GJ j) (h:okJ j=true) (hz:kf z=true) (ht:32768<bL j.lo.q∨32768<bL j.hi.q):fm (aE (sumQ j z) (-32768))∧fm (aE (sumQ j z) (-32769)):=by
 obtain ⟨a1,a2,a3⟩:=aM h
 have v1:=kX hg h
 have v2:=kW hg h
 have hp:=rS hz
 by_cases h0:(sumQ j z).m=0
 ·unfold aE;rw [if_pos h0,if_pos h0];exact ⟨ka,ka⟩
 have hhi:=BN (z:=z) (B:=69632) (ow v1) (ow v2) (by omega) hg h
 have key: -32767≤(sumQ j z).e:=by
  have one:∀ a d:Q,aJ a→aJ d→32768<bL a→ -32767≤(rnd z.toNat false (plus a d)).e∨rnd z.toNat false (plus a d)=q0:=fun a d va vd hta=>by
   have hna:=v9 va.1 (by omega)
   have tva:=ov va
   have tvd:=ov vd
   rcases Int.lt_or_le d.e (-32767) with g |g
   ·have la: -((65536:Nat):Int)≤a.e:=by have:=va.2.2.1;omega
    have ld: -((65536:Nat):Int)≤d.e:=by have:=vd.2.2.1;omega
    obtain ⟨n2,hn2⟩:∃ n:Nat,n=98302:=⟨_,rfl⟩
    have hs:=Bc (E:=65536) (k:=n2) la ld hna (by omega) (by omega)
    have ht:=Ay (dP la ld) hs
    have hn:(plus a d).m≠0:=fun h0=>by
     rw [so,h0,Nat.zero_mul] at hs
     have:=Nat.two_pow_pos n2;omega
    rcases top_low (p:=z.toNat) (up:=false) hn with h2 |h2
    ·left;omega
    ·exact .inr h2
   ·left
    have:=jE (E:=32767) (p:=z.toNat) (up:=false) (dP (a:=a) (b:=d) (E:=32767) (by omega) (by omega))
    omega
  rcases ht with ht |ht
  ·rcases one _ _ v1 v2 ht with h1 |h1
   ·exact h1
   ·have h1:sumQ j z=q0:=h1
    rw [h1] at h0;exact absurd rfl h0
  ·rcases one _ _ v2 v1 ht with h1 |h1
   ·rw [ma] at h1;exact h1
   ·rw [ma] at h1
    have h1:sumQ j z=q0:=h1
    rw [h1] at h0;exact absurd rfl h0
 rw [co _ h0,co _ h0]
 exact ⟨l4 (pX hz) (by show -65536≤(sumQ j z).e+ -32768;omega) (by show (sumQ j z).e+ -32768≤65536;omega),l4 (pX hz) (by show -65536≤(sumQ j z).e+ -32769;omega) (by show (sumQ j z).e+ -32769≤65536;omega)⟩
theorem JY (hg:GJ j) (h:okJ j=true) (hz:kf z=true) (ht:32768<bL j.lo.q∨32768<bL j.hi.q):cmpq (aE (sumQ j z) (-32769)) (iM j.lo 32768).q<0↔cmpq (aE (sumQ j z) (-1)) j.lo.q<0:=by
 obtain ⟨a1,a2,a3⟩:=aM h
 have v1:=kX hg h
 have v2:=kW hg h
 have hp:=rS hz
 have ls:=wJ (z:=z) hg h
 by_cases f1:fm (aE j.lo.q (-32768))
 ·rw [nt a1 hg.lo f1,(cS ⟨eR v1.1 _,f1⟩).2.2]
  have e1:aE (sumQ j z) (-32769)=aE (aE (sumQ j z) (-1)) (-((32768:Nat):Int)):=by rw [qN];rfl
  have l1: -((65537:Nat):Int)≤(aE (sumQ j z) (-1)).e:=iy (E:=65536) 1 (by omega)
  rw [e1]
  have:=Cr 32768 l1 (show -((65537:Nat):Int)≤j.lo.q.e by have:=lI a1;omega)
  rw [show (-((32768:Nat):Int))= -32768 from rfl] at this ⊢
  rw [this]
 ·obtain ⟨e1,n1,l1⟩:=sN a1 hg.lo f1
  rw [e1]
  have tl:=ov v1
  have hth:32768<bL j.hi.q:=by
   rcases ht with ht |ht
   ·omega
   ·exact ht
  have hnh:=v9 v2.1 (show 0<bL j.hi.q by omega)
  have q1:=lI a1
  have q2:=lI a2
  have gh:=Av (E:=65536) hnh q2
  have gl:=nM (E:=65536) q1
  have hle:=jv hg h
  obtain ⟨m1,hm1⟩:∃ n:Nat,n=98304:=⟨_,rfl⟩
  obtain ⟨m2,hm2⟩:∃ n:Nat,n=98303:=⟨_,rfl⟩
  obtain ⟨m3,hm3⟩:∃ n:Nat,n=40960:=⟨_,rfl⟩
  have P1:2^m1≤2^(bL j.hi.q+((65536:Nat):Int) - 1).toNat:=Nat.pow_le_pow_right (by omega) (by omega)
  have P2:2^(bL j.lo.q+((65536:Nat):Int)).toNat≤2^m3:=Nat.pow_le_pow_right (by omega) (by omega)
  have hS:((2^m2:Nat):Int)≤(sumQ j z).at 65536:=by
   have hr:(⟨false,1,32767⟩:Q).at 65536=((2^m2:Nat):Int):=Ij (k:=32767) (by omega)
   rw [←hr]
   refine mP (by omega) (show nbits 1≤z.toNat from Nat.le_trans (du (k:=1) (by decide)) (by omega)) (dP q1 q2) ?_
   rw [hr,kj q1 q2]
   have P3:2^m1=2^m2+2^m2:=by rw [show m1=m2+1 by omega,Nat.pow_succ];omega
   have P4:2^m3≤2^m2:=Nat.pow_le_pow_right (by omega) (by omega)
   obtain ⟨x1,hx1⟩:∃ x,x=2^m1:=⟨_,rfl⟩
   obtain ⟨x2,hx2⟩:∃ x,x=2^m2:=⟨_,rfl⟩
   obtain ⟨x3,hx3⟩:∃ x,x=2^m3:=⟨_,rfl⟩
   rw [←hx1] at P1 P3
   rw [←hx2] at P3 P4 ⊢
   rw [←hx3] at P2 P4
   omega
  have go:∀ n:Nat,n≤40000→¬ cmpq (aE (sumQ j z) (-(n:Int))) j.lo.q<0:=fun n hn hc=>by
   have l3: -((65536+n:Nat):Int)≤(aE (sumQ j z) (-(n:Int))).e:=iy (E:=65536) n (by omega)
   rw [lg l3 (show -((65536+n:Nat):Int)≤j.lo.q.e by omega),kT] at hc
   have hlt:(sumQ j z).at 65536<j.lo.q.at (65536+n):=by
    split at hc
    ·assumption
    ·split at hc<;>omega
   have g:=nM (E:=65536+n) (q:=j.lo.q) (by omega)
   have P5:2^(bL j.lo.q+((65536+n:Nat):Int)).toNat≤2^m2:=Nat.pow_le_pow_right (by omega) (by omega)
   obtain ⟨x2,hx2⟩:∃ x,x=2^m2:=⟨_,rfl⟩
   rw [←hx2] at P5 hS
   omega
  exact iff_of_false (go 32769 (by omega)) (go 1 (by omega))
theorem v5 (hg:GJ j) (z:Int):iZ j z=lK j z:=by
 cases h:okJ j
 ·unfold iZ lK;rw [h];rfl
 cases hz:kf z
 ·unfold iZ lK;rw [jD,h,hz];rfl
 rcases room_top hg h with ⟨hr,t1,t2⟩|⟨hr,ht⟩
 ·exact Hu hg h hz hr (by have:=BN (z:=z) t1 t2 (by omega) hg h;omega)
 ·obtain ⟨a1,a2,a3⟩:=aM h
  obtain ⟨o1,o2,hv⟩:=JZ hg h hz ht
  obtain ⟨f1,f2⟩:=Gc hg h hz ht
  unfold iZ lK t9
  rw [jD,h,hz,hr,Bo hg h]
  have e1:dZ (mI z false) z (iM j.lo 32768) (iM j.hi 32768)=(aE (sumQ j z) (-32768),0):=by
   rw [iS o1 o2 hz]
   show res (rnd z.toNat false (plus _ _))=_
   rw [hv];exact cC f1
  have w1:aJ (aE (sumQ j z) (-32768)):=⟨eR mh _,f1⟩
  have w2:aJ (aE (sumQ j z) (-32769)):=⟨eR mh _,f2⟩
  rw [e1,iz w1,qN,show (-32768:Int)+ -1= -32769 from rfl,cC f2]
  simp only [Bool.and_self,Bool.not_true,Bool.or_self,cond_true,cond_false]
  rw [zl (cS w2).1 o1,(cS w2).2.2,iz w2,qN,show (-32769:Int)+32768= -1 from rfl,decide_eq_decide.2 (JY hg h hz ht)]
  rfl
end
end
section

end
end Go.Proofs.YtpacpmmdjmnamaaGreatDoor
