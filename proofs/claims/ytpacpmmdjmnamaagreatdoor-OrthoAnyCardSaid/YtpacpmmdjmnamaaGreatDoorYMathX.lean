/- Numbers by a power of two: bounds of sums and products, the laws of a ring. No program. Rounding to so many bits, quotients rounded: numbers alone. No program. -/
import Derived.Test.YtpacpmmdjmnamaaGreatDoorYNumPR
namespace Go.Proofs.YtpacpmmdjmnamaaGreatDoor
section
open Nx
def Bd (k:Nat) (q:Q):Prop:=q.m<2^k∧ -(k:Int)≤q.e∧q.e≤k
theorem Bd.mono {k l:Nat} {q:Q} (h:Bd k q) (hl:k≤l):Bd l q:=
 ⟨Nat.lt_of_lt_of_le h.1 (Nat.pow_le_pow_right (by omega) hl),by have:=h.2.1;omega,by have:=h.2.2;omega⟩
theorem uJ {i j:Nat} {Z e:Int} (hZ:Z.natAbs<2^j) (h1: -(i:Int)≤e) (h2:e≤i):Bd (i+j) (mA Z e):=by
 unfold mA
 by_cases h0:Z.natAbs=0
 ·rw [h0,dd]
  exact ⟨Nat.pow_pos (by omega),by show -((i+j:Nat):Int)≤0;omega,by show (0:Int)≤((i+j:Nat):Int);omega⟩
 ·have hz:=iz h0 hZ
  have e1:nm (decide (Z<0)) Z.natAbs e=⟨decide (Z<0),Z.natAbs / 2^ntz Z.natAbs,e+ntz Z.natAbs⟩:=by unfold nm;rw [if_neg h0]
  rw [e1]
  refine ⟨Nat.lt_of_le_of_lt (Nat.div_le_self _ _) (Nat.lt_of_lt_of_le hZ (Nat.pow_le_pow_right (by omega) (by omega))),?_,?_⟩
  ·show -((i+j:Nat):Int)≤e+ntz Z.natAbs;omega
  ·show e+ntz Z.natAbs≤((i+j:Nat):Int);omega
theorem BU {k:Nat} {a b:Q} (ha:Bd k a) (hb:Bd k b):Bd (k+(3*k+1)) (plus a b):=by
 obtain ⟨a1,a2,a3⟩:=ha
 obtain ⟨b1,b2,b3⟩:=hb
 have l1:(a.e - lowe a b).toNat≤2*k:=by unfold lowe;omega
 have l2:(b.e - lowe a b).toNat≤2*k:=by unfold lowe;omega
 refine uJ ?_ (by unfold lowe;omega) (by unfold lowe;omega)
 refine Nat.lt_of_le_of_lt (Int.natAbs_add_le _ _) ?_
 rw [sd,sd]
 have p1:a.m*2^(a.e - lowe a b).toNat<2^(3*k):=by
  have:2^(a.e - lowe a b).toNat≤2^(2*k):=Nat.pow_le_pow_right (by omega) l1
  rw [show 3*k=k+2*k by omega,Nat.pow_add]
  exact Nat.lt_of_lt_of_le (Nat.mul_lt_mul_of_pos_right a1 (Nat.pow_pos (by omega))) (Nat.mul_le_mul_left _ this)
 have p2:b.m*2^(b.e - lowe a b).toNat<2^(3*k):=by
  have:2^(b.e - lowe a b).toNat≤2^(2*k):=Nat.pow_le_pow_right (by omega) l2
  rw [show 3*k=k+2*k by omega,Nat.pow_add]
  exact Nat.lt_of_lt_of_le (Nat.mul_lt_mul_of_pos_right b1 (Nat.pow_pos (by omega))) (Nat.mul_le_mul_left _ this)
 rw [Nat.pow_succ];omega
theorem sI {k:Nat} {a b:Q} (ha:Bd k a) (hb:Bd k b):Bd (2*k+2*k) (times a b):=by
 obtain ⟨a1,a2,a3⟩:=ha
 obtain ⟨b1,b2,b3⟩:=hb
 refine uJ ?_ (by omega) (by omega)
 rw [Int.natAbs_mul]
 have h1:∀ q:Q,q.z.natAbs=q.m:=fun q=>by unfold Q.z;cases q.s<;>simp
 rw [h1,h1,show 2*k=k+k by omega,Nat.pow_add]
 exact Nat.mul_lt_mul'' a1 b1
section
variable {a b c:Q} {E:Nat}
end
end
section
open Nx
theorem tr {M:Nat} (h:M≠0) (k:Nat):nbits (M*2^k)=nbits M+k:=by
 refine pe ?_ fun _=>?_
 ·rw [Nat.pow_add];exact Nat.mul_lt_mul_of_pos_right (dt M) (Nat.two_pow_pos k)
 ·have h1:=gz h
  have h2:=dS h
  rw [show nbits M+k - 1=nbits M - 1+k by omega,Nat.pow_add]
  exact Nat.mul_le_mul_right _ h1
theorem vk (M k:Nat):nbits (M / 2^k)=nbits M - k:=by
 induction k with
 |zero=>simp
 |succ k ih=>
  rw [Nat.pow_succ,←Nat.div_div_eq_div_mul]
  by_cases h:M / 2^k=0
  ·rw [h] at ih ⊢
   rw [dK] at ih
   show nbits 0=_
   rw [dK];omega
  ·have:=iy h
   omega
theorem kB {M k:Nat} (h:nbits M≤k):M<2^k:=Nat.lt_of_lt_of_le (dt M) (Nat.pow_le_pow_right (by omega) h)
def iK (M p:Nat) (aw:Bool):Nat:=M / 2^(nbits M - p)+(if M%2^(nbits M - p)≠0∧aw=true then 1 else 0)
def dP (p:Nat) (up:Bool) (q:Q):Q:=nm q.s (iK q.m p (q.s !=up)) (q.e+((nbits q.m - p:Nat):Int))
theorem dT (p:Nat) (up:Bool) (q:Q):bg (dP p up q):=gD _ _ _
theorem xU (p:Nat) (aw:Bool):iK 0 p aw=0:=by unfold iK;simp
theorem kH (p:Nat) (up s:Bool) (e:Int):dP p up ⟨s,0,e⟩=q0:=by unfold dP;rw [xU,dd]
theorem tK {M p:Nat} {aw:Bool} (h:nbits M≤p):iK M p aw=M:=by
 unfold iK
 rw [show nbits M - p=0 by omega]
 simp [Nat.mod_one]
theorem wz {p:Nat} {up s:Bool} {M:Nat} {e:Int} (h:nbits M≤p):dP p up ⟨s,M,e⟩=nm s M e:=by
 unfold dP
 show nm s (iK M p _) (e+((nbits M - p:Nat):Int))=_
 rw [tK h,show nbits M - p=0 by omega]
 simp
theorem rL {p:Nat} {up:Bool} {q:Q} (hc:bg q) (h:nbits q.m≤p):dP p up q=q:=by
 have:dP p up ⟨q.s,q.m,q.e⟩=nm q.s q.m q.e:=wz h
 rw [zP hc] at this
 exact this
theorem xS (p:Nat) (up s:Bool) (M:Nat) (e:Int) (k:Nat):dP p up ⟨s,M*2^k,e - k⟩=dP p up ⟨s,M,e⟩:=by
 by_cases h0:M=0
 ·subst h0;rw [Nat.zero_mul,kH,kH]
 ·unfold dP
  show nm s (iK (M*2^k) p (s !=up)) (e - k+((nbits (M*2^k) - p:Nat):Int))=nm s (iK M p (s !=up)) (e+((nbits M - p:Nat):Int))
  have hb:=tr h0 k
  rcases Nat.lt_or_ge (nbits M) p with hp |hp
  ·rw [tK (by omega:nbits M≤p),show nbits M - p=0 by omega]
   obtain ⟨j,hj⟩:∃ j,j=nbits M+k - p:=⟨_,rfl⟩
   have hjk:j≤k:=by omega
   have e1:M*2^k=M*2^(k - j)*2^j:=by rw [Nat.mul_assoc,←Nat.pow_add];congr 2;omega
   have e2:iK (M*2^k) p (s !=up)=M*2^(k - j):=by
    unfold iK
    rw [hb,←hj,e1,Nat.mul_div_cancel _ (Nat.two_pow_pos j),Nat.mul_mod_left]
    simp
   rw [e2,hb,←hj]
   have:=mz s M e (k - j)
   rw [show e - (k:Int)+(j:Int)=e - ((k - j:Nat):Int) by omega,this]
   simp
  ·have e1:nbits M+k - p=nbits M - p+k:=by omega
   have e2:iK (M*2^k) p (s !=up)=iK M p (s !=up):=by
    unfold iK
    rw [hb,e1,Nat.pow_add,Nat.mul_div_mul_right _ _ (Nat.two_pow_pos k),Nat.mul_mod_mul_right]
    have:(M%2^(nbits M - p)*2^k≠0)↔(M%2^(nbits M - p)≠0):=by
     have:=Nat.two_pow_pos k
     rw [Nat.mul_ne_zero_iff]
     constructor
     ·intro h;exact h.1
     ·intro h;exact ⟨h,by omega⟩
    simp only [this]
   rw [e2,hb,e1]
   congr 1
   omega
theorem lS (p:Nat) (up s:Bool) (M:Nat) (e:Int):dP p up (nm s M e)=dP p up ⟨s,M,e⟩:=by
 by_cases h0:M=0
 ·subst h0;rw [dd,kH];exact kH p up false 0
 ·have e1:nm s M e=⟨s,M / 2^ntz M,e+ntz M⟩:=by unfold nm;rw [if_neg h0]
  rw [e1,←xS p up s (M / 2^ntz M) (e+ntz M) (ntz M),←(jC h0).1]
  congr 2
  omega
theorem mG (M p:Nat) (aw:Bool):iK M p aw≤2^p:=by
 have h1:M / 2^(nbits M - p)<2^p:=kB (by rw [vk];omega)
 unfold iK
 split<;>omega
theorem wm (s:Bool) (N:Nat) (e:Int):(nm s N e).m≤N:=by
 unfold nm
 split
 ·exact Nat.zero_le _
 ·exact Nat.div_le_self _ _
theorem zJ {s:Bool} {N p:Nat} {e:Int} (hp:1≤p) (h:N≤2^p):nbits (nm s N e).m≤p:=by
 rcases Nat.lt_or_ge N (2^p) with h1 |h1
 ·exact bh (Nat.lt_of_le_of_lt (wm s N e) h1)
 ·have e1:N=1*2^p:=by omega
  have e2:=mz s 1 (e+p) p
  rw [←e1,show e+(p:Int) - (p:Int)=e by omega] at e2
  rw [e2]
  refine Nat.le_trans (bh (k:=1) ?_) hp
  exact Nat.lt_of_le_of_lt (wm s 1 _) (by decide)
theorem lb {p:Nat} (up:Bool) (q:Q) (hp:1≤p):nbits (dP p up q).m≤p:=zJ hp (mG _ _ _)
theorem xT {p:Nat} (up up':Bool) (q:Q) (hp:1≤p):dP p up' (dP p up q)=dP p up q:=rL (dT p up q) (lb up q hp)
def sg (s:Bool) (M:Nat):Int:=if s then -(M:Int) else (M:Int)
theorem Kr (q:Q):q.z=sg q.s q.m:=rfl
theorem Gp (s:Bool) (M N:Nat):sg s (M*N)=sg s M*(N:Int):=by unfold sg;cases s<;>simp [Int.natCast_mul,Int.neg_mul]
def stk (X b:Nat):Nat:=2*(X / b)+(if X%b≠0 then 1 else 0)
theorem tT (X b:Nat):stk X b / 2=X / b:=by unfold stk;split<;>omega
theorem tG {a b k p:Nat} (ha:a≠0) (hb:b≠0) (hk:p+nbits b≤nbits a+k):p≤nbits (a*2^k / b):=by
 by_cases hp:p=0
 ·omega
 have h1:2^(nbits a - 1+k)≤a*2^k:=by rw [Nat.pow_add];exact Nat.mul_le_mul_right _ (gz ha)
 have h2:=dt b
 have h3:=dS ha
 have h4:2^(p - 1)*b≤a*2^k:=by
  refine Nat.le_trans (Nat.mul_le_mul_left _ (Nat.le_of_lt h2)) ?_
  rw [←Nat.pow_add]
  exact Nat.le_trans (Nat.pow_le_pow_right (by omega) (by omega)) h1
 have h5:2^(p - 1)≤a*2^k / b:=(Nat.le_div_iff_mul_le (by omega)).2 h4
 rcases Nat.lt_or_ge (nbits (a*2^k / b)) p with h |h
 ·have:=kB (M:=a*2^k / b) (k:=p - 1) (by omega)
  omega
 ·exact h
theorem mK {X b:Nat} (h:X / b≠0):nbits (stk X b)=nbits (X / b)+1:=by
 have h0:stk X b≠0:=by unfold stk;omega
 rw [iy h0,tT];omega
theorem Dq {X b l:Nat} (hb:b≠0):stk X b%2^(l+1)=0↔2^l*b∣X:=by
 rw [Nat.pow_succ,←Nat.dvd_iff_mod_eq_zero]
 constructor
 ·intro h
  have h2:2∣stk X b:=Nat.dvd_trans (Nat.dvd_mul_left 2 (2^l)) h
  have h3:X%b=0:=by
   by_cases h3:X%b=0
   ·exact h3
   ·unfold stk at h2;rw [if_pos h3] at h2;omega
  have h4:stk X b=X / b*2:=by unfold stk;rw [if_neg (by simp [h3])];omega
  rw [h4] at h
  obtain ⟨c,hc⟩:=Nat.dvd_of_mul_dvd_mul_right (by omega) h
  have h5:=Nat.div_add_mod X b
  rw [h3,hc,Nat.add_zero] at h5
  exact ⟨c,by rw [←h5,←Nat.mul_assoc,Nat.mul_comm b]⟩
 ·rintro ⟨c,hc⟩
  have h1:X=b*(2^l*c):=by rw [hc,Nat.mul_comm (2^l) b,Nat.mul_assoc]
  have h3:X%b=0:=by rw [h1,Nat.mul_mod_right]
  have h4:X / b=2^l*c:=by rw [h1,Nat.mul_div_cancel_left _ (by omega)]
  unfold stk
  rw [if_neg (by simp [h3]),h4]
  exact ⟨c,by rw [Nat.add_zero,Nat.mul_comm 2,Nat.mul_assoc,Nat.mul_assoc,Nat.mul_comm c]⟩
theorem pw {X b p:Nat} (aw:Bool) (hb:b≠0) (h0:X / b≠0) (hp:p≤nbits (X / b)):
  iK (stk X b) p aw=X / (b*2^(nbits (X / b) - p))+(if ¬ 2^(nbits (X / b) - p)*b∣X∧aw=true then 1 else 0):=by
 unfold iK
 rw [mK h0,show nbits (X / b)+1 - p=nbits (X / b) - p+1 by omega]
 have h1:stk X b / 2^(nbits (X / b) - p+1)=X / (b*2^(nbits (X / b) - p)):=by
  rw [Nat.pow_succ,Nat.mul_comm (2^_) 2,←Nat.div_div_eq_div_mul,tT,Nat.div_div_eq_div_mul]
 have h2:(stk X b%2^(nbits (X / b) - p+1)≠0)↔¬ 2^(nbits (X / b) - p)*b∣X:=not_congr (Dq hb)
 rw [h1]
 simp only [h2]
theorem yf (X b:Nat):X*2 / b / 2=X / b:=by
 rw [Nat.div_div_eq_div_mul,Nat.mul_div_mul_right _ _ (by omega)]
theorem rN {p:Nat} (up s:Bool) {X b:Nat} (e:Int) (hb:b≠0) (h0:X / b≠0) (hp:p≤nbits (X / b)):dP p up ⟨s,stk (X*2) b,e - 1⟩=dP p up ⟨s,stk X b,e⟩:=by
 have h1:=yf X b
 have h2:X*2 / b≠0:=by omega
 have h3:nbits (X*2 / b)=nbits (X / b)+1:=by rw [iy h2,h1];omega
 unfold dP
 show nm s (iK (stk (X*2) b) p _) (e - 1+((nbits (stk (X*2) b) - p:Nat):Int))=nm s (iK (stk X b) p _) (e+((nbits (stk X b) - p:Nat):Int))
 rw [pw _ hb h2 (by omega),pw _ hb h0 hp,mK h0,mK h2,h3,show nbits (X / b)+1 - p=nbits (X / b) - p+1 by omega]
 obtain ⟨l,hl⟩:∃ l,l=nbits (X / b) - p:=⟨_,rfl⟩
 rw [←hl]
 have e1:X*2 / (b*2^(l+1))=X / (b*2^l):=by rw [Nat.pow_succ,←Nat.mul_assoc,Nat.mul_div_mul_right _ _ (by omega)]
 have e2:2^(l+1)*b∣X*2↔2^l*b∣X:=by
  rw [Nat.pow_succ,Nat.mul_assoc,Nat.mul_comm 2 b,←Nat.mul_assoc]
  exact ⟨Nat.dvd_of_mul_dvd_mul_right (by omega),fun h=>Nat.mul_dvd_mul_right h 2⟩
 rw [e1]
 simp only [e2]
 congr 1
 omega
theorem Da {p:Nat} (up s:Bool) {X b:Nat} (e:Int) (hb:b≠0) (h0:X / b≠0) (hp:p≤nbits (X / b)) (d:Nat):dP p up ⟨s,stk (X*2^d) b,e - d⟩=dP p up ⟨s,stk X b,e⟩:=by
 induction d with
 |zero=>simp
 |succ d ih=>
  have hge:X / b≤X*2^d / b:=Nat.div_le_div_right (Nat.le_mul_of_pos_right _ (Nat.two_pow_pos d))
  have hb2:nbits (X / b)≤nbits (X*2^d / b):=bh (Nat.lt_of_le_of_lt hge (dt _))
  have:=rN up s (e - d) hb (X:=X*2^d) (p:=p) (Nat.ne_of_gt (Nat.lt_of_lt_of_le (Nat.pos_of_ne_zero h0) hge)) (by omega)
  rw [ih,Nat.mul_assoc,←Nat.pow_succ] at this
  rw [←this]
  congr 2
  omega
def ratk (p:Nat) (x y:Q):Nat:=p+nbits y.m - nbits x.m
def ib (p:Nat) (up:Bool) (x y:Q):Q:=if x.m=0 then q0 else dP p up ⟨x.s !=y.s,stk (x.m*2^ratk p x y) y.m,x.e - y.e - (ratk p x y:Int) - 1⟩
theorem pt (p:Nat) (up:Bool) (x y:Q):bg (ib p up x y):=by
 unfold ib;split
 ·exact fm
 ·exact dT _ _ _
theorem xM {p:Nat} (up:Bool) {x y:Q} {k:Nat} (hp:1≤p) (hx:x.m≠0) (hy:y.m≠0) (hk:ratk p x y≤k):
  dP p up ⟨x.s !=y.s,stk (x.m*2^k) y.m,x.e - y.e - (k:Int) - 1⟩=ib p up x y:=by
 unfold ib
 rw [if_neg hx]
 have h1:p≤nbits (x.m*2^ratk p x y / y.m):=tG hx hy (by unfold ratk;omega)
 have h2:x.m*2^ratk p x y / y.m≠0:=fun h=>by rw [h,dK] at h1;omega
 rw [←Da up (x.s !=y.s) (x.e - y.e - (ratk p x y:Int) - 1) hy h2 h1 (k - ratk p x y),Nat.mul_assoc,←Nat.pow_add,show ratk p x y+(k - ratk p x y)=k by omega]
 congr 2
 omega
theorem xL {p:Nat} (up:Bool) {x y:Q} (hp:1≤p) (hx:x.m≠0) (hy:y.m≠0):
  ∃ (R k l:Nat),ib p up x y=nm (x.s !=y.s) R (x.e - y.e - k+l)∧R≤2^p∧k≤p+nbits y.m∧l≤nbits x.m+k∧
   (((x.s !=y.s)!=up)=false→R*(y.m*2^l)≤x.m*2^k)∧(((x.s !=y.s)!=up)=true→x.m*2^k≤R*(y.m*2^l)):=by
 have h1:p≤nbits (x.m*2^ratk p x y / y.m):=tG hx hy (by unfold ratk;omega)
 have h2:x.m*2^ratk p x y / y.m≠0:=fun h=>by rw [h,dK] at h1;omega
 have hkk:ratk p x y≤p+nbits y.m:=by unfold ratk;omega
 have hR:=mG (stk (x.m*2^ratk p x y) y.m) p ((x.s !=y.s)!=up)
 have e0:ib p up x y=nm (x.s !=y.s) (iK (stk (x.m*2^ratk p x y) y.m) p ((x.s !=y.s)!=up)) (x.e - y.e - (ratk p x y:Int) - 1+((nbits (stk (x.m*2^ratk p x y) y.m) - p:Nat):Int)):=by unfold ib;rw [if_neg hx];rfl
 rw [mK h2] at e0
 have hm:=pw ((x.s !=y.s)!=up) hy h2 h1
 have hbits:nbits (x.m*2^ratk p x y / y.m)≤nbits x.m+ratk p x y:=by
  rw [←tr hx]
  exact bh (Nat.lt_of_le_of_lt (Nat.div_le_self _ _) (dt _))
 generalize ((x.s !=y.s)!=up)=aw at*
 generalize ratk p x y=k at*
 obtain ⟨l,hl⟩:∃ l,l=nbits (x.m*2^k / y.m) - p:=⟨_,rfl⟩
 rw [←hl] at hm
 refine ⟨_,k,l,e0.trans ?_,hR,hkk,by omega,?_,?_⟩
 ·congr 1;omega
 ·rintro rfl
  rw [hm,if_neg (by simp),Nat.add_zero]
  exact Nat.div_mul_le_self _ _
 ·rintro rfl
  rw [hm]
  have h3:=Nat.div_add_mod (x.m*2^k) (y.m*2^l)
  have hpos:0<y.m*2^l:=Nat.mul_pos (by omega) (Nat.two_pow_pos l)
  have h4:=Nat.mod_lt (x.m*2^k) hpos
  by_cases hd:2^l*y.m∣x.m*2^k
  ·rw [if_neg (by simp [hd]),Nat.add_zero]
   have:x.m*2^k%(y.m*2^l)=0:=by rw [Nat.mul_comm y.m];exact Nat.mod_eq_zero_of_dvd hd
   rw [this,Nat.mul_comm] at h3
   omega
  ·rw [if_pos ⟨hd,rfl⟩,Nat.add_mul,Nat.mul_comm (x.m*2^k / (y.m*2^l)),Nat.one_mul]
   omega
theorem xK {p:Nat} (up:Bool) (x y:Q) (hp:1≤p):nbits (ib p up x y).m≤p:=by
 unfold ib;split
 ·exact Nat.zero_le _
 ·exact lb _ _ hp
theorem Ho {i j:Nat} {s:Bool} {N:Nat} {e:Int} (hN:N<2^j) (h1: -(i:Int)≤e) (h2:e≤i):Bd (i+j) (nm s N e):=by
 rw [mY]
 refine uJ ?_ h1 h2
 cases s<;>simp [hN]
theorem ER {k p:Nat} {up:Bool} {q:Q} (h:Bd k q):Bd (2*k+(p+1)) (dP p up q):=by
 obtain ⟨h1,h2,h3⟩:=h
 have hb:=bh h1
 refine Ho (Nat.lt_of_le_of_lt (mG _ _ _) (by rw [Nat.pow_succ];have:=Nat.two_pow_pos p;omega)) (by omega) (by omega)
end
end Go.Proofs.YtpacpmmdjmnamaaGreatDoor
