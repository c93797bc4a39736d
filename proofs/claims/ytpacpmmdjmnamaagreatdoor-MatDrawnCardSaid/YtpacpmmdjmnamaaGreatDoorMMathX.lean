/- Numbers by a power of two: bounds of sums and products, the laws of a ring. No program. Rounding to so many bits, quotients rounded: numbers alone. No program. -/
import Derived.Test.YtpacpmmdjmnamaaGreatDoorMNumPR
namespace Go.Proofs.YtpacpmmdjmnamaaGreatDoor
section
open Nx
def Bd (k:Nat) (q:Q):Prop:=q.m<2^k∧ -(k:Int)≤q.e∧q.e≤k
theorem Bd.mono {k l:Nat} {q:Q} (h:Bd k q) (hl:k≤l):Bd l q:=
 ⟨Nat.lt_of_lt_of_le h.1 (Nat.pow_le_pow_right (by omega) hl),by have:=h.2.1;omega,by have:=h.2.2;omega⟩
theorem FI {i j:Nat} {Z e:Int} (hZ:Z.natAbs<2^j) (h1: -(i:Int)≤e) (h2:e≤i):Bd (i+j) (fH Z e):=by
 unfold fH
 by_cases h0:Z.natAbs=0
 ·rw [h0,cD]
  exact ⟨Nat.pow_pos (by omega),by show -((i+j:Nat):Int)≤0;omega,by show (0:Int)≤((i+j:Nat):Int);omega⟩
 ·have hz:=jZ h0 hZ
  have e1:nm (decide (Z<0)) Z.natAbs e=⟨decide (Z<0),Z.natAbs / 2^ntz Z.natAbs,e+ntz Z.natAbs⟩:=by unfold nm;rw [if_neg h0]
  rw [e1]
  refine ⟨Nat.lt_of_le_of_lt (Nat.div_le_self _ _) (Nat.lt_of_lt_of_le hZ (Nat.pow_le_pow_right (by omega) (by omega))),?_,?_⟩
  ·show -((i+j:Nat):Int)≤e+ntz Z.natAbs;omega
  ·show e+ntz Z.natAbs≤((i+j:Nat):Int);omega
theorem Jt {k:Nat} {a b:Q} (ha:Bd k a) (hb:Bd k b):Bd (k+(3*k+1)) (plus a b):=by
 obtain ⟨a1,a2,a3⟩:=ha
 obtain ⟨b1,b2,b3⟩:=hb
 have l1:(a.e - lowe a b).toNat≤2*k:=by unfold lowe;omega
 have l2:(b.e - lowe a b).toNat≤2*k:=by unfold lowe;omega
 refine FI ?_ (by unfold lowe;omega) (by unfold lowe;omega)
 refine Nat.lt_of_le_of_lt (Int.natAbs_add_le _ _) ?_
 rw [pd,pd]
 have p1:a.m*2^(a.e - lowe a b).toNat<2^(3*k):=by
  have:2^(a.e - lowe a b).toNat≤2^(2*k):=Nat.pow_le_pow_right (by omega) l1
  rw [show 3*k=k+2*k by omega,Nat.pow_add]
  exact Nat.lt_of_lt_of_le (Nat.mul_lt_mul_of_pos_right a1 (Nat.pow_pos (by omega))) (Nat.mul_le_mul_left _ this)
 have p2:b.m*2^(b.e - lowe a b).toNat<2^(3*k):=by
  have:2^(b.e - lowe a b).toNat≤2^(2*k):=Nat.pow_le_pow_right (by omega) l2
  rw [show 3*k=k+2*k by omega,Nat.pow_add]
  exact Nat.lt_of_lt_of_le (Nat.mul_lt_mul_of_pos_right b1 (Nat.pow_pos (by omega))) (Nat.mul_le_mul_left _ this)
 rw [Nat.pow_succ];omega
theorem xi {k:Nat} {a b:Q} (ha:Bd k a) (hb:Bd k b):Bd (2*k+2*k) (times a b):=by
 obtain ⟨a1,a2,a3⟩:=ha
 obtain ⟨b1,b2,b3⟩:=hb
 refine FI ?_ (by omega) (by omega)
 rw [Int.natAbs_mul]
 have h1:∀ q:Q,q.z.natAbs=q.m:=fun q=>by unfold Q.z;cases q.s<;>simp
 rw [h1,h1,show 2*k=k+k by omega,Nat.pow_add]
 exact Nat.mul_lt_mul'' a1 b1
section
variable {a b c:Q} {E:Nat}
end
end
section
open Nx
theorem sS {M:Nat} (h:M≠0) (k:Nat):nbits (M*2^k)=nbits M+k:=by
 refine sR ?_ fun _=>?_
 ·rw [Nat.pow_add];exact Nat.mul_lt_mul_of_pos_right (e9 M) (Nat.two_pow_pos k)
 ·have h1:=iN h
  have h2:=iw h
  rw [show nbits M+k - 1=nbits M - 1+k by omega,Nat.pow_add]
  exact Nat.mul_le_mul_right _ h1
theorem zP (M k:Nat):nbits (M / 2^k)=nbits M - k:=by
 induction k with
 |zero=>simp
 |succ k ih=>
  rw [Nat.pow_succ,←Nat.div_div_eq_div_mul]
  by_cases h:M / 2^k=0
  ·rw [h] at ih ⊢
   rw [dY] at ih
   show nbits 0=_
   rw [dY];omega
  ·have:=o5 h
   omega
theorem iv {M k:Nat} (h:nbits M≤k):M<2^k:=Nat.lt_of_lt_of_le (e9 M) (Nat.pow_le_pow_right (by omega) h)
def fp (M p:Nat) (aw:Bool):Nat:=M / 2^(nbits M - p)+(if M%2^(nbits M - p)≠0∧aw=true then 1 else 0)
def rnd (p:Nat) (up:Bool) (q:Q):Q:=nm q.s (fp q.m p (q.s !=up)) (q.e+((nbits q.m - p:Nat):Int))
theorem cI (p:Nat) (up:Bool) (q:Q):a8 (rnd p up q):=pI _ _ _
theorem qK (p:Nat) (aw:Bool):fp 0 p aw=0:=by unfold fp;simp
theorem iR (p:Nat) (up s:Bool) (e:Int):rnd p up ⟨s,0,e⟩=q0:=by unfold rnd;rw [qK,cD]
theorem pS {M p:Nat} {aw:Bool} (h:nbits M≤p):fp M p aw=M:=by
 unfold fp
 rw [show nbits M - p=0 by omega]
 simp [Nat.mod_one]
theorem BC {p:Nat} {up s:Bool} {M:Nat} {e:Int} (h:nbits M≤p):rnd p up ⟨s,M,e⟩=nm s M e:=by
 unfold rnd
 show nm s (fp M p _) (e+((nbits M - p:Nat):Int))=_
 rw [pS h,show nbits M - p=0 by omega]
 simp
theorem Ip {p:Nat} {up:Bool} {q:Q} (hc:a8 q) (h:nbits q.m≤p):rnd p up q=q:=by
 have:rnd p up ⟨q.s,q.m,q.e⟩=nm q.s q.m q.e:=BC h
 rw [xV hc] at this
 exact this
theorem DO (p:Nat) (up s:Bool) (M:Nat) (e:Int) (k:Nat):rnd p up ⟨s,M*2^k,e - k⟩=rnd p up ⟨s,M,e⟩:=by
 by_cases h0:M=0
 ·subst h0;rw [Nat.zero_mul,iR,iR]
 ·unfold rnd
  show nm s (fp (M*2^k) p (s !=up)) (e - k+((nbits (M*2^k) - p:Nat):Int))=nm s (fp M p (s !=up)) (e+((nbits M - p:Nat):Int))
  have hb:=sS h0 k
  rcases Nat.lt_or_ge (nbits M) p with hp |hp
  ·rw [pS (by omega:nbits M≤p),show nbits M - p=0 by omega]
   obtain ⟨j,hj⟩:∃ j,j=nbits M+k - p:=⟨_,rfl⟩
   have hjk:j≤k:=by omega
   have e1:M*2^k=M*2^(k - j)*2^j:=by rw [Nat.mul_assoc,←Nat.pow_add];congr 2;omega
   have e2:fp (M*2^k) p (s !=up)=M*2^(k - j):=by
    unfold fp
    rw [hb,←hj,e1,Nat.mul_div_cancel _ (Nat.two_pow_pos j),Nat.mul_mod_left]
    simp
   rw [e2,hb,←hj]
   have:=sT s M e (k - j)
   rw [show e - (k:Int)+(j:Int)=e - ((k - j:Nat):Int) by omega,this]
   simp
  ·have e1:nbits M+k - p=nbits M - p+k:=by omega
   have e2:fp (M*2^k) p (s !=up)=fp M p (s !=up):=by
    unfold fp
    rw [hb,e1,Nat.pow_add,Nat.mul_div_mul_right _ _ (Nat.two_pow_pos k),Nat.mul_mod_mul_right]
    have:(M%2^(nbits M - p)*2^k≠0)↔(M%2^(nbits M - p)≠0):=by
     have:=Nat.two_pow_pos k
     rw [Nat.mul_ne_zero_iff]
     constructor
     ·intro h;exact h.1
     ·intro h;exact ⟨h,by omega⟩
    simp only [this]
   rw [e2,hb,e1]
   congr 1
   omega
theorem tp (p:Nat) (up s:Bool) (M:Nat) (e:Int):rnd p up (nm s M e)=rnd p up ⟨s,M,e⟩:=by
 by_cases h0:M=0
 ·subst h0;rw [cD,iR];exact iR p up false 0
 ·have e1:nm s M e=⟨s,M / 2^ntz M,e+ntz M⟩:=by unfold nm;rw [if_neg h0]
  rw [e1,←DO p up s (M / 2^ntz M) (e+ntz M) (ntz M),←(iO h0).1]
  congr 2
  omega
theorem BF (M p:Nat):fp M p false*2^(nbits M - p)≤M:=by
 unfold fp
 simp
 exact Nat.div_mul_le_self _ _
theorem BD (M p:Nat):M≤fp M p true*2^(nbits M - p):=by
 unfold fp
 have h:=Nat.div_add_mod M (2^(nbits M - p))
 have h2:=Nat.mod_lt M (Nat.two_pow_pos (nbits M - p))
 by_cases h0:M%2^(nbits M - p)=0
 ·rw [if_neg (by simp [h0]),Nat.add_zero]
  rw [h0,Nat.mul_comm] at h
  omega
 ·rw [if_pos ⟨h0,rfl⟩,Nat.add_mul,Nat.mul_comm (M / _),Nat.one_mul]
  omega
theorem tr (M p:Nat) (aw:Bool):fp M p aw≤2^p:=by
 have h1:M / 2^(nbits M - p)<2^p:=iv (by rw [zP];omega)
 unfold fp
 split<;>omega
theorem Bs (s:Bool) (N:Nat) (e:Int):(nm s N e).m≤N:=by
 unfold nm
 split
 ·exact Nat.zero_le _
 ·exact Nat.div_le_self _ _
theorem Hy {s:Bool} {N p:Nat} {e:Int} (hp:1≤p) (h:N≤2^p):nbits (nm s N e).m≤p:=by
 rcases Nat.lt_or_ge N (2^p) with h1 |h1
 ·exact du (Nat.lt_of_le_of_lt (Bs s N e) h1)
 ·have e1:N=1*2^p:=by omega
  have e2:=sT s 1 (e+p) p
  rw [←e1,show e+(p:Int) - (p:Int)=e by omega] at e2
  rw [e2]
  refine Nat.le_trans (du (k:=1) ?_) hp
  exact Nat.lt_of_le_of_lt (Bs s 1 _) (by decide)
theorem jl {p:Nat} (up:Bool) (q:Q) (hp:1≤p):nbits (rnd p up q).m≤p:=Hy hp (tr _ _ _)
def sg (s:Bool) (M:Nat):Int:=if s then -(M:Int) else (M:Int)
theorem BJ {s:Bool} {M N:Nat} (h:M≤N):if s then sg s N≤sg s M else sg s M≤sg s N:=by
 unfold sg;cases s<;>simp<;>omega
theorem ON {E:Nat} (s:Bool) (M:Nat) (e:Int) (h: -(E:Int)≤e):(nm s M e).at E=sg s M*2^(e+E).toNat:=by
 rw [mM,vD h];rfl
theorem HW {E:Nat} (s:Bool) (M:Nat) (e:Int) (h: -(E:Int)≤e): -(E:Int)≤(nm s M e).e:=by
 rw [mM];exact oj h
theorem yI (q:Q):q.z=sg q.s q.m:=rfl
theorem An (s:Bool) (M N:Nat):sg s (M*N)=sg s M*(N:Int):=by unfold sg;cases s<;>simp [Int.natCast_mul,Int.neg_mul]
theorem Aj {E p:Nat} {up:Bool} {q:Q} (h: -(E:Int)≤q.e):(rnd p up q).at E=sg q.s (fp q.m p (q.s !=up)*2^(nbits q.m - p))*2^(q.e+E).toNat:=by
 unfold rnd
 rw [ON _ _ _ (by omega),An,Int.mul_assoc]
 congr 1
 rw [show (q.e+((nbits q.m - p:Nat):Int)+(E:Int)).toNat=(nbits q.m - p)+(q.e+E).toNat by omega,Int.pow_add,Int.natCast_pow]
 rfl
theorem jE {E p:Nat} {up:Bool} {q:Q} (h: -(E:Int)≤q.e): -(E:Int)≤(rnd p up q).e:=HW _ _ _ (by omega)
theorem pQ {E p:Nat} {q:Q} (h: -(E:Int)≤q.e):(rnd p false q).at E≤q.at E:=by
 rw [Aj h]
 unfold Q.at
 rw [yI]
 refine Int.mul_le_mul_of_nonneg_right ?_ (Int.le_of_lt (mb _))
 have h1:=BF q.m p;have h2:=BD q.m p
 cases hs:q.s
 ·have:=BJ (s:=false) h1
  simpa using this
 ·have:=BJ (s:=true) h2
  simpa using this
theorem Ak {E p:Nat} {q:Q} (h: -(E:Int)≤q.e):q.at E≤(rnd p true q).at E:=by
 rw [Aj h]
 unfold Q.at
 rw [yI]
 refine Int.mul_le_mul_of_nonneg_right ?_ (Int.le_of_lt (mb _))
 have h1:=BF q.m p;have h2:=BD q.m p
 cases hs:q.s
 ·have:=BJ (s:=false) h2
  simpa using this
 ·have:=BJ (s:=true) h1
  simpa using this
def ke (q:Q):Q:=nm q.s q.m (q.e+ -1)
def Tw (X b:Nat):Nat:=2*(X / b)+(if X%b≠0 then 1 else 0)
def ratk (p:Nat) (x y:Q):Nat:=p+nbits y.m - nbits x.m
def Pc (p:Nat) (up:Bool) (x y:Q):Q:=if x.m=0 then q0 else rnd p up ⟨x.s !=y.s,Tw (x.m*2^ratk p x y) y.m,x.e - y.e - (ratk p x y:Int) - 1⟩
end
end Go.Proofs.YtpacpmmdjmnamaaGreatDoor
