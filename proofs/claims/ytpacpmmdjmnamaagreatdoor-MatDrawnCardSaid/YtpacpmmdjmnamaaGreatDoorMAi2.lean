/- The document's side of package iv: quotients, the four operations, the middle. -/
import Derived.Test.YtpacpmmdjmnamaaGreatDoorMAiK
namespace Go.Proofs.YtpacpmmdjmnamaaGreatDoor
set_option linter.unusedSimpArgs false
set_option linter.unusedVariables false
open Go.RowKit Nx
section
theorem ey {x:X} (h:x.ok=true) (hs:Small B64 x.xs):aJ x.q:=by
 have ha:Arg (default:World) none x.xs.length x.xs.length x.xs→True:=fun _=>trivial
 clear ha
 unfold X.ok iE at h
 unfold X.q
 split at h
 ·rename_i h0
  have hx:x.xs=[]:=List.eq_nil_of_length_eq_zero h0
  rw [Bool.and_eq_true] at h
  obtain ⟨h1,h2⟩:=h
  have h1:x.e=0:=by simpa using h1
  have h2:x.s=false:=by simpa using h2
  rw [hx,h1,h2];exact mT
 ·rename_i h0
  simp only [Bool.and_eq_true,decide_eq_true_eq] at h
  obtain ⟨⟨⟨⟨h1,h2⟩,h3⟩,h4⟩,h5⟩:=h
  have hl:=ck hs
  have hodd:nval B64 x.xs%2=1:=by
   cases hx:x.xs with
   |nil=>rw [hx] at h0;exact absurd rfl h0
   |cons a r=>
    rw [hx] at h3
    simp only [nval]
    have h3:a%2=1:=by simpa using h3
    have:B64*nval B64 r%2=0:=by
     rw [Nat.mul_mod,show B64%2=0 from rfl,Nat.zero_mul]
    omega
  refine ⟨⟨fun h=>?_,fun _=>hodd⟩,?_,h4,h5⟩
  ·have h:nval B64 x.xs=0:=h
   rw [h] at hodd;cases hodd
  ·exact Nat.lt_of_lt_of_le hl (Nat.pow_le_pow_right (by decide) h2)
theorem nD {j:J} (h:okJ j=true):j.lo.ok=true:=by unfold okJ at h;rw [Bool.and_eq_true,Bool.and_eq_true] at h;exact h.1.1
theorem nC {j:J} (h:okJ j=true):j.hi.ok=true:=by unfold okJ at h;rw [Bool.and_eq_true,Bool.and_eq_true] at h;exact h.1.2
theorem zl {x y:X} (hx:x.ok=true) (hy:y.ok=true):cmpx x y=cmpq x.q y.q:=by
 unfold cmpx jc
 rw [if_pos (by unfold X.ok at hx hy;rw [hx,hy];rfl)];rfl
theorem jQ {p:Int} (h:prb p=true):Pr p:=by unfold prb at h;rw [Bool.and_eq_true] at h;exact ⟨by simpa using h.1,by simpa using h.2⟩
def Vm (q:Q):Prop:=Vw q∧ -20000000≤q.e∧q.e≤20000000
theorem yF {x y u v:Q} (hx:aJ x) (hy:aJ y) (hu:aJ u) (hv:aJ v):Vb (ii x y u v):=Py (qf (kz hy) (kz hx) hu hv)
theorem oS {q:Q} (h:Vm q):Vw q:=h.1
theorem BW {q:Q} (h:Vb q):Vm q:=⟨uZ h,by have:=h.2.2.1;omega,by have:=h.2.2.2;omega⟩
theorem g7 {a b:Q} (ha:aJ a) (hb:aJ b):Vm (plus a b):=by
 obtain ⟨k0,hk0⟩:∃ k0:Nat,k0=64:=⟨_,rfl⟩
 have h1:=ha.2.1;have h2:=hb.2.1
 rw [←hk0] at h1 h2
 obtain ⟨l1,l2,l3⟩:=Lg h1 h2 ha.2.2.1 ha.2.2.2 hb.2.2.1 hb.2.2.2
 refine ⟨⟨dl _ _,vX (b:=5000) (by omega) l1,?_,?_⟩,?_,?_⟩<;>omega
theorem jS {a b:Q} (ha:aJ a) (hb:aJ b):Vm (minus a b):=g7 ha (kz hb)
theorem mQ {p:Int} (hp:Pr p) (up:Bool) {q:Q} (h:Vm q):Vw (rnd p.toNat up q):=Pj hp up h.1 h.2.1 h.2.2
structure GJ (j:J):Prop where
 lo:Small B64 j.lo.xs
 hi:Small B64 j.hi.xs
theorem kX {j:J} (hg:GJ j) (h:okJ j=true):aJ j.lo.q:=ey (nD h) hg.lo
theorem kW {j:J} (hg:GJ j) (h:okJ j=true):aJ j.hi.q:=ey (nC h) hg.hi
def lj (k:Int→J→J→Int→Prop×AV):List AV→Option (Prop×AV)
 |[.v false [.lit (.int .i64 z)],.v true mj,.v true mj1,.v false [.lit (.int .i64 z1)]]=>(match k7 mj,k7 mj1 with
  |some j,some j1=>some (k z j j1 z1)
  |_,_=>none)
 |_=>none
theorem Gn {k:Int→J→J→Int→Prop×AV} {args:List AV} {e:Prop×AV} (h:lj k args=some e):∃ z j j1 z1,args=[iA z,.v true j.L,.v true j1.L,iA z1]∧e=k z j j1 z1:=by
 unfold lj at h
 split at h
 ·split at h
  ·rename_i j j1 hj hj1
   injection h with h;subst h
   exact ⟨_,j,j1,_,by rw [gy hj,gy hj1],rfl⟩
  ·cases h
 ·cases h
end
section
theorem cS {q:Q} (hv:aJ q):(qx q).ok=true∧Small B64 (qx q).xs∧(qx q).q=q:=by
 refine ⟨?_,az B64_two _,by unfold X.q qx;simp only [ay B64_two]⟩
 obtain ⟨hc,f1,f2,f3⟩:=hv
 unfold X.ok qx iE
 simp only
 by_cases h0:(aS B64 q.m).length=0
 ·rw [if_pos h0]
  have hm:q.m=0:=(dN B64_two).1 (List.eq_nil_of_length_eq_zero h0)
  rw [hc.1 hm];rfl
 ·rw [if_neg h0]
  have hm:q.m≠0:=fun hm=>h0 (by rw [hm,aK];rfl)
  have hlast:(aS B64 q.m).getD ((aS B64 q.m).length - 1) 0≠0:=by
   obtain ⟨y,hg⟩:∃ y,(aS B64 q.m)[(aS B64 q.m).length - 1]? =some y:=⟨_,List.getElem?_eq_getElem (by omega)⟩
   rw [getD_of hg]
   exact uj B64_two _ _ (by rw [List.getLast?_eq_getElem?];exact hg)
  have hodd:(aS B64 q.m).getD 0 0%2=1:=by
   rw [ek B64_two hm]
   show q.m%B64%2=1
   have:=hc.2 hm
   unfold B64;omega
  have hle:(aS B64 q.m).length≤64:=eK B64_two f1
  simp only [Bool.and_eq_true,decide_eq_true_eq]
  exact ⟨⟨⟨⟨hlast,hle⟩,hodd⟩,f2⟩,f3⟩
def bL (q:Q):Int:=(nbits q.m:Int)+q.e
theorem Aw (s:Bool) {M:Nat} (e:Int) (h:M≠0):bL (nm s M e)=nbits M+e:=by
 unfold bL nm
 rw [if_neg h]
 have h1:=(iO h).1
 have h2:M / 2^ntz M≠0:=fun h0=>by rw [h0,Nat.zero_mul] at h1;exact h h1
 have h3:=sS h2 (ntz M)
 rw [←h1] at h3
 simp only
 omega
theorem BR {Z:Int} (e:Int) (h:Z≠0):bL (fH Z e)=nbits Z.natAbs+e:=Aw _ _ (by omega)
theorem Ga {q:Q} (h:q.m≠0):q.e<bL q:=by unfold bL;have:=iw h;omega
theorem ow {q:Q} (h:aJ q):bL q≤65536+4096:=by
 unfold bL
 have h1:nbits q.m≤64*64:=mU (k:=64) h.2.1
 have:=h.2.2.2;omega
theorem xU {M N:Nat} (h:M≤N):nbits M≤nbits N:=du (Nat.lt_of_le_of_lt h (e9 N))
theorem Dt (M N:Nat):nbits (M+N)≤max (nbits M) (nbits N)+1:=by
 refine du ?_
 have h1:=Nat.lt_of_lt_of_le (e9 M) (Nat.pow_le_pow_right (n:=2) (by omega) (Nat.le_max_left (nbits M) (nbits N)))
 have h2:=Nat.lt_of_lt_of_le (e9 N) (Nat.pow_le_pow_right (n:=2) (by omega) (Nat.le_max_right (nbits M) (nbits N)))
 rw [Nat.pow_succ];omega
theorem IJ {q:Q} {t B:Int} (h:t≤q.e) (ht:bL q≤B) (hB:t≤B):(nbits (q.up t).natAbs:Int)≤B - t:=by
 rw [pd]
 by_cases h0:q.m=0
 ·rw [h0,Nat.zero_mul,dY];omega
 ·rw [sS h0];unfold bL at ht;omega
theorem yA {a b:Q} {B:Int} (ha:bL a≤B) (hb:bL b≤B) (ha0:a.e≤B) (hb0:b.e≤B) (h:(plus a b).m≠0):bL (plus a b)≤B+1:=by
 unfold plus at h ⊢
 by_cases hz:a.up (lowe a b)+b.up (lowe a b)=0
 ·rw [hz,pK] at h;exact absurd rfl h
 ·rw [BR _ hz]
  have h1:=IJ (q:=a) (t:=lowe a b) (by unfold lowe;omega) ha (by unfold lowe;omega)
  have h2:=IJ (q:=b) (t:=lowe a b) (by unfold lowe;omega) hb (by unfold lowe;omega)
  have h3:=xU (Int.natAbs_add_le (a.up (lowe a b)) (b.up (lowe a b)))
  have h4:=Dt (a.up (lowe a b)).natAbs (b.up (lowe a b)).natAbs
  omega
theorem wN {p:Nat} (up:Bool) {q:Q} (h:(rnd p up q).m≠0):bL (rnd p up q)≤bL q+1:=by
 have h0:q.m≠0:=fun h0=>by
  obtain ⟨s,M,e⟩:=q
  have h0:M=0:=h0
  subst h0
  rw [iR] at h;exact h rfl
 unfold rnd at h ⊢
 by_cases hz:fp q.m p (q.s !=up)=0
 ·rw [hz,cD] at h;exact absurd rfl h
 ·rw [Aw _ _ hz]
  unfold bL
  by_cases hle:nbits q.m≤p
  ·rw [pS hle,show nbits q.m - p=0 by omega];omega
  ·have h1:=du (k:=p+1) (Nat.lt_of_le_of_lt (tr q.m p (q.s !=up)) (Nat.pow_lt_pow_right (by omega) (by omega)))
   omega
def xz (v:Q):Q:=⟨v.s,v.m,IntKind.i64.wrap (v.e - 1)⟩
def Bi (v:Q):Q:=bif decide (((aS B32 v.m).length:Int)>0) then xz v else v
theorem J6 {v:Q} (h1: -20000000≤v.e) (h2:v.e≤20000000):xz v=⟨v.s,v.m,v.e - 1⟩:=by unfold xz;rw [IntKind.wrap_i64];congr 1;omega
theorem vT {v:Q} (hv:Vm v):Bi v=ke v:=by
 unfold Bi ke
 by_cases h0:v.m=0
 ·have:(aS B32 v.m).length=0:=by rw [h0,aK];rfl
  rw [this,show decide (((0:Nat):Int)>0)=false from rfl,cond_false,h0,cD,hv.1.1.1 h0]
 ·have hl:(aS B32 v.m).length≠0:=fun hl=>h0 ((dN aD).1 (List.eq_nil_of_length_eq_zero hl))
  rw [decide_eq_true (by omega),cond_true,J6 hv.2.1 hv.2.2]
  obtain ⟨s,M,e⟩:=v
  have:=zQ (t:=e+ -1) hv.1.1 h0
  rw [this];rfl
theorem LP {v:Q} (hv:Vm v):Vw (ke v):=by
 unfold ke
 by_cases h0:v.m=0
 ·rw [h0,cD];exact jT mT
 ·obtain ⟨s,M,e⟩:=v
  rw [zQ (t:=e+ -1) hv.1.1 h0]
  refine ⟨⟨fun h=>absurd h h0,fun _=>hv.1.1.2 h0⟩,hv.1.2.1,?_,?_⟩
  ·have:=hv.2.1;simp only at*;omega
  ·have:=hv.2.2;simp only at*;omega
def xP (p:Nat) (a b:Q):Q:=rnd p false (ke (plus a b))
theorem II {v:Q} (h:v.m≠0):bL (ke v)=bL v - 1:=by
 unfold ke
 rw [Aw _ _ h];unfold bL;omega
theorem BV {p:Int} (hp:Pr p) {a b:Q} (ha:aJ a) (hb:aJ b):Vb (xP p.toNat a b):=by
 have hbits:=jl false (ke (plus a b)) (p:=p.toNat) (by have:=hp.1;omega)
 have hlow: -(65537:Nat)≤(ke (plus a b)).e:=by
  unfold ke
  refine HW _ _ _ ?_
  have:=dP (E:=65536) (a:=a) (b:=b) (by have:=ha.2.2.1;omega) (by have:=hb.2.2.1;omega)
  omega
 refine ⟨cI _ _ _,vX (a:=4) (b:=3000) (by decide) (mA (k:=4) hbits (by have:=hp.2;omega)),?_,?_⟩
 ·have:=jE (E:=65537) (p:=p.toNat) (up:=false) hlow
  unfold xP;omega
 ·by_cases h0:(xP p.toNat a b).m=0
  ·rw [(cI p.toNat false (ke (plus a b))).1 h0|>fun h=>(show xP p.toNat a b=q0 from h)];show (0:Int)≤550000;omega
  ·have h1:=Ga h0
   have h2:=wN (p:=p.toNat) false (q:=ke (plus a b)) h0
   have hz:(plus a b).m≠0:=fun hz=>by
    apply h0
    unfold xP ke
    rw [hz,cD,show q0=⟨false,0,0⟩ from rfl,iR];rfl
   have h3:=II hz
   have h4:=yA (B:=69632) (ow ha) (ow hb) (by have:=ha.2.2.2;omega) (by have:=hb.2.2.2;omega) hz
   have h5:bL (xP p.toNat a b)≤bL (ke (plus a b))+1:=h2
   omega
noncomputable def lK (j:J) (p:Int):X×Int:=bif !(okJ j)|| !(prb p) then (zX,1) else bif decide (cmpq (rnd p.toNat false (Bi (plus j.lo.q j.hi.q))) j.lo.q<0) then (j.lo,0) else (qx (res (rnd p.toNat false (Bi (plus j.lo.q j.hi.q)))).1,(res (rnd p.toNat false (Bi (plus j.lo.q j.hi.q)))).2)
abbrev kY (r:X×Int):AV:=.tup [(true,r.1.L),(false,[.lit (.int .i64 r.2)])]
theorem RH:qx q0=zX:=by unfold qx zX;rw [show q0.m=0 from rfl,aK];rfl
theorem RW {v:Q} (h:decide (((aS B32 v.m).length:Int)>0)=true) (hv:Vm v):Vw ⟨v.s,v.m,IntKind.i64.wrap (v.e - 1)⟩:=by
 have:=LP hv
 rw [←vT hv] at this
 unfold Bi at this
 rw [h,cond_true] at this
 exact this
theorem MX {p:Int} {a b:Q} (h:decide (((aS B32 (plus a b).m).length:Int)>0)=true) (hp:Pr p) (ha:aJ a) (hb:aJ b):Vb (rnd p.toNat false ⟨(plus a b).s,(plus a b).m,IntKind.i64.wrap ((plus a b).e - 1)⟩):=by
 have:=BV hp ha hb
 unfold xP at this
 rw [←vT (g7 ha hb)] at this
 unfold Bi at this
 rw [h,cond_true] at this
 exact this
theorem MW {p:Int} {a b:Q} (h:decide (((aS B32 (plus a b).m).length:Int)>0)=false) (hp:Pr p) (ha:aJ a) (hb:aJ b):Vb (rnd p.toNat false (plus a b)):=by
 have:=BV hp ha hb
 unfold xP at this
 rw [←vT (g7 ha hb)] at this
 unfold Bi at this
 rw [h,cond_false] at this
 exact this
end
section
set_option maxRecDepth 100000 in
set_option maxHeartbeats 2000000 in
theorem RO (j:J) (z:Int):Ct Tryz.prog 161 [.v true j.L,iA z] (·=kY (lK j z)):=by
 refine ak (O:=ai (aF aj (aF eW (aF bM (aF bp (aF cG (aF kJ (aO)))))))) (by kernel_rfl) a7 (fun w=>aa (ab aG (ab jB (ab dp (ab db (ab fi (ab oE (bY))))))) _ w) [] 300 46 [.cell 4 30,.tmp 5] Tryz.func161 rfl Tryz.ntmps161 (by rw [Tryz.results161]) (by simp) rfl (fun hsm=>?_)
 have g0:GJ j:=⟨hsm.1.2.2.1.1,hsm.1.2.2.2.2.2.1.1⟩
 simp (maxSteps:=10000000) only [run,seval,ji,X.L,J.L,vL,X.eta,J.eta,Q.eta,List.cons_append,List.nil_append,tZ,cu,cw,aZ,a5,bN,Aa,kN,tX,m6,bR,eG,dH,eF,eE,iV,iU,jx,jy,il,I3,qE,okO,v8,I8,ju,jw,iW,eZ,dU,hd1,pick,ax,inL,bH,bx,dom,kV,tQ,Bb,evd,okeys,look,lZ,lC,jG,j7,lenOf,ri,vE,MN,xG,MT,rc,LO,MP,Em,MS,MQ,yN,MR,I9,ru,yw,rv,yx,cZ,Dy,keysOf,ai,mn,po,rj,olA,olL,Ej,Bt,qu,Cp,aF,↓cond_true,↓cond_false,↓bu,eJ,one,fK,k7,e7,aT,nG,rE,outPs,mX,outL,fD,k8,oI,rI,jf,decide_true,decide_false,reduceCtorEq,List.all_cons,List.all_nil,Bool.and_true,Bool.and_self,true_and,and_true,and_self,List.length_cons,List.length_nil,List.drop_succ_cons,List.drop_zero,List.take_succ_cons,List.take_zero,List.getElem?_cons_zero,List.getElem?_cons_succ,List.map_cons,List.map_nil,false_implies,true_implies,Option.bind_some,List.getElem?_toArray,Bool.false_eq_true,List.append_nil,List.flatMap_cons,List.flatMap_nil,true_or,or_true,forall_const,List.reverse_cons,List.reverse_nil,Option.isSome_some,Option.any_some,Nat.lt_irrefl,not_true_eq_false,Bool.not_true,Bool.not_false,imp_self,implies_true,Bool.not_eq_true',Bool.not_eq_false',Bool.true_eq_false,Bool.false_eq_true,aj,eW,bM,bp,cG,kJ,aO,gN,ur,I6,gI,mW,CW,gV,t7,nn,py,CX,gJ,l5,PK,sG,I4,vR,vS,rA,kc,mH,J3]
 repeat' with_reducible first |apply And.intro |apply condP<;>intro _
 all_goals first |(show ar _ _=true;kernel_rfl)|assumption |with_reducible exact nD (by assumption)|with_reducible exact nC (by assumption)|with_reducible exact jQ (by assumption)|with_reducible exact iX (kX g0 (by assumption))|with_reducible exact iX (kW g0 (by assumption))|with_reducible exact oS (jS (kW g0 (by assumption)) (kX g0 (by assumption)))|with_reducible exact mQ (jQ (by assumption)) _ (jS (kW g0 (by assumption)) (kX g0 (by assumption)))|(with_reducible exact RW (by assumption) (g7 (kX g0 (by assumption)) (kW g0 (by assumption))))|(with_reducible exact oS (g7 (kX g0 (by assumption)) (kW g0 (by assumption))))|(with_reducible exact MX (by assumption) (jQ (by assumption)) (kX g0 (by assumption)) (kW g0 (by assumption)))|(with_reducible exact MW (by assumption) (jQ (by assumption)) (kX g0 (by assumption)) (kW g0 (by assumption)))|(with_reducible exact uZ (MX (by assumption) (jQ (by assumption)) (kX g0 (by assumption)) (kW g0 (by assumption))))|(with_reducible exact uZ (MW (by assumption) (jQ (by assumption)) (kX g0 (by assumption)) (kW g0 (by assumption))))|(simp only [go_sem, *,lK,Bi,xz,zX,X.L];done)|rfl |(simp only [go_sem, *,lK,Bi,xz,zX,X.L];rfl)|(exfalso;simp_all only [Bool.true_eq_false,Bool.false_eq_true,reduceCtorEq];done)
noncomputable def e6:b9:=one 161 (I4 fun j z=>(True,kY (lK j z)))
theorem nf:TbOK Tryz.prog e6:=aH (aX Tryz.func161 (by kernel_rfl) rfl) fun args e h hp=>by obtain ⟨j,z,rfl,rfl⟩:=Gq h;exact RO j z
section
variable {j:J} {z:Int} (g0:GJ j) (h:((lK j z).2 !=0)=false)
include g0 h
end
end
end Go.Proofs.YtpacpmmdjmnamaaGreatDoor
