/- The document's side of package iv (fathomlineref1). -/
import Derived.Test.YtpacpmmdjmnamaaGreatDoorMAiJ
namespace Go.Proofs.YtpacpmmdjmnamaaGreatDoor
set_option maxHeartbeats 4000000
open Go.RowKit Nx
set_option linter.unusedVariables false
set_option linter.unusedSimpArgs false
set_option maxRecDepth 100000
attribute [local go_sem] X.eta J.eta Q.eta cu cw aZ a5 bN eZ dU hd1 pick ax aT gV t7 nn py CX vR vS rA kc mH J3
attribute [local go_sem ↓] bu
def qe (x y:X):X:=bif decide (cmpx y x>0) then y else x
def lJ (a:J):X:=bif okJ a then qe (qx (absx a.lo)) (qx (absx a.hi)) else zX
def prb (p:Int):Bool:=decide (p≥8)&&decide (p≤256)
noncomputable def dr (a b:Q):J×Int:=bif ((res a).2 !=0)||((res b).2 !=0) then (zJ,2) else (⟨qx (res a).1,qx (res b).1⟩,0)
def dE (x y u v:Q):Q:=bif decide (signq x≥0)&&decide (signq u≥0) then times x u else bif decide (signq x≥0) then times y u else bif decide (signq u≥0) then times x v else
 bif decide (signq y≤0)&&decide (signq v≤0) then times y v else bif decide (cmpq (times y u) (times x v)<0) then times y u else times x v
def ii (x y u v:Q):Q:=(dE y.neg x.neg u v).neg
noncomputable def MF (x y u v:Q) (p:Int):J×Int:=dr (Pc p.toNat false x (bif decide (signq x<0) then u else v)) (Pc p.toNat true y (bif decide (signq y<0) then v else u))
noncomputable def RG (x y u v:Q) (p:Int):J×Int:=bif decide (signq v<0) then MF y.neg x.neg v.neg u.neg p else MF x y u v p
noncomputable def ft (k:Int) (a b:J) (p:Int):J×Int:=
 bif !(okJ a)|| !(okJ b)|| !(prb p) then (zJ,1) else bif (k==3)&&sH b zX then (zJ,3) else
 bif (k==0) then dr (rnd p.toNat false (plus a.lo.q b.lo.q)) (rnd p.toNat true (plus a.hi.q b.hi.q)) else
 bif (k==1) then dr (rnd p.toNat false (minus a.lo.q b.hi.q)) (rnd p.toNat true (minus a.hi.q b.lo.q)) else
 bif (k==3) then RG a.lo.q a.hi.q b.lo.q b.hi.q p else
 dr (rnd p.toNat false (dE a.lo.q a.hi.q b.lo.q b.hi.q)) (rnd p.toNat true (ii a.lo.q a.hi.q b.lo.q b.hi.q))
theorem Lp (j:J):Ct Tryz.prog 106 [.v true j.L] (·=bA (okJ j)):=by
 refine ak (O:=ai (aF kL (bg))) (by kernel_rfl) a7 (fun w=>aa (ab oF (d9)) _ w) [] 300 19 [.tmp 2] Tryz.func106 rfl Tryz.ntmps106 (by rw [Tryz.results106]) (by simp) rfl (fun hsm=>?_)
 simp (maxSteps:=10000000) only [go_sem,seval,reduceCtorEq,kL,bg]
 repeat' with_reducible first |apply And.intro |apply condP<;>intro _
 all_goals first |(show ar _ _=true;kernel_rfl)|assumption |(simp only [go_sem, *,okJ]<;>rfl)|rfl |(exfalso;simp_all only [Bool.true_eq_false,Bool.false_eq_true,reduceCtorEq];done)
theorem Lo (x:X):Ct Tryz.prog 40 [.v true x.L] (·=jA ⟨x,x⟩):=by
 refine ak (O:=ai eJ) (by kernel_rfl) a7 (fun w=>aa bk _ w) [] 300 6 [.cell 2 32] Tryz.func40 rfl Tryz.ntmps40 (by rw [Tryz.results40]) (by simp) rfl (fun hsm=>?_)
 simp (maxSteps:=10000000) only [go_sem,seval,reduceCtorEq]
 repeat' with_reducible first |apply And.intro |apply condP<;>intro _
 all_goals first |(show ar _ _=true;kernel_rfl)|assumption |(simp only [go_sem, *]<;>rfl)|rfl |(exfalso;simp_all only [Bool.true_eq_false,Bool.false_eq_true,reduceCtorEq];done)
theorem Pb (j:J) (j1:J):Ct Tryz.prog 112 [.v true j.L,.v true j1.L] (·=bA (oQ j j1)):=by
 refine ak (O:=ai (fI)) (by kernel_rfl) a7 (fun w=>aa (my) _ w) [] 300 17 [.tmp 4] Tryz.func112 rfl Tryz.ntmps112 (by rw [Tryz.results112]) (by simp) rfl (fun hsm=>?_)
 simp (maxSteps:=10000000) only [go_sem,seval,reduceCtorEq,fI]
 repeat' with_reducible first |apply And.intro |apply condP<;>intro _
 all_goals first |(show ar _ _=true;kernel_rfl)|assumption |(simp only [go_sem, *,oQ]<;>rfl)|rfl |(exfalso;simp_all only [Bool.true_eq_false,Bool.false_eq_true,reduceCtorEq];done)
theorem RP (x:X) (x1:X):Ct Tryz.prog 162 [.v true x.L,.v true x1.L] (·=xA (qe x x1)):=by
 refine ak (O:=ai (bg)) (by kernel_rfl) a7 (fun w=>aa (d9) _ w) [] 300 11 [.cell 4 30] Tryz.func162 rfl Tryz.ntmps162 (by rw [Tryz.results162]) (by simp) rfl (fun hsm=>?_)
 simp (maxSteps:=10000000) only [go_sem,seval,reduceCtorEq,bg]
 repeat' with_reducible first |apply And.intro |apply condP<;>intro _
 all_goals first |(show ar _ _=true;kernel_rfl)|assumption |(simp only [go_sem, *,qe]<;>rfl)|rfl |(exfalso;simp_all only [Bool.true_eq_false,Bool.false_eq_true,reduceCtorEq];done)
theorem Pa (z:Int):Ct Tryz.prog 213 [iA z] (·=bA (prb z)):=by
 refine ak (O:=ai eJ) (by kernel_rfl) a7 (fun w=>aa bk _ w) [] 300 9 [.tmp 2] Tryz.func213 rfl Tryz.ntmps213 (by rw [Tryz.results213]) (by simp) rfl (fun hsm=>?_)
 simp (maxSteps:=10000000) only [go_sem,seval,reduceCtorEq]
 repeat' with_reducible first |apply And.intro |apply condP<;>intro _
 all_goals first |(show ar _ _=true;kernel_rfl)|assumption |(simp only [go_sem, *,prb]<;>rfl)|rfl |(exfalso;simp_all only [Bool.true_eq_false,Bool.false_eq_true,reduceCtorEq];done)
theorem O6 (q:Q) (q1:Q) (hp:Vw q∧Vw q1):Ct Tryz.prog 215 [.v true (vL q),.v true (vL q1)] (·=iY (dr q q1)):=by
 obtain ⟨h1,h2⟩:=hp
 refine ak (O:=ai (aO)) (by kernel_rfl) a7 (fun w=>aa (bY) _ w) [] 300 30 [.cell 4 32,.tmp 5] Tryz.func215 rfl Tryz.ntmps215 (by rw [Tryz.results215]) (by simp) rfl (fun hsm=>?_)
 simp (maxSteps:=10000000) only [go_sem,seval,reduceCtorEq,aO]
 repeat' with_reducible first |apply And.intro |apply condP<;>intro _
 all_goals first |(show ar _ _=true;kernel_rfl)|assumption |(simp only [go_sem, *,dr,zJ,zX]<;>rfl)|rfl |(exfalso;simp_all only [Bool.true_eq_false,Bool.false_eq_true,reduceCtorEq];done)
noncomputable def aj:b9:=one 106 (gJ fun j=>(True,bA (okJ j)))
theorem aG:TbOK Tryz.prog aj:=aH (aX Tryz.func106 (by kernel_rfl) rfl) fun args e h hp=>by obtain ⟨j,rfl,rfl⟩:=oM h;exact Lp j
noncomputable def a9:b9:=one 40 (gN fun x=>(True,jA ⟨x,x⟩))
theorem cJ:TbOK Tryz.prog a9:=aH (aX Tryz.func40 (by kernel_rfl) rfl) fun args e h hp=>by obtain ⟨x,rfl,rfl⟩:=pw h;exact Lo x
noncomputable def bD:b9:=one 112 (l5 fun j j1=>(True,bA (oQ j j1)))
theorem cP:TbOK Tryz.prog bD:=aH (aX Tryz.func112 (by kernel_rfl) rfl) fun args e h hp=>by obtain ⟨j,j1,rfl,rfl⟩:=iL h;exact Pb j j1
noncomputable def oY:b9:=one 162 (ur fun x x1=>(True,xA (qe x x1)))
theorem tV:TbOK Tryz.prog oY:=aH (aX Tryz.func162 (by kernel_rfl) rfl) fun args e h hp=>by obtain ⟨x,x1,rfl,rfl⟩:=lE h;exact RP x x1
noncomputable def eW:b9:=one 213 (gI fun z=>(True,bA (prb z)))
theorem jB:TbOK Tryz.prog eW:=aH (aX Tryz.func213 (by kernel_rfl) rfl) fun args e h hp=>by obtain ⟨z,rfl,rfl⟩:=d6 h;exact Pa z
noncomputable def ja:b9:=one 215 (t7 fun q q1=>(Vw q∧Vw q1,iY (dr q q1)))
theorem mz:TbOK Tryz.prog ja:=aH (aX Tryz.func215 (by kernel_rfl) rfl) fun args e h hp=>by obtain ⟨q,q1,rfl,rfl⟩:=qw h;exact O6 q q1 hp
theorem RM (j:J):Ct Tryz.prog 110 [.v true j.L] (·=xA (lJ j)):=by
 refine ak (O:=ai (aF aj (aF sh (oY)))) (by kernel_rfl) a7 (fun w=>aa (ab aG (ab xd (tV))) _ w) [] 300 14 [.cell 2 30] Tryz.func110 rfl Tryz.ntmps110 (by rw [Tryz.results110]) (by simp) rfl (fun hsm=>?_)
 simp (maxSteps:=10000000) only [go_sem,seval,reduceCtorEq,aj,sh,oY]
 repeat' with_reducible first |apply And.intro |apply condP<;>intro _
 all_goals first |(show ar _ _=true;kernel_rfl)|assumption |(simp only [go_sem, *,lJ,zX]<;>rfl)|rfl |(exfalso;simp_all only [Bool.true_eq_false,Bool.false_eq_true,reduceCtorEq];done)
noncomputable def ed:b9:=one 110 (gJ fun j=>(True,xA (lJ j)))
theorem ne:TbOK Tryz.prog ed:=aH (aX Tryz.func110 (by kernel_rfl) rfl) fun args e h hp=>by obtain ⟨j,rfl,rfl⟩:=oM h;exact RM j
theorem vX {m a b:Nat} (hab:a≤b) (h:m<B64^a):m<B64^b:=Nat.lt_of_lt_of_le h (Nat.pow_le_pow_right (by decide) hab)
theorem DF {p k:Nat} (h:p<64*k):2^p<B64^k:=by rw [fF];exact Nat.pow_lt_pow_right (by decide) h
theorem mU {m k:Nat} (h:m<B64^k):nbits m≤64*k:=du (by rw [←fF];exact h)
theorem jT {q:Q} (h:aJ q):Vw q:=⟨h.1,vX (a:=64) (b:=5000) (by decide) h.2.1,by have:=h.2.2.1;omega,by have:=h.2.2.2;omega⟩
theorem iX {q:Q} (h:aJ q):Vb q:=⟨h.1,vX (a:=64) (b:=3000) (by decide) h.2.1,by have:=h.2.2.1;omega,by have:=h.2.2.2;omega⟩
theorem cY {a b:Q} (ha:aJ a) (hb:aJ b):Vb (times a b):=by
 by_cases h0:a.m=0∨b.m=0
 ·rw [o9 ha.1 hb.1 h0];exact iX mT
 ·obtain ⟨s,M,e⟩:=a
  obtain ⟨t,K,f⟩:=b
  have h1:M≠0:=fun h=>h0 (.inl h)
  have h2:K≠0:=fun h=>h0 (.inr h)
  have hc:a8 (times ⟨s,M,e⟩ ⟨t,K,f⟩):=dl _ _
  rw [qT ha.1 hb.1 h1 h2] at hc ⊢
  have hm:M*K<B64^(64+64):=vZ ha.2.1 hb.2.1
  refine ⟨hc,vX (a:=64+64) (b:=3000) (by decide) hm,?_,?_⟩
  ·have:=ha.2.2.1;have:=hb.2.2.1;simp only at*;omega
  ·have:=ha.2.2.2;have:=hb.2.2.2;simp only at*;omega
theorem uZ {q:Q} (h:Vb q):Vw q:=⟨h.1,vX (a:=3000) (b:=5000) (by decide) h.2.1,by have:=h.2.2.1;omega,by have:=h.2.2.2;omega⟩
theorem kz {q:Q} (h:aJ q):aJ q.neg:=by
 refine ⟨og h.1,by rw [xN];exact h.2.1,?_,?_⟩
 ·rw [pp h.1];exact h.2.2.1
 ·rw [pp h.1];exact h.2.2.2
theorem least_in (x y u v:Q):dE x y u v=times x u∨dE x y u v=times y u∨dE x y u v=times x v∨dE x y u v=times y v:=by
 unfold dE
 cases decide (signq x≥0)&&decide (signq u≥0)<;>cases decide (signq x≥0)<;>cases decide (signq u≥0)<;>cases decide (signq y≤0)&&decide (signq v≤0)<;>cases decide (cmpq (times y u) (times x v)<0)<;>simp
theorem qf {x y u v:Q} (hx:aJ x) (hy:aJ y) (hu:aJ u) (hv:aJ v):Vb (dE x y u v):=by
 rcases least_in x y u v with h |h |h |h<;>rw [h]
 ·exact cY hx hu
 ·exact cY hy hu
 ·exact cY hx hv
 ·exact cY hy hv
theorem Py {q:Q} (h:Vb q):Vb q.neg:=⟨og h.1,by rw [xN];exact h.2.1,by rw [pp h.1];exact h.2.2.1,by rw [pp h.1];exact h.2.2.2⟩
theorem K8 {q:Q} (h:signq q≠0):q.m≠0:=fun e=>h (by unfold signq;rw [if_pos e])
theorem RR {p:Nat} (up:Bool) (q:Q) (b:Int) (hb:0≤b) (h1: -b≤q.e) (h2:q.e+64*5000≤b) (hm:q.m<B64^5000) (hp:1≤p) (hp2:p≤256): -b≤(rnd p up q).e∧(rnd p up q).e≤b+64*5:=by
 have hn:nbits q.m≤64*5000:=mU (k:=5000) hm
 unfold rnd
 refine Br (k:=5) ?_ (by omega) (by omega) hb
 exact Nat.lt_of_le_of_lt (tr _ _ _) (DF (k:=5) (by omega))
theorem Pj {p:Int} (hp:Pr p) (up:Bool) {q:Q} (h:Vw q) (h1: -20000000≤q.e) (h2:q.e≤20000000):Vw (rnd p.toNat up q):=by
 have hb:=jl up q (p:=p.toNat) (by have:=hp.1;omega)
 have he:=RR (p:=p.toNat) up q 30000000 (by omega) (by omega) (by omega) h.2.1 (by have:=hp.1;omega) (by have:=hp.2;omega)
 exact ⟨cI p.toNat up q,mA (k:=5000) hb (by have:=hp.2;omega),by omega,by omega⟩
theorem Ln (q:Q) (q1:Q) (q2:Q) (q3:Q) (hp:aJ q∧aJ q1∧aJ q2∧aJ q3):Ct Tryz.prog 217 [.v true (vL q),.v true (vL q1),.v true (vL q2),.v true (vL q3)] (·=vA (dE q q1 q2 q3)):=by
 obtain ⟨v0,v1,v2,v3⟩:=hp
 have w0:=jT v0;have w1:=jT v1;have w2:=jT v2;have w3:=jT v3
 have b0:=cY v1 v2;have b1:=cY v0 v3
 refine ak (O:=ai (aF aW (aF dy (kJ)))) (by kernel_rfl) a7 (fun w=>aa (ab dj (ab i8 (oE))) _ w) [] 300 61 [.cell 8 127] Tryz.func217 rfl Tryz.ntmps217 (by rw [Tryz.results217]) (by simp) rfl (fun hsm=>?_)
 simp (maxSteps:=10000000) only [go_sem,seval,reduceCtorEq,aW,dy,kJ]
 repeat' with_reducible first |apply And.intro |apply condP<;>intro _
 all_goals first |(show ar _ _=true;kernel_rfl)|assumption |(simp only [go_sem, *,dE]<;>rfl)|rfl |(exfalso;simp_all only [Bool.true_eq_false,Bool.false_eq_true,reduceCtorEq];done)
noncomputable def kM:b9:=one 217 (kc fun q q1 q2 q3=>(aJ q∧aJ q1∧aJ q2∧aJ q3,vA (dE q q1 q2 q3)))
theorem oG:TbOK Tryz.prog kM:=aH (aX Tryz.func217 (by kernel_rfl) rfl) fun args e h hp=>by obtain ⟨q,q1,q2,q3,rfl,rfl⟩:=xx h;exact Ln q q1 q2 q3 hp
theorem Lm (q:Q) (q1:Q) (q2:Q) (q3:Q) (hp:aJ q∧aJ q1∧aJ q2∧aJ q3):Ct Tryz.prog 218 [.v true (vL q),.v true (vL q1),.v true (vL q2),.v true (vL q3)] (·=vA (ii q q1 q2 q3)):=by
 obtain ⟨v0,v1,v2,v3⟩:=hp
 have c0:=v0.1;have c1:=v1.1;have n0:=kz v0;have n1:=kz v1;have c2:=(qf n1 n0 v2 v3).1
 refine ak (O:=ai (aF jX (kM))) (by kernel_rfl) a7 (fun w=>aa (ab oW (oG)) _ w) [] 300 17 [.cell 8 127] Tryz.func218 rfl Tryz.ntmps218 (by rw [Tryz.results218]) (by simp) rfl (fun hsm=>?_)
 simp (maxSteps:=10000000) only [go_sem,seval,reduceCtorEq,jX,kM]
 repeat' with_reducible first |apply And.intro |apply condP<;>intro _
 all_goals first |(show ar _ _=true;kernel_rfl)|assumption |(simp only [go_sem, *,ii]<;>rfl)|rfl |(exfalso;simp_all only [Bool.true_eq_false,Bool.false_eq_true,reduceCtorEq];done)
noncomputable def lz:b9:=one 218 (kc fun q q1 q2 q3=>(aJ q∧aJ q1∧aJ q2∧aJ q3,vA (ii q q1 q2 q3)))
theorem qm:TbOK Tryz.prog lz:=aH (aX Tryz.func218 (by kernel_rfl) rfl) fun args e h hp=>by obtain ⟨q,q1,q2,q3,rfl,rfl⟩:=xx h;exact Lm q q1 q2 q3 hp
end Go.Proofs.YtpacpmmdjmnamaaGreatDoor
