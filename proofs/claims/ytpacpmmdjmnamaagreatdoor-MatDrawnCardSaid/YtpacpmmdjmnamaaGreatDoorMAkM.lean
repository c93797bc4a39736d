/- Decks: a number, an interval in an interval. -/
import Derived.Test.YtpacpmmdjmnamaaGreatDoorMAk7
namespace Go.Proofs.YtpacpmmdjmnamaaGreatDoor
open Go.RowKit Nx
set_option linter.unusedVariables false
set_option linter.unusedSimpArgs false
set_option maxRecDepth 100000
set_option maxHeartbeats 4000000
attribute [local go_sem] X.eta J.eta Q.eta cu cw aZ a5 bN eZ dU hd1 pick ax aT dQ cntF nmL o8 nmA tn tR bB pH cT bO rp Int.toNat_zero decide_eq_true_eq eH eU rf rh BEq.rfl beq_self_eq_true Int.natCast_zero ge_iff_le gt_iff_lt Int.le_refl Nat.zero_mul Nat.one_mul Nat.zero_add Nat.zero_lt_succ Nat.lt_add_one Nat.le_refl List.append_eq ub u6 le lw Bool.not_eq_true ib kO rK qI I7 Int.toNat_natCast Int.natCast_nonneg F8 gV t7 nn py CX vR vS rA kc mH J3 lj zw uc List.isEmpty_nil
attribute [local go_sem ↓] bu
theorem Iz {X k t E:Nat} (h:X<B64^k) (ht:t≤64*E):X*2^t<B64^(k+E):=by
 have h1:2^t≤B64^E:=by rw [fF];exact Nat.pow_le_pow_right (by omega) ht
 rw [Nat.pow_add]
 exact Nat.lt_of_le_of_lt (Nat.mul_le_mul_left _ h1) (Nat.mul_lt_mul_of_pos_right h (Nat.pow_pos (by decide)))
theorem oL {z:Int} (h0:0≤z) (h8:z≤8):Few (fH z 0):=by
 obtain ⟨n,rfl⟩:=Int.eq_ofNat_of_zero_le h0
 unfold fH
 exact Gf (by omega) (by omega) (by omega)
theorem uo {a b:Q} (ha:aJ a) (hb:Few b):a8 (times a b)∧(times a b).m<B64^65∧ -65600≤(times a b).e∧(times a b).e≤65600:=by
 by_cases h0:a.m=0∨b.m=0
 ·rw [o9 ha.1 hb.1 h0];exact ⟨nj,Nat.pow_pos (by decide),by decide,by decide⟩
 ·obtain ⟨s,M,e⟩:=a
  obtain ⟨t,K,f⟩:=b
  have h1:M≠0:=fun h=>h0 (.inl h)
  have h2:K≠0:=fun h=>h0 (.inr h)
  have hc:a8 (times ⟨s,M,e⟩ ⟨t,K,f⟩):=dl _ _
  rw [qT ha.1 hb.1 h1 h2] at hc ⊢
  have hk:K<B64^1:=by have:=hb.2.1;rw [Nat.pow_one];exact Nat.lt_trans this (by decide)
  have hm:M*K<B64^(64+1):=vZ ha.2.1 hk
  refine ⟨hc,vX (a:=64+1) (b:=65) (by decide) hm,?_,?_⟩
  ·have:=ha.2.2.1;have:=hb.2.2.1;simp only at*;omega
  ·have:=ha.2.2.2;have:=hb.2.2.2;simp only at*;omega
theorem IM {a b:Q} (ha:a.m<B64^65) (hb:b.m<B64^65) (h1: -65600≤a.e) (h2:a.e≤65600) (h3: -65600≤b.e) (h4:b.e≤65600):Vb (plus a b):=by
 have hl1:(a.e - lowe a b).toNat≤64*2050:=by unfold lowe;omega
 have hl2:(b.e - lowe a b).toNat≤64*2050:=by unfold lowe;omega
 obtain ⟨k,hk⟩:∃ k,k=65:=⟨_,rfl⟩
 rw [←hk] at ha hb
 have hz:(a.up (lowe a b)+b.up (lowe a b)).natAbs<B64^(k+2050+1):=by
  refine Nat.lt_of_le_of_lt (Int.natAbs_add_le _ _) ?_
  rw [pd,pd]
  exact vY (Iz ha hl1) (Iz hb hl2)
 have l1: -65600≤lowe a b:=by unfold lowe;omega
 have l2:lowe a b≤65600:=by unfold lowe;omega
 have hb:=H8 (b:=65600) hz l1 l2 (by omega)
 exact ⟨dl _ _,vX (a:=k+2050+1) (b:=3000) (by omega) hb.1,by have:=hb.2.1;show -550000≤(fH _ _).e;omega,by have:=hb.2.2;show (fH _ _).e≤550000;omega⟩
def mr (j:J) (m:Int):Q:=plus (times j.lo.q (fH (8 - m) 0)) (times j.hi.q (fH m 0))
def Eg (q:Q):Q:=⟨q.s,q.m,q.e - 3⟩
theorem vV {j:J} {m:Int} (hg:fP j) (h0:0≤m) (h8:m≤8):Vb (mr j m):=by
 obtain ⟨_,a2,a3,a4⟩:=uo (kX hg.2 hg.1) (oL (show 0≤8 - m by omega) (by omega))
 obtain ⟨_,b2,b3,b4⟩:=uo (kW hg.2 hg.1) (oL h0 h8)
 exact IM a2 b2 a3 a4 b3 b4
theorem vN {q:Q} (h:Vb q) (hs:(signq q !=0)=true):Vw (Eg q):=by
 have hm:q.m≠0:=K8 (by simpa using hs)
 refine ⟨⟨fun h0=>absurd h0 hm,fun _=>h.1.2 hm⟩,vX (a:=3000) (b:=5000) (by decide) h.2.1,?_,?_⟩
 ·have:=h.2.2.1;show -50000000≤q.e - 3;omega
 ·have:=h.2.2.2;show q.e - 3≤50000000;omega
theorem Qh (xs:List Nat) (k:Nat) (j:J) (_:fP j) (hk:k≤900) (h0:(((dk xs k%9:Nat):Int)==0)=true):kZ 101 xs [.v true j.L] k (xA j.lo) (k+1):=by
 refine eh (O:=fun A n c=>bO (ib 38 A n c (qI fun k z=>(k≤1000∧0<z∧z≤1000,iA ((dk xs k%z.toNat:Nat):Int),k+1))) (ai (aF bM (aF bU (aF dy (aF bp (aF aW (aO)))))))) (by kernel_rfl) a7 (fun A n c F w hA hn=>cE ce (cz (xs:=xs) (aX Tryz.func38 (by kernel_rfl) rfl) (fo fun k z hp=>je hp) hA hn) (aa (ab dp (ab fY (ab i8 (ab db (ab dj (bY)))))) _ _) (fun d st args=>by simp [bO,ib,ai,aF,eJ,one,bM,bU,dy,bp,aW,aO])) [] 1000 50 [.cell 4 30] Tryz.func101 rfl Tryz.ntmps101 (by decide) (by rw [Tryz.results101]) (by simp) rfl (fun A n c hsm hs=>?_)
 have hk9:k≤1000:=by omega
 simp (maxSteps:=10000000) only [go_sem,seval,reduceCtorEq,bM,bU,dy,bp,aW,aO,gC,o0,fT,SX.L,SX.eta,h0]
 repeat' with_reducible first |apply And.intro |apply condP<;>intro _
 all_goals first |(show ar _ _=true;kernel_rfl)|with_reducible assumption |omega |(simp only [go_sem, *]<;>rfl)|rfl |(exfalso;simp_all only [Bool.true_eq_false,Bool.false_eq_true,reduceCtorEq];done)
theorem Qi (xs:List Nat) (k:Nat) (j:J) (_:fP j) (hk:k≤900) (h0:(((dk xs k%9:Nat):Int)==0)=false) (h8:(((dk xs k%9:Nat):Int)==8)=true):kZ 101 xs [.v true j.L] k (xA j.hi) (k+1):=by
 refine eh (O:=fun A n c=>bO (ib 38 A n c (qI fun k z=>(k≤1000∧0<z∧z≤1000,iA ((dk xs k%z.toNat:Nat):Int),k+1))) (ai (aF bM (aF bU (aF dy (aF bp (aF aW (aO)))))))) (by kernel_rfl) a7 (fun A n c F w hA hn=>cE ce (cz (xs:=xs) (aX Tryz.func38 (by kernel_rfl) rfl) (fo fun k z hp=>je hp) hA hn) (aa (ab dp (ab fY (ab i8 (ab db (ab dj (bY)))))) _ _) (fun d st args=>by simp [bO,ib,ai,aF,eJ,one,bM,bU,dy,bp,aW,aO])) [] 1000 50 [.cell 4 30] Tryz.func101 rfl Tryz.ntmps101 (by decide) (by rw [Tryz.results101]) (by simp) rfl (fun A n c hsm hs=>?_)
 have hk9:k≤1000:=by omega
 simp (maxSteps:=10000000) only [go_sem,seval,reduceCtorEq,bM,bU,dy,bp,aW,aO,gC,o0,fT,SX.L,SX.eta,h0,h8]
 repeat' with_reducible first |apply And.intro |apply condP<;>intro _
 all_goals first |(show ar _ _=true;kernel_rfl)|with_reducible assumption |omega |(simp only [go_sem, *]<;>rfl)|rfl |(exfalso;simp_all only [Bool.true_eq_false,Bool.false_eq_true,reduceCtorEq];done)
theorem Ql (xs:List Nat) (k:Nat) (j:J) (hg:fP j) (hk:k≤900) (h0:(((dk xs k%9:Nat):Int)==0)=false) (h8:(((dk xs k%9:Nat):Int)==8)=false) (hsg:(signq (mr j ((dk xs k%9:Nat):Int))!=0)=false) (hr:((res (mr j ((dk xs k%9:Nat):Int))).2 !=0)=false):kZ 101 xs [.v true j.L] k (nA (res (mr j ((dk xs k%9:Nat):Int))).1) (k+1):=by
 refine eh (O:=fun A n c=>bO (ib 38 A n c (qI fun k z=>(k≤1000∧0<z∧z≤1000,iA ((dk xs k%z.toNat:Nat):Int),k+1))) (ai (aF bM (aF bU (aF dy (aF bp (aF aW (aO)))))))) (by kernel_rfl) a7 (fun A n c F w hA hn=>cE ce (cz (xs:=xs) (aX Tryz.func38 (by kernel_rfl) rfl) (fo fun k z hp=>je hp) hA hn) (aa (ab dp (ab fY (ab i8 (ab db (ab dj (bY)))))) _ _) (fun d st args=>by simp [bO,ib,ai,aF,eJ,one,bM,bU,dy,bp,aW,aO])) [] 1000 50 [.cell 4 30] Tryz.func101 rfl Tryz.ntmps101 (by decide) (by rw [Tryz.results101]) (by simp) rfl (fun A n c hsm hs=>?_)
 have hk9:k≤1000:=by omega
 have hm0:(0:Int)≤((dk xs k%9:Nat):Int):=Int.natCast_nonneg _
 have hm8:((dk xs k%9:Nat):Int)≤8:=by omega
 have o1:=nD hg.1
 have o2:=nC hg.1
 have f1:=oL (show 0≤8 - ((dk xs k%9:Nat):Int) by omega) (by omega)
 have f2:=oL hm0 hm8
 have v1:=jT (kX hg.2 hg.1)
 have v2:=jT (kW hg.2 hg.1)
 have v3:=jT f1.valid
 have v4:=jT f2.valid
 have b1:Vb (times j.lo.q (fH (8 - ((dk xs k%9:Nat):Int)) 0)):=cY (kX hg.2 hg.1) f1.valid
 have b2:Vb (times j.hi.q (fH ((dk xs k%9:Nat):Int) 0)):=cY (kW hg.2 hg.1) f2.valid
 have hb:=vV hg hm0 hm8
 have hw:=uZ hb
 have w8:IntKind.i64.wrap (8 - ((dk xs k%9:Nat):Int))=8 - ((dk xs k%9:Nat):Int):=by rw [IntKind.wrap_i64];omega
 have wV:plus (times j.lo.q (fH (8 - ((dk xs k%9:Nat):Int)) 0)) (times j.hi.q (fH ((dk xs k%9:Nat):Int) 0))=mr j ((dk xs k%9:Nat):Int):=rfl
 have w3:IntKind.i64.wrap ((mr j ((dk xs k%9:Nat):Int)).e - 3)=(mr j ((dk xs k%9:Nat):Int)).e - 3:=by have:=hb.2.2.1;have:=hb.2.2.2;rw [IntKind.wrap_i64];omega
 have wd:Q.mk (mr j ((dk xs k%9:Nat):Int)).s (mr j ((dk xs k%9:Nat):Int)).m ((mr j ((dk xs k%9:Nat):Int)).e - 3)=Eg (mr j ((dk xs k%9:Nat):Int)):=rfl
 simp (maxSteps:=10000000) only [go_sem,seval,reduceCtorEq,bM,bU,dy,bp,aW,aO,gC,o0,fT,SX.L,SX.eta,h0,h8,w8,wV,w3,wd,o1,o2,hsg,hr]
 repeat' with_reducible first |apply And.intro |apply condP<;>intro _
 all_goals first |(show ar _ _=true;kernel_rfl)|with_reducible assumption |omega |(simp only [go_sem, *]<;>rfl)|rfl |(exfalso;simp_all only [Bool.true_eq_false,Bool.false_eq_true,reduceCtorEq];done)
theorem Qk (xs:List Nat) (k:Nat) (j:J) (hg:fP j) (hk:k≤900) (h0:(((dk xs k%9:Nat):Int)==0)=false) (h8:(((dk xs k%9:Nat):Int)==8)=false) (hsg:(signq (mr j ((dk xs k%9:Nat):Int))!=0)=true) (hr:((res (Eg (mr j ((dk xs k%9:Nat):Int)))).2 !=0)=false):kZ 101 xs [.v true j.L] k (nA (res (Eg (mr j ((dk xs k%9:Nat):Int)))).1) (k+1):=by
 refine eh (O:=fun A n c=>bO (ib 38 A n c (qI fun k z=>(k≤1000∧0<z∧z≤1000,iA ((dk xs k%z.toNat:Nat):Int),k+1))) (ai (aF bM (aF bU (aF dy (aF bp (aF aW (aO)))))))) (by kernel_rfl) a7 (fun A n c F w hA hn=>cE ce (cz (xs:=xs) (aX Tryz.func38 (by kernel_rfl) rfl) (fo fun k z hp=>je hp) hA hn) (aa (ab dp (ab fY (ab i8 (ab db (ab dj (bY)))))) _ _) (fun d st args=>by simp [bO,ib,ai,aF,eJ,one,bM,bU,dy,bp,aW,aO])) [] 1000 50 [.cell 4 30] Tryz.func101 rfl Tryz.ntmps101 (by decide) (by rw [Tryz.results101]) (by simp) rfl (fun A n c hsm hs=>?_)
 have hk9:k≤1000:=by omega
 have hm0:(0:Int)≤((dk xs k%9:Nat):Int):=Int.natCast_nonneg _
 have hm8:((dk xs k%9:Nat):Int)≤8:=by omega
 have o1:=nD hg.1
 have o2:=nC hg.1
 have f1:=oL (show 0≤8 - ((dk xs k%9:Nat):Int) by omega) (by omega)
 have f2:=oL hm0 hm8
 have v1:=jT (kX hg.2 hg.1)
 have v2:=jT (kW hg.2 hg.1)
 have v3:=jT f1.valid
 have v4:=jT f2.valid
 have b1:Vb (times j.lo.q (fH (8 - ((dk xs k%9:Nat):Int)) 0)):=cY (kX hg.2 hg.1) f1.valid
 have b2:Vb (times j.hi.q (fH ((dk xs k%9:Nat):Int) 0)):=cY (kW hg.2 hg.1) f2.valid
 have hb:=vV hg hm0 hm8
 have hw:=uZ hb
 have w8:IntKind.i64.wrap (8 - ((dk xs k%9:Nat):Int))=8 - ((dk xs k%9:Nat):Int):=by rw [IntKind.wrap_i64];omega
 have wV:plus (times j.lo.q (fH (8 - ((dk xs k%9:Nat):Int)) 0)) (times j.hi.q (fH ((dk xs k%9:Nat):Int) 0))=mr j ((dk xs k%9:Nat):Int):=rfl
 have w3:IntKind.i64.wrap ((mr j ((dk xs k%9:Nat):Int)).e - 3)=(mr j ((dk xs k%9:Nat):Int)).e - 3:=by have:=hb.2.2.1;have:=hb.2.2.2;rw [IntKind.wrap_i64];omega
 have wd:Q.mk (mr j ((dk xs k%9:Nat):Int)).s (mr j ((dk xs k%9:Nat):Int)).m ((mr j ((dk xs k%9:Nat):Int)).e - 3)=Eg (mr j ((dk xs k%9:Nat):Int)):=rfl
 have hd:=vN hb hsg
 simp (maxSteps:=10000000) only [go_sem,seval,reduceCtorEq,bM,bU,dy,bp,aW,aO,gC,o0,fT,SX.L,SX.eta,h0,h8,w8,wV,w3,wd,o1,o2,hsg,hr]
 repeat' with_reducible first |apply And.intro |apply condP<;>intro _
 all_goals first |(show ar _ _=true;kernel_rfl)|with_reducible assumption |omega |(simp only [go_sem, *]<;>rfl)|rfl |(exfalso;simp_all only [Bool.true_eq_false,Bool.false_eq_true,reduceCtorEq];done)
theorem Qj (xs:List Nat) (k:Nat) (j:J) (hg:fP j) (hk:k≤900) (h0:(((dk xs k%9:Nat):Int)==0)=false) (h8:(((dk xs k%9:Nat):Int)==8)=false) (hsg:(signq (mr j ((dk xs k%9:Nat):Int))!=0)=true) (hr:((res (Eg (mr j ((dk xs k%9:Nat):Int)))).2 !=0)=true):kZ 101 xs [.v true j.L] k (xA j.lo) (k+1):=by
 refine eh (O:=fun A n c=>bO (ib 38 A n c (qI fun k z=>(k≤1000∧0<z∧z≤1000,iA ((dk xs k%z.toNat:Nat):Int),k+1))) (ai (aF bM (aF bU (aF dy (aF bp (aF aW (aO)))))))) (by kernel_rfl) a7 (fun A n c F w hA hn=>cE ce (cz (xs:=xs) (aX Tryz.func38 (by kernel_rfl) rfl) (fo fun k z hp=>je hp) hA hn) (aa (ab dp (ab fY (ab i8 (ab db (ab dj (bY)))))) _ _) (fun d st args=>by simp [bO,ib,ai,aF,eJ,one,bM,bU,dy,bp,aW,aO])) [] 1000 50 [.cell 4 30] Tryz.func101 rfl Tryz.ntmps101 (by decide) (by rw [Tryz.results101]) (by simp) rfl (fun A n c hsm hs=>?_)
 have hk9:k≤1000:=by omega
 have hm0:(0:Int)≤((dk xs k%9:Nat):Int):=Int.natCast_nonneg _
 have hm8:((dk xs k%9:Nat):Int)≤8:=by omega
 have o1:=nD hg.1
 have o2:=nC hg.1
 have f1:=oL (show 0≤8 - ((dk xs k%9:Nat):Int) by omega) (by omega)
 have f2:=oL hm0 hm8
 have v1:=jT (kX hg.2 hg.1)
 have v2:=jT (kW hg.2 hg.1)
 have v3:=jT f1.valid
 have v4:=jT f2.valid
 have b1:Vb (times j.lo.q (fH (8 - ((dk xs k%9:Nat):Int)) 0)):=cY (kX hg.2 hg.1) f1.valid
 have b2:Vb (times j.hi.q (fH ((dk xs k%9:Nat):Int) 0)):=cY (kW hg.2 hg.1) f2.valid
 have hb:=vV hg hm0 hm8
 have hw:=uZ hb
 have w8:IntKind.i64.wrap (8 - ((dk xs k%9:Nat):Int))=8 - ((dk xs k%9:Nat):Int):=by rw [IntKind.wrap_i64];omega
 have wV:plus (times j.lo.q (fH (8 - ((dk xs k%9:Nat):Int)) 0)) (times j.hi.q (fH ((dk xs k%9:Nat):Int) 0))=mr j ((dk xs k%9:Nat):Int):=rfl
 have w3:IntKind.i64.wrap ((mr j ((dk xs k%9:Nat):Int)).e - 3)=(mr j ((dk xs k%9:Nat):Int)).e - 3:=by have:=hb.2.2.1;have:=hb.2.2.2;rw [IntKind.wrap_i64];omega
 have wd:Q.mk (mr j ((dk xs k%9:Nat):Int)).s (mr j ((dk xs k%9:Nat):Int)).m ((mr j ((dk xs k%9:Nat):Int)).e - 3)=Eg (mr j ((dk xs k%9:Nat):Int)):=rfl
 have hd:=vN hb hsg
 simp (maxSteps:=10000000) only [go_sem,seval,reduceCtorEq,bM,bU,dy,bp,aW,aO,gC,o0,fT,SX.L,SX.eta,h0,h8,w8,wV,w3,wd,o1,o2,hsg,hr]
 repeat' with_reducible first |apply And.intro |apply condP<;>intro _
 all_goals first |(show ar _ _=true;kernel_rfl)|with_reducible assumption |omega |(simp only [go_sem, *]<;>rfl)|rfl |(exfalso;simp_all only [Bool.true_eq_false,Bool.false_eq_true,reduceCtorEq];done)
theorem zC {j:J} {x:X} (h:okJ j=true) (hx:x.ok=true) (h1:j.lo.v≤x.v) (h2:x.v≤j.hi.v):sH j x=true:=by
 obtain ⟨a1,a2,_⟩:=aM h
 unfold sH
 rw [h,hx,decide_eq_true ((iJ a1 hx).2 h1),decide_eq_true ((iJ hx a2).2 h2)];rfl
theorem BP {a:Q} {z:Int} (h: -((65536:Nat):Int)≤a.e):(times a (fH z 0)).at 65536=a.at 65536*z∧ -((65536:Nat):Int)≤(times a (fH z 0)).e:=by
 have h0: -((0:Nat):Int)≤(fH z 0).e:=oj (by omega)
 refine ⟨?_,oj (by omega)⟩
 have:=xh h h0
 rw [Nat.add_zero] at this
 rw [this,vD (by omega)]
 congr 1
 exact Int.mul_one z
theorem Om {j:J} {m:Int} (h:okJ j=true):(mr j m).at 65536=j.lo.v*(8 - m)+j.hi.v*m:=by
 obtain ⟨a1,a2,_⟩:=aM h
 obtain ⟨u1,u2⟩:=BP (z:=8 - m) (lI a1)
 obtain ⟨v1,v2⟩:=BP (z:=m) (lI a2)
 unfold mr
 rw [kj u2 v2,u1,v1];rfl
theorem NR {q:Q} (h: -((65536:Nat):Int)≤(Eg q).e):q.at 65536=8*(Eg q).at 65536:=by
 have h': -((65536:Nat):Int)≤q.e - 3:=h
 show q.z*2^(q.e+((65536:Nat):Int)).toNat=8*(q.z*2^(q.e - 3+((65536:Nat):Int)).toNat)
 rw [show (q.e+((65536:Nat):Int)).toNat=(q.e - 3+((65536:Nat):Int)).toNat+3 by omega,Int.pow_add]
 generalize (2:Int)^(q.e - 3+((65536:Nat):Int)).toNat=t
 rw [show (2:Int)^3=8 from rfl,←Int.mul_assoc,Int.mul_comm]
theorem FJ {a b m:Int} (h:a≤b) (h0:0≤m) (h8:m≤8):8*a≤a*(8 - m)+b*m∧a*(8 - m)+b*m≤8*b:=by
 have h1:0≤(b - a)*m:=Int.mul_nonneg (by omega) h0
 have h2:0≤(b - a)*(8 - m):=Int.mul_nonneg (by omega) (by omega)
 have e1:(b - a)*m=b*m - a*m:=Int.sub_mul ..
 have e2:a*(8 - m)=a*8 - a*m:=Int.mul_sub ..
 have e3:(b - a)*(8 - m)=(b - a)*8 - (b - a)*m:=Int.mul_sub ..
 omega
theorem vP {q:Q} (h:Few q):Bd 8 q:=⟨Nat.lt_trans h.2.1 (by decide),by have:=h.2.2.1;omega,by have:=h.2.2.2;omega⟩
theorem On {j:J} {m:Int} (h1:Bd 8 j.lo.q) (h2:Bd 8 j.hi.q) (h0:0≤m) (h8:m≤8):Bd 129 (mr j m):=by
 have a:=xi h1 (vP (oL (show 0≤8 - m by omega) (by omega)))
 have b:=xi h2 (vP (oL h0 h8))
 exact Jt a b
theorem NS {q:Q} (h:Bd 129 q):Bd 132 (Eg q):=⟨Nat.lt_of_lt_of_le h.1 (Nat.pow_le_pow_right (by omega) (by omega)),by have:=h.2.1;show _≤q.e - 3;omega,by have:=h.2.2;show q.e - 3≤_;omega⟩
theorem rM {j:J} (h:rZ j):Bd 8 j.lo.q∧Bd 8 j.hi.q:=by
 obtain ⟨a,b,fa,fb,e1,e2⟩:=h
 rw [e1,e2,(cS fa.valid).2.2,(cS fb.valid).2.2]
 exact ⟨vP fa,vP fb⟩
theorem P0 {E:Nat}:q0.at E=0:=Int.zero_mul _
theorem Mn {xs:List Nat} {k:Nat} {j:J} (hg:fP j) (hk:k≤900):∃ x:X,(GX x∧sH j x=true)∧kZ 101 xs [.v true j.L] k (xA x) (k+1)∧(rZ j→Bd 132 x.q):=by
 obtain ⟨a1,a2,a3⟩:=aM hg.1
 have flo:rZ j→Bd 132 j.lo.q:=fun h=>(rM h).1.mono (by omega)
 have fhi:rZ j→Bd 132 j.hi.q:=fun h=>(rM h).2.mono (by omega)
 have hle:=(iJ a1 a2).1 a3
 have lo:GX j.lo∧sH j j.lo=true:=⟨⟨a1,hg.2.lo⟩,zC hg.1 a1 (Int.le_refl _) hle⟩
 have hi:GX j.hi∧sH j j.hi=true:=⟨⟨a2,hg.2.hi⟩,zC hg.1 a2 hle (Int.le_refl _)⟩
 have hm0:(0:Int)≤((dk xs k%9:Nat):Int):=Int.natCast_nonneg _
 have hm8:((dk xs k%9:Nat):Int)≤8:=by omega
 have hb:=vV hg hm0 hm8
 have hv:=Om (m:=((dk xs k%9:Nat):Int)) hg.1
 have h8:=FJ hle hm0 hm8
 have key:∀ q:Q,aJ q→8*q.at 65536=(mr j ((dk xs k%9:Nat):Int)).at 65536→GX (qx q)∧sH j (qx q)=true:=fun q hq he=>by
  have e:(qx q).v=q.at 65536:=by unfold X.v;rw [(cS hq).2.2]
  exact ⟨J5 hq,zC hg.1 (cS hq).1 (by rw [e];omega) (by rw [e];omega)⟩
 cases h0:(((dk xs k%9:Nat):Int)==0)
 ·cases h1:(((dk xs k%9:Nat):Int)==8)
  ·cases hs:(signq (mr j ((dk xs k%9:Nat):Int))!=0)
   ·have hz:(mr j ((dk xs k%9:Nat):Int)).m=0:=by
     by_cases hz:(mr j ((dk xs k%9:Nat):Int)).m=0
     ·exact hz
     ·exfalso
      unfold signq at hs
      rw [if_neg hz] at hs
      split at hs<;>simp at hs
    have hq:=hb.1.1 hz
    have hr:res (mr j ((dk xs k%9:Nat):Int))=(q0,0):=by rw [hq];exact cC ka
    refine ⟨_,?_,Ql xs k j hg hk h0 h1 hs (by rw [hr];rfl),fun _=>by rw [hr,(cS mT).2.2];exact ⟨Nat.two_pow_pos _,by decide,by decide⟩⟩
    rw [hr]
    exact key q0 mT (by rw [hq,P0];rfl)
   ·by_cases hf:fm (Eg (mr j ((dk xs k%9:Nat):Int)))
    ·have hr:=cC hf
     refine ⟨_,?_,Qk xs k j hg hk h0 h1 hs (by rw [hr];rfl),fun h=>by rw [hr,(cS ⟨(vN hb hs).1,hf⟩).2.2];exact NS (On (rM h).1 (rM h).2 hm0 hm8)⟩
     rw [hr]
     exact key _ ⟨(vN hb hs).1,hf⟩ (NR hf.2.1).symm
    ·have hr:(res (Eg (mr j ((dk xs k%9:Nat):Int)))).2=2:=by unfold res;rw [if_neg hf]
     exact ⟨_,lo,Qj xs k j hg hk h0 h1 hs (by rw [hr];rfl),flo⟩
  ·exact ⟨_,hi,Qi xs k j hg hk h0 h1,fhi⟩
 ·exact ⟨_,lo,Qh xs k j hg hk h0,flo⟩
open Classical in
noncomputable def vU (xs:List Nat) (j:J) (k:Nat):X:=if h:fP j∧k≤900 then (Mn (xs:=xs) h.1 h.2).choose else zX
theorem xC {xs:List Nat} {j:J} {k:Nat} (hg:fP j) (hk:k≤900):(GX (vU xs j k)∧sH j (vU xs j k)=true)∧kZ 101 xs [.v true j.L] k (xA (vU xs j k)) (k+1)∧(rZ j→Bd 132 (vU xs j k).q):=by
 have:=(Mn (xs:=xs) (k:=k) hg hk).choose_spec
 unfold vU
 rw [dif_pos ⟨hg,hk⟩];exact this
end Go.Proofs.YtpacpmmdjmnamaaGreatDoor
