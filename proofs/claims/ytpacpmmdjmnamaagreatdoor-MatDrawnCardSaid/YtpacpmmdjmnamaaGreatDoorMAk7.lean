/- Decks: what is drawn. -/
import Derived.Test.YtpacpmmdjmnamaaGreatDoorMAi7
import Derived.Test.YtpacpmmdjmnamaaGreatDoorMAkA
import Derived.Test.YtpacpmmdjmnamaaGreatDoorMAj2
namespace Go.Proofs.YtpacpmmdjmnamaaGreatDoor
set_option linter.unusedSimpArgs false
set_option linter.unusedVariables false
set_option maxHeartbeats 4000000
set_option maxRecDepth 100000
open Go.RowKit Nx
section
attribute [local go_sem] X.eta J.eta Q.eta cu cw aZ a5 bN eZ dU hd1 pick ax aT dQ cntF nmL o8 nmA tn tR bB pH cT bO rp Int.toNat_zero decide_eq_true_eq eH eU rf rh BEq.rfl beq_self_eq_true Int.natCast_zero ge_iff_le gt_iff_lt Int.le_refl Nat.zero_mul Nat.one_mul Nat.zero_add Nat.zero_lt_succ Nat.lt_add_one Nat.le_refl List.append_eq u6 Bool.not_eq_true ib kO rK qI I7 Int.toNat_natCast Int.natCast_nonneg gV t7 nn py CX vR vS rA kc mH J3 lj zw uc List.isEmpty_nil
attribute [local go_sem ↓] bu
theorem ub:IntKind.u64.bits=64:=rfl
theorem F8 {k:Nat}:(0:Int)≤((k:Nat):Int):=Int.natCast_nonneg k
noncomputable def nS:b9:=one 99 (rA fun b l z=>(l.length≤100,nA (res (nm b (nval B64 l) z)).1))
theorem vl:TbOK Tryz.prog nS:=aH (aX Tryz.func99 (by kernel_rfl) rfl) fun args e h hp=>by
 obtain ⟨b,l,z,rfl,rfl⟩:=J1 h
 exact Qf rfl (fun w Al nl cl ht hl hn=>(IE w b z Al nl cl l hl (by have:=hl.1.1;have hp:l.length≤100:=hp;omega)).mono fun _ _ h=>Af (tk _) h)
theorem le {op:BinOp} {a b:Int}:(0≤bits op .u64 a b∧bits op .u64 a b<18446744073709551616)↔True:=by
 refine iff_of_true ?_ trivial
 unfold bits
 simp only [IntKind.wrap_u64]
 omega
theorem lw {a:Int}:(0≤IntKind.u64.wrap a∧IntKind.u64.wrap a<18446744073709551616)↔True:=by
 refine iff_of_true ?_ trivial
 rw [IntKind.wrap_u64];omega
theorem BK (v t:Nat) (ht:t≤64):((v:Int).fdiv (2^min t 64))=((v / 2^t:Nat):Int):=by
 rw [Nat.min_eq_left ht,Int.fdiv_eq_ediv_of_nonneg _ (Int.le_of_lt (mb t)),Int.natCast_ediv,Int.natCast_pow];rfl
theorem JS (xs:List Nat) (k:Nat) (hk:k≤900):kZ 41 xs [] k (nA (res (nm (bits .and .u64 ((dk xs k:Nat):Int) 1==1) (nval B64 [(bits .and .u64 ((((dk xs k:Nat):Int)).fdiv (2^min 1 64)) 63).toNat]) (IntKind.i64.wrap (IntKind.i64.wrap (((((dk xs k:Nat):Int)).fdiv (2^min 7 64)).tmod 9) - 6)))).1) (k+1):=by
 refine eh (O:=fun A n c=>bO (ib 98 A n c (rK fun k=>(k≤1000,.s (.lit (.int .u64 (dk xs k:Int))),k+1))) (ai (nS))) (by kernel_rfl) a7 (fun A n c F w hA hn=>cE ce (cz (xs:=xs) (aX Tryz.func98 (by kernel_rfl) rfl) (tj fun k hp=>HH hp) hA hn) (aa (vl) _ _) (fun d st args=>by simp [bO,ib,ai,aF,eJ,one,nS])) [] 1000 19 [.cell 2 30] Tryz.func41 rfl Tryz.ntmps41 (by decide) (by rw [Tryz.results41]) (by simp) rfl (fun A n c hsm hs=>?_)
 have hk0:k≤1000:=by omega
 simp (maxSteps:=10000000) only [go_sem,seval,reduceCtorEq,nS,gC,o0,fT,SX.L,SX.eta,ub,↓le,↓lw,F8,QL]
 repeat' with_reducible first |apply And.intro |apply condP<;>intro _
 all_goals first |(show ar _ _=true;kernel_rfl)|with_reducible assumption |(simp only [go_sem, *]<;>rfl)|rfl |(exfalso;simp_all only [Bool.true_eq_false,Bool.false_eq_true,reduceCtorEq];done)
theorem tF {xs:List Nat} {k:Nat} (hs:Small B64 xs) (hk:k≤900):∃ q:Q,Few q∧kZ 41 xs [] k (nA q) (k+1):=by
 refine ⟨_,?_,JS xs k hk⟩
 have hv:=Qo hs k
 obtain ⟨v,hv0⟩:∃ v,v=dk xs k:=⟨_,rfl⟩
 rw [←hv0] at hv ⊢
 rw [BK v 1 (by omega),BK v 7 (by omega),Np (v / 2^1) (Nat.lt_of_le_of_lt (Nat.div_le_self _ _) hv),Int.toNat_natCast,Bw]
 have e1:IntKind.i64.wrap (IntKind.i64.wrap ((((v / 2^7:Nat):Int)).tmod 9) - 6)=((v / 2^7%9:Nat):Int) - 6:=by
  rw [Int.tmod_eq_emod_of_nonneg (Int.natCast_nonneg _),IntKind.wrap_i64,IntKind.wrap_i64]
  omega
 rw [e1]
 have hf:=Gf (s:=(bits .and .u64 (v:Int) 1==1)) (M:=v / 2^1%64) (e:=((v / 2^7%9:Nat):Int) - 6) (Nat.mod_lt _ (by omega)) (by omega) (by omega)
 rw [cC hf.valid.2];exact hf
open Classical in
noncomputable def lL (xs:List Nat) (k:Nat):Q:=if h:Small B64 xs∧k≤900 then (tF h.1 h.2).choose else q0
theorem As (xs:List Nat) (k:Nat):Few (lL xs k):=by
 unfold lL
 split
 ·rename_i h;exact (tF h.1 h.2).choose_spec.1
 ·exact ⟨nj,by decide,by decide,by decide⟩
theorem tE {xs:List Nat} {k:Nat} (h:Small B64 xs∧k≤900):kZ 41 xs [] k (nA (lL xs k)) (k+1):=by
 unfold lL
 rw [dif_pos h];exact (tF h.1 h.2).choose_spec.2
theorem F7 (xs:List Nat) (k:Nat) (hk:k≤900):kZ 39 xs [iA 3] k (bA (((dk xs k%3:Nat):Int)==2)) (k+1):=by
 refine eh (O:=fun A n c=>bO (ib 38 A n c (qI fun k z=>(k≤1000∧0<z∧z≤1000,iA ((dk xs k%z.toNat:Nat):Int),k+1))) (ai eJ)) (by kernel_rfl) a7 (fun A n c F w hA hn=>cE ce (cz (xs:=xs) (aX Tryz.func38 (by kernel_rfl) rfl) (fo fun k z hp=>je hp) hA hn) (aa bk _ _) (fun d st args=>by simp [bO,ib,ai,aF,eJ,one])) [] 1000 11 [.tmp 4] Tryz.func39 rfl Tryz.ntmps39 (by decide) (by rw [Tryz.results39]) (by simp) rfl (fun A n c hsm hs=>?_)
 have hk0:k≤1000:=by omega
 simp (maxSteps:=10000000) only [go_sem,seval,reduceCtorEq,gC,o0,fT,SX.L,SX.eta,ub,↓le,↓lw,F8]
 repeat' with_reducible first |apply And.intro |apply condP<;>intro _
 all_goals first |(show ar _ _=true;kernel_rfl)|with_reducible assumption |(simp only [go_sem, *]<;>rfl)|rfl |(exfalso;simp_all only [Bool.true_eq_false,Bool.false_eq_true,reduceCtorEq];done)
theorem JP (xs:List Nat) (k:Nat) (hk:k≤900) (h0:(((dk xs k%6:Nat):Int)==0)=true):kZ 12 xs [] k (iA 8) (k+1):=by
 refine eh (O:=fun A n c=>bO (ib 38 A n c (qI fun k z=>(k≤1000∧0<z∧z≤1000,iA ((dk xs k%z.toNat:Nat):Int),k+1))) (ai eJ)) (by kernel_rfl) a7 (fun A n c F w hA hn=>cE ce (cz (xs:=xs) (aX Tryz.func38 (by kernel_rfl) rfl) (fo fun k z hp=>je hp) hA hn) (aa bk _ _) (fun d st args=>by simp [bO,ib,ai,aF,eJ,one])) [] 1000 12 [.tmp 2] Tryz.func12 rfl Tryz.ntmps12 (by decide) (by rw [Tryz.results12]) (by simp) rfl (fun A n c hsm hs=>?_)
 have hk0:k≤1000:=by omega
 have hk1:k+1≤1000:=by omega
 simp (maxSteps:=10000000) only [go_sem,seval,reduceCtorEq,gC,o0,fT,SX.L,SX.eta,ub,↓le,↓lw,F8,h0]
 repeat' with_reducible first |apply And.intro |apply condP<;>intro _
 all_goals first |(show ar _ _=true;kernel_rfl)|with_reducible assumption |(simp only [go_sem, *]<;>rfl)|rfl |(exfalso;simp_all only [Bool.true_eq_false,Bool.false_eq_true,reduceCtorEq];done)
theorem JQ (xs:List Nat) (k:Nat) (hk:k≤900) (h0:(((dk xs k%6:Nat):Int)==0)=false) (h1:(((dk xs k%6:Nat):Int)==1)=true):kZ 12 xs [] k (iA 256) (k+1):=by
 refine eh (O:=fun A n c=>bO (ib 38 A n c (qI fun k z=>(k≤1000∧0<z∧z≤1000,iA ((dk xs k%z.toNat:Nat):Int),k+1))) (ai eJ)) (by kernel_rfl) a7 (fun A n c F w hA hn=>cE ce (cz (xs:=xs) (aX Tryz.func38 (by kernel_rfl) rfl) (fo fun k z hp=>je hp) hA hn) (aa bk _ _) (fun d st args=>by simp [bO,ib,ai,aF,eJ,one])) [] 1000 12 [.tmp 2] Tryz.func12 rfl Tryz.ntmps12 (by decide) (by rw [Tryz.results12]) (by simp) rfl (fun A n c hsm hs=>?_)
 have hk0:k≤1000:=by omega
 have hk1:k+1≤1000:=by omega
 simp (maxSteps:=10000000) only [go_sem,seval,reduceCtorEq,gC,o0,fT,SX.L,SX.eta,ub,↓le,↓lw,F8,h0,h1]
 repeat' with_reducible first |apply And.intro |apply condP<;>intro _
 all_goals first |(show ar _ _=true;kernel_rfl)|with_reducible assumption |(simp only [go_sem, *]<;>rfl)|rfl |(exfalso;simp_all only [Bool.true_eq_false,Bool.false_eq_true,reduceCtorEq];done)
theorem JR (xs:List Nat) (k:Nat) (hk:k≤900) (h0:(((dk xs k%6:Nat):Int)==0)=false) (h1:(((dk xs k%6:Nat):Int)==1)=false):kZ 12 xs [] k (iA (IntKind.i64.wrap (12+((dk xs (k+1)%60:Nat):Int)))) (k+1+1):=by
 refine eh (O:=fun A n c=>bO (ib 38 A n c (qI fun k z=>(k≤1000∧0<z∧z≤1000,iA ((dk xs k%z.toNat:Nat):Int),k+1))) (ai eJ)) (by kernel_rfl) a7 (fun A n c F w hA hn=>cE ce (cz (xs:=xs) (aX Tryz.func38 (by kernel_rfl) rfl) (fo fun k z hp=>je hp) hA hn) (aa bk _ _) (fun d st args=>by simp [bO,ib,ai,aF,eJ,one])) [] 1000 12 [.tmp 2] Tryz.func12 rfl Tryz.ntmps12 (by decide) (by rw [Tryz.results12]) (by simp) rfl (fun A n c hsm hs=>?_)
 have hk0:k≤1000:=by omega
 have hk1:k+1≤1000:=by omega
 simp (maxSteps:=10000000) only [go_sem,seval,reduceCtorEq,gC,o0,fT,SX.L,SX.eta,ub,↓le,↓lw,F8,h0,h1]
 repeat' with_reducible first |apply And.intro |apply condP<;>intro _
 all_goals first |(show ar _ _=true;kernel_rfl)|with_reducible assumption |omega |(simp only [go_sem, *]<;>rfl)|rfl |(exfalso;simp_all only [Bool.true_eq_false,Bool.false_eq_true,reduceCtorEq];done)
theorem wi {xs:List Nat} {k:Nat} (hk:k≤900):∃ (p:Int) (k':Nat),kf p=true∧k≤k'∧k'≤k+2∧kZ 12 xs [] k (iA p) k':=by
 cases h0:((((dk xs k%6:Nat):Int)==0))
 ·cases h1:((((dk xs k%6:Nat):Int)==1))
  ·refine ⟨_,_,?_,?_,?_,JR xs k hk h0 h1⟩
   ·have:dk xs (k+1)%60<60:=Nat.mod_lt _ (by omega)
    rw [IntKind.wrap_i64];unfold kf
    simp only [Bool.and_eq_true,decide_eq_true_eq];omega
   ·omega
   ·omega
  ·exact ⟨_,_,by decide,by omega,by omega,JQ xs k hk h0 h1⟩
 ·exact ⟨_,_,by decide,by omega,by omega,JP xs k hk h0⟩
open Classical in
noncomputable def pN (xs:List Nat) (k:Nat):Int×Nat:=if h:k≤900 then ((wi (xs:=xs) h).choose,(wi (xs:=xs) h).choose_spec.choose) else (8,k)
theorem th {xs:List Nat} {k:Nat} (h:k≤900):kf (pN xs k).1=true∧k≤(pN xs k).2∧(pN xs k).2≤k+2∧kZ 12 xs [] k (iA (pN xs k).1) (pN xs k).2:=by
 have:=(wi (xs:=xs) h).choose_spec.choose_spec
 unfold pN
 rw [dif_pos h];exact this
end
section
attribute [local go_sem] X.eta J.eta Q.eta cu cw aZ a5 bN eZ dU hd1 pick ax aT dQ cntF nmL o8 nmA tn tR bB pH cT bO rp Int.toNat_zero decide_eq_true_eq eH eU rf rh BEq.rfl beq_self_eq_true Int.natCast_zero ge_iff_le gt_iff_lt Int.le_refl Nat.zero_mul Nat.one_mul Nat.zero_add Nat.zero_lt_succ Nat.lt_add_one Nat.le_refl List.append_eq gV t7 nn py CX vR vS rA kc mH J3 lj zw uc List.isEmpty_nil
attribute [local go_sem ↓] bu
def xl (x y:X):J:=bif decide (cmpx x y>0) then ⟨y,x⟩ else ⟨x,y⟩
theorem DU (x x1:X):Ct Tryz.prog 42 [.v true x.L,.v true x1.L] (·=jA (xl x x1)):=by
 refine ak (O:=ai (bg)) (by kernel_rfl) a7 (fun w=>aa (d9) _ w) [] 2000 15 [.cell 4 32] Tryz.func42 rfl Tryz.ntmps42 (by rw [Tryz.results42]) (by simp) rfl (fun hsm=>?_)
 simp (maxSteps:=10000000) only [go_sem,seval,reduceCtorEq,bg,gC,o0,fT,SX.L,SX.eta]
 repeat' with_reducible first |apply And.intro |apply condP<;>intro _
 all_goals first |(show ar _ _=true;kernel_rfl)|assumption |(simp only [go_sem, *,xl]<;>rfl)|rfl |(exfalso;simp_all only [Bool.true_eq_false,Bool.false_eq_true,reduceCtorEq];done)
noncomputable def cK:b9:=one 42 (ur fun x x1=>(True,jA (xl x x1)))
theorem lS:TbOK Tryz.prog cK:=aH (aX Tryz.func42 (by kernel_rfl) rfl) fun args e h hp=>by obtain ⟨x,x1,rfl,rfl⟩:=lE h;exact DU x x1
def GX (x:X):Prop:=x.ok=true∧Small B64 x.xs
def fP (j:J):Prop:=okJ j=true∧GJ j
theorem J5 {q:Q} (h:aJ q):GX (qx q):=⟨(cS h).1,(cS h).2.1⟩
theorem zW {x y:X} (hx:x.ok=true) (hy:y.ok=true) (h:x.v≤y.v):okJ ⟨x,y⟩=true:=by
 unfold okJ
 show (x.ok&&y.ok&&decide (cmpx x y≤0))=true
 rw [hx,hy,decide_eq_true ((iJ hx hy).2 h)];rfl
theorem FM {x y:X} (hx:GX x) (hy:GX y):fP (xl x y):=by
 unfold xl
 by_cases hc:cmpx x y>0
 ·rw [decide_eq_true hc]
  exact ⟨zW hy.1 hx.1 (Int.le_of_lt ((vK hx.1 hy.1).1 hc)),hy.2,hx.2⟩
 ·rw [decide_eq_false hc]
  have:¬ _:=fun g=>hc ((vK hx.1 hy.1).2 g)
  exact ⟨zW hx.1 hy.1 (by omega),hx.2,hy.2⟩
theorem Lj {x:X} (hx:GX x):fP ⟨x,x⟩:=⟨zW hx.1 hx.1 (Int.le_refl _),hx.2,hx.2⟩
theorem Fb {x:X} (h:GX x):GX (qx (absx x))∧0≤(qx (absx x)).v:=by
 have hv:=ey h.1 h.2
 rw [vn h.1 h.2]
 exact ⟨J5 (jb hv),by rw [vm hv];exact Int.natCast_nonneg _⟩
def rZ (j:J):Prop:=∃ a b:Q,Few a∧Few b∧j.lo=qx a∧j.hi=qx b
theorem Jw {a b:Q} (ha:Few a) (hb:Few b):rZ (xl (qx a) (qx b)):=by
 unfold xl
 cases decide (cmpx (qx a) (qx b)>0)
 ·exact ⟨a,b,ha,hb,rfl,rfl⟩
 ·exact ⟨b,a,hb,ha,rfl,rfl⟩
theorem NO (xs:List Nat) (k:Nat) (hk:k≤800) (h0:(((dk xs k%3:Nat):Int)==2)=true):kZ 10 xs [] k (jA ⟨qx (lL xs (k+1)),qx (lL xs (k+1))⟩) (k+1+1):=by
 refine eh (O:=fun A n c=>bO (ib 39 A n c (qI fun k z=>(z=3∧k≤900,bA (((dk xs k%3:Nat):Int)==2),k+1))) (bO (ib 41 A n c (rK fun k=>(Small B64 xs∧k≤900,nA (lL xs k),k+1))) (ai (aF a9 (cK))))) (by kernel_rfl) a7 (fun A n c F w hA hn=>cE ce (cz (xs:=xs) (aX Tryz.func39 (by kernel_rfl) rfl) (fo fun k z hp=>by obtain ⟨rfl,h⟩:=hp;exact F7 xs k h) hA hn) (cE ce (cz (xs:=xs) (aX Tryz.func41 (by kernel_rfl) rfl) (tj fun k hp=>tE hp) hA hn) (aa (ab cJ (lS)) _ _) (fun d st args=>by simp [bO,ib,ai,aF,eJ,one,a9,cK])) (fun d st args=>by simp [bO,ib,ai,aF,eJ,one,a9,cK])) [] 1000 13 [.cell 2 32] Tryz.func10 rfl Tryz.ntmps10 (by decide) (by rw [Tryz.results10]) (by simp) rfl (fun A n c hsm hs=>?_)
 have hk9:k≤900:=by omega
 simp (maxSteps:=10000000) only [go_sem,seval,reduceCtorEq,a9,cK,gC,o0,fT,SX.L,SX.eta,ub,u6,le,lw,Bool.not_eq_true,ib,kO,rK,qI,I7,Int.toNat_natCast,Int.natCast_nonneg,F8,h0]
 repeat' with_reducible first |apply And.intro |apply condP<;>intro _
 all_goals first |(show ar _ _=true;kernel_rfl)|assumption |omega |(simp only [go_sem, *]<;>rfl)|rfl |(exfalso;simp_all only [Bool.true_eq_false,Bool.false_eq_true,reduceCtorEq];done)
theorem NP (xs:List Nat) (k:Nat) (hk:k≤800) (h0:(((dk xs k%3:Nat):Int)==2)=false):kZ 10 xs [] k (jA (xl (qx (lL xs (k+1))) (qx (lL xs (k+1+1))))) (k+1+1+1):=by
 refine eh (O:=fun A n c=>bO (ib 39 A n c (qI fun k z=>(z=3∧k≤900,bA (((dk xs k%3:Nat):Int)==2),k+1))) (bO (ib 41 A n c (rK fun k=>(Small B64 xs∧k≤900,nA (lL xs k),k+1))) (ai (aF a9 (cK))))) (by kernel_rfl) a7 (fun A n c F w hA hn=>cE ce (cz (xs:=xs) (aX Tryz.func39 (by kernel_rfl) rfl) (fo fun k z hp=>by obtain ⟨rfl,h⟩:=hp;exact F7 xs k h) hA hn) (cE ce (cz (xs:=xs) (aX Tryz.func41 (by kernel_rfl) rfl) (tj fun k hp=>tE hp) hA hn) (aa (ab cJ (lS)) _ _) (fun d st args=>by simp [bO,ib,ai,aF,eJ,one,a9,cK])) (fun d st args=>by simp [bO,ib,ai,aF,eJ,one,a9,cK])) [] 1000 13 [.cell 2 32] Tryz.func10 rfl Tryz.ntmps10 (by decide) (by rw [Tryz.results10]) (by simp) rfl (fun A n c hsm hs=>?_)
 have hk9:k≤900:=by omega
 simp (maxSteps:=10000000) only [go_sem,seval,reduceCtorEq,a9,cK,gC,o0,fT,SX.L,SX.eta,ub,u6,le,lw,Bool.not_eq_true,ib,kO,rK,qI,I7,Int.toNat_natCast,Int.natCast_nonneg,F8,h0]
 repeat' with_reducible first |apply And.intro |apply condP<;>intro _
 all_goals first |(show ar _ _=true;kernel_rfl)|assumption |omega |(simp only [go_sem, *]<;>rfl)|rfl |(exfalso;simp_all only [Bool.true_eq_false,Bool.false_eq_true,reduceCtorEq];done)
theorem Ar {xs:List Nat} {k:Nat} (hk:k≤800):∃ (j:J) (k':Nat),(fP j∧rZ j)∧k≤k'∧k'≤k+3∧kZ 10 xs [] k (jA j) k':=by
 have f:=fun k=>As xs k
 have g:=fun k=>J5 (f k).valid
 cases h0:(((dk xs k%3:Nat):Int)==2)
 ·exact ⟨_,_,⟨FM (g _) (g _),Jw (f _) (f _)⟩,by omega,by omega,NP xs k hk h0⟩
 ·exact ⟨_,_,⟨Lj (g _),_,_,f _,f _,rfl,rfl⟩,by omega,by omega,NO xs k hk h0⟩
open Classical in
noncomputable def jt (xs:List Nat) (k:Nat):J×Nat:=if h:k≤800 then ((Ar (xs:=xs) h).choose,(Ar (xs:=xs) h).choose_spec.choose) else (zJ,k)
theorem kC {xs:List Nat} {k:Nat} (h:k≤800):(fP (jt xs k).1∧rZ (jt xs k).1)∧k≤(jt xs k).2∧(jt xs k).2≤k+3∧kZ 10 xs [] k (jA (jt xs k).1) (jt xs k).2:=by
 have:=(Ar (xs:=xs) h).choose_spec.choose_spec
 unfold jt
 rw [dif_pos h];exact this
end
end Go.Proofs.YtpacpmmdjmnamaaGreatDoor
