/- Package iv: what has the precision, the selections, the ends outward. -/
import Derived.Test.YtpacpmmdjmnamaaGreatDoorMAi3
namespace Go.Proofs.YtpacpmmdjmnamaaGreatDoor
set_option maxHeartbeats 4000000
open Go.RowKit Nx
set_option linter.unusedVariables false
set_option linter.unusedSimpArgs false
set_option maxRecDepth 100000
attribute [local go_sem] X.eta J.eta Q.eta cu cw aZ a5 bN eZ dU hd1 pick ax aT dQ cntF nmL o8 nmA tn tR bB pH cT bO rp Int.toNat_zero decide_eq_true_eq BEq.rfl beq_self_eq_true Int.natCast_zero ge_iff_le gt_iff_lt Int.le_refl Nat.zero_mul Nat.one_mul Nat.zero_add Nat.zero_lt_succ Nat.lt_add_one Nat.le_refl gV t7 nn py CX vR vS rA kc mH J3 uc
attribute [local go_sem ↓] bu
theorem rf:((1:Nat):Int)=1:=rfl
theorem rh:((2:Nat):Int)=2:=rfl
theorem eU:IntKind.i64.wrap 1=1:=by kernel_rfl
theorem eH:IntKind.i64.wrap 0=0:=by kernel_rfl
theorem u6:IntKind.i64.wrap 2=2:=by kernel_rfl
def kf (z:Int):Bool:=decide (8≤z)&&decide (z≤256)
theorem Gx (j:J) (z:Int):yO Tryz.prog 176 [iA z,.s (.osl 1000 1)] [j.L] (bA (okJ j&&kf z)):=by
 refine o7 (O:=ai (bQ)) (by kernel_rfl) a7 (fun w=>aa (dJ) _ w) [12,13] 300 23 [.tmp 4] Tryz.func176 rfl Tryz.ntmps176 (by rw [Tryz.results176]) (by simp) (fun hsm hsb=>?_)
 simp (maxSteps:=10000000) only [go_sem,seval,reduceCtorEq,bQ,eH,eU,rf,rh,u6]
 repeat' with_reducible first |apply And.intro |apply condP<;>intro _
 all_goals first |(show ar _ _=true;kernel_rfl)|assumption |(simp only [go_sem, *,kf]<;>rfl)|rfl |(exfalso;simp_all only [Bool.true_eq_false,Bool.false_eq_true,reduceCtorEq];done)
theorem sI (j j1:J) (z:Int):yO Tryz.prog 176 [iA z,.s (.osl 1000 2)] [j.L++j1.L] (bA (okJ j&&okJ j1&&kf z)):=by
 refine o7 (O:=ai (bQ)) (by kernel_rfl) a7 (fun w=>aa (dJ) _ w) [12,13] 300 23 [.tmp 4] Tryz.func176 rfl Tryz.ntmps176 (by rw [Tryz.results176]) (by simp) (fun hsm hsb=>?_)
 simp (maxSteps:=10000000) only [go_sem,seval,reduceCtorEq,bQ,eH,eU,rf,rh,u6]
 repeat' with_reducible first |apply And.intro |apply condP<;>intro _
 all_goals first |(show ar _ _=true;kernel_rfl)|assumption |(simp only [go_sem, *,kf]<;>rfl)|rfl |(exfalso;simp_all only [Bool.true_eq_false,Bool.false_eq_true,reduceCtorEq];done)
structure SX where
 x:X
 e:Int
def SX.L (c:SX):List Lf:=[.lit (.bool c.x.s),.lit (.int .i64 c.x.e),.ws c.x.xs,.lit (.int .i64 c.e)]
theorem SX.eta (c:SX):SX.mk c.x c.e=c:=rfl
def fT:List Lf→Option SX
 |[.lit (.bool s),.lit (.int .i64 e),.ws xs,.lit (.int .i64 z)]=>some ⟨⟨s,e,xs⟩,z⟩
 |_=>none
theorem vB {ls:List Lf} {x:SX} (h:fT ls=some x):ls=x.L:=by
 unfold fT at h
 split at h
 ·injection h with h;subst h;rfl
 ·cases h
def qP (j:J) (b:Bool):X:=bif b then j.hi else j.lo
def X.e0 (x:X):X:=⟨x.s,0,x.xs⟩
noncomputable def lG (x y:X) (z:Int) (b:Bool):SX:=⟨qx (dZ (pD z b) z x.e0 y.e0).1,IntKind.i64.wrap (x.e+y.e)⟩
noncomputable def qA (c d:SX):SX:=bif decide (cmpx (qx (absx (qx (ez c.x (min (max (IntKind.i64.wrap (c.e - d.e)) (-32768)) 32768)).1))) (qx (absx d.x))<0) then d else c
noncomputable def iM (x:X) (z:Int):X:=bif ((ez x (IntKind.i64.wrap (0 - z))).2 !=0) then x else qx (ez x (IntKind.i64.wrap (0 - z))).1
noncomputable def mY (j:J):Int:=bif decide (cmpx (iD j) (qx (ez (qx (fH 1 0)) 32768).1)<0) then 0 else 32768
noncomputable def t9 (j:J) (z:Int):Q×Int:=ez (qx (dZ (mI z false) z (iM j.lo (mY j)) (iM j.hi (mY j))).1) (-1)
noncomputable def iZ (j:J) (z:Int):X×Int:=bif okJ j&&kf z then (bif ((t9 j z).2 !=0) then (zX,(t9 j z).2) else bif decide (cmpx (qx (t9 j z).1) (iM j.lo (mY j))<0) then (j.lo,0) else (qx (ez (qx (t9 j z).1) (mY j)).1,(ez (qx (t9 j z).1) (mY j)).2)) else (zX,1)
def zw (k:J→Bool→Prop×AV):List AV→Option (Prop×AV)
 |[.v true mj,.v false [.lit (.bool b)]]=>(match k7 mj with
  |some j=>some (k j b)
  |_=>none)
 |_=>none
theorem N4 {k:J→Bool→Prop×AV} {args:List AV} {e:Prop×AV} (h:zw k args=some e):∃ j b,args=[.v true j.L,bA b]∧e=k j b:=by
 unfold zw at h
 split at h
 ·split at h
  ·rename_i j hj
   injection h with h;subst h
   exact ⟨j,_,by rw [gy hj],rfl⟩
  ·cases h
 ·cases h
def gC (k:SX→Prop×AV):List AV→Option (Prop×AV)
 |[.v true mc]=>(match fT mc with
  |some c=>some (k c)
  |_=>none)
 |_=>none
theorem Qx {k:SX→Prop×AV} {args:List AV} {e:Prop×AV} (h:gC k args=some e):∃ c,args=[.v true c.L]∧e=k c:=by
 unfold gC at h
 split at h
 ·split at h
  ·rename_i c hc
   injection h with h;subst h
   exact ⟨c,by rw [vB hc],rfl⟩
  ·cases h
 ·cases h
def o0 (k:SX→SX→Prop×AV):List AV→Option (Prop×AV)
 |[.v true mc,.v true mc1]=>(match fT mc,fT mc1 with
  |some c,some c1=>some (k c c1)
  |_,_=>none)
 |_=>none
theorem N3 {k:SX→SX→Prop×AV} {args:List AV} {e:Prop×AV} (h:o0 k args=some e):∃ c c1,args=[.v true c.L,.v true c1.L]∧e=k c c1:=by
 unfold o0 at h
 split at h
 ·split at h
  ·rename_i c c1 hc hc1
   injection h with h;subst h
   exact ⟨c,c1,by rw [vB hc,vB hc1],rfl⟩
  ·cases h
 ·cases h
theorem Oj (j:J) (b:Bool):Ct Tryz.prog 185 [.v true j.L,bA b] (·=xA (qP j b)):=by
 refine ak (O:=ai eJ) (by kernel_rfl) a7 (fun w=>aa bk _ w) [] 300 10 [.cell 4 30] Tryz.func185 rfl Tryz.ntmps185 (by rw [Tryz.results185]) (by simp) rfl (fun hsm=>?_)
 simp (maxSteps:=10000000) only [go_sem,seval,reduceCtorEq,eH,eU,rf,rh,zw,gC,o0,fT,SX.L,SX.eta]
 repeat' with_reducible first |apply And.intro |apply condP<;>intro _
 all_goals first |(show ar _ _=true;kernel_rfl)|assumption |(simp only [go_sem, *,qP]<;>rfl)|rfl |(exfalso;simp_all only [Bool.true_eq_false,Bool.false_eq_true,reduceCtorEq];done)
noncomputable def kH:b9:=one 185 (zw fun j b=>(True,xA (qP j b)))
theorem nb:TbOK Tryz.prog kH:=aH (aX Tryz.func185 (by kernel_rfl) rfl) fun args e h hp=>by obtain ⟨j,b,rfl,rfl⟩:=N4 h;exact Oj j b
theorem Gw (c:SX):Ct Tryz.prog 183 [.v true c.L] (·=tS (ez c.x c.e)):=by
 refine ak (O:=ai (cX)) (by kernel_rfl) a7 (fun w=>aa (fX) _ w) [] 300 11 [.cell 2 30,.tmp 3] Tryz.func183 rfl Tryz.ntmps183 (by rw [Tryz.results183]) (by simp) rfl (fun hsm=>?_)
 simp (maxSteps:=10000000) only [go_sem,seval,reduceCtorEq,cX,eH,eU,rf,rh,zw,gC,o0,fT,SX.L,SX.eta]
 repeat' with_reducible first |apply And.intro |apply condP<;>intro _
 all_goals first |(show ar _ _=true;kernel_rfl)|assumption |(simp only [go_sem, *]<;>rfl)|rfl |(exfalso;simp_all only [Bool.true_eq_false,Bool.false_eq_true,reduceCtorEq];done)
noncomputable def dK:b9:=one 183 (gC fun c=>(True,tS (ez c.x c.e)))
theorem na:TbOK Tryz.prog dK:=aH (aX Tryz.func183 (by kernel_rfl) rfl) fun args e h hp=>by obtain ⟨c,rfl,rfl⟩:=Qx h;exact Gw c
theorem zD (x:X) (x1:X) (z:Int) (b:Bool):Ct Tryz.prog 181 [.v true x.L,.v true x1.L,iA z,bA b] (·= .v true (lG x x1 z b).L):=by
 refine ak (O:=ai (g8)) (by kernel_rfl) a7 (fun w=>aa (oH) _ w) [] 300 30 [.cell 8 165] Tryz.func181 rfl Tryz.ntmps181 (by rw [Tryz.results181]) (by simp) rfl (fun hsm=>?_)
 simp (maxSteps:=10000000) only [go_sem,seval,reduceCtorEq,g8,eH,eU,rf,rh,zw,gC,o0,fT,SX.L,SX.eta]
 repeat' with_reducible first |apply And.intro |apply condP<;>intro _
 all_goals first |(show ar _ _=true;kernel_rfl)|assumption |(simp only [go_sem, *,lG,X.e0,SX.L]<;>rfl)|rfl |(exfalso;simp_all only [Bool.true_eq_false,Bool.false_eq_true,reduceCtorEq];done)
noncomputable def iG:b9:=one 181 (mW fun x x1 z b=>(True,.v true (lG x x1 z b).L))
theorem rx:TbOK Tryz.prog iG:=aH (aX Tryz.func181 (by kernel_rfl) rfl) fun args e h hp=>by obtain ⟨x,x1,z,b,rfl,rfl⟩:=pu h;exact zD x x1 z b
theorem Gv (c:SX) (c1:SX):Ct Tryz.prog 182 [.v true c.L,.v true c1.L] (·= .v true (qA c c1).L):=by
 refine ak (O:=ai (aF cX (aF nd (dL)))) (by kernel_rfl) a7 (fun w=>aa (ab fX (ab qX (fy))) _ w) [] 300 31 [.cell 4 165] Tryz.func182 rfl Tryz.ntmps182 (by rw [Tryz.results182]) (by simp) rfl (fun hsm=>?_)
 simp (maxSteps:=10000000) only [go_sem,seval,reduceCtorEq,cX,nd,dL,eH,eU,rf,rh,zw,gC,o0,fT,SX.L,SX.eta]
 repeat' with_reducible first |apply And.intro |apply condP<;>intro _
 all_goals first |(show ar _ _=true;kernel_rfl)|assumption |(simp only [go_sem, *,qA,SX.L]<;>rfl)|rfl |(exfalso;simp_all only [Bool.true_eq_false,Bool.false_eq_true,reduceCtorEq];done)
noncomputable def kG:b9:=one 182 (o0 fun c c1=>(True,.v true (qA c c1).L))
theorem tT:TbOK Tryz.prog kG:=aH (aX Tryz.func182 (by kernel_rfl) rfl) fun args e h hp=>by obtain ⟨c,c1,rfl,rfl⟩:=N3 h;exact Gv c c1
theorem J9 (x:X) (z:Int):Ct Tryz.prog 203 [.v true x.L,iA z] (·=xA (iM x z)):=by
 refine ak (O:=ai (cX)) (by kernel_rfl) a7 (fun w=>aa (fX) _ w) [] 300 18 [.cell 4 30] Tryz.func203 rfl Tryz.ntmps203 (by rw [Tryz.results203]) (by simp) rfl (fun hsm=>?_)
 simp (maxSteps:=10000000) only [go_sem,seval,reduceCtorEq,cX,eH,eU,rf,rh,zw,gC,o0,fT,SX.L,SX.eta]
 repeat' with_reducible first |apply And.intro |apply condP<;>intro _
 all_goals first |(show ar _ _=true;kernel_rfl)|assumption |(simp only [go_sem, *,iM]<;>rfl)|rfl |(exfalso;simp_all only [Bool.true_eq_false,Bool.false_eq_true,reduceCtorEq];done)
noncomputable def nR:b9:=one 203 (I6 fun x z=>(True,xA (iM x z)))
theorem vi:TbOK Tryz.prog nR:=aH (aX Tryz.func203 (by kernel_rfl) rfl) fun args e h hp=>by obtain ⟨x,z,rfl,rfl⟩:=Gs h;exact J9 x z
theorem Oh (j:J):Ct Tryz.prog 202 [.v true j.L] (·=iA (mY j)):=by
 refine ak (O:=ai (aF lQ (aF cX (aF pg (dL))))) (by kernel_rfl) a7 (fun w=>aa (ab qY (ab fX (ab sd (fy)))) _ w) [] 300 15 [.tmp 2] Tryz.func202 rfl Tryz.ntmps202 (by rw [Tryz.results202]) (by simp) rfl (fun hsm=>?_)
 simp (maxSteps:=10000000) only [go_sem,seval,reduceCtorEq,lQ,cX,pg,dL,eH,eU,rf,rh,zw,gC,o0,fT,SX.L,SX.eta]
 repeat' with_reducible first |apply And.intro |apply condP<;>intro _
 all_goals first |(show ar _ _=true;kernel_rfl)|assumption |(simp only [go_sem, *,mY]<;>rfl)|rfl |(exfalso;simp_all only [Bool.true_eq_false,Bool.false_eq_true,reduceCtorEq];done)
noncomputable def pj:b9:=one 202 (gJ fun j=>(True,iA (mY j)))
theorem xc:TbOK Tryz.prog pj:=aH (aX Tryz.func202 (by kernel_rfl) rfl) fun args e h hp=>by obtain ⟨j,rfl,rfl⟩:=oM h;exact Oh j
theorem QH (j:J) (z:Int):Ct Tryz.prog 151 [.v true j.L,iA z] (·=kY (iZ j z)):=by
 refine ak (O:=bO (cT 176 (rp [iA z,.s (.osl 1000 1)] [j.L] (bA (okJ j&&kf z)))) (ai (aF pj (aF nR (aF fA (aF cX (aF dL (ky)))))))) (by kernel_rfl) a7 (fun w=>ln (kx (aX Tryz.func176 (by kernel_rfl) rfl) (o6 (Gx j z)) _ _) (aa (ab xc (ab vi (ab lA (ab fX (ab fy (ph)))))) _ w) (fun d st args=>by simp [bO,cT,ai,aF,eJ,one,pj,nR,fA,cX,dL,ky])) [] 300 57 [.cell 4 30,.tmp 5] Tryz.func151 rfl Tryz.ntmps151 (by rw [Tryz.results151]) (by simp) rfl (fun hsm=>?_)
 simp (maxSteps:=10000000) only [go_sem,seval,reduceCtorEq,pj,nR,fA,cX,dL,ky,eH,eU,rf,rh,zw,gC,o0,fT,SX.L,SX.eta]
 repeat' with_reducible first |apply And.intro |apply condP<;>intro _
 all_goals first |(show ar _ _=true;kernel_rfl)|assumption |(rename_i a0 a1 a2;unfold iZ t9;rw [a0,a1,a2];rfl)|(rename_i a0 a1;unfold iZ t9;rw [a0,a1];rfl)|(simp only [go_sem, *,iZ,t9,zX]<;>rfl)|rfl |(exfalso;simp_all only [Bool.true_eq_false,Bool.false_eq_true,reduceCtorEq];done)
noncomputable def vg:b9:=one 151 (I4 fun j z=>(True,kY (iZ j z)))
theorem yY:TbOK Tryz.prog vg:=aH (aX Tryz.func151 (by kernel_rfl) rfl) fun args e h hp=>by obtain ⟨j,z,rfl,rfl⟩:=Gq h;exact QH j z
end Go.Proofs.YtpacpmmdjmnamaaGreatDoor
