/- Package iv: what needs no rounding. -/
import Derived.Test.YtpacpmmdjmnamaaGreatDoorMAi6
namespace Go.Proofs.YtpacpmmdjmnamaaGreatDoor
set_option maxHeartbeats 4000000
open Go.RowKit Nx
set_option linter.unusedVariables false
set_option linter.unusedSimpArgs false
set_option maxRecDepth 100000
attribute [go_sem] run ji X.L J.L vL List.cons_append List.nil_append tZ Aa kN tX m6 bR eG dH eF eE iV ju jw iW inL bH bx dom kV tQ Bb evd okeys look lZ lC jG j7 lenOf ri vE MN xG MT rc LO MP Em MS MQ yN MR I9 ru yw rv yx cZ Dy keysOf ai mn po rj olA olL Ej Bt qu Cp aF eJ one fK k7 e7 nG k8 oI rI jf decide_true decide_false List.all_cons List.all_nil Bool.and_true Bool.and_self true_and and_true and_self List.length_cons List.length_nil List.drop_succ_cons List.drop_zero List.take_succ_cons List.take_zero List.getElem?_cons_zero List.getElem?_cons_succ List.map_cons List.map_nil false_implies true_implies Option.bind_some List.getElem?_toArray Bool.false_eq_true List.append_nil List.flatMap_cons List.flatMap_nil true_or or_true forall_const List.reverse_cons List.reverse_nil Option.isSome_some Option.any_some Nat.lt_irrefl not_true_eq_false Bool.not_true Bool.not_false imp_self implies_true Bool.not_eq_true' Bool.not_eq_false' Bool.true_eq_false gN ur I6 gI mW CW gJ l5 PK sG I4 iU jx jy il I3 qE okO v8 I8 rE outPs mX outL fD AV.s cond_true cond_false Bool.true_and Bool.and_false Bool.false_and Bool.or_true Bool.true_or Bool.or_false Bool.false_or
attribute [go_sem ↓] cond_true cond_false
attribute [local go_sem] eZ dU hd1 pick ax gV t7 nn py CX vR vS rA kc mH J3
section
variable {R:List It→St→Prop} {N:Nat} {k:List It} {st:St}
theorem aZ {p:Prop} {r:List Nat} {u:St} {ops:Array Oper} {o:Oper} {l:List Oper} {rs:List (List Nat×List Nat)} {d:Bool}:JW R N (some (p,r,u)) ops o l rs d k st=(Dy N o=true∧p∧R (.ops ops l ((r,u.map (·.1))::rs) d::k) (u++st)):=rfl
theorem a5 {k':List It}:JX R (some k') st=R k' st:=rfl
theorem bN {b:Bool} {x y:Code}:AS R (some (.v false [.lit (.bool b)])) x y k st=(bif b then R (.code x::k) st else R (.code y::k) st):=rfl
theorem cu {b:Bool} {g:Nat}:FL R (some (.v false [.lit (.bool b)])) g k st=(bif b then R k ((g,.s (.lit (.bool true)))::st) else R k ((g,.s (.lit (.bool false)))::st)):=rfl
theorem cw {g:Nat} {vs:Array Value}:FL R (some (.v false [.lit (.tuple vs)])) g k st=R k st:=rfl
theorem aT {Pst:AV→Prop} {ps:List (Bool×List Lf)}:pM Pst (some ps)=(oI (k8 ps)=true∧Pst (k8 ps)):=rfl
theorem condP {b:Bool} {A B:Prop} (h1:b=true→A) (h2:b=false→B):bif b then A else B:=by
 cases b
 ·exact h2 rfl
 ·exact h1 rfl
theorem bu {b:Bool} {A B:Prop}:(bif !b then A else B)=(bif b then B else A):=by cases b<;>rfl
theorem X.eta (x:X):X.mk x.s x.e x.xs=x:=rfl
theorem J.eta (x:J):J.mk x.lo x.hi=x:=rfl
theorem Q.eta (x:Q):Q.mk x.s x.m x.e=x:=rfl
end
def zX:X:=⟨false,0,[]⟩
def zJ:J:=⟨zX,zX⟩
def okJ (j:J):Bool:=j.lo.ok&&j.hi.ok&&decide (cmpx j.lo j.hi≤0)
def sH (j:J) (x:X):Bool:=okJ j&&x.ok&&decide (cmpx j.lo x≤0)&&decide (cmpx x j.hi≤0)
def Kc (a b:J):Bool:=okJ a&&okJ b&&decide (cmpx b.lo a.lo≤0)&&decide (cmpx a.hi b.hi≤0)
def oQ (a b:J):Bool:=iT a.lo b.lo&&iT a.hi b.hi
def uD (x y:X):X:=bif decide (cmpx x y<0) then y else x
def iD (a:J):X:=bif okJ a then uD (qx (absx a.lo)) (qx (absx a.hi)) else zX
def mf (a:J):Bool:=decide (uS a.lo<0)&&decide (uS a.hi>0)
abbrev jA (j:J):AV:=.v true j.L
abbrev xA (x:X):AV:=.v true x.L
abbrev iY (r:J×Int):AV:=.tup [(true,r.1.L),(false,[.lit (.int .i64 r.2)])]
theorem Ka (j:J):Ct Tryz.prog 90 [.v true j.L] (·=bA (okJ j)):=by
 refine ak (O:=ai (aF oV (dL))) (by kernel_rfl) a7 (fun w=>aa (ab tU (fy)) _ w) [] 300 19 [.tmp 2] Tryz.func90 rfl Tryz.ntmps90 (by rw [Tryz.results90]) (by simp) rfl (fun hsm=>?_)
 simp (maxSteps:=10000000) only [go_sem,seval,X.eta,J.eta,Q.eta,cu,cw,aZ,a5,bN,↓bu,aT,reduceCtorEq,oV,dL]
 repeat' with_reducible first |apply And.intro |apply condP<;>intro _
 all_goals first |(show ar _ _=true;kernel_rfl)|(simp only [go_sem, *,okJ]<;>rfl)|rfl |(exfalso;simp_all only [Bool.true_eq_false,Bool.false_eq_true,reduceCtorEq];done)
theorem J8 (x:X):Ct Tryz.prog 93 [.v true x.L] (·=xA x):=by
 refine ak (O:=ai eJ) (by kernel_rfl) a7 (fun w=>aa bk _ w) [] 300 8 [.cell 2 30] Tryz.func93 rfl Tryz.ntmps93 (by rw [Tryz.results93]) (by simp) rfl (fun hsm=>?_)
 simp (maxSteps:=10000000) only [go_sem,seval,X.eta,J.eta,Q.eta,cu,cw,aZ,a5,bN,↓bu,aT,reduceCtorEq]
 repeat' with_reducible first |apply And.intro |apply condP<;>intro _
 all_goals first |(show ar _ _=true;kernel_rfl)|(simp only [go_sem, *,X.L]<;>rfl)|rfl |(exfalso;simp_all only [Bool.true_eq_false,Bool.false_eq_true,reduceCtorEq];done)
theorem Of (x:X) (x1:X):Ct Tryz.prog 135 [.v true x.L,.v true x1.L] (·=xA (uD x x1)):=by
 refine ak (O:=ai (dL)) (by kernel_rfl) a7 (fun w=>aa (fy) _ w) [] 300 11 [.cell 4 30] Tryz.func135 rfl Tryz.ntmps135 (by rw [Tryz.results135]) (by simp) rfl (fun hsm=>?_)
 simp (maxSteps:=10000000) only [go_sem,seval,X.eta,J.eta,Q.eta,cu,cw,aZ,a5,bN,↓bu,aT,reduceCtorEq,dL]
 repeat' with_reducible first |apply And.intro |apply condP<;>intro _
 all_goals first |(show ar _ _=true;kernel_rfl)|(simp only [go_sem, *,uD,X.L]<;>rfl)|rfl |(exfalso;simp_all only [Bool.true_eq_false,Bool.false_eq_true,reduceCtorEq];done)
theorem Oi (j:J) (j1:J):Ct Tryz.prog 152 [.v true j.L,.v true j1.L] (·=bA (oQ j j1)):=by
 refine ak (O:=ai (ql)) (by kernel_rfl) a7 (fun w=>aa (vk) _ w) [] 300 17 [.tmp 4] Tryz.func152 rfl Tryz.ntmps152 (by rw [Tryz.results152]) (by simp) rfl (fun hsm=>?_)
 simp (maxSteps:=10000000) only [go_sem,seval,X.eta,J.eta,Q.eta,cu,cw,aZ,a5,bN,↓bu,aT,reduceCtorEq,ql]
 repeat' with_reducible first |apply And.intro |apply condP<;>intro _
 all_goals first |(show ar _ _=true;kernel_rfl)|(simp only [go_sem, *,oQ]<;>rfl)|rfl |(exfalso;simp_all only [Bool.true_eq_false,Bool.false_eq_true,reduceCtorEq];done)
theorem QJ (j:J):Ct Tryz.prog 180 [.v true j.L] (·=bA (mf j)):=by
 refine ak (O:=ai (lR)) (by kernel_rfl) a7 (fun w=>aa (pk) _ w) [] 300 13 [.tmp 2] Tryz.func180 rfl Tryz.ntmps180 (by rw [Tryz.results180]) (by simp) rfl (fun hsm=>?_)
 simp (maxSteps:=10000000) only [go_sem,seval,X.eta,J.eta,Q.eta,cu,cw,aZ,a5,bN,↓bu,aT,reduceCtorEq,lR]
 repeat' with_reducible first |apply And.intro |apply condP<;>intro _
 all_goals first |(show ar _ _=true;kernel_rfl)|(simp only [go_sem, *,mf]<;>rfl)|rfl |(exfalso;simp_all only [Bool.true_eq_false,Bool.false_eq_true,reduceCtorEq];done)
noncomputable def bQ:b9:=one 90 (gJ fun j=>(True,bA (okJ j)))
theorem dJ:TbOK Tryz.prog bQ:=aH (aX Tryz.func90 (by kernel_rfl) rfl) fun args e h hp=>by obtain ⟨j,rfl,rfl⟩:=oM h;exact Ka j
noncomputable def ky:b9:=one 93 (gN fun x=>(True,xA x))
theorem ph:TbOK Tryz.prog ky:=aH (aX Tryz.func93 (by kernel_rfl) rfl) fun args e h hp=>by obtain ⟨x,rfl,rfl⟩:=pw h;exact J8 x
noncomputable def m9:b9:=one 135 (ur fun x x1=>(True,xA (uD x x1)))
theorem sf:TbOK Tryz.prog m9:=aH (aX Tryz.func135 (by kernel_rfl) rfl) fun args e h hp=>by obtain ⟨x,x1,rfl,rfl⟩:=lE h;exact Of x x1
noncomputable def EC:b9:=one 152 (l5 fun j j1=>(True,bA (oQ j j1)))
theorem xb:TbOK Tryz.prog EC:=aH (aX Tryz.func152 (by kernel_rfl) rfl) fun args e h hp=>by obtain ⟨j,j1,rfl,rfl⟩:=iL h;exact Oi j j1
noncomputable def fW:b9:=one 180 (gJ fun j=>(True,bA (mf j)))
theorem qk:TbOK Tryz.prog fW:=aH (aX Tryz.func180 (by kernel_rfl) rfl) fun args e h hp=>by obtain ⟨j,rfl,rfl⟩:=oM h;exact QJ j
theorem SA (j:J) (j1:J):Ct Tryz.prog 114 [.v true j.L,.v true j1.L] (·=bA (Kc j j1)):=by
 refine ak (O:=ai (aF bQ (dL))) (by kernel_rfl) a7 (fun w=>aa (ab dJ (fy)) _ w) [] 300 27 [.tmp 4] Tryz.func114 rfl Tryz.ntmps114 (by rw [Tryz.results114]) (by simp) rfl (fun hsm=>?_)
 simp (maxSteps:=10000000) only [go_sem,seval,X.eta,J.eta,Q.eta,cu,cw,aZ,a5,bN,↓bu,aT,reduceCtorEq,bQ,dL]
 repeat' with_reducible first |apply And.intro |apply condP<;>intro _
 all_goals first |(show ar _ _=true;kernel_rfl)|(simp only [go_sem, *,Kc]<;>rfl)|rfl |(exfalso;simp_all only [Bool.true_eq_false,Bool.false_eq_true,reduceCtorEq];done)
theorem SB (x:X):Ct Tryz.prog 34 [.v true x.L] (·=jA ⟨x,x⟩):=by
 refine ak (O:=ai (ky)) (by kernel_rfl) a7 (fun w=>aa (ph) _ w) [] 300 8 [.cell 2 32] Tryz.func34 rfl Tryz.ntmps34 (by rw [Tryz.results34]) (by simp) rfl (fun hsm=>?_)
 simp (maxSteps:=10000000) only [go_sem,seval,X.eta,J.eta,Q.eta,cu,cw,aZ,a5,bN,↓bu,aT,reduceCtorEq,ky]
 repeat' with_reducible first |apply And.intro |apply condP<;>intro _
 all_goals first |(show ar _ _=true;kernel_rfl)|(simp only [go_sem, *,J.L]<;>rfl)|rfl |(exfalso;simp_all only [Bool.true_eq_false,Bool.false_eq_true,reduceCtorEq];done)
theorem QG (j:J):Ct Tryz.prog 77 [.v true j.L] (·=xA (iD j)):=by
 refine ak (O:=ai (aF bQ (aF nd (m9)))) (by kernel_rfl) a7 (fun w=>aa (ab dJ (ab qX (sf))) _ w) [] 300 14 [.cell 2 30] Tryz.func77 rfl Tryz.ntmps77 (by rw [Tryz.results77]) (by simp) rfl (fun hsm=>?_)
 simp (maxSteps:=10000000) only [go_sem,seval,X.eta,J.eta,Q.eta,cu,cw,aZ,a5,bN,↓bu,aT,reduceCtorEq,bQ,nd,m9]
 repeat' with_reducible first |apply And.intro |apply condP<;>intro _
 all_goals first |(show ar _ _=true;kernel_rfl)|(simp only [go_sem, *,iD,zX,X.L]<;>rfl)|rfl |(exfalso;simp_all only [Bool.true_eq_false,Bool.false_eq_true,reduceCtorEq];done)
noncomputable def Na:b9:=one 114 (l5 fun j j1=>(True,bA (Kc j j1)))
theorem Ce:TbOK Tryz.prog Na:=aH (aX Tryz.func114 (by kernel_rfl) rfl) fun args e h hp=>by obtain ⟨j,j1,rfl,rfl⟩:=iL h;exact SA j j1
noncomputable def jW:b9:=one 34 (gN fun x=>(True,jA ⟨x,x⟩))
theorem nQ:TbOK Tryz.prog jW:=aH (aX Tryz.func34 (by kernel_rfl) rfl) fun args e h hp=>by obtain ⟨x,rfl,rfl⟩:=pw h;exact SB x
noncomputable def pg:b9:=one 77 (gJ fun j=>(True,xA (iD j)))
theorem sd:TbOK Tryz.prog pg:=aH (aX Tryz.func77 (by kernel_rfl) rfl) fun args e h hp=>by obtain ⟨j,rfl,rfl⟩:=oM h;exact QG j
end Go.Proofs.YtpacpmmdjmnamaaGreatDoor
