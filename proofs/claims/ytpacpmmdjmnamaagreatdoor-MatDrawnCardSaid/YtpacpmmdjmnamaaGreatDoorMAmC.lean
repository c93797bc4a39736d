/- The document's sums, differences, products: intervals and numbers; no quotients. -/
import Derived.Test.YtpacpmmdjmnamaaGreatDoorMAl2
import Derived.Test.YtpacpmmdjmnamaaGreatDoorMAi4
namespace Go.Proofs.YtpacpmmdjmnamaaGreatDoor
open Go.RowKit Nx
set_option linter.unusedVariables false
set_option linter.unusedSimpArgs false
set_option maxRecDepth 100000
set_option maxHeartbeats 4000000
attribute [local go_sem] X.eta J.eta Q.eta cu cw aZ a5 bN eZ dU hd1 pick ax aT dQ cntF nmL o8 nmA tn tR bB pH cT bO rp Int.toNat_zero decide_eq_true_eq eH eU rf rh BEq.rfl beq_self_eq_true Int.natCast_zero ge_iff_le gt_iff_lt Int.le_refl Nat.zero_mul Nat.one_mul Nat.zero_add Nat.zero_lt_succ Nat.lt_add_one Nat.le_refl List.append_eq Int.toNat_natCast uc dM cV dS cW bP cp bne_self_eq_false wr2 Eo Ep Er Es Et Eu gB gP zu Eh Ei ry jC tY nw ox m7 qg g9 cU iP dz jM Lc.up AA BO pY List.replicate_succ List.replicate_zero List.flatten_cons List.flatten_nil Int.ofNat_lt Int.cast_ofNat_Int Int.ofNat_eq_natCast List.isEmpty_nil List.isEmpty_cons and_false false_and List.cons_ne_nil Nat.add_zero ite_true ite_false if_true if_false Nat.le_zero_eq eq_self
attribute [local go_sem ↓] bu fc fd gG gH gT gU dR eu gW gX gK gL gR gS gw gD gO gQ
attribute [local irreducible] ar
theorem O7 (j j1:J) (z1:Int):Ct Tryz.prog 160 [iA 0,.v true j.L,.v true j1.L,iA z1] (·=iY (ft 0 j j1 z1)):=by
 refine ak (O:=ai (aF aj (aF eW (aF bM (aF bp (aF cG ja)))))) (by kernel_rfl) be (fun w=>aa (ab aG (ab jB (ab dp (ab db (ab fi mz))))) _ w) [] 1500 110 [.cell 8 32,.tmp 9] Tryz.func160 rfl Tryz.ntmps160 (by rw [Tryz.results160]) (by simp) rfl (fun hsm=>?_)
 have g0:GJ j:=⟨hsm.2.1.2.2.1.1,hsm.2.1.2.2.2.2.2.1.1⟩
 have g1:GJ j1:=⟨hsm.2.2.1.2.2.1.1,hsm.2.2.1.2.2.2.2.2.1.1⟩
 simp (maxSteps:=10000000) only [go_sem,seval,reduceCtorEq,aj,eW,bM,bp,cG,ja,nn,t7,gV,kc,zJ,zX]
 repeat' with_reducible first |apply And.intro |apply condP<;>intro _
 all_goals try first |with_reducible exact nD (by assumption)|with_reducible exact nC (by assumption)|with_reducible exact jQ (by assumption)|with_reducible exact iX (kX g0 (by assumption))|with_reducible exact iX (kX g1 (by assumption))|with_reducible exact iX (kW g0 (by assumption))|with_reducible exact iX (kW g1 (by assumption))|with_reducible exact oS (g7 (kX g0 (by assumption)) (kX g1 (by assumption)))|with_reducible exact mQ (jQ (by assumption)) _ (g7 (kX g0 (by assumption)) (kX g1 (by assumption)))|with_reducible exact oS (g7 (kW g0 (by assumption)) (kW g1 (by assumption)))|with_reducible exact mQ (jQ (by assumption)) _ (g7 (kW g0 (by assumption)) (kW g1 (by assumption)))
 all_goals first |(show ar _ _=true;kernel_rfl)|assumption |(simp only [go_sem, *,ft,zJ,zX]<;>rfl)|rfl |(exfalso;simp_all only [Bool.true_eq_false,Bool.false_eq_true,reduceCtorEq];done)
theorem O8 (j j1:J) (z1:Int):Ct Tryz.prog 160 [iA 1,.v true j.L,.v true j1.L,iA z1] (·=iY (ft 1 j j1 z1)):=by
 refine ak (O:=ai (aF aj (aF eW (aF bM (aF i9 (aF cG ja)))))) (by kernel_rfl) be (fun w=>aa (ab aG (ab jB (ab dp (ab mw (ab fi mz))))) _ w) [] 1500 110 [.cell 8 32,.tmp 9] Tryz.func160 rfl Tryz.ntmps160 (by rw [Tryz.results160]) (by simp) rfl (fun hsm=>?_)
 have g0:GJ j:=⟨hsm.2.1.2.2.1.1,hsm.2.1.2.2.2.2.2.1.1⟩
 have g1:GJ j1:=⟨hsm.2.2.1.2.2.1.1,hsm.2.2.1.2.2.2.2.2.1.1⟩
 simp (maxSteps:=10000000) only [go_sem,seval,reduceCtorEq,aj,eW,bM,i9,cG,ja,nn,t7,gV,kc,zJ,zX]
 repeat' with_reducible first |apply And.intro |apply condP<;>intro _
 all_goals try first |with_reducible exact nD (by assumption)|with_reducible exact nC (by assumption)|with_reducible exact jQ (by assumption)|with_reducible exact iX (kX g0 (by assumption))|with_reducible exact iX (kX g1 (by assumption))|with_reducible exact iX (kW g0 (by assumption))|with_reducible exact iX (kW g1 (by assumption))|with_reducible exact oS (jS (kX g0 (by assumption)) (kW g1 (by assumption)))|with_reducible exact mQ (jQ (by assumption)) _ (jS (kX g0 (by assumption)) (kW g1 (by assumption)))|with_reducible exact oS (jS (kW g0 (by assumption)) (kX g1 (by assumption)))|with_reducible exact mQ (jQ (by assumption)) _ (jS (kW g0 (by assumption)) (kX g1 (by assumption)))
 all_goals first |(show ar _ _=true;kernel_rfl)|assumption |(simp only [go_sem, *,ft,zJ,zX]<;>rfl)|rfl |(exfalso;simp_all only [Bool.true_eq_false,Bool.false_eq_true,reduceCtorEq];done)
theorem O9 (j j1:J) (z1:Int):Ct Tryz.prog 160 [iA 2,.v true j.L,.v true j1.L,iA z1] (·=iY (ft 2 j j1 z1)):=by
 refine ak (O:=ai (aF aj (aF eW (aF bM (aF kM (aF lz (aF cG ja))))))) (by kernel_rfl) be (fun w=>aa (ab aG (ab jB (ab dp (ab oG (ab qm (ab fi mz)))))) _ w) [] 1500 110 [.cell 8 32,.tmp 9] Tryz.func160 rfl Tryz.ntmps160 (by rw [Tryz.results160]) (by simp) rfl (fun hsm=>?_)
 have g0:GJ j:=⟨hsm.2.1.2.2.1.1,hsm.2.1.2.2.2.2.2.1.1⟩
 have g1:GJ j1:=⟨hsm.2.2.1.2.2.1.1,hsm.2.2.1.2.2.2.2.2.1.1⟩
 simp (maxSteps:=10000000) only [go_sem,seval,reduceCtorEq,aj,eW,bM,kM,lz,cG,ja,nn,t7,gV,kc,zJ,zX]
 repeat' with_reducible first |apply And.intro |apply condP<;>intro _
 all_goals try first |with_reducible exact nD (by assumption)|with_reducible exact nC (by assumption)|with_reducible exact jQ (by assumption)|with_reducible exact iX (kX g0 (by assumption))|with_reducible exact iX (kX g1 (by assumption))|with_reducible exact iX (kW g0 (by assumption))|with_reducible exact iX (kW g1 (by assumption))|with_reducible exact kX g0 (by assumption)|with_reducible exact kX g1 (by assumption)|with_reducible exact kW g0 (by assumption)|with_reducible exact kW g1 (by assumption)|with_reducible exact oS (BW (qf (kX g0 (by assumption)) (kW g0 (by assumption)) (kX g1 (by assumption)) (kW g1 (by assumption))))|with_reducible exact mQ (jQ (by assumption)) _ (BW (qf (kX g0 (by assumption)) (kW g0 (by assumption)) (kX g1 (by assumption)) (kW g1 (by assumption))))|with_reducible exact oS (BW (yF (kX g0 (by assumption)) (kW g0 (by assumption)) (kX g1 (by assumption)) (kW g1 (by assumption))))|with_reducible exact mQ (jQ (by assumption)) _ (BW (yF (kX g0 (by assumption)) (kW g0 (by assumption)) (kX g1 (by assumption)) (kW g1 (by assumption))))
 all_goals first |(show ar _ _=true;kernel_rfl)|assumption |(simp only [go_sem, *,ft,zJ,zX]<;>rfl)|rfl |(exfalso;simp_all only [Bool.true_eq_false,Bool.false_eq_true,reduceCtorEq];done)
noncomputable def aU:b9:=one 160 (lj fun k j j1 z=>(k=0∨k=1∨k=2,iY (ft k j j1 z)))
theorem dh:TbOK Tryz.prog aU:=aH (aX Tryz.func160 (by kernel_rfl) rfl) fun args e h hp=>by
 obtain ⟨k,j,j1,z,rfl,rfl⟩:=Gn h
 rcases hp with rfl |rfl |rfl
 ·exact O7 j j1 z
 ·exact O8 j j1 z
 ·exact O9 j j1 z
def qp (z:Int) (a b:X):Bool:=bif a.ok then (bif b.ok then (bif decide (z<8) then true else decide (256<z)) else true) else true
theorem badB_not {z:Int} {a b:X}:qp z a b=false↔a.ok=true∧b.ok=true∧prb z=true:=by
 unfold qp prb
 cases a.ok<;>cases b.ok<;>by_cases h1:z<8<;>by_cases h2:256<z<;>simp [h1,h2]<;>omega
theorem Sc (z:Int) (a b:X):Ct Tryz.prog 164 [iA z,qi [a,b]] (·=bA (qp z a b)):=by
 refine ak (O:=ai kL) (by kernel_rfl) be (fun w=>aa oF _ w) [] 1500 24 [.tmp 4] Tryz.func164 rfl Tryz.ntmps164 (by rw [Tryz.results164]) (by simp) rfl (fun hsm=>?_)
 simp (maxSteps:=10000000) only [go_sem,seval,reduceCtorEq,kL]
 repeat' with_reducible first |apply And.intro |apply condP<;>intro _
 all_goals first |(show ar _ _=true;kernel_rfl)|assumption |(simp only [go_sem, *,qp]<;>rfl)|rfl |(exfalso;simp_all only [Bool.true_eq_false,Bool.false_eq_true,reduceCtorEq];done)
def CV (k:Int→X→X→Prop×AV):List AV→Option (Prop×AV)
 |[.v false [.lit (.int .i64 z)],x]=>(match tY x with
  |some [a,b]=>some (k z a b)
  |_=>none)
 |_=>none
noncomputable def iH:b9:=one 164 (CV fun z a b=>(True,bA (qp z a b)))
theorem lc:TbOK Tryz.prog iH:=aH (aX Tryz.func164 (by kernel_rfl) rfl) fun args e h hp=>by
 unfold CV at h
 split at h
 ·split at h
  ·rename_i z x _ a b hx
   injection h with h;subst h
   exact (Sc z a b).of fun ρ D w=>RA.c (fun u h=>h) (RA.c (fun u=>Fj hx) fun us h=>h)
  ·cases h
 ·cases h
def Gp (k:Int→Q→Q→Prop×AV):List AV→Option (Prop×AV)
 |[.v false [.lit (.int .i64 z)],.v true mq,.v true mq1]=>(match e7 mq,e7 mq1 with
  |some q,some q1=>some (k z q q1)
  |_,_=>none)
 |_=>none
theorem J2 {k:Int→Q→Q→Prop×AV} {args:List AV} {e:Prop×AV} (h:Gp k args=some e):∃ z q q1,args=[iA z,.v true (vL q),.v true (vL q1)]∧e=k z q q1:=by
 unfold Gp at h
 split at h
 ·rename_i z mq mq1
  obtain ⟨q,q1,h1,h2⟩:=qw (k:=k z) (args:=[.v true mq,.v true mq1]) h
  injection h1 with h3 h1;injection h1 with h4 h1
  exact ⟨z,q,q1,by rw [h3,h4],h2⟩
 ·cases h
theorem Sd (q q1:Q) (h:Vb q) (h1:Vb q1):Ct Tryz.prog 167 [iA 0,.v true (vL q),.v true (vL q1)] (·= .v true (vL (plus q q1))):=by
 refine ak (O:=ai (aF bp i9)) (by kernel_rfl) be (fun w=>aa (ab db mw) _ w) [] 1500 21 [.cell 6 127] Tryz.func167 rfl Tryz.ntmps167 (by rw [Tryz.results167]) (by simp) rfl (fun hsm=>?_)
 simp (maxSteps:=10000000) only [go_sem,seval,reduceCtorEq,bp,i9,t7]
 repeat' with_reducible first |apply And.intro |apply condP<;>intro _
 all_goals first |(show ar _ _=true;kernel_rfl)|assumption |(simp only [go_sem, *]<;>rfl)|rfl |(exfalso;simp_all only [Bool.true_eq_false,Bool.false_eq_true,reduceCtorEq];done)
theorem Se (q q1:Q) (h:Vb q) (h1:Vb q1):Ct Tryz.prog 167 [iA 1,.v true (vL q),.v true (vL q1)] (·= .v true (vL (minus q q1))):=by
 refine ak (O:=ai (aF bp i9)) (by kernel_rfl) be (fun w=>aa (ab db mw) _ w) [] 1500 21 [.cell 6 127] Tryz.func167 rfl Tryz.ntmps167 (by rw [Tryz.results167]) (by simp) rfl (fun hsm=>?_)
 simp (maxSteps:=10000000) only [go_sem,seval,reduceCtorEq,bp,i9,t7]
 repeat' with_reducible first |apply And.intro |apply condP<;>intro _
 all_goals first |(show ar _ _=true;kernel_rfl)|assumption |(simp only [go_sem, *]<;>rfl)|rfl |(exfalso;simp_all only [Bool.true_eq_false,Bool.false_eq_true,reduceCtorEq];done)
noncomputable def kI:b9:=one 167 (Gp fun k q q1=>((k=0∨k=1)∧Vb q∧Vb q1,.v true (vL (bif k==0 then plus q q1 else minus q q1))))
theorem oD:TbOK Tryz.prog kI:=aH (aX Tryz.func167 (by kernel_rfl) rfl) fun args e h hp=>by
 obtain ⟨k,q,q1,rfl,rfl⟩:=J2 h
 obtain ⟨hk,h1,h2⟩:=hp
 rcases hk with rfl |rfl
 ·exact Sd q q1 h1 h2
 ·exact Se q q1 h1 h2
theorem Tr {z:Int} (h:fO z=true):kf z=true:=by
 simp only [fO,decide_eq_true_eq] at h
 unfold kf
 rw [decide_eq_true h.1,decide_eq_true h.2];rfl
theorem yh {g:Q→Q→Q×Int} {z:Int} {x x1:X} (h:qp z x x1=true):dZ g z x x1=(q0,1):=by
 unfold dZ ng
 rw [if_neg]
 intro hc
 rw [Bool.and_eq_true,Bool.and_eq_true] at hc
 have:qp z x x1=false:=badB_not.2 ⟨hc.1.1,hc.1.2,by rw [jD];exact Tr hc.2⟩
 rw [this] at h;cases h
theorem PD (x x1:X) (z:Int) (b:Bool) (h:qp z x x1=true):Ct Tryz.prog 111 [iA 0,xA x,xA x1,iA z,bA b] (·=tS (q0,1)):=by
 refine ak (O:=ai iH) (by kernel_rfl) be (fun w=>aa lc _ w) [] 1500 49 [.cell 10 30,.tmp 11] Tryz.func111 rfl Tryz.ntmps111 (by rw [Tryz.results111]) (by simp) rfl (fun hsm=>?_)
 simp (maxSteps:=10000000) only [go_sem,seval,reduceCtorEq,iH,CV,h,zX]
 repeat' with_reducible first |apply And.intro |apply condP<;>intro _
 all_goals first |(show ar _ _=true;kernel_rfl)|assumption |(simp only [go_sem, *,RH,zX,tS]<;>rfl)|rfl |(exfalso;simp_all only [Bool.true_eq_false,Bool.false_eq_true,reduceCtorEq];done)
theorem PE (x x1:X) (z:Int) (b:Bool) (h:qp z x x1=false):Ct Tryz.prog 111 [iA 0,xA x,xA x1,iA z,bA b] (·=tS (res (rnd z.toNat b (plus x.q x1.q)))):=by
 refine ak (O:=ai (aF iH (aF bM (aF kI (aF cG aO))))) (by kernel_rfl) be (fun w=>aa (ab lc (ab dp (ab oD (ab fi bY)))) _ w) [] 1500 49 [.cell 10 30,.tmp 11] Tryz.func111 rfl Tryz.ntmps111 (by rw [Tryz.results111]) (by simp) rfl (fun hsm=>?_)
 obtain ⟨hx,hx1,hz⟩:=badB_not.1 h
 have v0:=ey hx hsm.2.1.2.2.1.1
 have v1:=ey hx1 hsm.2.2.1.2.2.1.1
 have b0:=iX v0
 have b1:=iX v1
 have hp:=jQ hz
 have w0:=oS (g7 v0 v1)
 have w1:=mQ hp b (g7 v0 v1)
 simp (maxSteps:=10000000) only [go_sem,seval,reduceCtorEq,iH,bM,kI,cG,aO,CV,Gp,h,nn,gV]
 repeat' with_reducible first |apply And.intro |apply condP<;>intro _
 all_goals first |(show ar _ _=true;kernel_rfl)|assumption |(simp only [go_sem, *,tS]<;>rfl)|rfl |(exfalso;simp_all only [Bool.true_eq_false,Bool.false_eq_true,reduceCtorEq];done)
theorem Sg (x x1:X) (z:Int) (b:Bool):Ct Tryz.prog 111 [iA 0,xA x,xA x1,iA z,bA b] (·=tS (dZ (gk 0 z b) z x x1)):=by
 cases h:qp z x x1 with
 |true=>rw [yh h];exact PD x x1 z b h
 |false=>
  obtain ⟨hx,hx1,hz⟩:=badB_not.1 h
  rw [iS hx hx1 (by rw [←jD];exact hz),N8]
  exact PE x x1 z b h
theorem PF (x x1:X) (z:Int) (b:Bool) (h:qp z x x1=true):Ct Tryz.prog 111 [iA 1,xA x,xA x1,iA z,bA b] (·=tS (q0,1)):=by
 refine ak (O:=ai iH) (by kernel_rfl) be (fun w=>aa lc _ w) [] 1500 49 [.cell 10 30,.tmp 11] Tryz.func111 rfl Tryz.ntmps111 (by rw [Tryz.results111]) (by simp) rfl (fun hsm=>?_)
 simp (maxSteps:=10000000) only [go_sem,seval,reduceCtorEq,iH,CV,h,zX]
 repeat' with_reducible first |apply And.intro |apply condP<;>intro _
 all_goals first |(show ar _ _=true;kernel_rfl)|assumption |(simp only [go_sem, *,RH,zX,tS]<;>rfl)|rfl |(exfalso;simp_all only [Bool.true_eq_false,Bool.false_eq_true,reduceCtorEq];done)
theorem PG (x x1:X) (z:Int) (b:Bool) (h:qp z x x1=false):Ct Tryz.prog 111 [iA 1,xA x,xA x1,iA z,bA b] (·=tS (res (rnd z.toNat b (minus x.q x1.q)))):=by
 refine ak (O:=ai (aF iH (aF bM (aF kI (aF cG aO))))) (by kernel_rfl) be (fun w=>aa (ab lc (ab dp (ab oD (ab fi bY)))) _ w) [] 1500 49 [.cell 10 30,.tmp 11] Tryz.func111 rfl Tryz.ntmps111 (by rw [Tryz.results111]) (by simp) rfl (fun hsm=>?_)
 obtain ⟨hx,hx1,hz⟩:=badB_not.1 h
 have v0:=ey hx hsm.2.1.2.2.1.1
 have v1:=ey hx1 hsm.2.2.1.2.2.1.1
 have b0:=iX v0
 have b1:=iX v1
 have hp:=jQ hz
 have w0:=oS (jS v0 v1)
 have w1:=mQ hp b (jS v0 v1)
 simp (maxSteps:=10000000) only [go_sem,seval,reduceCtorEq,iH,bM,kI,cG,aO,CV,Gp,h,nn,gV]
 repeat' with_reducible first |apply And.intro |apply condP<;>intro _
 all_goals first |(show ar _ _=true;kernel_rfl)|assumption |(simp only [go_sem, *,tS]<;>rfl)|rfl |(exfalso;simp_all only [Bool.true_eq_false,Bool.false_eq_true,reduceCtorEq];done)
theorem Sh (x x1:X) (z:Int) (b:Bool):Ct Tryz.prog 111 [iA 1,xA x,xA x1,iA z,bA b] (·=tS (dZ (gk 1 z b) z x x1)):=by
 cases h:qp z x x1 with
 |true=>rw [yh h];exact PF x x1 z b h
 |false=>
  obtain ⟨hx,hx1,hz⟩:=badB_not.1 h
  rw [iS hx hx1 (by rw [←jD];exact hz),Sz]
  exact PG x x1 z b h
def kQ (k:Int→X→X→Int→Bool→Prop×AV):List AV→Option (Prop×AV)
 |[.v false [.lit (.int .i64 kd)],.v true mx,.v true mx1,.v false [.lit (.int .i64 z)],.v false [.lit (.bool b)]]=>(match fK mx,fK mx1 with
  |some x,some x1=>some (k kd x x1 z b)
  |_,_=>none)
 |_=>none
theorem CU {k:Int→X→X→Int→Bool→Prop×AV} {args:List AV} {e:Prop×AV} (h:kQ k args=some e):∃ kd x x1 z b,args=[iA kd,.v true x.L,.v true x1.L,iA z,bA b]∧e=k kd x x1 z b:=by
 unfold kQ at h
 split at h
 ·split at h
  ·rename_i kd mx mx1 z b _ _ x x1 hx hx1
   injection h with h;subst h
   exact ⟨kd,x,x1,z,b,by rw [iI hx,iI hx1],rfl⟩
  ·cases h
 ·cases h
noncomputable def cd:b9:=one 111 (kQ fun kd x x1 z b=>(kd=0∨kd=1,tS (dZ (gk kd z b) z x x1)))
theorem kK:TbOK Tryz.prog cd:=aH (aX Tryz.func111 (by kernel_rfl) rfl) fun args e h hp=>by
 obtain ⟨kd,x,x1,z,b,rfl,rfl⟩:=CU h
 rcases hp with rfl |rfl
 ·exact Sg x x1 z b
 ·exact Sh x x1 z b
end Go.Proofs.YtpacpmmdjmnamaaGreatDoor
