/- MatDrawn. -/
import Derived.Test.YtpacpmmdjmnamaaGreatDoorMAoT
import Derived.Test.YtpacpmmdjmnamaaGreatDoorMAo5
namespace Go.Proofs.YtpacpmmdjmnamaaGreatDoor
open Go.RowKit Nx
set_option linter.unusedVariables false
set_option linter.unusedSimpArgs false
attribute [local irreducible] ar
theorem GoodM.sm {s:Nat} {m:List (List J)} (h:GoodM s m):BZ m:=fun r hr j hj=>((h.2 r hr).2 j hj).2
set_option maxRecDepth 100000 in
set_option maxHeartbeats 4000000 in
theorem SY (xs:List Nat) (A:Option Addr) (n c:Nat):Th 3 A n c xs [.s (.lit (.slice A n c))]:=by
 refine OB (O:=bO yM (bO (ib 8 A n c (rK fun k=>(k≤900,iA ((dk xs k%4+1:Nat):Int),k+1))) (bO (ib 9 A n c (qI fun k z=>(1≤z∧z≤100∧k+3*z.toNat*z.toNat≤800,.s (mL (matD xs z.toNat k).1),(matD xs z.toNat k).2))) (bO (ib 10 A n c (rK fun k=>(k≤800,jA (jt xs k).1,(jt xs k).2))) (bO (ib 11 A n c (qI fun k z=>(1≤z∧z≤100∧k+3*z.toNat≤800,.s (.sl true 6 (sbx xs z.toNat k).1.length (bC (sbx xs z.toNat k).1)),(sbx xs z.toNat k).2))) (bO (ib 12 A n c (rK fun k=>(k≤900,iA (pN xs k).1,(pN xs k).2))) (bO (ib 13 A n c (ud kU fun k m=>((∀ r∈m,r.length=m.length∧∀ j∈r,fP j)∧1≤m.length∧m.length≤100∧k+m.length*m.length≤900,.s (qL (vW xs m k).1),(vW xs m k).2))) (ai (aF fV (aF jz (aF oC (aF oB (aF ff (aF gu cN)))))))))))))) (by kernel_rfl) ah (fun w hA hn=>cE H7 (OQ _ _) (cE ce (cz (xs:=xs) (aX Tryz.func8 (by kernel_rfl) rfl) (tj fun k hp=>NK xs k hp) hA hn) (cE ce (cz (xs:=xs) (aX Tryz.func9 (by kernel_rfl) rfl) (fo fun k z hp=>NN hp) hA hn) (cE ce (cz (xs:=xs) (aX Tryz.func10 (by kernel_rfl) rfl) (tj fun k hp=>(kC hp).2.2.2) hA hn) (cE ce (cz (xs:=xs) (aX Tryz.func11 (by kernel_rfl) rfl) (fo fun k z hp=>F6 hp) hA hn) (cE ce (cz (xs:=xs) (aX Tryz.func12 (by kernel_rfl) rfl) (tj fun k hp=>(th hp).2.2.2) hA hn) (cE ce (cz (xs:=xs) (aX Tryz.func13 (by kernel_rfl) rfl) (Ik bi fun k m hp=>JO hp) hA hn) (aa (ab w9 (ab yW (ab Fa (ab E9 (ab ve (ab r7 nc)))))) _ w) (fun d st args=>by simp [bO,cT,ib,yM,ai,aF,eJ,one,fV,jz,oC,oB,ff,gu,cN])) (fun d st args=>by simp [bO,cT,ib,yM,ai,aF,eJ,one,fV,jz,oC,oB,ff,gu,cN])) (fun d st args=>by simp [bO,cT,ib,yM,ai,aF,eJ,one,fV,jz,oC,oB,ff,gu,cN])) (fun d st args=>by simp [bO,cT,ib,yM,ai,aF,eJ,one,fV,jz,oC,oB,ff,gu,cN])) (fun d st args=>by simp [bO,cT,ib,yM,ai,aF,eJ,one,fV,jz,oC,oB,ff,gu,cN])) (fun d st args=>by simp [bO,cT,ib,yM,ai,aF,eJ,one,fV,jz,oC,oB,ff,gu,cN])) (fun d st args=>by simp [bO,cT,ib,yM,ai,aF,eJ,one,fV,jz,oC,oB,ff,gu,cN])) [] 2000 75 [.tmp 2] Tryz.func3 rfl Tryz.ntmps3 (by rw [Tryz.results3]) (by simp) rfl (fun hsm hs=>?_)
 have hq:dk xs 0%4≤3:=by omega
 generalize hd:dk xs 0%4=q at hq
 obtain ⟨s1,s2⟩:=Tv hq
 have ga:=uC (xs:=xs) (m:=q+1) (k:=1) (by omega)
 have ua:=oc (xs:=xs) (m:=q+1) (k:=1) (i:=q+1) (Nat.le_refl _) (by omega)
 replace ua:1≤(matD xs (q+1) 1).2∧(matD xs (q+1) 1).2≤1+3*(q+1)*(q+1):=ua
 generalize hpa:matD xs (q+1) 1=pa at ga ua
 obtain ⟨a,k1⟩:=pa
 replace ua:1≤k1∧k1≤1+3*(q+1)*(q+1):=ua
 replace ga:GoodM (q+1) a:=ga
 have wa:k1≤49:=by omega
 have gb:=uC (xs:=xs) (m:=q+1) (k:=k1) (by omega)
 have ub:=oc (xs:=xs) (m:=q+1) (k:=k1) (i:=q+1) (Nat.le_refl _) (by omega)
 replace ub:k1≤(matD xs (q+1) k1).2∧(matD xs (q+1) k1).2≤k1+3*(q+1)*(q+1):=ub
 generalize hpb:matD xs (q+1) k1=pb at gb ub
 obtain ⟨b,k2⟩:=pb
 replace ub:k1≤k2∧k2≤k1+3*(q+1)*(q+1):=ub
 replace gb:GoodM (q+1) b:=gb
 have wb:k2≤97:=by omega
 obtain ⟨⟨gx,fx⟩,ux,tx,_⟩:=kC (xs:=xs) (k:=k2) (by omega)
 generalize hpx:jt xs k2=px at gx fx ux tx
 obtain ⟨x,k3⟩:=px
 replace gx:fP x:=gx
 replace tx:k3≤k2+3:=tx
 have wx:k3≤100:=by omega
 obtain ⟨lv,gv,uv,tv⟩:=nH (xs:=xs) (m:=q+1) (k:=k3) (by omega)
 generalize hpv:sbx xs (q+1) k3=pv at lv gv uv tv
 obtain ⟨v,k4⟩:=pv
 replace lv:v.length=q+1:=lv
 replace gv:∀ j∈v,fP j∧rZ j:=gv
 replace tv:k4≤k3+3*(q+1):=tv
 have wv:k4≤112:=by omega
 obtain ⟨gz,uz,tz,_⟩:=th (xs:=xs) (k:=k4) (by omega)
 generalize hpz:pN xs k4=pz at gz uz tz
 obtain ⟨z,k5⟩:=pz
 replace gz:kf z=true:=gz
 replace tz:k5≤k4+2:=tz
 have wz:k5≤114:=by omega
 have hpts:=GD (xs:=xs) (k:=k5) ga (by omega)
 generalize hpi:vW xs a k5=pi at hpts
 obtain ⟨ps,k6⟩:=pi
 replace hpts:PtsM (q+1) a ps:=hpts
 have la:=ga.1
 have lb:=gb.1
 have lp:=hpts.1
 have ra:=ga.right (by omega) (by omega)
 have ia:=GA ga (by omega) (by omega)
 have ip:=O2 ga hpts (by omega) (by omega)
 have fa:=ga.sm
 have fb:=gb.sm
 have fb2:BZ (b.take q):=fun r hr=>fb r (List.mem_of_mem_take hr)
 have fv:∀ j∈v,GJ j:=fun j hj=>(gv j hj).1.2
 have fv2:∀ j∈v.take q,GJ j:=fun j hj=>fv j (List.mem_of_mem_take hj)
 have fx:GJ x:=gx.2
 have hw:IntKind.i64.wrap (((q+1:Nat):Int) - 1)=(q:Int):=by rw [IntKind.wrap_i64];omega
 have eB:Lf.sl true 1 q (List.take q (List.map rC b))=mL (b.take q):=by unfold mL;rw [List.length_take,lb,Nat.min_eq_left (by omega),List.map_take]
 have eV:Lf.sl true 6 q (List.take (q*6) (bC v))= .sl true 6 (v.take q).length (bC (v.take q)):=by rw [List.length_take,lv,Nat.min_eq_left (by omega),Jr]
 have c1:(q≤b.length)=True:=eq_true (by omega)
 have c2:(q≤v.length)=True:=eq_true (by omega)
 have c3:(0≤(q:Int))=True:=eq_true (by omega)
 have c4:(0≤q)=True:=eq_true (Nat.zero_le q)
 have p1:(1:Int)≤((q+1:Nat):Int):=by omega
 have p2:((q+1:Nat):Int)≤100:=by omega
 have p3:1+3*(q+1)*(q+1)≤800:=by omega
 have p4:k1+3*(q+1)*(q+1)≤800:=by omega
 have p5:∀ r∈a,r.length=a.length∧∀ j∈r,fP j:=fun r hr=>⟨by rw [la];exact (ga.2 r hr).1,(ga.2 r hr).2⟩
 have p6:k5+a.length*a.length≤900:=by rw [la];omega
 have p7:∀ r∈ps,r.length≤6:=fun r hr=>by
  obtain ⟨i,hi,e⟩:=List.getElem_of_mem hr
  have e:ps.getD i []=r:=by rw [List.getD_eq_getElem?_getD,List.getElem?_eq_getElem hi,e];rfl
  rw [←e,(hpts.2 i (by omega)).1];omega
 have p8:∀ r∈ps,r.length≤100:=fun r hr=>Nat.le_trans (p7 r hr) (by omega)
 have p9:∀ r∈a,r.length≤1000:=fun r hr=>by rw [(ga.2 r hr).1];omega
 have pA:∀ r∈ps.map poi,r.length≤6:=fun r hr=>by rw [(hpts.good.2 r hr).1];omega
 have pB:∀ r∈ps.map poi,r.length≤1000:=fun r hr=>by rw [(hpts.good.2 r hr).1];omega
 have pC':(ps.map poi).length=q+1:=hpts.good.1
 clear s1 s2 ua ub ux tx uv tv uz tz hpts ga gb gx gv gz
 simp (maxSteps:=10000000) only [run,seval,ji,X.L,J.L,vL,X.eta,J.eta,Q.eta,List.cons_append,List.nil_append,tZ,cu,cw,aZ,a5,bN,Aa,kN,tX,m6,bR,eG,dH,eF,eE,iV,iU,jx,jy,il,I3,qE,okO,v8,I8,ju,jw,iW,inL,bH,bx,dom,kV,tQ,Bb,evd,okeys,look,lZ,lC,jG,j7,lenOf,ri,vE,MN,xG,MT,rc,LO,MP,Em,MS,MQ,yN,MR,I9,ru,yw,rv,yx,cZ,Dy,keysOf,ai,mn,po,rj,olA,olL,Ej,Bt,qu,Cp,aF,↓cond_true,↓cond_false,↓bu,eJ,one,fK,k7,e7,aT,nG,rE,outPs,mX,outL,fD,k8,oI,rI,jf,decide_true,decide_false,reduceCtorEq,List.all_cons,List.all_nil,Bool.and_true,Bool.and_self,true_and,and_true,and_self,List.length_cons,List.length_nil,List.drop_succ_cons,List.drop_zero,List.take_succ_cons,List.take_zero,List.getElem?_cons_zero,List.getElem?_cons_succ,List.map_cons,List.map_nil,false_implies,true_implies,Option.bind_some,List.getElem?_toArray,Bool.false_eq_true,List.append_nil,List.flatMap_cons,List.flatMap_nil,true_or,or_true,forall_const,List.reverse_cons,List.reverse_nil,Option.isSome_some,Option.any_some,Nat.lt_irrefl,not_true_eq_false,Bool.not_true,Bool.not_false,imp_self,implies_true,Bool.not_eq_true',Bool.not_eq_false',Bool.true_eq_false,dQ,cntF,nmL,o8,nmA,tn,tR,uc,bB,pH,cT,bO,rp,Int.toNat_zero,decide_eq_true_eq,eH,eU,rf,rh,BEq.rfl,beq_self_eq_true,Int.natCast_zero,ge_iff_le,gt_iff_lt,Int.le_refl,Nat.zero_mul,Nat.one_mul,Nat.zero_add,Nat.zero_lt_succ,Nat.lt_add_one,Nat.le_refl,List.append_eq,dM,cV,dS,cW,↓fc,↓fd,↓gG,↓gH,↓gT,↓gU,↓dR,↓eu,↓gW,↓gX,↓gK,↓gL,↓gR,↓gS,↓gw,↓gD,↓gO,↓gQ,bne_self_eq_false,wr2,Eo,Ep,Er,Es,Et,Eu,gN,ur,I6,gI,CW,mW,gJ,l5,PK,sG,I4,gB,gP,zu,Eh,Ei,ry,g9,cU,iP,dz,jM,Lc.up,AA,BO,pY,Int.toNat_natCast,List.replicate_succ,List.replicate_zero,List.flatten_cons,List.flatten_nil,Int.ofNat_lt,Int.cast_ofNat_Int,Int.ofNat_eq_natCast,List.isEmpty_nil,List.isEmpty_cons,and_false,false_and,List.cons_ne_nil,Nat.add_zero,ite_true,ite_false,if_true,if_false,Nat.le_zero_eq,eq_self,Bool.and_false,Bool.false_and,Bool.true_and,nN,ou,fJ,gA,gE,jd,yK,ki,oy,jH,jI,j8,j9,ite_self,fN,mo,cm,jh,lF,bT,lj,kQ,fV,jz,oC,oB,ff,gu,cN,ib,rK,qI,I7,RJ,ud,kO,F8,↓sw,↓sA,yM,hd,hpa,hpb,hpx,hpv,hpz,hpi,hw,eB,eV,c1,c2,c3,c4,ra,ia,ip,yl,Nat.sub_zero,Nat.mul_one,mL,qL]
 repeat' with_reducible first |apply And.intro |apply condP<;>intro _
 all_goals first |(show ar _ _=true;kernel_rfl)|with_reducible assumption |omega |rfl |(simp only [go_sem, *];done)|(simp only [go_sem, *];rfl)
theorem t8 (W:World) (a:Option Addr) (l c:Nat) (xs:List Nat) (hx:Arg W a l c xs) (ht:Tab W):Calls Tryz.prog 3 #[.slice a l c] W fun e w'=>e= .returned (.bool true)∧Below W.heap.size W w':=by
 have hA:RA t6 (fun _=>false) W [.s (.lit (.slice a l c))] [.slice a l c]:=⟨_,_,rfl,RL.one.2 rfl,rfl⟩
 exact SY xs a l c W _ ht hx hA
end Go.Proofs.YtpacpmmdjmnamaaGreatDoor
