/- Package iv: the selections as closures, the ends outward. -/
import Derived.Test.YtpacpmmdjmnamaaGreatDoorMAiQ
namespace Go.Proofs.YtpacpmmdjmnamaaGreatDoor
set_option linter.unusedSimpArgs false
set_option linter.unusedVariables false
set_option maxHeartbeats 4000000
set_option maxRecDepth 100000
open Go.RowKit Nx
section
attribute [local go_sem] X.eta J.eta Q.eta cu cw aZ a5 bN eZ dU hd1 pick ax aT dQ cntF nmL o8 nmA tn tR bB pH cT bO rp Int.toNat_zero decide_eq_true_eq eH eU rf rh BEq.rfl beq_self_eq_true Int.natCast_zero ge_iff_le gt_iff_lt Int.le_refl Nat.zero_mul Nat.one_mul Nat.zero_add Nat.zero_lt_succ Nat.lt_add_one Nat.le_refl gV t7 nn py CX vR vS rA kc mH J3 zw uc
attribute [local go_sem ↓] bu
theorem Oe (j j1:J) (z:Int) (b:Bool):yO Tryz.prog 184 [bA b,.s (.own 1000 0),.s (.own 1001 0),.s (.own 1002 0)] [j.L,j1.L,[.lit (.int .i64 z)]] (tS (dZ (mI z b) z (qP j b) (qP j1 b))):=by
 refine o7 (O:=ai (aF kH (fA))) (by kernel_rfl) a7 (fun w=>aa (ab nb (lA)) _ w) [] 300 18 [.cell 5 30,.tmp 6] Tryz.func184 rfl Tryz.ntmps184 (by rw [Tryz.results184]) (by simp) (fun hsm hsb=>?_)
 simp (maxSteps:=10000000) only [go_sem,seval,reduceCtorEq,kH,fA,gC,o0,fT,SX.L,SX.eta]
 repeat' with_reducible first |apply And.intro |apply condP<;>intro _
 all_goals first |(show ar _ _=true;kernel_rfl)|assumption |(simp only [go_sem, *]<;>rfl)|rfl |(exfalso;simp_all only [Bool.true_eq_false,Bool.false_eq_true,reduceCtorEq];done)
theorem Ok (j j1:J) (z:Int) (b:Bool):yO Tryz.prog 198 [bA b,.s (.own 1000 0),.s (.own 1001 0),.s (.own 1002 0)] [j.L,j1.L,[.lit (.int .i64 z)]] (tS (dZ (rB z b) z (qP j b) (qP j1 (!b)))):=by
 refine o7 (O:=ai (aF kH (oZ))) (by kernel_rfl) a7 (fun w=>aa (ab nb (tW)) _ w) [] 300 19 [.cell 5 30,.tmp 6] Tryz.func198 rfl Tryz.ntmps198 (by rw [Tryz.results198]) (by simp) (fun hsm hsb=>?_)
 simp (maxSteps:=10000000) only [go_sem,seval,reduceCtorEq,kH,oZ,gC,o0,fT,SX.L,SX.eta]
 repeat' with_reducible first |apply And.intro |apply condP<;>intro _
 all_goals first |(show ar _ _=true;kernel_rfl)|assumption |(simp only [go_sem, *]<;>rfl)|rfl |(exfalso;simp_all only [Bool.true_eq_false,Bool.false_eq_true,reduceCtorEq];done)
def e8 (j:J) (x:X) (b:Bool):X:=qP j (!(b==decide (uS x<0)))
theorem C9 (j:J) (x:X) (b:Bool):yO Tryz.prog 224 [.v true j.L,.v true x.L,.s (.own 1000 0)] [[.lit (.bool b)]] (xA (e8 j x b)):=by
 refine o7 (O:=ai (aF lR (kH))) (by kernel_rfl) a7 (fun w=>aa (ab pk (nb)) _ w) [] 300 13 [.cell 5 30] Tryz.func224 rfl Tryz.ntmps224 (by rw [Tryz.results224]) (by simp) (fun hsm hsb=>?_)
 simp (maxSteps:=10000000) only [go_sem,seval,reduceCtorEq,lR,kH,gC,o0,fT,SX.L,SX.eta]
 repeat' with_reducible first |apply And.intro |apply condP<;>intro _
 all_goals first |(show ar _ _=true;kernel_rfl)|assumption |(simp only [go_sem, *,e8]<;>rfl)|rfl |(exfalso;simp_all only [Bool.true_eq_false,Bool.false_eq_true,reduceCtorEq];done)
def sZ (c:Bool→X×Int):J×Int:=bif ((c false).2 !=0) then (zJ,(c false).2) else bif ((c true).2 !=0) then (zJ,(c true).2) else (⟨(c false).1,(c true).1⟩,0)
def Kh (l1 l2 l3:List Lf) (c:Bool→X×Int):KT:=fun args ls=>match args with
 |.v false [.lit (.bool b)]::r=>some (r=[.s (.own 1000 0),.s (.own 1001 0),.s (.own 1002 0)]∧ls=[l1,l2,l3],kY (c b))
 |_=>none
theorem Ki {f:FuncId} {l1 l2 l3:List Lf} {c:Bool→X×Int} (h:∀ b,yO Tryz.prog f [bA b,.s (.own 1000 0),.s (.own 1001 0),.s (.own 1002 0)] [l1,l2,l3] (kY (c b))):∀ args ls e,Kh l1 l2 l3 c args ls=some e→e.1→yO Tryz.prog f args ls e.2:=by
 intro args ls e he hp
 unfold Kh at he
 split at he
 ·injection he with he;subst he
  obtain ⟨rfl,rfl⟩:=hp
  exact h _
 ·cases he
theorem qy {f:FuncId} {l1 l2 l3:List Lf} {c:Bool→X×Int} (hen:∀ (vs:Array Value) (w:World),(callFunc f vs).run Tryz.prog w= .ok (.enter f vs) w) (h:∀ b,yO Tryz.prog f [bA b,.s (.own 1000 0),.s (.own 1001 0),.s (.own 1002 0)] [l1,l2,l3] (kY (c b)))
  (h1:l1.all qu=true) (h2:l2.all qu=true) (h3:l3.all qu=true):yO Tryz.prog 177 [.s (.clo f [1000,1001,1002])] [l1,l2,l3] (iY (sZ c)):=by
 refine o7 (O:=cT f (Kh l1 l2 l3 c)) (by kernel_rfl) a7 (fun w=>kx hen (Ki h) _ _) [] 300 28 [.cell 2 32,.tmp 3] Tryz.func177 rfl Tryz.ntmps177 (by rw [Tryz.results177]) (by simp) (fun hsm hsb=>?_)
 simp (maxSteps:=10000000) only [go_sem,seval,reduceCtorEq,gC,o0,fT,SX.L,SX.eta,Kh,h1,h2,h3]
 repeat' with_reducible first |apply And.intro |apply condP<;>intro _
 all_goals first |(show ar _ _=true;kernel_rfl)|assumption |(simp only [go_sem, *,sZ,zJ,zX]<;>rfl)|rfl |(exfalso;simp_all only [Bool.true_eq_false,Bool.false_eq_true,reduceCtorEq];done)
end
section
attribute [local go_sem] X.eta J.eta Q.eta cu cw aZ a5 bN eZ dU hd1 pick ax aT dQ cntF nmL o8 nmA tn tR bB pH cT bO rp Int.toNat_zero decide_eq_true_eq eH eU rf rh BEq.rfl beq_self_eq_true Int.natCast_zero ge_iff_le gt_iff_lt Int.le_refl Nat.zero_mul Nat.one_mul Nat.zero_add Nat.zero_lt_succ Nat.lt_add_one Nat.le_refl gV t7 nn py CX vR vS rA kc mH J3 zw uc
attribute [local go_sem ↓] bu
theorem Az (w:World) (up:Bool):Calls Tryz.prog 179 #[.bool up] w fun e w'=>e= .returned (.func (.func 224) #[] #[.pointer (some ⟨w.heap.size,0,none⟩)])∧w'=w.alloc (.cells #[.bool up] 4):=by
 have hmf:∀ (fn:Fn) (first cap:Array Value) (w:World),(Instr.makeFunc fn first cap).run Tryz.prog w= .ok (.func fn first cap) w:=fun _ _ _ _=>rfl
 go_enter Tryz.func179,Tryz.ntmps179
 go_wp2
 go_ret
 exact ⟨rfl,rfl⟩
def wO:dI:=fun f d st args=>if f=179 then (match args with
 |[.v false [.lit (.bool b)]]=>(match look st (2*d+1) with
  |none=>some (True,[2*d+1],[(2*d,.s (.clo 224 [d])),(2*d+1,.v true [.lit (.bool b)])])
  |some _=>none)
 |_=>none) else none
theorem LN (F:Nat→Prop) (w0:World):OrOK Tryz.prog wO F w0:=by
 refine ⟨fun f d st args e he=>?_,fun f d st args e he hp N ρ a w us hz hd hA=>?_,fun f d st st' args e he hk=>?_⟩
 ·unfold wO at he
  split at he
  ·rename_i hf;subst hf;exact aX Tryz.func179 (by kernel_rfl) rfl
  ·cases he
 ·unfold wO at he
  split at he
  ·rename_i hf
   subst hf
   split at he
   ·rename_i b
    split at he
    ·rename_i hn
     injection he with he;subst he
     obtain ⟨u,r,rfl,h1,h2⟩:=hA
     rw [show r=[] from h2]
     have h1:u= .bool b:=RL.one.1 h1
     subst h1
     refine (Az w b).mono ?_
     rintro en w' ⟨rfl,rfl⟩
     refine ⟨_,{ρ with r:=fun b=>if b=d then w.heap.size else ρ b},rfl,?_⟩
     exact Cz.new (cs:=[.bool b]) (l:=.clo 224 [d]) (fun ρ' D' w' h1 h2=>⟨fun x hx=>by rw [List.mem_singleton.1 hx];exact h1,by simp [h2]⟩) hz hd hn ⟨_,_,rfl,rfl,rfl⟩ rfl
    ·cases he
   ·cases he
  ·cases he
 ·have h0:=he
  unfold wO at he
  split at he
  ·rename_i hf
   split at he
   ·split at he
    ·rename_i hn
     injection he with he;subst he
     rw [←h0]
     unfold wO
     rw [hk (2*d+1) (by simp)]
    ·cases he
   ·cases he
  ·cases he
theorem DZ:Ez wO 179 :=fun f d st args h=>by unfold wO;rw [if_neg h]
theorem cE {P:Program} {A B:dI} {g:FuncId} {F:Nat→Prop} {w0:World} (ho:Ez A g) (hA:OrOK P A F w0) (hB:OrOK P B F w0) (hn:∀ d st args,B g d st args=none):OrOK P (bO A B) F w0:=
 mO hA hB fun f d st args e he st'=>by
  by_cases hf:f=g
  ·subst hf;rw [hn] at he;cases he
  ·exact ho f d st' args hf
def Kj:KT:=fun args ls=>match args,ls with
 |[.v true mj,.v true mx,r],[[.lit (.bool b)]]=>(match k7 mj,fK mx with
  |some j,some x=>some (r= .s (.own 1000 0),xA (e8 j x b))
  |_,_=>none)
 |_,_=>none
theorem Kk:∀ args ls e,Kj args ls=some e→e.1→yO Tryz.prog 224 args ls e.2:=by
 intro args ls e he hp
 unfold Kj at he
 split at he
 ·split at he
  ·rename_i j x h1 h2
   injection he with he;subst he
   have hp:=hp
   rw [gy h1,iI h2]
   dsimp only at hp
   rw [hp]
   exact C9 j x _
  ·cases he
 ·cases he
noncomputable def m8 (j j1:J) (z:Int) (b:Bool):Q×Int:=bif !(mf j) then dZ (pD z b) z (e8 j (e8 j1 j.lo b) b) (e8 j1 j.lo b) else bif !(mf j1) then dZ (pD z b) z (e8 j j1.lo b) (e8 j1 (e8 j j1.lo b) b) else
 ez (qA (lG j.lo (e8 j1 j.lo b) z b) (lG j.hi (e8 j1 j.hi b) z b)).x (qA (lG j.lo (e8 j1 j.lo b) z b) (lG j.hi (e8 j1 j.hi b) z b)).e
theorem Og (j j1:J) (z:Int) (b:Bool):yO Tryz.prog 178 [bA b,.s (.own 1000 0),.s (.own 1001 0),.s (.own 1002 0)] [j.L,j1.L,[.lit (.int .i64 z)]] (tS (m8 j j1 z b)):=by
 refine o7 (O:=bO wO (bO (cT 224 Kj) (ai (aF fW (aF g8 (aF iG (aF kG (dK)))))))) (by kernel_rfl) a7 (fun w=>cE DZ (LN _ _) (ln (kx (aX Tryz.func224 (by kernel_rfl) rfl) Kk _ _) (aa (ab qk (ab oH (ab rx (ab tT (na))))) _ w) (fun d st args=>by simp [bO,cT,ai,aF,eJ,one,fW,g8,iG,kG,dK])) (fun d st args=>by simp [bO,cT,ai,aF,eJ,one,fW,g8,iG,kG,dK])) [] 300 78 [.cell 5 30,.tmp 6] Tryz.func178 rfl Tryz.ntmps178 (by rw [Tryz.results178]) (by simp) (fun hsm hsb=>?_)
 simp (maxSteps:=10000000) only [go_sem,seval,reduceCtorEq,fW,g8,iG,kG,dK,gC,o0,fT,SX.L,SX.eta,Kj,wO]
 repeat' with_reducible first |apply And.intro |apply condP<;>intro _
 all_goals first |(show ar _ _=true;kernel_rfl)|assumption |(simp only [go_sem, *,m8]<;>rfl)|rfl |(exfalso;simp_all only [Bool.true_eq_false,Bool.false_eq_true,reduceCtorEq];done)
noncomputable def rD (r:Q×Int):X×Int:=(qx r.1,r.2)
noncomputable def cH (j j1:J) (z:Int):J×Int:=bif okJ j&&okJ j1&&kf z then sZ (fun b=>rD (dZ (mI z b) z (qP j b) (qP j1 b))) else (zJ,1)
noncomputable def lM (j j1:J) (z:Int):J×Int:=bif okJ j&&okJ j1&&kf z then sZ (fun b=>rD (dZ (rB z b) z (qP j b) (qP j1 (!b)))) else (zJ,1)
noncomputable def cB (j j1:J) (z:Int):J×Int:=bif okJ j&&okJ j1&&kf z then sZ (fun b=>rD (m8 j j1 z b)) else (zJ,1)
theorem QF (j:J) (j1:J) (z:Int):Ct Tryz.prog 134 [.v true j.L,.v true j1.L,iA z] (·=iY (cH j j1 z)):=by
 refine ak (O:=bO (cT 176 (rp [iA z,.s (.osl 1000 2)] [j.L++j1.L] (bA (okJ j&&okJ j1&&kf z)))) (bO (cT 177 (rp [.s (.clo 184 [1000,1001,1002])] [j.L,j1.L,[.lit (.int .i64 z)]] (iY (sZ (fun b=>rD (dZ (mI z b) z (qP j b) (qP j1 b))))))) (ai eJ))) (by kernel_rfl) a7 (fun w=>ln (kx (aX Tryz.func176 (by kernel_rfl) rfl) (o6 (sI j j1 z)) _ _) (ln (kx (aX Tryz.func177 (by kernel_rfl) rfl) (o6 (qy (c:=fun b=>rD (dZ (mI z b) z (qP j b) (qP j1 b))) (aX Tryz.func184 (by kernel_rfl) rfl) (fun b=>Oe j j1 z b) rfl rfl rfl)) _ _) (aa bk _ w) (fun d st args=>by simp [bO,cT,ai,aF,eJ,one])) (fun d st args=>by simp [bO,cT,ai,aF,eJ,one])) [] 300 19 [.cell 6 32,.tmp 7] Tryz.func134 rfl Tryz.ntmps134 (by rw [Tryz.results134]) (by simp) rfl (fun hsm=>?_)
 simp (maxSteps:=10000000) only [go_sem,seval,reduceCtorEq,gC,o0,fT,SX.L,SX.eta]
 repeat' with_reducible first |apply And.intro |apply condP<;>intro _
 all_goals first |(show ar _ _=true;kernel_rfl)|assumption |(simp only [go_sem, *,cH,zJ,zX]<;>rfl)|rfl |(exfalso;simp_all only [Bool.true_eq_false,Bool.false_eq_true,reduceCtorEq];done)
noncomputable def pf:b9:=one 134 (sG fun j j1 z=>(True,iY (cH j j1 z)))
theorem sc:TbOK Tryz.prog pf:=aH (aX Tryz.func134 (by kernel_rfl) rfl) fun args e h hp=>by obtain ⟨j,j1,z,rfl,rfl⟩:=rQ h;exact QF j j1 z
theorem QK (j:J) (j1:J) (z:Int):Ct Tryz.prog 146 [.v true j.L,.v true j1.L,iA z] (·=iY (lM j j1 z)):=by
 refine ak (O:=bO (cT 176 (rp [iA z,.s (.osl 1000 2)] [j.L++j1.L] (bA (okJ j&&okJ j1&&kf z)))) (bO (cT 177 (rp [.s (.clo 198 [1000,1001,1002])] [j.L,j1.L,[.lit (.int .i64 z)]] (iY (sZ (fun b=>rD (dZ (rB z b) z (qP j b) (qP j1 (!b)))))))) (ai eJ))) (by kernel_rfl) a7 (fun w=>ln (kx (aX Tryz.func176 (by kernel_rfl) rfl) (o6 (sI j j1 z)) _ _) (ln (kx (aX Tryz.func177 (by kernel_rfl) rfl) (o6 (qy (c:=fun b=>rD (dZ (rB z b) z (qP j b) (qP j1 (!b)))) (aX Tryz.func198 (by kernel_rfl) rfl) (fun b=>Ok j j1 z b) rfl rfl rfl)) _ _) (aa bk _ w) (fun d st args=>by simp [bO,cT,ai,aF,eJ,one])) (fun d st args=>by simp [bO,cT,ai,aF,eJ,one])) [] 300 19 [.cell 6 32,.tmp 7] Tryz.func146 rfl Tryz.ntmps146 (by rw [Tryz.results146]) (by simp) rfl (fun hsm=>?_)
 simp (maxSteps:=10000000) only [go_sem,seval,reduceCtorEq,gC,o0,fT,SX.L,SX.eta]
 repeat' with_reducible first |apply And.intro |apply condP<;>intro _
 all_goals first |(show ar _ _=true;kernel_rfl)|assumption |(simp only [go_sem, *,lM,zJ,zX]<;>rfl)|rfl |(exfalso;simp_all only [Bool.true_eq_false,Bool.false_eq_true,reduceCtorEq];done)
noncomputable def vh:b9:=one 146 (sG fun j j1 z=>(True,iY (lM j j1 z)))
theorem yZ:TbOK Tryz.prog vh:=aH (aX Tryz.func146 (by kernel_rfl) rfl) fun args e h hp=>by obtain ⟨j,j1,z,rfl,rfl⟩:=rQ h;exact QK j j1 z
theorem QI (j:J) (j1:J) (z:Int):Ct Tryz.prog 131 [.v true j.L,.v true j1.L,iA z] (·=iY (cB j j1 z)):=by
 refine ak (O:=bO (cT 176 (rp [iA z,.s (.osl 1000 2)] [j.L++j1.L] (bA (okJ j&&okJ j1&&kf z)))) (bO (cT 177 (rp [.s (.clo 178 [1000,1001,1002])] [j.L,j1.L,[.lit (.int .i64 z)]] (iY (sZ (fun b=>rD (m8 j j1 z b)))))) (ai eJ))) (by kernel_rfl) a7 (fun w=>ln (kx (aX Tryz.func176 (by kernel_rfl) rfl) (o6 (sI j j1 z)) _ _) (ln (kx (aX Tryz.func177 (by kernel_rfl) rfl) (o6 (qy (c:=fun b=>rD (m8 j j1 z b)) (aX Tryz.func178 (by kernel_rfl) rfl) (fun b=>Og j j1 z b) rfl rfl rfl)) _ _) (aa bk _ w) (fun d st args=>by simp [bO,cT,ai,aF,eJ,one])) (fun d st args=>by simp [bO,cT,ai,aF,eJ,one])) [] 300 19 [.cell 6 32,.tmp 7] Tryz.func131 rfl Tryz.ntmps131 (by rw [Tryz.results131]) (by simp) rfl (fun hsm=>?_)
 simp (maxSteps:=10000000) only [go_sem,seval,reduceCtorEq,gC,o0,fT,SX.L,SX.eta]
 repeat' with_reducible first |apply And.intro |apply condP<;>intro _
 all_goals first |(show ar _ _=true;kernel_rfl)|assumption |(simp only [go_sem, *,cB,zJ,zX]<;>rfl)|rfl |(exfalso;simp_all only [Bool.true_eq_false,Bool.false_eq_true,reduceCtorEq];done)
noncomputable def nP:b9:=one 131 (sG fun j j1 z=>(True,iY (cB j j1 z)))
theorem se:TbOK Tryz.prog nP:=aH (aX Tryz.func131 (by kernel_rfl) rfl) fun args e h hp=>by obtain ⟨j,j1,z,rfl,rfl⟩:=rQ h;exact QI j j1 z
end
end Go.Proofs.YtpacpmmdjmnamaaGreatDoor
