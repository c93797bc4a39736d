/- OrthoDrawn. -/
import Derived.Test.YtpacpmmdjmnamaaGreatDoorYAqR
import Derived.Test.YtpacpmmdjmnamaaGreatDoorYAqS
import Derived.Test.YtpacpmmdjmnamaaGreatDoorYAqG
namespace Go.Proofs.YtpacpmmdjmnamaaGreatDoor
open Go.RowKit Nx
set_option linter.unusedVariables false
set_option linter.unusedSimpArgs false
attribute [local irreducible] be
def Ks (f:FuncId) (A:Option Addr) (n c:Nat) (xs:List Nat) (args:List AV):Prop:=∀ w us,Tab w→Arg w A n c xs→RA jZ (fun _=>false) w args us→
 Calls Tryz.prog f us.toArray w fun e w'=>e= .returned (.bool true)∧Below w.heap.size w w'
theorem FE {ty:TypeId→Option TI} {O:eJ} (hm:Tryz.prog.follows .mixedOrders=true) (hty:∀ t i,ty t=some i→TiOK Tryz.prog t i) {f:FuncId} {fn:Func} {c0:Code} {args:List AV} {A:Option Addr} {n c:Nat} {xs:List Nat}
  (hO:∀ w,Arg w A n c xs→(∀ ad,0<n→A=some ad→¬ (fun _:Nat=>False) ad.block)→OrOK Tryz.prog O (fun _=>False) w) (fg:List Nat)
  (fuel N:Nat) (rs:List ResultVar) (hf:Tryz.prog.funcs[f]? =some fn) (hb:fn.body=some c0) (hN:fn.ntmps=N) (hr:fn.results.toList=rs) (hl:args.length≤N) (hc:args.all nT=true)
  (h:tS args→Small B64 xs→run ty O N (fun st=>qF (·=bA true) (gG ty st rs)) fg fuel [.code c0] (dX 0 args)):Ks f A n c xs args:=by
 intro w us ht hX hA
 replace h:=h hA.sm hX.2
 refine (vQ (mem:=[]) (ρ:=⟨fun n=>n,w.heap.size,fun _=>undef,fun _=>0,fun _=>false⟩) hm hty (hO w hX (fun _ _ _ h=>h)) fg fuel N rs hf hb hN hr hl ht (fun k v h=>by cases h) (fun b v h=>by cases h) (fun b b' h=>by cases h) (hA.closed hc fun _ _=>⟨fun _ h=>(by cases h),fun _ h=>(by cases h)⟩) rfl rfl (by rw [List.append_nil];exact h)).mono ?_
 rintro e w' ⟨u,r,rfl,rfl,hcl,hR,hb⟩
 rw [show u= .bool true from RL.one.1 (hR jZ (fun _=>false) ⟨fun _ h=>(by cases h),fun _ _ h=>(by cases h),Nat.zero_le _⟩)]
 exact ⟨rfl,hb⟩
set_option maxRecDepth 100000 in
set_option maxHeartbeats 4000000 in
theorem Kk (xs:List Nat) (A:Option Addr) (n0 c:Nat) {n k1 k2:Nat} {m:List (List X)} {p:Int} (hD:lW 8 xs [] 0 (iA (n:Int)) 1) (hP:lW 25 xs [iA (n:Int)] 1 (.s (qL m)) k1) (hQ:lW 12 xs [] k1 (iA p) k2) (hSm:(∀ r∈m,∀ x∈r,Small B64 x.xs)=True) (hR1:m.length≤40) (hR2:∀ r∈m,r.length≤40) (hC:((colsS p m).1.length≤1000∧∀ r∈(colsS p m).1,r.length≤6)=True):Ks 5 A n0 c xs [.s (.lit (.slice A n0 c))]:=by
 refine FE (O:=fB xC (fB (ic 8 A n0 c (rK fun k=>(k=0,iA (n:Int),1))) (fB (ic 25 A n0 c (tH fun k z=>(k=1∧z=(n:Int),.s (qL m),k1))) (fB (ic 12 A n0 c (rK fun k=>(k=k1,iA p,k2))) (aD (dh ez (dh gR (dh gQ gO)))))))) (by kernel_rfl) az (fun w hA hn=>dv Am (FS _ _) (dv cZ (cY (xs:=xs) (ew Tryz.func8 (by kernel_rfl) rfl) (lE fun k hp=>by subst hp;exact hD) hA hn) (dv cZ (cY (xs:=xs) (ew Tryz.func25 (by kernel_rfl) rfl) (ge fun k z hp=>by obtain ⟨rfl,rfl⟩:=hp;exact hP) hA hn) (dv cZ (cY (xs:=xs) (ew Tryz.func12 (by kernel_rfl) rfl) (lE fun k hp=>by subst hp;exact hQ) hA hn) (ao (av kj (av oI (av oG oF))) _ w) (fun d st args=>by simp [fB,iJ,ic,xC,aD,dh,jx,one,ez,gR,gQ,gO])) (fun d st args=>by simp [fB,iJ,ic,xC,aD,dh,jx,one,ez,gR,gQ,gO])) (fun d st args=>by simp [fB,iJ,ic,xC,aD,dh,jx,one,ez,gR,gQ,gO])) (fun d st args=>by simp [fB,iJ,ic,xC,aD,dh,jx,one,ez,gR,gQ,gO])) [] 900 40 [.tmp 2] Tryz.func5 rfl Tryz.ntmps5 (by rw [Tryz.results5]) (by simp) rfl (fun hsm hs=>?_)
 simp (maxSteps:=10000000) only [run,seval,dX,X.L,J.L,vL,X.eta,J.eta,Q.eta,List.cons_append,List.nil_append,iH,dU,dV,bW,bX,da,nc,dA,iE,eq,aG,bj,aL,aR,bi,cL,cK,cS,cN,cD,pN,fN,okO,je,pT,cQ,cR,cM,inL,aS,bE,dom,fH,kU,nD,evd,okeys,look,dN,di,co,cV,lenOf,fw,jb,qK,jw,qQ,fv,qf,np,qh,qg,nL,pF,eX,jF,eY,jG,bu,nV,keysOf,aD,ir,jp,jg,olA,olL,ot,nU,mS,nT,dh,↓cond_true,↓cond_false,↓cw,jx,one,cT,fi,cu,bq,gG,gH,outPs,ep,outL,fT,eO,jf,iO,cH,decide_true,decide_false,reduceCtorEq,List.all_cons,List.all_nil,Bool.and_true,Bool.and_self,true_and,and_true,and_self,List.length_cons,List.length_nil,List.drop_succ_cons,List.drop_zero,List.take_succ_cons,List.take_zero,List.getElem?_cons_zero,List.getElem?_cons_succ,List.map_cons,List.map_nil,false_implies,true_implies,Option.bind_some,List.getElem?_toArray,Bool.false_eq_true,List.append_nil,List.flatMap_cons,List.flatMap_nil,true_or,or_true,forall_const,List.reverse_cons,List.reverse_nil,Option.isSome_some,Option.any_some,Nat.lt_irrefl,not_true_eq_false,Bool.not_true,Bool.not_false,imp_self,implies_true,Bool.not_eq_true',Bool.not_eq_false',Bool.true_eq_false,fL,jo,lQ,lV,oq,pR,qo,rD,cO,qw,iJ,fB,sy,Int.toNat_zero,decide_eq_true_eq,fW,fX,so,sr,BEq.rfl,beq_self_eq_true,Int.natCast_zero,ge_iff_le,gt_iff_lt,Int.le_refl,Nat.zero_mul,Nat.one_mul,Nat.zero_add,Nat.zero_lt_succ,Nat.lt_add_one,Nat.le_refl,List.append_eq,aT,aE,aY,aF,↓aW,↓aX,↓bI,↓bJ,↓bR,↓bS,↓aU,↓aV,↓bT,↓bU,↓bK,↓bL,↓bP,↓bQ,↓bG,↓bH,↓bM,↓bN,bne_self_eq_false,wr2,nM,nN,nO,nP,nQ,nR,gN,pP,pO,gI,kc,ek,gJ,su,sv,ka,ss,gB,gP,nF,nG,nH,gu,cG,bw,cJ,aN,nE,Lc.up,pU,Int.toNat_natCast,List.replicate_succ,List.replicate_zero,List.flatten_cons,List.flatten_nil,Int.ofNat_lt,Int.cast_ofNat_Int,Int.ofNat_eq_natCast,List.isEmpty_nil,List.isEmpty_cons,and_false,false_and,List.cons_ne_nil,Nat.add_zero,ite_true,ite_false,if_true,if_false,Nat.le_zero_eq,eq_self,Bool.and_false,Bool.false_and,Bool.true_and,nY,gA,gE,kg,oO,ip,fF,ed,ef,eA,eg,ite_self,bv,ez,gR,gQ,gO,Ht,ic,tH,rK,sT,xC,hSm,hC,jY,iU,kZ,jh,hd1,pick,bD,go,iI,dE,gW,fx]
 repeat' with_reducible first |apply And.intro |apply condP<;>intro _
 all_goals first |(show be _ _=true;kernel_rfl)|(simp only [Ha];decide)|with_reducible assumption |omega |rfl |(simp only [go_sem, *];done)
theorem nW (W:World) (a:Option Addr) (l c:Nat) (xs:List Nat) (hx:Arg W a l c xs) (ht:Tab W):Calls Tryz.prog 5 #[.slice a l c] W fun e w'=>e= .returned (.bool true)∧Below W.heap.size W w':=by
 have hA:RA jZ (fun _=>false) W [.s (.lit (.slice a l c))] [.slice a l c]:=⟨_,_,rfl,RL.one.2 rfl,rfl⟩
 have hD:=FR xs 0 (by omega)
 obtain ⟨n,hn⟩:∃ n,n=dk xs 0%4+1:=⟨_,rfl⟩
 rw [←hn] at hD
 obtain ⟨m,k1,⟨hm,hf⟩,g1,g2,hP⟩:=CG (xs:=xs) (k:=1) (n:=n) hx.2 (by omega) (by omega) (by omega)
 obtain ⟨_,_,_,hQ⟩:=tA (xs:=xs) (k:=k1) (by omega)
 have hg:∀ r∈m,∀ x∈r,GX x:=fun r hr x hx'=>by
  obtain ⟨q,hq,rfl⟩:=hf r hr x hx'
  exact IZ (dW hq)
 have hSm:∀ r∈m,∀ x∈r,Small B64 x.xs:=fun r hr x hx'=>(hg r hr x hx').2
 generalize (oprecD xs k1).1=p at hQ
 generalize (oprecD xs k1).2=k2 at hQ
 exact Kk xs a l c hD hP hQ (eq_true hSm) (by rw [hm.1];omega) (fun r hr=>by rw [hm.2 r hr];omega) (eq_true (oR p hSm)) W _ ht hx hA
end Go.Proofs.YtpacpmmdjmnamaaGreatDoor
