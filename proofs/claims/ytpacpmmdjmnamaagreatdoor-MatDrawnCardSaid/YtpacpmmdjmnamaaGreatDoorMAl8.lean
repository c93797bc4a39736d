/- The document's boxes: sums, differences, multiples, middles. -/
import Derived.Test.YtpacpmmdjmnamaaGreatDoorMAm2
import Derived.Test.YtpacpmmdjmnamaaGreatDoorMAl4
import Derived.Test.YtpacpmmdjmnamaaGreatDoorMAmC
namespace Go.Proofs.YtpacpmmdjmnamaaGreatDoor
section
section
open Go.ChangeShapes Go.WideShapes Go.ChangeAt Go.RowKit Go.Joins Nx
def JL (W:World):List J→List Value→Prop
 |[],us=>us=[]
 |j::l,us=>∃ (A:Option Addr) (n c:Nat) (B:Option Addr) (m d:Nat) (r:List Value),us= .bool j.lo.s::.int .i64 j.lo.e::.slice A n c::.bool j.hi.s::.int .i64 j.hi.e::.slice B m d::r∧Arg W A n c j.lo.xs∧Arg W B m d j.hi.xs∧JL W l r
def XL (W:World):List X→List Value→Prop
 |[],us=>us=[]
 |x::l,us=>∃ (A:Option Addr) (n c:Nat) (r:List Value),us= .bool x.s::.int .i64 x.e::.slice A n c::r∧Arg W A n c x.xs∧XL W l r
theorem JL.len {W:World}:∀ {l:List J} {us:List Value},JL W l us→us.length=l.length*6:=by
 intro l
 induction l with
 |nil=>intro us h;rw [show us=[] from h];rfl
 |cons j l ih=>rintro us ⟨A,n,c,B,m,d,r,rfl,_,_,h⟩;simp only [List.length_cons,ih h];omega
theorem XL.len {W:World}:∀ {l:List X} {us:List Value},XL W l us→us.length=l.length*3:=by
 intro l
 induction l with
 |nil=>intro us h;rw [show us=[] from h];rfl
 |cons j l ih=>rintro us ⟨A,n,c,r,rfl,_,h⟩;simp only [List.length_cons,ih h];omega
def SlV (W:World) (v:Value) (n sz:Nat) (R:List Value→Prop):Prop:=∃ (A:Option Addr) (c:Nat),v= .slice A n c∧n≤c∧(n=0∨∃ (ad:Addr) (T:TypeId) (cs:Array Value),A=some ad∧ad.spot=none∧Wb W ad.block T cs∧ad.off+n*sz≤cs.size∧R ((cs.toList.drop ad.off).take (n*sz)))
def BoxV (W:World) (v:Value) (l:List J):Prop:=SlV W v l.length 6 (JL W l)
def PtsV (W:World) (v:Value) (l:List X):Prop:=SlV W v l.length 3 (XL W l)
section
variable {S:Nat→Prop} {W:World} {v:Value}
theorem JL.ws:∀ {l:List J} {us:List Value},JL W l us→(∀ j∈l,j.lo.xs.length≤100000∧j.hi.xs.length≤100000)→LcL S W (bC l) us:=by
 intro l
 induction l with
 |nil=>intro us h _;exact h
 |cons j l ih=>
  rintro us ⟨A,n,c,B,m,d,r,rfl,hA,hB,h⟩ hs
  have h1:=hs j (List.mem_cons_self ..)
  exact ⟨_,_,rfl,rfl,_,_,rfl,rfl,_,_,rfl,⟨A,n,c,rfl,hA,by rw [←hA.1.1];exact h1.1⟩,_,_,rfl,rfl,_,_,rfl,rfl,_,_,rfl,⟨B,m,d,rfl,hB,by rw [←hB.1.1];exact h1.2⟩,ih h fun j hj=>hs j (List.mem_cons_of_mem _ hj)⟩
theorem XL.ws:∀ {l:List X} {us:List Value},XL W l us→(∀ j∈l,j.xs.length≤100000)→LcL S W (pC l) us:=by
 intro l
 induction l with
 |nil=>intro us h _;exact h
 |cons j l ih=>
  rintro us ⟨A,n,c,r,rfl,hA,h⟩ hs
  have h1:=hs j (List.mem_cons_self ..)
  exact ⟨_,_,rfl,rfl,_,_,rfl,rfl,_,_,rfl,⟨A,n,c,rfl,hA,by rw [←hA.1.1];exact h1⟩,ih h fun j hj=>hs j (List.mem_cons_of_mem _ hj)⟩
theorem SlV.R {n sz:Nat} {R:List Value→Prop} {ls:List Lc} (h:SlV W v n sz R) (hS:∀ g,S g) (hl:ls.length=n*sz) (hR:∀ us,R us→LcL S W ls us):(Lc.sl sz n ls).R S W v:=by
 obtain ⟨A,c,e,hc,h⟩:=h
 refine ⟨hl,A,c,e,hc,?_⟩
 rcases h with rfl |⟨ad,T,cs,e1,e2,hB,h3,h4⟩
 ·exact .inl (List.eq_nil_of_length_eq_zero (by rw [hl];exact Nat.zero_mul _))
 ·exact .inr ⟨ad,T,cs,e1,e2,hS _,hB,by rw [hl];exact h3,by rw [hl];exact hR _ h4⟩
end
abbrev Rj:Nat→Bool:=fun _=>false
theorem Bu (g:Nat):SepF false t6 Rj g:=⟨⟨fun b h=>(by cases h),fun b h=>(by cases h)⟩,fun h=>(by cases h)⟩
section
variable {W:World} {v:Value}
theorem BoxV.ws {l:List J} (h:BoxV W v l) (hs:∀ j∈l,j.lo.xs.length≤100000∧j.hi.xs.length≤100000):(bv l).R t6 Rj W v:=RL.one.2 (h.R Bu (FH l) fun _ h=>h.ws hs)
theorem PtsV.ws {l:List X} (h:PtsV W v l) (hs:∀ j∈l,j.xs.length≤100000):(qi l).R t6 Rj W v:=RL.one.2 (h.R Bu (OZ l) fun _ h=>h.ws hs)
end
section
variable {H:Type} {enc:TypeId×Value→H} {W:World}
end
end
section
open Go.RowKit Nx
set_option linter.unusedVariables false
set_option linter.unusedSimpArgs false
attribute [local irreducible] ar
end
end
section
open Go.RowKit Nx
set_option linter.unusedVariables false
set_option linter.unusedSimpArgs false
attribute [local irreducible] ar
set_option maxRecDepth 100000 in
set_option maxHeartbeats 4000000 in
theorem LU (z:Int):Ct Tryz.prog 62 [iA z] (·=bA (prb z)):=by
 refine ak (O:=ai eJ) (by kernel_rfl) be (fun w=>aa bk _ w) [] 2500 9 [.tmp 2] Tryz.func62 rfl Tryz.ntmps62 (by rw [Tryz.results62]) (by simp) rfl (fun hsm=>?_)
 simp (maxSteps:=10000000) only [run,seval,ji,X.L,J.L,vL,X.eta,J.eta,Q.eta,List.cons_append,List.nil_append,tZ,cu,cw,aZ,a5,bN,Aa,kN,tX,m6,bR,eG,dH,eF,eE,iV,iU,jx,jy,il,I3,qE,okO,v8,I8,ju,jw,iW,eZ,dU,hd1,pick,ax,inL,bH,bx,dom,kV,tQ,Bb,evd,okeys,look,lZ,lC,jG,j7,lenOf,ri,vE,MN,xG,MT,rc,LO,MP,Em,MS,MQ,yN,MR,I9,ru,yw,rv,yx,cZ,Dy,keysOf,ai,mn,po,rj,olA,olL,Ej,Bt,qu,Cp,aF,↓cond_true,↓cond_false,↓bu,eJ,one,fK,k7,e7,aT,nG,rE,outPs,mX,outL,fD,k8,oI,rI,jf,decide_true,decide_false,reduceCtorEq,List.all_cons,List.all_nil,Bool.and_true,Bool.and_self,true_and,and_true,and_self,List.length_cons,List.length_nil,List.drop_succ_cons,List.drop_zero,List.take_succ_cons,List.take_zero,List.getElem?_cons_zero,List.getElem?_cons_succ,List.map_cons,List.map_nil,false_implies,true_implies,Option.bind_some,List.getElem?_toArray,Bool.false_eq_true,List.append_nil,List.flatMap_cons,List.flatMap_nil,true_or,or_true,forall_const,List.reverse_cons,List.reverse_nil,Option.isSome_some,Option.any_some,Nat.lt_irrefl,not_true_eq_false,Bool.not_true,Bool.not_false,imp_self,implies_true,Bool.not_eq_true',Bool.not_eq_false',Bool.true_eq_false,dQ,cntF,nmL,o8,nmA,tn,tR,uc,bB,pH,cT,bO,rp,Int.toNat_zero,decide_eq_true_eq,eH,eU,rf,rh,BEq.rfl,beq_self_eq_true,Int.natCast_zero,ge_iff_le,gt_iff_lt,Int.le_refl,Nat.zero_mul,Nat.one_mul,Nat.zero_add,Nat.zero_lt_succ,Nat.lt_add_one,Nat.le_refl,List.append_eq,dM,cV,dS,cW,↓fc,↓fd,↓gG,↓gH,↓gT,↓gU,↓dR,↓eu,↓gW,↓gX,↓gK,↓gL,↓gR,↓gS,↓gw,↓gD,↓gO,↓gQ,bP,cp,bne_self_eq_false,wr2,Eo,Ep,Er,Es,Et,Eu,gN,ur,I6,gI,CW,mW,gJ,l5,PK,sG,I4,gB,gP,zu,Eh,Ei,ry,jC,tY,nw,ox,m7,qg,g9,cU,iP,dz,jM,Lc.up,AA,BO,pY,Int.toNat_natCast,List.replicate_succ,List.replicate_zero,List.flatten_cons,List.flatten_nil,Int.ofNat_lt,Int.cast_ofNat_Int,Int.ofNat_eq_natCast,List.isEmpty_nil,List.isEmpty_cons,and_false,false_and,List.cons_ne_nil,Nat.add_zero,ite_true,ite_false,if_true,if_false,Nat.le_zero_eq,eq_self,Bool.and_false,Bool.false_and,Bool.true_and,zX,zJ]
 repeat' with_reducible first |apply And.intro |apply condP<;>intro _
 all_goals first |(show ar _ _=true;kernel_rfl)|assumption |(simp only [go_sem, *,List.length_cons,List.length_nil,Nat.reduceAdd,decide_true,cU,g9,dz,iP,bne_self_eq_false,dM,cV,dS,cW,bP,cp,X.L,J.L,zX,zJ,prb];done)|rfl |(simp only [go_sem, *,List.length_cons,List.length_nil,Nat.reduceAdd,decide_true,cU,g9,dz,iP,bne_self_eq_false,dM,cV,dS,cW,bP,cp,X.L,J.L,zX,zJ,prb];rfl)|(exfalso;simp_all only [Bool.true_eq_false,Bool.false_eq_true,reduceCtorEq];done)
noncomputable def ae:b9:=one 62 (gI fun z=>(True,bA (prb z)))
theorem av:TbOK Tryz.prog ae:=aH (aX Tryz.func62 (by kernel_rfl) rfl) fun args e h hp=>by obtain ⟨z,rfl,rfl⟩:=d6 h;exact LU z
end
end Go.Proofs.YtpacpmmdjmnamaaGreatDoor
