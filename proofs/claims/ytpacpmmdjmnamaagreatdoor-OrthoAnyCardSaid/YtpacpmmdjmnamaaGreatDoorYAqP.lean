/- The document's columns: what is left of one. -/
import Derived.Test.YtpacpmmdjmnamaaGreatDoorYAqO
namespace Go.Proofs.YtpacpmmdjmnamaaGreatDoor
open Go.RowKit Nx
set_option linter.unusedVariables false
set_option linter.unusedSimpArgs false
set_option maxRecDepth 100000
set_option maxHeartbeats 4000000
attribute [local go_sem] run dX X.L J.L vL X.eta J.eta Q.eta List.cons_append List.nil_append iH dU dV bW bX da nc dA iE eq aG bj aL aR bi cL cQ cR cM inL aS bE dom fH kU nD evd okeys look dN di co cV lenOf fw jb qK jw qQ fv qf np qh qg nL pF eX jF eY jG bu nV keysOf aD ir jp jg olA olL ot nU mS nT dh jx one cT fi cu bq gG eO jf iO cH decide_true decide_false List.all_cons List.all_nil Bool.and_true Bool.and_self true_and and_true and_self List.length_cons List.length_nil List.drop_succ_cons List.drop_zero List.take_succ_cons List.take_zero List.getElem?_cons_zero List.getElem?_cons_succ List.map_cons List.map_nil false_implies true_implies Option.bind_some List.getElem?_toArray Bool.false_eq_true List.append_nil List.flatMap_cons List.flatMap_nil true_or or_true forall_const List.reverse_cons List.reverse_nil Option.isSome_some Option.any_some Nat.lt_irrefl not_true_eq_false Bool.not_true Bool.not_false imp_self implies_true Bool.not_eq_true' Bool.not_eq_false' Bool.true_eq_false fL jo lQ lV oq pR qo cO qw iJ fB sy Int.toNat_zero decide_eq_true_eq fW fX so sr BEq.rfl beq_self_eq_true Int.natCast_zero ge_iff_le gt_iff_lt Int.le_refl Nat.zero_mul Nat.one_mul Nat.zero_add Nat.zero_lt_succ Nat.lt_add_one Nat.le_refl List.append_eq Int.toNat_natCast gN pP pO gI ek kc gJ su sv ka ss cK cS cN cD pN fN okO je pT gH outPs ep outL fT rD aT aE aY aF bne_self_eq_false wr2 nM nN nO nP nQ nR gB gP nF nG nH gu cG bw cJ aN nE Lc.up pU List.replicate_succ List.replicate_zero List.flatten_cons List.flatten_nil Int.ofNat_lt Int.cast_ofNat_Int Int.ofNat_eq_natCast List.isEmpty_nil List.isEmpty_cons and_false false_and List.cons_ne_nil Nat.add_zero ite_true ite_false if_true if_false Nat.le_zero_eq eq_self Bool.and_false Bool.false_and Bool.true_and nY gA gE kg oO ip fF ed ef eA eg ite_self jd AV.s cond_true cond_false Bool.or_true Bool.true_or Bool.or_false Bool.false_or
attribute [local go_sem ↓] cond_true cond_false cw aW aX bI bJ bR bS aU aV bT bU bK bL bP bQ bG bH bM bN
attribute [local irreducible] be
theorem Ei (q:Q):(res q).2=0∨(res q).2=2:=by
 by_cases hf:iX q
 ·rw [eF hf];exact .inl rfl
 ·rw [eW hf];exact .inr rfl
theorem dot_err {z:Int} {u v:List X} (hz:pQ z=true) (hu:∀ x∈u,GX x) (hv:∀ x∈v,GX x) (hl:v.length=u.length):∀ j,j≤u.length→GX (dM z u v j).1∧((dM z u v j).2=0∨(dM z u v j).2=2):=by
 intro j
 induction j with
 |zero=>intro _;exact ⟨gx_nil,.inl rfl⟩
 |succ j ih=>
  intro hj
  obtain ⟨i1,i2⟩:=ih (by omega)
  have hx:=rx hu (i:=j) (by omega)
  have hy:=rx hv (i:=j) (by omega)
  have e:dM z u v (j+1)=bif (dM z u v j).2 !=0 then (zX,(dM z u v j).2) else
   bif (an (bf z false) z (u.getD j zX) (v.getD j zX)).2 !=0 then (zX,(an (bf z false) z (u.getD j zX) (v.getD j zX)).2) else
   bif (an (eB z false) z (dM z u v j).1 (qx (an (bf z false) z (u.getD j zX) (v.getD j zX)).1)).2 !=0 then (zX,(an (eB z false) z (dM z u v j).1 (qx (an (bf z false) z (u.getD j zX) (v.getD j zX)).1)).2) else
   (qx (an (eB z false) z (dM z u v j).1 (qx (an (bf z false) z (u.getD j zX) (v.getD j zX)).1)).1,0):=rfl
  generalize u.getD j zX=x at*
  generalize v.getD j zX=y at*
  have gm:GX (qx (an (bf z false) z x y).1):=uW (pA Br)
  have e1:(an (bf z false) z x y).2=0∨(an (bf z false) z x y).2=2:=by rw [rJ (b:=false) hx.1 hy.1 hz];exact Ei _
  have e2:(an (eB z false) z (dM z u v j).1 (qx (an (bf z false) z x y).1)).2=0∨(an (eB z false) z (dM z u v j).1 (qx (an (bf z false) z x y).1)).2=2:=by rw [gp i1.1 gm.1 hz];exact Ei _
  rw [e]
  cases h0:(dM z u v j).2 !=0 with
  |true=>exact ⟨gx_nil,i2⟩
  |false=>cases h1:(an (bf z false) z x y).2 !=0 with
   |true=>exact ⟨gx_nil,e1⟩
   |false=>cases h2:(an (eB z false) z (dM z u v j).1 (qx (an (bf z false) z x y).1)).2 !=0 with
    |true=>exact ⟨gx_nil,e2⟩
    |false=>exact ⟨uW (pA Bq),.inl rfl⟩
theorem vW {z:Int} {u v:List X} (hz:pQ z=true) (hu:∀ x∈u,GX x) (hv:∀ x∈v,GX x) (hl:v.length=u.length) (h:((aJ z u v).2 !=0)=true):(aJ z u v).2=2:=by
 rcases (dot_err hz hu hv hl u.length (Nat.le_refl _)).2 with h1 |h1
 ·have h1:(aJ z u v).2=0:=h1
  rw [h1] at h;cases h
 ·exact h1
theorem Cb {α:Type} {F G:Nat→α×Int} (h:∀ i,F i=G i∨((F i).2=(G i).2∧((F i).2 !=0)=true)):∀ n,eachN F n=eachN G n:=by
 intro n
 induction n with
 |zero=>rfl
 |succ n ih=>
  show (bif (eachN F n).2 !=0 then eachN F n else bif (F n).2 !=0 then ([],(F n).2) else ((eachN F n).1++[(F n).1],0))=(bif (eachN G n).2 !=0 then eachN G n else bif (G n).2 !=0 then ([],(G n).2) else ((eachN G n).1++[(G n).1],0))
  rw [ih]
  rcases h n with e |⟨e1,e2⟩
  ·rw [e]
  ·rw [←e1,e2];rfl
theorem EO (z:Int) (c x y:X):uk z y c x=gy z c x y∨((uk z y c x).2=(gy z c x y).2∧((uk z y c x).2 !=0)=true):=by
 unfold uk gy
 cases h:(an (bf z false) z c x).2 !=0 with
 |true=>exact .inr ⟨rfl,h⟩
 |false=>exact .inl rfl
noncomputable def eu (z:Int) (v u:List X):GR:=bif (witS z v u).2 !=0 then .err (witS z v u).2 else .ok ⟨(witS z v u).1.length,30,3,(witS z v u).1.flatMap X.L⟩
theorem Fk {α:Type} {cf:α→List Lf} {p:Lf→Bool} (h:∀ a,(cf a).all p=true):∀ (l:List α),(l.flatMap cf).all p=true:=by
 intro l
 induction l with
 |nil=>rfl
 |cons a l ih=>rw [List.flatMap_cons,List.all_append,h,ih];rfl
theorem Cf {α:Type} {cf:α→List Lf} (l:List α) (a:α):l.flatMap cf++cf a=(l++[a]).flatMap cf:=by rw [List.flatMap_append,List.flatMap_cons,List.flatMap_nil,List.append_nil]
theorem Jt (v u:List X) (z:Int) (hl:v.length=u.length) (h1:1≤u.length) (h2:u.length≤1000) (e1:((aJ z u v).2 !=0)=true):Gd Tryz.prog 63 [eM v,eM u,iA z] (.err 2):=by
 have hl0:=eq_true hl
 have h20:=eq_true h2
 refine mh (O:=aD (dh ec (dh aI dZ))) (by kernel_rfl) az (fun w=>ao (av jM (av dG jL)) _ w) [] 600 75 [.tmp 6,.tmp 7] Tryz.func63 rfl Tryz.ntmps63 (by rw [Tryz.results63]) (by simp) rfl (fun hsm=>?_)
 simp (maxSteps:=10000000) only [go_sem,seval,reduceCtorEq,bv,ec,aI,dZ,rv,gX,hl0,h20,e1,jY,iU,kZ,jh,hd1,pick,bD,go,iI,dE,gW,fx]
 repeat' with_reducible first |apply And.intro |apply condP<;>intro _
 all_goals first |(show be _ _=true;kernel_rfl)|assumption |rfl |(simp only [go_sem, *]<;>rfl)
theorem Ju (v u:List X) (z:Int) (hl:v.length=u.length) (h1:1≤u.length) (h2:u.length≤1000) (e1:((aJ z u v).2 !=0)=false) (e2:((aJ z u u).2 !=0)=true):Gd Tryz.prog 63 [eM v,eM u,iA z] (.err 2):=by
 have hl0:=eq_true hl
 have h20:=eq_true h2
 refine mh (O:=aD (dh ec (dh aI dZ))) (by kernel_rfl) az (fun w=>ao (av jM (av dG jL)) _ w) [] 600 75 [.tmp 6,.tmp 7] Tryz.func63 rfl Tryz.ntmps63 (by rw [Tryz.results63]) (by simp) rfl (fun hsm=>?_)
 simp (maxSteps:=10000000) only [go_sem,seval,reduceCtorEq,bv,ec,aI,dZ,rv,gX,hl0,h20,e1,e2,jY,iU,kZ,jh,hd1,pick,bD,go,iI,dE,gW,fx]
 repeat' with_reducible first |apply And.intro |apply condP<;>intro _
 all_goals first |(show be _ _=true;kernel_rfl)|assumption |rfl |(simp only [go_sem, *]<;>rfl)
theorem Jv (v u:List X) (z:Int) (hl:v.length=u.length) (h1:1≤u.length) (h2:u.length≤1000) (e1:((aJ z u v).2 !=0)=false) (e2:((aJ z u u).2 !=0)=false) (e3:((an (dq z false) z (aJ z u v).1 (aJ z u u).1).2 !=0)=true):Gd Tryz.prog 63 [eM v,eM u,iA z] (.err (an (dq z false) z (aJ z u v).1 (aJ z u u).1).2):=by
 have hl0:=eq_true hl
 have h20:=eq_true h2
 refine mh (O:=aD (dh ec (dh aI dZ))) (by kernel_rfl) az (fun w=>ao (av jM (av dG jL)) _ w) [] 600 75 [.tmp 6,.tmp 7] Tryz.func63 rfl Tryz.ntmps63 (by rw [Tryz.results63]) (by simp) rfl (fun hsm=>?_)
 simp (maxSteps:=10000000) only [go_sem,seval,reduceCtorEq,bv,ec,aI,dZ,rv,gX,hl0,h20,e1,e2,e3,jY,iU,kZ,jh,hd1,pick,bD,go,iI,dE,gW,fx]
 repeat' with_reducible first |apply And.intro |apply condP<;>intro _
 all_goals first |(show be _ _=true;kernel_rfl)|assumption |rfl |(simp only [go_sem, *]<;>rfl)
def nK (v u:List X) (z:Int) (c:X) (F:Nat→X×Int):Nat→St
 |0=>[(0,eM v),(2,eM u),(4,iA z),(12,.s (.lit (.slice none 0 0))),(14,iA 0),(24,.s (.own 12 0)),(25,.v true c.L)]++[(26,.s (.lit (.slice none 0 0))),(28,iA 0)]
 |j+1=>[(0,eM v),(2,eM u),(4,iA z),(12,.s (.lit (.slice none 0 0))),(14,iA 0),(24,.s (.own 12 0)),(25,.v true c.L)]++[(26,.s (.ol 73 (j+1))),(28,iA ((j+1:Nat):Int)),(147,.pre 30 3 ((eachN F (j+1)).1.flatMap X.L))]
theorem Jw (v u:List X) (z:Int) (hl:v.length=u.length) (h1:1≤u.length) (h2:u.length≤1000) (e1:((aJ z u v).2 !=0)=false) (e2:((aJ z u u).2 !=0)=false) (e3:((an (dq z false) z (aJ z u v).1 (aJ z u u).1).2 !=0)=false) (er:Nat→GR) (her:∀ n,er n=bif (eachN (fun i=>uk z (v.getD i zX) (qx (an (dq z false) z (aJ z u v).1 (aJ z u u).1).1) (u.getD i zX)) n).2 !=0 then .err (eachN (fun i=>uk z (v.getD i zX) (qx (an (dq z false) z (aJ z u v).1 (aJ z u u).1).1) (u.getD i zX)) n).2 else .ok ⟨(eachN (fun i=>uk z (v.getD i zX) (qx (an (dq z false) z (aJ z u v).1 (aJ z u u).1).1) (u.getD i zX)) n).1.length,30,3,(eachN (fun i=>uk z (v.getD i zX) (qx (an (dq z false) z (aJ z u v).1 (aJ z u u).1).1) (u.getD i zX)) n).1.flatMap X.L⟩):Gd Tryz.prog 63 [eM v,eM u,iA z] (er v.length):=by
 have hl0:=eq_true hl
 have h20:=eq_true h2
 refine mh (O:=aD (dh ec (dh aI dZ))) (by kernel_rfl) az (fun w=>ao (av jM (av dG jL)) _ w) [9999999,0,2,4,12,14,24,25,26,28,147] ((v.length+1)*900+900) 75 [.tmp 6,.tmp 7] Tryz.func63 rfl Tryz.ntmps63 (by rw [Tryz.results63]) (by simp) rfl (fun hsm=>?_)
 simp (maxSteps:=10000000) only [go_sem,seval,reduceCtorEq,bv,ec,aI,dZ,rv,gX,hl0,h20,e1,e2,e3]
 generalize hc0:qx (an (dq z false) z (aJ z u v).1 (aJ z u u).1).1=c
 generalize hF0:(fun i=>uk z (v.getD i zX) c (u.getD i zX))=F
 have hFj:∀ j,F j=uk z (v.getD j zX) c (u.getD j zX):=fun j=>by rw [←hF0]
 replace her:∀ n,er n=bif (eachN F n).2 !=0 then .err (eachN F n).2 else .ok ⟨(eachN F n).1.length,30,3,(eachN F n).1.flatMap X.L⟩:=fun n=>by rw [her n,hc0,hF0]
 refine aP 900 (nK v u z c F) v.length (fun j=>(eachN F j).2=0) 0 (fun j _=>by cases j with
  |zero=>rfl
  |succ j=>simp only [nK,List.cons_append,List.nil_append,List.all_cons,List.all_nil,aS,bE,X.L,Fk (p:=bE _) (In _),Bool.and_true];rfl) (fun j mm _ hj hI ih=>?_) (by omega) rfl rfl
 have hlen:=eK hI
 rcases Nat.lt_or_ge j v.length with hlt |hge
 ·have hxj:=ba zX hlt
  have hyj:=ba zX (show j<u.length by omega)
  have hFj:=hFj j
  generalize v.getD j zX=x at*
  generalize u.getD j zX=y at*
  have hx:=fq hxj
  have hy:=fq hyj
  have d:=decide_eq_true (show (j:Int)<(v.length:Int) by omega)
  have g0:(0≤(j:Int))=True:=eq_true (by omega)
  have g1:(j<v.length)=True:=eq_true hlt
  have g2:(j<u.length)=True:=eq_true (by omega)
  have hw:=aZ (j:=j) (by omega)
  cases hF:(F j).2 !=0 with
  |true=>
   have hr:(eachN F v.length)=([],(F j).2):=jt hI hF hlt
   have hre:er v.length= .err (F j).2:=by rw [her,hr];show (bif (F j).2 !=0 then _ else _)=_;rw [hF];rfl
   rw [hre]
   rw [hFj] at hF ⊢
   rcases Nat.eq_zero_or_pos j with hj0 |hj0
   ·have hst:nK v u z c F j=[(0,eM v),(2,eM u),(4,iA z),(12,.s (.lit (.slice none 0 0))),(14,iA 0),(24,.s (.own 12 0)),(25,.v true c.L)]++[(26,.s (.lit (.slice none 0 0))),(28,iA (j:Int))]:=by subst hj0;rfl
    rw [hst]
    simp (maxSteps:=10000000) only [go_sem,seval,reduceCtorEq,bv,ec,aI,dZ,rv,gX,hl0,h20,d,g0,g1,g2,hw,hx,hy,hF]
    repeat' with_reducible first |apply And.intro |apply condP<;>intro _
    all_goals first |(show be _ _=true;kernel_rfl)|assumption |rfl |(simp only [go_sem, *]<;>rfl)
   ·obtain ⟨j,rfl⟩:∃ i,j=i+1:=⟨j - 1,by omega⟩
    have hl:((eachN F (j+1)).1.flatMap X.L).length=(j+1)*3:=by rw [dJ,hlen]
    simp (maxSteps:=10000000) only [go_sem,seval,reduceCtorEq,bv,ec,aI,dZ,rv,gX,hl0,h20,d,g0,g1,g2,hw,hx,hy,nK,hF,hl]
    repeat' with_reducible first |apply And.intro |apply condP<;>intro _
    all_goals first |(show be _ _=true;kernel_rfl)|assumption |rfl |(simp only [go_sem, *]<;>rfl)
  |false=>
   have hF1:(F j).2=0:=by simpa using hF
   have hkk:=iu hI hF1
   have hk2:(eachN F (j+1)).2=0:=by rw [hkk]
   replace ih:=ih hlt hk2
   have es:(eachN F j).1.flatMap X.L++[.lit (.bool (uk z x c y).1.s),.lit (.int .i64 (uk z x c y).1.e),.ws (uk z x c y).1.xs]=(eachN F (j+1)).1.flatMap X.L:=by rw [hkk,←Cf,hFj];rfl
   rw [hFj] at hF
   rcases Nat.eq_zero_or_pos j with hj0 |hj0
   ·have hst:nK v u z c F j=[(0,eM v),(2,eM u),(4,iA z),(12,.s (.lit (.slice none 0 0))),(14,iA 0),(24,.s (.own 12 0)),(25,.v true c.L)]++[(26,.s (.lit (.slice none 0 0))),(28,iA (j:Int))]:=by subst hj0;rfl
    rw [hst]
    simp (maxSteps:=10000000) only [go_sem,seval,reduceCtorEq,bv,ec,aI,dZ,rv,gX,hl0,h20,d,g0,g1,g2,hw,hx,hy,hF]
    repeat' with_reducible first |apply And.intro |apply condP<;>intro _
    all_goals first |(show be _ _=true;kernel_rfl)|(exact ih _ _ (by subst hj0;rw [nK,←es];rfl))|assumption |rfl
   ·obtain ⟨j,rfl⟩:∃ i,j=i+1:=⟨j - 1,by omega⟩
    have hl:((eachN F (j+1)).1.flatMap X.L).length=(j+1)*3:=by rw [dJ,hlen]
    have g5:(j+1≤100000)=True:=eq_true (by omega)
    simp (maxSteps:=10000000) only [go_sem,seval,reduceCtorEq,bv,ec,aI,dZ,rv,gX,hl0,h20,d,g0,g1,g2,hw,hx,hy,nK,hF,hl,g5,es]
    repeat' with_reducible first |apply And.intro |apply condP<;>intro _
    all_goals first |(show be _ _=true;kernel_rfl)|(exact ih _ _ rfl)|assumption |rfl
 ·obtain ⟨i,rfl⟩:∃ i,j=i+1:=⟨j - 1,by omega⟩
  have hn:v.length=i+1:=by omega
  have dn:(i+1<v.length)=False:=eq_false (by omega)
  have hl:((eachN F (i+1)).1.flatMap X.L).length=(i+1)*3:=by rw [dJ,hlen]
  have hok:=mw (eachN F (i+1)).1
  have hcl:=zH (eachN F (i+1)).1
  have hre:er v.length= .ok ⟨i+1,30,3,(eachN F (i+1)).1.flatMap X.L⟩:=by rw [her,hn];show (bif (eachN F (i+1)).2 !=0 then _ else _)=_;rw [hI,hlen];rfl
  have hpos:(0<i+1)=True:=eq_true (by omega)
  rw [hre]
  simp (maxSteps:=10000000) only [go_sem,seval,reduceCtorEq,bv,ec,aI,dZ,rv,gX,hl0,h20,nK,dn,hl,hok,hpos,Fy,uU]
  repeat' with_reducible first |apply And.intro |apply condP<;>intro _
  all_goals first |(show be _ _=true;kernel_rfl)|assumption |rfl |(simp only [go_sem, *]<;>rfl)
theorem Jx (v u:List X) (z:Int) (hl:v.length=u.length) (h1:1≤u.length) (h2:u.length≤1000) (hz:pQ z=true) (hv:∀ x∈v,GX x) (hu:∀ x∈u,GX x):Gd Tryz.prog 63 [eM v,eM u,iA z] (eu z v u):=by
 unfold eu witS facS
 cases e1:(aJ z u v).2 !=0 with
 |true=>
  have:=vW hz hu hv hl e1
  rw [cond_true,this]
  exact Jt v u z hl h1 h2 e1
 |false=>cases e2:(aJ z u u).2 !=0 with
  |true=>
   have:=vW hz hu hu rfl e2
   rw [cond_false,cond_true,this]
   exact Ju v u z hl h1 h2 e1 e2
  |false=>cases e3:(an (dq z false) z (aJ z u v).1 (aJ z u u).1).2 !=0 with
   |true=>
    rw [cond_false,cond_false]
    show Gd _ _ _ (bif (bif (an (dq z false) z (aJ z u v).1 (aJ z u u).1).2 !=0 then (([],(an (dq z false) z (aJ z u v).1 (aJ z u u).1).2):List X×Int) else _).2 !=0 then GR.err (bif (an (dq z false) z (aJ z u v).1 (aJ z u u).1).2 !=0 then (([],(an (dq z false) z (aJ z u v).1 (aJ z u u).1).2):List X×Int) else _).2 else _)
    rw [e3,cond_true]
    show Gd _ _ _ (bif (an (dq z false) z (aJ z u v).1 (aJ z u u).1).2 !=0 then GR.err (an (dq z false) z (aJ z u v).1 (aJ z u u).1).2 else _)
    rw [e3,cond_true]
    exact Jv v u z hl h1 h2 e1 e2 e3
   |false=>
    have:=Jw v u z hl h1 h2 e1 e2 e3 _ (fun n=>rfl)
    rw [Cb (fun i=>EO z _ _ _)] at this
    rw [cond_false,cond_false]
    show Gd _ _ _ (bif (bif (an (dq z false) z (aJ z u v).1 (aJ z u u).1).2 !=0 then (([],(an (dq z false) z (aJ z u v).1 (aJ z u u).1).2):List X×Int) else eachN (fun i=>gy z (qx (an (dq z false) z (aJ z u v).1 (aJ z u u).1).1) (u.getD i zX) (v.getD i zX)) u.length).2 !=0 then GR.err (bif (an (dq z false) z (aJ z u v).1 (aJ z u u).1).2 !=0 then (([],(an (dq z false) z (aJ z u v).1 (aJ z u u).1).2):List X×Int) else eachN (fun i=>gy z (qx (an (dq z false) z (aJ z u v).1 (aJ z u u).1).1) (u.getD i zX) (v.getD i zX)) u.length).2 else GR.ok ⟨(bif (an (dq z false) z (aJ z u v).1 (aJ z u u).1).2 !=0 then (([],(an (dq z false) z (aJ z u v).1 (aJ z u u).1).2):List X×Int) else eachN (fun i=>gy z (qx (an (dq z false) z (aJ z u v).1 (aJ z u u).1).1) (u.getD i zX) (v.getD i zX)) u.length).1.length,_,_,(bif (an (dq z false) z (aJ z u v).1 (aJ z u u).1).2 !=0 then (([],(an (dq z false) z (aJ z u v).1 (aJ z u u).1).2):List X×Int) else eachN (fun i=>gy z (qx (an (dq z false) z (aJ z u v).1 (aJ z u u).1).1) (u.getD i zX) (v.getD i zX)) u.length).1.flatMap X.L⟩)
    rw [e3,cond_false,←hl]
    exact this
noncomputable def dY:List AV→Option (Prop×GR):=uA ny fun v=>uA ny fun u=>uA kg fun z=>uE (v.length=u.length∧1≤u.length∧u.length≤1000∧pQ z=true∧(∀ x∈v,GX x)∧∀ x∈u,GX x,eu z v u)
theorem ry (w:World):OrOK Tryz.prog (eo 63 dY) (fun _=>False) w:=zn (ew Tryz.func63 (by kernel_rfl) rfl) (GdT.a fj fun v=>GdT.a fj fun u=>GdT.a iq fun z=>GdT.e fun h=>Jx v u z h.1 h.2.1 h.2.2.1 h.2.2.2.1 h.2.2.2.2.1 h.2.2.2.2.2)
end Go.Proofs.YtpacpmmdjmnamaaGreatDoor
