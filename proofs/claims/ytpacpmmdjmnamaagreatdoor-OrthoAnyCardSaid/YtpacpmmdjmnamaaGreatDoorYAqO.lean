/- The document's columns: how far up the greatest goes. -/
import Derived.Test.YtpacpmmdjmnamaaGreatDoorYAqN
import Derived.Test.YtpacpmmdjmnamaaGreatDoorYAq3
namespace Go.Proofs.YtpacpmmdjmnamaaGreatDoor
open Go.RowKit Nx
set_option linter.unusedVariables false
set_option linter.unusedSimpArgs false
attribute [local go_sem] run dX X.L J.L vL X.eta J.eta Q.eta List.cons_append List.nil_append iH dU dV bW bX da nc dA iE eq aG bj aL aR bi cL cQ cR cM inL aS bE dom fH kU nD evd okeys look dN di co cV lenOf fw jb qK jw qQ fv qf np qh qg nL pF eX jF eY jG bu nV keysOf aD ir jp jg olA olL ot nU mS nT dh jx one cT fi cu bq gG eO jf iO cH decide_true decide_false List.all_cons List.all_nil Bool.and_true Bool.and_self true_and and_true and_self List.length_cons List.length_nil List.drop_succ_cons List.drop_zero List.take_succ_cons List.take_zero List.getElem?_cons_zero List.getElem?_cons_succ List.map_cons List.map_nil false_implies true_implies Option.bind_some List.getElem?_toArray Bool.false_eq_true List.append_nil List.flatMap_cons List.flatMap_nil true_or or_true forall_const List.reverse_cons List.reverse_nil Option.isSome_some Option.any_some Nat.lt_irrefl not_true_eq_false Bool.not_true Bool.not_false imp_self implies_true Bool.not_eq_true' Bool.not_eq_false' Bool.true_eq_false fL jo lQ lV oq pR qo cO qw iJ fB sy Int.toNat_zero decide_eq_true_eq fW fX so sr BEq.rfl beq_self_eq_true Int.natCast_zero ge_iff_le gt_iff_lt Int.le_refl Nat.zero_mul Nat.one_mul Nat.zero_add Nat.zero_lt_succ Nat.lt_add_one Nat.le_refl List.append_eq Int.toNat_natCast gN pP pO gI ek kc gJ su sv ka ss cK cS cN cD pN fN okO je pT gH outPs ep outL fT rD aT aE aY aF bne_self_eq_false wr2 nM nN nO nP nQ nR gB gP nF nG nH gu cG bw cJ aN nE Lc.up pU List.replicate_succ List.replicate_zero List.flatten_cons List.flatten_nil Int.ofNat_lt Int.cast_ofNat_Int Int.ofNat_eq_natCast List.isEmpty_nil List.isEmpty_cons and_false false_and List.cons_ne_nil Nat.add_zero ite_true ite_false if_true if_false Nat.le_zero_eq eq_self Bool.and_false Bool.false_and Bool.true_and nY gA gE kg oO ip fF ed ef eA eg ite_self AV.s cond_true cond_false Bool.or_true Bool.true_or Bool.or_false Bool.false_or
attribute [local go_sem ↓] cond_true cond_false cw aW aX bI bJ bR bS aU aV bT bU bK bL bP bQ bG bH bM bN
attribute [local irreducible] be
def jJ:AV→Option (List Nat)
 |.v false [.ws xs]=>some xs
 |_=>none
theorem EL:sA jJ (fun xs=>.s (.ws xs)):=by
 intro x a h ρ D w u hR
 unfold jJ at h
 split at h
 ·injection h with h;subst h;exact hR
 ·cases h
def EH:AV→Option Nat
 |.v false [.dg n]=>some n
 |_=>none
theorem EI:sA EH (fun n=>.s (.dg n)):=by
 intro x a h ρ D w u hR
 unfold EH at h
 split at h
 ·injection h with h;subst h;exact hR
 ·cases h
theorem GK (xs:List Nat):Ct Tryz.prog 128 [.s (.ws xs)] (·= .s (.dg (nval B64 xs))):=by
 rintro ρ D w us ht ⟨u,_,rfl,hx,rfl⟩
 obtain ⟨A,n,c,rfl,hA,hn⟩:=RL.one.1 hx
 refine (mB w 0 w.heap.size A n c xs hA.1 hA.2 (by omega) (Nat.le_refl _)).mono ?_
 rintro e w' ⟨A',n',c',rfl,h1,hb⟩
 exact ⟨_,_,rfl,rfl,rfl,fun ρ' D' _=>RL.one.2 ⟨A',n',c',rfl,h1.less (Nat.zero_le _)⟩,hb⟩
theorem GH (N:Nat) (h:(digs B32 N).length≤200):Ct Tryz.prog 127 [.s (.dg N)] (·=iA (nbits N:Int)):=by
 rintro ρ D w us ht ⟨u,_,rfl,hx,rfl⟩
 obtain ⟨A,n,c,rfl,hA⟩:=RL.one.1 hx
 have hl:=hA.1
 refine (lJ w 0 _ A n c N hA (by omega)).mono ?_
 rintro e w' ⟨rfl,rfl⟩
 exact ⟨_,_,rfl,rfl,rfl,fun ρ' D' _=>RL.one.2 rfl,Below.refl _ _⟩
noncomputable def iN:fR:=one 128 (gA jJ fun xs=>gE (True,.s (.dg (nval B64 xs))))
theorem uu:TbOK Tryz.prog iN:=fM (ew Tryz.func128 (by kernel_rfl) rfl) (.a EL fun xs=>.e fun _=>GK xs)
noncomputable def iL:fR:=one 127 (gA EH fun n=>gE ((digs B32 n).length≤200,iA (nbits n:Int)))
theorem ut:TbOK Tryz.prog iL:=fM (ew Tryz.func127 (by kernel_rfl) rfl) (.a EI fun n=>.e fun h=>GH n h)
theorem FW {x:X} (h:x.ok=true):x.xs.length≤64:=by
 have h:eP x.s x.e x.xs.length x.xs=true:=h
 rcases Nat.eq_zero_or_pos x.xs.length with h0 |h0
 ·omega
 ·unfold eP at h
  rw [if_neg (by omega)] at h
  simp only [Bool.and_eq_true,decide_eq_true_eq] at h
  exact h.1.1.1.2
theorem Ck {x:X} (h:GX x):(digs B32 (nval B64 x.xs)).length≤200:=by
 have h1:=FW h.1
 have h2:nval B64 x.xs<B64^x.xs.length:=aM h.2
 rw [qG] at h2
 have:=bk ah h2
 omega
noncomputable def eT (x:X):Int:=IntKind.i64.wrap (x.e+(nbits (nval B64 x.xs):Int))
noncomputable def qR (v:List X):Nat→Int×Bool
 |0=>(0,false)
 |j+1=>bif ((v.getD j zX).xs.length:Int)==0 then qR v j else
  bif (qR v j).2 then (bif decide ((qR v j).1<eT (v.getD j zX)) then (eT (v.getD j zX),true) else qR v j) else (eT (v.getD j zX),true)
theorem Hx {x:X} (h:GX x):eT x=cd x.q:=by
 have hv:=eQ h.1 h.2
 have b1:(nbits (nval B64 x.xs):Int)+x.e≤x.e+4096:=Dx hv
 have b2: -65536≤x.e:=hv.2.2.1
 have b3:x.e≤65536:=hv.2.2.2
 show IntKind.i64.wrap (x.e+(nbits (nval B64 x.xs):Int))=(nbits (nval B64 x.xs):Int)+x.e
 rw [IntKind.wrap_i64];omega
theorem tY {a b:Q} (ha:aH a) (hb:aH b) (hm:a.m≠0) (h:(a.at 65536).natAbs≤(b.at 65536).natAbs):cd a≤cd b:=by
 have l:∀ {q:Q},aH q→ -((65536:Nat):Int)≤q.e:=fun hq=>by have:=hq.2.2.1;omega
 have h1:=Bl (E:=65536) hm (l ha)
 have h2:=Gx (l hb) (Nat.le_trans h1 h)
 have h3:=dS hm
 have h4:=l ha
 unfold cd at*
 omega
theorem Jc {v:List X} (hv:∀ x∈v,GX x):∀ j,j≤v.length→qR v j=bif decide (0<(grN v j).v) then (cd (grN v j).q,true) else (0,false):=by
 intro j
 induction j with
 |zero=>intro _;rw [show grN v 0=zX from rfl,zX_v];rfl
 |succ j ih=>
  intro hj
  have ih:=ih (by omega)
  obtain ⟨g1,g2,_,_⟩:=wg hv j (by omega)
  have gg:=DP hv j
  have gv:=eQ gg.1 gg.2
  have hx:=rx hv (i:=j) (by omega)
  obtain ⟨a1,a2⟩:=Hn hx
  have xv:=eQ hx.1 hx.2
  have e:grN v (j+1)=bif decide (0<cmpx (qx (absx (v.getD j zX))) (grN v j)) then qx (absx (v.getD j zX)) else grN v j:=rfl
  have u:qR v (j+1)=bif ((v.getD j zX).xs.length:Int)==0 then qR v j else
   bif (qR v j).2 then (bif decide ((qR v j).1<eT (v.getD j zX)) then (eT (v.getD j zX),true) else qR v j) else (eT (v.getD j zX),true):=rfl
  rw [Hx hx] at u
  generalize v.getD j zX=x at*
  by_cases h0:x.q.m=0
  ·have hz:x=zX:=by rw [←Gc hx.1 hx.2,xv.1.1 h0,um]
   have hc:¬ (grN v j).v<(qx (absx x)).v:=by
    rw [a2,hz]
    show ¬ (grN v j).v<((zX.v).natAbs:Int)
    rw [zX_v];show ¬ (grN v j).v<0;omega
   rw [decide_eq_false (fun g=>hc ((jO a1 g1).1 g)),cond_false] at e
   rw [show ((x.xs.length:Int)==0)=true by rw [hz];rfl,cond_true] at u
   rw [u,e,ih]
  ·have hl:((x.xs.length:Int)==0)=false:=by
    have:x.xs.length≠0:=fun h=>h0 (by show nval B64 x.xs=0;rw [List.length_eq_zero_iff.1 h];rfl)
    exact beq_eq_false_iff_ne.2 (by omega)
   rw [hl,cond_false] at u
   have lo: -((65536:Nat):Int)≤x.q.e:=by have:=xv.2.2.1;omega
   have ha:0<(qx (absx x)).v:=by
    rw [a2]
    exact Int.ofNat_lt.2 (Nat.lt_of_lt_of_le (Nat.two_pow_pos _) (Bl (E:=65536) h0 lo))
   have gd:(grN v j).v=(grN v j).q.at 65536:=rfl
   by_cases hc:(grN v j).v<(qx (absx x)).v
   ·rw [decide_eq_true ((jO a1 g1).2 hc),cond_true] at e
    rw [u,e,decide_eq_true ha,cond_true,rc hx.1 hx.2,(gF (kO xv)).2.2,show cd x.q.abs=cd x.q by unfold cd Q.abs;rw [if_neg h0],ih]
    by_cases hp:0<(grN v j).v
    ·rw [decide_eq_true hp,cond_true]
     have hm:(grN v j).q.m≠0:=fun h=>by
      have:grN v j=zX:=by rw [←Gc gg.1 gg.2,gv.1.1 h,um]
      rw [this,zX_v] at hp;omega
     have h1:cd (grN v j).q≤cd x.q:=tY gv xv hm (by rw [a2] at hc;omega)
     show (bif true then (bif decide (cd (grN v j).q<cd x.q) then (cd x.q,true) else (cd (grN v j).q,true)) else (cd x.q,true))=(cd x.q,true)
     rw [cond_true]
     by_cases hq:cd (grN v j).q<cd x.q
     ·rw [decide_eq_true hq];rfl
     ·rw [decide_eq_false hq,show cd (grN v j).q=cd x.q by omega];rfl
    ·rw [decide_eq_false hp];rfl
   ·rw [decide_eq_false (fun g=>hc ((jO a1 g1).1 g)),cond_false] at e
    have hp:0<(grN v j).v:=by omega
    have h1:cd x.q≤cd (grN v j).q:=tY xv gv h0 (by rw [a2] at hc;omega)
    rw [u,e,ih,decide_eq_true hp,cond_true]
    show (bif true then (bif decide (cd (grN v j).q<cd x.q) then (cd x.q,true) else (cd (grN v j).q,true)) else (cd x.q,true))=(cd (grN v j).q,true)
    rw [cond_true,decide_eq_false (by omega)];rfl
theorem IY {v:List X} (hv:∀ x∈v,GX x):(dF (grN v v.length)==0)= !decide (0<(grN v v.length).v):=by
 obtain ⟨g1,g2,_,_⟩:=wg hv v.length (Nat.le_refl _)
 rw [tR g1]
 by_cases hp:0<(grN v v.length).v
 ·have:=sgn_gt.2 hp
  rw [decide_eq_true hp]
  exact beq_eq_false_iff_ne.2 (by omega)
 ·have h1:=sgn_ge.2 g2
  have h2:=sgn_le.2 (show (grN v v.length).v≤0 by omega)
  rw [decide_eq_false hp,show signq (grN v v.length).q=0 by omega];rfl
set_option maxRecDepth 100000 in
set_option maxHeartbeats 4000000 in
theorem Js (v:List X) (h2:v.length≤1000) (hv:∀ x∈v,GX x):Ct Tryz.prog 64 [eM v] (·= .tup [(false,[.lit (.int .i64 (qR v v.length).1)]),(false,[.lit (.bool (qR v v.length).2)])]):=by
 refine bF (O:=aD (dh iN iL)) (by kernel_rfl) az (fun w=>ao (av uu ut) _ w) [9999999,0,4,6,8,10,12] ((v.length+1)*900+300) 44 [.tmp 2,.tmp 3] Tryz.func64 rfl Tryz.ntmps64 (by rw [Tryz.results64]) (by simp) rfl (fun hsm=>?_)
 simp (maxSteps:=10000000) only [go_sem,seval,reduceCtorEq,bv,iN,iL]
 generalize hU:qR v=U
 refine aP 900 (fun j=>[(0,eM v),(4,iA 0),(6,bA false),(8,iA (U j).1),(10,bA (U j).2),(12,iA (j:Int))]) v.length (fun _=>True) 0 (fun j _=>rfl) (fun j mm _ hj _ ih=>?_) (by omega) trivial (by rw [←hU];rfl)
 rcases Nat.lt_or_ge j v.length with hlt |hge
 ·have hyj:=ba zX hlt
  have hgx:=hv _ (List.mem_of_getElem? hyj)
  have hs:U (j+1)=bif ((v.getD j zX).xs.length:Int)==0 then U j else
   bif (U j).2 then (bif decide ((U j).1<eT (v.getD j zX)) then (eT (v.getD j zX),true) else U j) else (eT (v.getD j zX),true):=by rw [←hU];rfl
  replace ih:=ih hlt trivial
  generalize v.getD j zX=x at*
  have hx:=fq hyj
  have hb:((digs B32 (nval B64 x.xs)).length≤200)=True:=eq_true (Ck hgx)
  have het:IntKind.i64.wrap (x.e+(nbits (nval B64 x.xs):Int))=eT x:=rfl
  have d:=decide_eq_true (show (j:Int)<(v.length:Int) by omega)
  have g0:(0≤(j:Int))=True:=eq_true (by omega)
  have g1:(j<v.length)=True:=eq_true hlt
  have hw:=aZ (j:=j) (by omega)
  obtain ⟨⟨a,b⟩,hab⟩:∃ p,p=U j:=⟨_,rfl⟩
  rw [←hab] at hs ⊢
  cases hz:((x.xs.length:Int)==0) with
  |true=>
   rw [hz,cond_true] at hs
   simp (maxSteps:=10000000) only [go_sem,seval,reduceCtorEq,bv,iN,iL,d,g0,g1,hw,hx,jJ,EH,hb,hz]
   repeat' with_reducible first |apply And.intro |apply condP<;>intro _
   all_goals first |(show be _ _=true;kernel_rfl)|(exact ih _ _ (by rw [hs];rfl))|assumption |rfl
  |false=>
   rw [hz,cond_false] at hs
   cases b with
   |false=>
    simp (maxSteps:=10000000) only [go_sem,seval,reduceCtorEq,bv,iN,iL,d,g0,g1,hw,hx,jJ,EH,hb,hz,het]
    repeat' with_reducible first |apply And.intro |apply condP<;>intro _
    all_goals first |(show be _ _=true;kernel_rfl)|(exact ih _ _ (by rw [hs];rfl))|assumption |rfl
   |true=>
    have hs:U (j+1)=bif decide (a<eT x) then (eT x,true) else (a,true):=hs
    cases hd:decide (a<eT x) with
    |true=>
     rw [hd,cond_true] at hs
     simp (maxSteps:=10000000) only [go_sem,seval,reduceCtorEq,bv,iN,iL,d,g0,g1,hw,hx,jJ,EH,hb,hz,het,hd]
     repeat' with_reducible first |apply And.intro |apply condP<;>intro _
     all_goals first |(show be _ _=true;kernel_rfl)|(exact ih _ _ (by rw [hs];rfl))|assumption |rfl
    |false=>
     rw [hd,cond_false] at hs
     simp (maxSteps:=10000000) only [go_sem,seval,reduceCtorEq,bv,iN,iL,d,g0,g1,hw,hx,jJ,EH,hb,hz,het,hd]
     repeat' with_reducible first |apply And.intro |apply condP<;>intro _
     all_goals first |(show be _ _=true;kernel_rfl)|(exact ih _ _ (by rw [hs];rfl))|assumption |rfl
 ·obtain rfl:j=v.length:=by omega
  have d:decide ((v.length:Int)<(v.length:Int))=false:=decide_eq_false (by omega)
  simp (maxSteps:=10000000) only [go_sem,seval,reduceCtorEq,bv,iN,iL,d]
  repeat' with_reducible first |apply And.intro |apply condP<;>intro _
  all_goals first |(show be _ _=true;kernel_rfl)|assumption |rfl |(simp only [go_sem, *]<;>rfl)
end Go.Proofs.YtpacpmmdjmnamaaGreatDoor
