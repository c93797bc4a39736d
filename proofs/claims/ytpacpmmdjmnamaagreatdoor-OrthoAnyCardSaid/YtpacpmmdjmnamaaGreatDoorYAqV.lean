/- light of rows of numbers; rows that came in. -/
import Derived.Test.YtpacpmmdjmnamaaGreatDoorYAq3
import Derived.Test.YtpacpmmdjmnamaaGreatDoorYAl7
namespace Go.Proofs.YtpacpmmdjmnamaaGreatDoor
open Go.RowKit Nx
set_option linter.unusedVariables false
set_option linter.unusedSimpArgs false
set_option maxRecDepth 100000
set_option maxHeartbeats 4000000
attribute [local go_sem] run dX X.L J.L vL X.eta J.eta Q.eta List.cons_append List.nil_append iH dU dV bW bX da nc dA iE eq aG bj aL aR bi cL cQ cR cM inL aS bE dom fH kU nD evd okeys look dN di co cV lenOf fw jb qK jw qQ fv qf np qh qg nL pF eX jF eY jG bu nV keysOf aD ir jp jg olA olL ot nU mS nT dh jx one cT fi cu bq gG eO jf iO cH decide_true decide_false List.all_cons List.all_nil Bool.and_true Bool.and_self true_and and_true and_self List.length_cons List.length_nil List.drop_succ_cons List.drop_zero List.take_succ_cons List.take_zero List.getElem?_cons_zero List.getElem?_cons_succ List.map_cons List.map_nil false_implies true_implies Option.bind_some List.getElem?_toArray Bool.false_eq_true List.append_nil List.flatMap_cons List.flatMap_nil true_or or_true forall_const List.reverse_cons List.reverse_nil Option.isSome_some Option.any_some Nat.lt_irrefl not_true_eq_false Bool.not_true Bool.not_false imp_self implies_true Bool.not_eq_true' Bool.not_eq_false' Bool.true_eq_false fL jo lQ lV oq pR qo cO qw iJ fB sy Int.toNat_zero decide_eq_true_eq fW fX so sr BEq.rfl beq_self_eq_true Int.natCast_zero ge_iff_le gt_iff_lt Int.le_refl Nat.zero_mul Nat.one_mul Nat.zero_add Nat.zero_lt_succ Nat.lt_add_one Nat.le_refl List.append_eq Int.toNat_natCast gN pP pO gI ek kc gJ su sv ka ss cK cS cN cD pN fN okO je pT gH outPs ep outL fT rD aT aE aY aF bne_self_eq_false wr2 nM nN nO nP nQ nR gB gP nF nG nH gu cG bw cJ aN nE Lc.up pU List.replicate_succ List.replicate_zero List.flatten_cons List.flatten_nil Int.ofNat_lt Int.cast_ofNat_Int Int.ofNat_eq_natCast List.isEmpty_nil List.isEmpty_cons and_false false_and List.cons_ne_nil Nat.add_zero ite_true ite_false if_true if_false Nat.le_zero_eq eq_self Bool.and_false Bool.false_and Bool.true_and nY gA gE kg oO ip fF ed ef eA eg ite_self AV.s cond_true cond_false Bool.or_true Bool.true_or Bool.or_false Bool.false_or
attribute [local go_sem ↓] cond_true cond_false cw aW aX bI bJ bR bS aU aV bT bU bK bL bP bQ bG bH bM bN
open Go.ChangeShapes Go.WideShapes Go.ChangeAt Go.Joins
attribute [local irreducible] be
theorem Gf:∀ {l:List Kp} {j:Nat} {x:Kp},l[j]? =some x→List.take 3 (List.drop (j*3) (BB l))=[.lit x.u0,.lit x.u1,.lit (.slice x.A x.n x.c)]:=by
 intro l
 induction l with
 |nil=>intro j x h;simp at h
 |cons a l ih=>
  intro j x h
  cases j with
  |zero=>simp at h;subst h;rfl
  |succ j=>
   rw [tI,show (j+1)*3=j*3+3 by omega]
   exact ih (by simpa using h)
def kP (l:List Kp):Lc:=.sl 3 l.length (BB l)
theorem Im {m:List (List Kp)} {j:Nat} {r:List Kp} (h:m[j]? =some r):List.take 1 (List.drop (j*1) (List.map kP m))=[Lc.sl 3 r.length (BB r)]:=by
 rw [Nat.mul_one,←List.map_drop,←List.map_take]
 have hlt:j<m.length:=(List.getElem?_eq_some_iff.1 h).1
 rw [List.drop_eq_getElem_cons hlt,List.take_succ_cons,List.take_zero,(List.getElem?_eq_some_iff.1 h).2]
 rfl
def DS (n:Nat):Bool:=!decide ((20:Int)<(n:Int))
def oY (l:List Nat):Bool:=bif decide ((6:Int)<(l.length:Int)) then false else l.all DS
def tj (m:List (List Nat)):Bool:=bif decide ((6:Int)<(m.length:Int)) then false else m.all oY
abbrev Kn (m:List (List Kp)):List (List Nat):=m.map fun l=>l.map Kp.n
abbrev Xn (m:List (List X)):List (List Nat):=m.map fun l=>l.map fun x=>x.xs.length
theorem Bj {α:Type} {φ:α→Bool} {l:List α} {j:Nat} {x:α} (h:l[j]? =some x):(φ x=false→l.all φ=false)∧((l.take j).all φ=true→φ x=true→(l.take (j+1)).all φ=true):=by
 refine ⟨fun h1=>?_,fun h1 h2=>?_⟩
 ·rw [List.all_eq_false];exact ⟨x,List.mem_of_getElem? h,by rw [h1];simp⟩
 ·rw [List.take_add_one,h,List.all_append,h1];simp [h2]
theorem FA (m:List (List Kp)) (h:decide ((6:Int)<(m.length:Int))=true):Ct Tryz.prog 21 [.s (.sl false 1 m.length (m.map kP))] (·=bA false):=by
 refine bF (O:=aD jx) (by kernel_rfl) az (fun w=>ao fZ _ w) [] 600 39 [.tmp 2] Tryz.func21 rfl Tryz.ntmps21 (by rw [Tryz.results21]) (by simp) rfl (fun hsm=>?_)
 simp (maxSteps:=10000000) only [go_sem,seval,reduceCtorEq,bv,h,jY,iU,kZ,jh,hd1,pick,bD,go,iI,dE,gW,fx]
 repeat' with_reducible first |apply And.intro |apply condP<;>intro _
 all_goals first |(show be _ _=true;kernel_rfl)|assumption |rfl |(simp only [go_sem, *]<;>rfl)
theorem FB (m:List (List Kp)) (h:decide ((6:Int)<(m.length:Int))=false) (h6:m.length≤6):Ct Tryz.prog 21 [.s (.sl false 1 m.length (m.map kP))] (·=bA ((Kn m).all oY)):=by
 refine bF (O:=aD jx) (by kernel_rfl) az (fun w=>ao fZ _ w) [9999997,26,4,9999999,0,4,6,9999999,0,4,6,8] ((m.length+1)*5000+300) 39 [.tmp 2] Tryz.func21 rfl Tryz.ntmps21 (by rw [Tryz.results21]) (by simp) rfl (fun hsm=>?_)
 simp (maxSteps:=10000000) only [go_sem,seval,reduceCtorEq,bv,h,ey,Option.isSome_none]
 refine aP 5000 (fun i=>[(0,.s (.sl false 1 m.length (m.map kP))),(4,bA false),(6,iA (i:Int))]) m.length (fun i=>((Kn m).take i).all oY=true) 0 (fun i _=>rfl) (fun i m1 _ hi hI ih=>?_) (by omega) rfl rfl
 rcases Nat.lt_or_ge i m.length with hlt |hge
 ·have hx:=ba [] hlt
  generalize m.getD i []=r at hx
  have hn:(Kn m)[i]? =some (r.map Kp.n):=by rw [List.getElem?_map,hx];rfl
  obtain ⟨s1,s2⟩:=Bj (φ:=oY) hn
  have e1:=Im hx
  have d:=decide_eq_true (show (i:Int)<(m.length:Int) by omega)
  have g1:(i<m.length)=True:=eq_true hlt
  have g0:(0≤(i:Int))=True:=eq_true (by omega)
  have hw:=aZ (j:=i) (by omega)
  cases h7:decide ((6:Int)<(r.length:Int)) with
  |true=>
   have hf:(Kn m).all oY=false:=s1 (by unfold oY;rw [List.length_map,h7];rfl)
   rw [hf]
   simp (maxSteps:=10000000) only [go_sem,seval,reduceCtorEq,bv,ey,Option.isSome_none,d,g0,g1,e1,h7]
   repeat' with_reducible first |apply And.intro |apply condP<;>intro _
   all_goals first |(show be _ _=true;kernel_rfl)|assumption |rfl |(simp only [go_sem, *]<;>rfl)
  |false=>
   have h7':=of_decide_eq_false h7
   have hr:oY (r.map Kp.n)=(r.map Kp.n).all DS:=by unfold oY;rw [List.length_map,h7];rfl
   simp (maxSteps:=10000000) only [go_sem,seval,reduceCtorEq,bv,ey,Option.isSome_none,d,g0,g1,e1,h7]
   refine aP 500 (fun j=>[(0,.s (.sl false 1 m.length (m.map kP))),(4,bA false),(6,iA (i:Int)),(8,iA (j:Int))]) r.length (fun j=>((r.map Kp.n).take j).all DS=true) m1 (fun j _=>rfl) (fun j m2 hL2 hj hJ ihJ=>?_) (by omega) rfl rfl
   obtain ⟨r2,rfl⟩:=Nat.exists_eq_add_of_le hL2
   rcases Nat.lt_or_ge j r.length with hlt2 |hge2
   ·have hy:=List.getElem?_eq_getElem hlt2
    generalize r[j]=x at hy
    have hm:(r.map Kp.n)[j]? =some x.n:=by rw [List.getElem?_map,hy];rfl
    obtain ⟨t1,t2⟩:=Bj (φ:=DS) hm
    have e2:=Gf hy
    have d2:=decide_eq_true (show (j:Int)<(r.length:Int) by omega)
    have f1:(j<r.length)=True:=eq_true hlt2
    have f0:(0≤(j:Int))=True:=eq_true (by omega)
    have hw2:=aZ (j:=j) (by omega)
    cases h8:decide ((20:Int)<(x.n:Int)) with
    |true=>
     have hf:(Kn m).all oY=false:=s1 (by rw [hr];exact t1 (by unfold DS;rw [h8];rfl))
     rw [hf]
     simp (maxSteps:=10000000) only [go_sem,seval,reduceCtorEq,bv,ey,Option.isSome_none,d2,g0,g1,e1,f0,f1,e2,h8]
     repeat' with_reducible first |apply And.intro |apply condP<;>intro _
     all_goals first |(show be _ _=true;kernel_rfl)|assumption |rfl |(simp only [go_sem, *]<;>rfl)
    |false=>
     replace ihJ:=ihJ hlt2 (t2 hJ (by unfold DS;rw [h8];rfl))
     simp (maxSteps:=10000000) only [go_sem,seval,reduceCtorEq,bv,ey,Option.isSome_none,d2,g0,g1,e1,f0,f1,e2,h8,hw2]
     repeat' with_reducible first |apply And.intro |apply condP<;>intro _
     all_goals first |(show be _ _=true;kernel_rfl)|(exact ihJ _ _ rfl)|assumption |rfl
   ·obtain rfl:j=r.length:=by omega
    rw [List.take_of_length_le (by rw [List.length_map];exact Nat.le_refl _)] at hJ
    replace ih:=ih hlt (s2 hI (by rw [hr];exact hJ))
    have d2:decide ((r.length:Int)<(r.length:Int))=false:=decide_eq_false (by omega)
    simp (maxSteps:=10000000) only [go_sem,seval,reduceCtorEq,bv,ey,Option.isSome_none,d2,g0,g1,e1,hw]
    repeat' with_reducible first |apply And.intro |apply condP<;>intro _
    all_goals first |(show be _ _=true;kernel_rfl)|(rw [Nat.add_assoc];exact ih _ _ rfl)|assumption |rfl
 ·obtain rfl:i=m.length:=by omega
  rw [List.take_of_length_le (by rw [List.length_map];exact Nat.le_refl _)] at hI
  rw [hI]
  have d:decide ((m.length:Int)<(m.length:Int))=false:=decide_eq_false (by omega)
  simp (maxSteps:=10000000) only [go_sem,seval,reduceCtorEq,bv,ey,Option.isSome_none,d]
  repeat' with_reducible first |apply And.intro |apply condP<;>intro _
  all_goals first |(show be _ _=true;kernel_rfl)|assumption |rfl |(simp only [go_sem, *]<;>rfl)
theorem tg (m:List (List Kp)):Ct Tryz.prog 21 [.s (.sl false 1 m.length (m.map kP))] (·=bA (tj (Kn m))):=by
 unfold tj
 rw [List.length_map]
 cases h:decide ((6:Int)<(m.length:Int)) with
 |true=>exact FA m h
 |false=>exact FB m h (by have:=of_decide_eq_false h;omega)
theorem Jf {S:Nat→Prop} {w:World}:∀ {l:List X} {us:List Value},LcL S w (pC l) us→∃ ks:List Kp,LcL S w (BB ks) us∧ks.map Kp.n=l.map fun x=>x.xs.length:=by
 intro l
 induction l with
 |nil=>intro us h;exact ⟨[],h,rfl⟩
 |cons a l ih=>
  intro us h
  rw [aN] at h
  obtain ⟨u0,r0,rfl,h0,u1,r1,rfl,h1,u2,r2,rfl,⟨A,n,c,rfl,hA,_⟩,h3⟩:=h
  obtain ⟨ks,h4,h5⟩:=ih h3
  exact ⟨⟨u0,u1,A,n,c⟩::ks,⟨u0,_,rfl,rfl,u1,_,rfl,rfl,_,_,rfl,rfl,h4⟩,by rw [List.map_cons,List.map_cons,h5,hA.1.1]⟩
theorem Gs {S:Nat→Prop} {w:World} {l:List X} {v:Value} (h:(Lc.sl 3 l.length (pC l)).R S w v):∃ ks:List Kp,(kP ks).R S w v∧ks.map Kp.n=l.map fun x=>x.xs.length:=by
 obtain ⟨h1,A,c,e,hc,h2⟩:=h
 rcases h2 with h2 |⟨ad,T,cs,e1,e2,hS,hB,h5,h6⟩
 ·have h0:l=[]:=by
   cases l with
   |nil=>rfl
   |cons a l=>rw [aN] at h2;cases h2
  subst h0
  exact ⟨[],⟨rfl,A,c,e,hc,.inl rfl⟩,rfl⟩
 ·obtain ⟨ks,h7,h8⟩:=Jf h6
  have hk:ks.length=l.length:=by have:=congrArg List.length h8;simpa using this
  have hl:(BB ks).length=(pC l).length:=by rw [mE,hk,h1]
  exact ⟨ks,⟨mE ks,A,c,by rw [hk];exact e,by rw [hk];exact hc,.inr ⟨ad,T,cs,e1,e2,hS,hB,by rw [hl];exact h5,by rw [hl];exact h7⟩⟩,h8⟩
theorem IS {S:Nat→Prop} {w:World}:∀ {m:List (List X)} {us:List Value},LcL S w (m.map rP) us→∃ km:List (List Kp),LcL S w (km.map kP) us∧Kn km=Xn m:=by
 intro m
 induction m with
 |nil=>intro us h;exact ⟨[],h,rfl⟩
 |cons a m ih=>
  rintro us ⟨u,r,rfl,h1,h2⟩
  obtain ⟨ks,h3,h4⟩:=Gs h1
  obtain ⟨km,h5,h6⟩:=ih h2
  exact ⟨ks::km,⟨u,r,rfl,h3,h5⟩,by show List.map Kp.n ks::Kn km=_::Xn m;rw [h4,h6]⟩
theorem AM {ρ:Env} {D:Nat→Bool} {w:World} {m:List (List X)} {v:Value} (h:(ji m).R ρ D w v):∃ km:List (List Kp),(AV.s (.sl false 1 km.length (km.map kP))).R ρ D w v∧Kn km=Xn m:=by
 obtain ⟨h1,A,c,e,hc,h2⟩:=RL.one.1 h
 rcases h2 with h2 |⟨ad,T,cs,e1,e2,hS,hB,h5,h6⟩
 ·have h0:m=[]:=by simpa using h2
  subst h0
  exact ⟨[],RL.one.2 ⟨rfl,A,c,e,hc,.inl rfl⟩,rfl⟩
 ·obtain ⟨km,h7,h8⟩:=IS h6
  have hk:km.length=m.length:=by have:=congrArg List.length h8;simpa using this
  have hl:(km.map kP).length=(m.map rP).length:=by rw [List.length_map,List.length_map,hk]
  exact ⟨km,RL.one.2 ⟨by rw [List.length_map];omega,A,c,by rw [hk];exact e,by rw [hk];exact hc,.inr ⟨ad,T,cs,e1,e2,hS,hB,by rw [hl];exact h5,by rw [hl];exact h7⟩⟩,h8⟩
theorem xl (m:List (List X)):Ct Tryz.prog 21 [ji m] (·=bA (tj (Xn m))):=by
 rintro ρ D w us ht ⟨u,r,rfl,h1,h2⟩
 obtain ⟨km,hK,e⟩:=AM h1
 rw [←e]
 exact tg km ρ D w _ ht ⟨u,r,rfl,hK,h2⟩
def JB (a:AV) (b:Bool):List AV→Option (Prop×AV)
 |[x]=>some (x=a,bA b)
 |_=>none
noncomputable def Hk (a:AV) (b:Bool):fR:=one 21 (JB a b)
theorem yA {a:AV} {b:Bool} (h:Ct Tryz.prog 21 [a] (·=bA b)):TbOK Tryz.prog (Hk a b):=cC (ew Tryz.func21 (by kernel_rfl) rfl) fun args e he hp=>by
 unfold JB at he
 split at he
 ·injection he with he;subst he
  have hp:_=a:=hp
  subst hp
  exact h
 ·cases he
theorem FD {m:List (List X)} (h:tj (Xn m)=true):m.length≤6∧∀ l∈m,l.length≤6∧∀ x∈l,x.xs.length≤20:=by
 unfold tj at h
 rw [List.length_map] at h
 cases h1:decide ((6:Int)<(m.length:Int)) with
 |true=>rw [h1] at h;cases h
 |false=>
  rw [h1,cond_false,List.all_map] at h
  have h2:=of_decide_eq_false h1
  refine ⟨by omega,fun l hl=>?_⟩
  have h3:oY (l.map fun x=>x.xs.length)=true:=List.all_eq_true.1 h l hl
  unfold oY at h3
  rw [List.length_map] at h3
  cases h4:decide ((6:Int)<(l.length:Int)) with
  |true=>rw [h4] at h3;cases h3
  |false=>
   rw [h4,cond_false,List.all_map] at h3
   have h5:=of_decide_eq_false h4
   refine ⟨by omega,fun x hx=>?_⟩
   have h6:DS x.xs.length=true:=List.all_eq_true.1 h3 x hx
   unfold DS at h6
   have h7:decide ((20:Int)<(x.xs.length:Int))=false:=by simpa using h6
   have:=of_decide_eq_false h7
   omega
def RLs (W:World):List (List X)→List Value→Prop
 |[],us=>us=[]
 |l::m,us=>∃ (u:Value) (r:List Value),us=u::r∧PtsV W u l∧RLs W m r
def RowsV (W:World) (v:Value) (m:List (List X)):Prop:=SlV W v m.length 1 (RLs W m)
section
variable {W:World} {v:Value}
theorem RLs.ws:∀ {m:List (List X)} {us:List Value},RLs W m us→(∀ l∈m,∀ x∈l,x.xs.length≤100000)→LcL (SepF false jZ xy) W (m.map rP) us:=by
 intro m
 induction m with
 |nil=>intro us h _;exact h
 |cons l m ih=>
  rintro us ⟨u,r,rfl,h1,h2⟩ hs
  exact ⟨u,r,rfl,h1.R pf (AB l) fun _ h=>h.ws (hs l (List.mem_cons_self ..)),ih h2 fun l hl=>hs l (List.mem_cons_of_mem _ hl)⟩
theorem RowsV.ws {m:List (List X)} (h:RowsV W v m) (hs:∀ l∈m,∀ x∈l,x.xs.length≤100000):(ji m).R jZ xy W v:=RL.one.2 (h.R pf (by simp) fun _ h=>h.ws hs)
theorem RLs.raw:∀ {m:List (List X)} {us:List Value},RLs W m us→∃ km:List (List Kp),LcL (SepF false jZ xy) W (km.map kP) us∧Kn km=Xn m:=by
 intro m
 induction m with
 |nil=>intro us h;exact ⟨[],h,rfl⟩
 |cons l m ih=>
  rintro us ⟨u,r,rfl,h1,h2⟩
  obtain ⟨ks,h3,h4⟩:=h1.raw
  obtain ⟨km,h5,h6⟩:=ih h2
  exact ⟨ks::km,⟨u,r,rfl,RL.one.1 h3,h5⟩,by show List.map Kp.n ks::Kn km=_::Xn m;rw [h4,h6]⟩
theorem RowsV.raw {m:List (List X)} (h:RowsV W v m):∃ km:List (List Kp),(AV.s (.sl false 1 km.length (km.map kP))).R jZ xy W v∧Kn km=Xn m:=by
 obtain ⟨A,c,e,hc,h⟩:=h
 rcases h with h |⟨ad,T,cs,e1,e2,hB,h3,h4⟩
 ·have:m=[]:=List.eq_nil_of_length_eq_zero h
  subst this
  exact ⟨[],RL.one.2 ⟨rfl,A,c,e,hc,.inl rfl⟩,rfl⟩
 ·obtain ⟨km,h5,h6⟩:=h4.raw
  have hk:km.length=m.length:=by have:=congrArg List.length h6;simpa using this
  exact ⟨km,RL.one.2 ⟨by rw [List.length_map];omega,A,c,by rw [hk];exact e,by rw [hk];exact hc,.inr ⟨ad,T,cs,e1,e2,pf _,hB,by rw [List.length_map,hk];omega,by rw [List.length_map,hk,←Nat.mul_one m.length];exact h5⟩⟩,h6⟩
theorem XL.sm:∀ {l:List X} {us:List Value},XL W l us→∀ x∈l,Small B64 x.xs:=by
 intro l
 induction l with
 |nil=>intro us _ x hx;cases hx
 |cons a l ih=>
  rintro us ⟨A,n,c,r,rfl,h1,h2⟩ x hx
  rcases List.mem_cons.1 hx with rfl |hx
  ·exact h1.2
  ·exact ih h2 x hx
theorem PtsV.sm {l:List X} (h:PtsV W v l):∀ x∈l,Small B64 x.xs:=by
 obtain ⟨A,c,e,hc,h⟩:=h
 rcases h with h |⟨ad,T,cs,e1,e2,hB,h3,h4⟩
 ·intro x hx
  rw [List.eq_nil_of_length_eq_zero h] at hx;cases hx
 ·exact h4.sm
theorem RLs.sm:∀ {m:List (List X)} {us:List Value},RLs W m us→∀ l∈m,∀ x∈l,Small B64 x.xs:=by
 intro m
 induction m with
 |nil=>intro us _ l hl;cases hl
 |cons a m ih=>
  rintro us ⟨u,r,rfl,h1,h2⟩ l hl
  rcases List.mem_cons.1 hl with rfl |hl
  ·exact h1.sm
  ·exact ih h2 l hl
theorem RowsV.sm {m:List (List X)} (h:RowsV W v m):∀ l∈m,∀ x∈l,Small B64 x.xs:=by
 obtain ⟨A,c,e,hc,h⟩:=h
 rcases h with h |⟨ad,T,cs,e1,e2,hB,h3,h4⟩
 ·intro l hl
  rw [List.eq_nil_of_length_eq_zero h] at hl;cases hl
 ·exact h4.sm
end
theorem IT {W:World}:∀ (n:Nat) (c:List Value),(∀ i,i<n→∃ (u:Value) (l:List X),(c.drop (i*1)).take 1=[u]∧PtsV W u l)→∃ m:List (List X),m.length=n∧RLs W m (c.take (n*1)):=by
 intro n
 induction n with
 |zero=>intro c _;exact ⟨[],rfl,by rw [Nat.zero_mul];rfl⟩
 |succ n ih=>
  intro c h
  obtain ⟨u,l,e,h1⟩:=h 0 (by omega)
  obtain ⟨m,h3,h4⟩:=ih (c.drop 1) fun i hi=>by
   have:=h (i+1) (by omega)
   rwa [show (i+1)*1=1+i*1 by omega,←List.drop_drop] at this
  rw [Nat.zero_mul,List.drop_zero] at e
  refine ⟨l::m,by simp [h3],u,(c.drop 1).take (n*1),?_,h1,h4⟩
  rw [show (n+1)*1=1+n*1 by omega,List.take_add,e];rfl
section
variable {H:Type} {enc:TypeId×Value→H} {W:World}
theorem AD {fuel:Nat} {cs:List Value} {y:DataW H×List MemPlace} (hl:cs.length=1) (hf:DataW.trod enc Tryz.prog W 0 (fun _=>true) true fuel 51 cs=some y):∃ (u:Value) (l:List X),cs=[u]∧PtsV W u l:=by
 match cs,hl with
 |[u],_=>
  refine ⟨u,?_⟩
  rcases DataW.trod_slice Tryz.underlying51 hf with ⟨hcs,_⟩|⟨a,n,c,elems,rest,n',_,hcs,_,hb,hle,_,hlen,hel,_,_⟩
  ·simp at hcs
   subst hcs
   exact ⟨[],rfl,none,0,rfl,Nat.le_refl _,.inl rfl⟩
  ·simp at hcs
   subst hcs
   rw [yO] at hel
   have each:∀ i,i<n→∃ cs:List Value,cs.length=3∧(∀ k,k<3→W.cell? ((a.add (i*3)).add k)=cs[k]?)∧∃ (j:X) (A:Option Addr) (n c':Nat),cs=[.bool j.s,.int .i64 j.e,.slice A n c']∧Arg W A n c' j.xs:=fun i hi=>by
    have:=hel i hi
    rw [List.getElem?_eq_getElem (by omega)] at this
    obtain ⟨cs,h1,h2⟩:=Option.bind_eq_some_iff.1 this
    obtain ⟨_,h3,h4⟩:=World.cells?_some h1
    exact ⟨cs,h3,h4,xz h3 h2⟩
   rcases Nat.eq_zero_or_pos n with rfl |hn
   ·exact ⟨[],rfl,some a,c,rfl,Nat.zero_le _,.inl rfl⟩
   ·obtain ⟨hsp,T,cs,hB,hsz,hcs⟩:=yK hn (by decide) fun i hi=>(each i hi).imp fun cs h=>⟨h.1,h.2.1⟩
    obtain ⟨l,hl,hJ⟩:=Jg (W:=W) n (cs.toList.drop a.off) fun i hi=>by
     obtain ⟨cs',h1,h2,j,A,n1,c1,e,h3⟩:=each i hi
     exact ⟨j,A,n1,c1,by rw [hcs i hi cs' h1 h2,e],h3⟩
    subst hl
    exact ⟨l,rfl,some a,c,rfl,hle,.inr ⟨a,T,cs,rfl,hsp,hB,hsz,hJ⟩⟩
theorem yi {base:Nat} {v:Value} {d:DataW H} {p:List MemPlace} (hv:Value.okWide Tryz.prog W .any base 36 v) (h:DataW.Trod enc Tryz.prog W 0 (fun _=>true) true 36 v d p):∃ m:List (List X),RowsV W v m:=by
 obtain ⟨A,n,c,rfl⟩:=okWide_slice Tryz.underlying36 hv
 obtain ⟨fuel,hf⟩:=h
 rcases DataW.trod_slice Tryz.underlying36 hf with ⟨hcs,_⟩|⟨a,len,cap,elems,rest,n',_,hcs,_,hb,hle,_,hlen,hel,_,_⟩
 ·simp [Value.cells] at hcs
  obtain ⟨rfl,rfl,rfl⟩:=hcs
  exact ⟨[],none,0,rfl,Nat.le_refl _,.inl rfl⟩
 ·simp [Value.cells] at hcs
  obtain ⟨rfl,rfl,rfl⟩:=hcs
  rw [show Tryz.prog.cellsOf 51 =1 from by kernel_rfl] at hel
  have each:∀ i,i<n→∃ cs:List Value,cs.length=1∧(∀ k,k<1→W.cell? ((a.add (i*1)).add k)=cs[k]?)∧∃ (u:Value) (l:List X),cs=[u]∧PtsV W u l:=fun i hi=>by
   have:=hel i hi
   rw [List.getElem?_eq_getElem (by omega)] at this
   obtain ⟨cs,h1,h2⟩:=Option.bind_eq_some_iff.1 this
   obtain ⟨_,h3,h4⟩:=World.cells?_some h1
   exact ⟨cs,h3,h4,AD h3 h2⟩
  rcases Nat.eq_zero_or_pos n with rfl |hn
  ·exact ⟨[],some a,c,rfl,Nat.zero_le _,.inl rfl⟩
  ·obtain ⟨hsp,T,cs,hB,hsz,hcs⟩:=yK hn (by decide) fun i hi=>(each i hi).imp fun cs h=>⟨h.1,h.2.1⟩
   obtain ⟨l,hl,hJ⟩:=IT (W:=W) n (cs.toList.drop a.off) fun i hi=>by
    obtain ⟨cs',h1,h2,u,l,e,h3⟩:=each i hi
    exact ⟨u,l,by rw [hcs i hi cs' h1 h2,e],h3⟩
   subst hl
   exact ⟨l,some a,c,rfl,hle,.inr ⟨a,T,cs,rfl,hsp,hB,hsz,hJ⟩⟩
end
end Go.Proofs.YtpacpmmdjmnamaaGreatDoor
