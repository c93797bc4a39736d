/- The document's columns. -/
import Derived.Test.YtpacpmmdjmnamaaGreatDoorYAqQ
namespace Go.Proofs.YtpacpmmdjmnamaaGreatDoor
open Go.RowKit Nx
set_option linter.unusedVariables false
set_option linter.unusedSimpArgs false
set_option maxRecDepth 100000
set_option maxHeartbeats 4000000
attribute [local go_sem] run dX X.L J.L vL X.eta J.eta Q.eta List.cons_append List.nil_append iH dU dV bW bX da nc dA iE eq aG bj aL aR bi cL cQ cR cM inL aS bE dom fH kU nD evd okeys look dN di co cV lenOf fw jb qK jw qQ fv qf np qh qg nL pF eX jF eY jG bu nV keysOf aD ir jp jg olA olL ot nU mS nT dh jx one cT fi cu bq gG eO jf iO cH decide_true decide_false List.all_cons List.all_nil Bool.and_true Bool.and_self true_and and_true and_self List.length_cons List.length_nil List.drop_succ_cons List.drop_zero List.take_succ_cons List.take_zero List.getElem?_cons_zero List.getElem?_cons_succ List.map_cons List.map_nil false_implies true_implies Option.bind_some List.getElem?_toArray Bool.false_eq_true List.append_nil List.flatMap_cons List.flatMap_nil true_or or_true forall_const List.reverse_cons List.reverse_nil Option.isSome_some Option.any_some Nat.lt_irrefl not_true_eq_false Bool.not_true Bool.not_false imp_self implies_true Bool.not_eq_true' Bool.not_eq_false' Bool.true_eq_false fL jo lQ lV oq pR qo cO qw iJ fB sy Int.toNat_zero decide_eq_true_eq fW fX so sr BEq.rfl beq_self_eq_true Int.natCast_zero ge_iff_le gt_iff_lt Int.le_refl Nat.zero_mul Nat.one_mul Nat.zero_add Nat.zero_lt_succ Nat.lt_add_one Nat.le_refl List.append_eq Int.toNat_natCast gN pP pO gI ek kc gJ su sv ka ss cK cS cN cD pN fN okO je pT gH outPs ep outL fT rD aT aE aY aF bne_self_eq_false wr2 nM nN nO nP nQ nR gB gP nF nG nH gu cG bw cJ aN nE Lc.up pU List.replicate_succ List.replicate_zero List.flatten_cons List.flatten_nil Int.ofNat_lt Int.cast_ofNat_Int Int.ofNat_eq_natCast List.isEmpty_nil List.isEmpty_cons and_false false_and List.cons_ne_nil Nat.add_zero ite_true ite_false if_true if_false Nat.le_zero_eq eq_self Bool.and_false Bool.false_and Bool.true_and nY gA gE kg oO ip fF ed ef eA eg ite_self AV.s cond_true cond_false Bool.or_true Bool.true_or Bool.or_false Bool.false_or
attribute [local go_sem ↓] cond_true cond_false cw aW aX bI bJ bR bS aU aV bT bU bK bL bP bQ bG bH bM bN
attribute [local irreducible] be
noncomputable def ax:fR:=one 65 (pO fun x z=>(True,lP (ar x z)))
theorem ki:TbOK Tryz.prog ax:=cC (ew Tryz.func65 (by kernel_rfl) rfl) fun args e h hp=>by obtain ⟨x,z,rfl,rfl⟩:=zj h;exact Hq rfl (fun w Ax cx ht hx hl=>(vx w x.s x.e z Ax _ cx x.xs hx hl).mono fun _ _ h=>jT ql h)
theorem DB (z:Int):Ct Tryz.prog 62 [iA z] (·=bA (vp z)):=by
 refine bF (O:=aD jx) (by kernel_rfl) az (fun w=>ao fZ _ w) [] 600 9 [.tmp 2] Tryz.func62 rfl Tryz.ntmps62 (by rw [Tryz.results62]) (by simp) rfl (fun hsm=>?_)
 simp (maxSteps:=10000000) only [go_sem,seval,reduceCtorEq,bv,jY,iU,kZ,jh,hd1,pick,bD,go,iI,dE,gW,fx]
 repeat' with_reducible first |apply And.intro |apply condP<;>intro _
 all_goals first |(show be _ _=true;kernel_rfl)|assumption |rfl |(simp only [go_sem, *,vp]<;>rfl)
noncomputable def ay:fR:=one 62 (gA kg fun z=>gE (True,bA (vp z)))
theorem kk:TbOK Tryz.prog ay:=fM (ew Tryz.func62 (by kernel_rfl) rfl) (.a iq fun z=>.e fun _=>DB z)
noncomputable def bp:fR:=one 64 (gA ny fun v=>gE (v.length≤1000∧∀ x∈v,GX x,.tup [(false,[.lit (.int .i64 (qR v v.length).1)]),(false,[.lit (.bool (qR v v.length).2)])]))
theorem mP:TbOK Tryz.prog bp:=fM (ew Tryz.func64 (by kernel_rfl) rfl) (.a fj fun v=>.e fun h=>Js v h.1 h.2)
abbrev b9 (m:List (List X)) (z:Int):St:=[(0,ji m),(2,iA z),(8,.s (.lit (.slice none 0 0))),(10,iA 0),(12,iA (m.length:Int))]
def un (m:List (List X)) (z:Int) (C:Nat→List (List X)×Int):Nat→St
 |0=>b9 m z++[(14,.s (.lit (.slice none 0 0))),(16,iA 0)]
 |j+1=>b9 m z++[(14,.s (.ol 105 (j+1))),(16,iA ((j+1:Nat):Int)),(211,.pre 51 1 (aA (C (j+1)).1))]
def li (s1 s2:St) (col:List X):Nat→St
 |0=>s1++((18,.s (.lit (.slice none 0 0)))::(20,iA 0)::s2)
 |i+1=>s1++((18,.s (.ol 52 (i+1)))::(20,iA ((i+1:Nat):Int))::(s2++[(105,.pre 30 3 ((col.take (i+1)).flatMap X.L))]))
abbrev nk (s1 s2:St) (n:Nat) (V:Nat→List X×Int) (k:Nat):St:=s1++((18,.s (.ol 52 (V k).1.length))::(20,iA (n:Int))::(22,iA (k:Int))::(s2++[(105,.pre 30 3 ((V k).1.flatMap X.L))]))
abbrev mO (s1 s2:St) (n j:Nat) (w:List X) (s:Int) (E:Nat→List X×Int) (i:Nat):St:=s1++((18,.s (.ol 52 w.length))::(20,iA (n:Int))::(22,iA (j:Int))::(28,iA s)::(30,bA true)::(32,iA (i:Int))::(s2++[(105,.pre 30 3 ((de (E i).1 w).flatMap X.L))]))
abbrev kR (m:List (List X)) (z:Int) (n:Nat):St:=b9 m z++[(14,.s (.ol 105 n)),(16,iA (n:Int))]
def BC (m:List (List X)) (z:Int) (n:Nat) (CC:List (List X)) (T:List (List X)):Nat→St
 |0=>kR m z n++((38,.s (.lit (.slice none 0 0)))::(40,iA 0)::[(211,.pre 51 1 (aA CC))])
 |i+1=>kR m z n++((38,.s (.ol 129 (i+1)))::(40,iA ((i+1:Nat):Int))::[(211,.pre 51 1 (aA CC)),(259,.pre 51 1 (aA (T.take (i+1))))])
def pS (s1 s2:St) (row:List X):Nat→St
 |0=>s1++((42,.s (.lit (.slice none 0 0)))::(44,iA 0)::s2)
 |j+1=>s1++((42,.s (.ol 125 (j+1)))::(44,iA ((j+1:Nat):Int))::(s2++[(251,.pre 30 3 ((row.take (j+1)).flatMap X.L))]))
theorem AI (a b:List (List X)):aA (a++b)=aA a++aA b:=List.flatMap_append
def Cq:Lf→Bool
 |.osl _ _=>false
 |.ol _ _=>false
 |_=>true
theorem zi {b:Nat} {st:St}:∀ {ls:List Lf},ls.all Cq=true→ls.map (fx b st)=ls:=by
 intro ls
 induction ls with
 |nil=>intro _;rfl
 |cons l ls ih=>
  intro h
  rw [List.all_cons,Bool.and_eq_true] at h
  rw [List.map_cons,ih h.2]
  congr 1
  cases l<;>first |rfl |exact absurd h.1 (by simp [Cq])
theorem wA (l:List (List X)):(aA l).all Cq=true:=fI (p:=Cq) (fun _=>rfl) l
theorem HU {b n:Nat} {st:St} {C:List (List X)} {w:List X} (hk:look st (2*b+1)=some (.pre 30 3 (w.flatMap X.L))) (hn:n=w.length):gW b st (.pre 51 1 (aA C++[.ol b n]))= .pre 51 1 (aA (C++[w])):=by
 have hd:fT (w.flatMap X.L)=some (pC w):=mu w
 have hl:(w.flatMap X.L).length=n*3:=by rw [dJ,hn]
 have ho:outL st (.ol b n)= .sl true 3 n (pC w):=by
  show (match look st (2*b+1) with
   |some (AV.pre _ sz ls)=>(match fT ls with
    |some ls'=>if ls.length=n*sz then Lf.sl true sz n ls' else Lf.ol b n
    |none=>Lf.ol b n)
   |_=>Lf.ol b n)=_
  rw [hk]
  simp only [hd,hl,if_true]
 have f1:=zi (b:=b) (st:=st) (wA C)
 show AV.pre _ _ (List.map (fx b st) _)=_
 rw [List.map_append,f1,List.map_cons,List.map_nil,AI]
 have e2:fx b st (.ol b n)=outL st (.ol b n):=by unfold fx;simp
 rw [e2,ho,hn];rfl
theorem DC (m:List (List X)) (z:Int) (p1:m.length≤40∧∀ r∈m,r.length≤40) (hr:gK m=false):Ct Tryz.prog 23 [ji m,iA z] (·=bB rP ([],1)):=by
 have p2:=eq_true p1
 refine bF (O:=fB (eo 63 dY) (aD (dh cp (dh ay (dh bp ax))))) (by kernel_rfl) az (fun w=>kx (ry w) (ao (av oH (av kk (av mP ki))) _ w) (fun _ _ _=>fy fun _=>bZ (aK (by decide)) (bZ (aK (by decide)) (bZ (aK (by decide)) (aK (by decide)))))) [] 600 131 [.tmp 4,.tmp 5] Tryz.func23 rfl Tryz.ntmps23 (by rw [Tryz.results23]) (by simp) rfl (fun hsm=>?_)
 simp (maxSteps:=10000000) only [go_sem,seval,reduceCtorEq,bv,cp,ay,bp,ax,eo,dY,uA,uE,fV,bB,eu,jJ,hr,p2,jY,iU,kZ,jh,hd1,pick,bD,go,iI,dE,gW,fx]
 repeat' with_reducible first |apply And.intro |apply condP<;>intro _
 all_goals first |(show be _ _=true;kernel_rfl)|assumption |rfl |(simp only [go_sem, *]<;>rfl)
theorem DE (m:List (List X)) (z:Int) (p1:m.length≤40∧∀ r∈m,r.length≤40) (hr:gK m=true) (hz:vp z=false):Ct Tryz.prog 23 [ji m,iA z] (·=bB rP ([],1)):=by
 have p2:=eq_true p1
 refine bF (O:=fB (eo 63 dY) (aD (dh cp (dh ay (dh bp ax))))) (by kernel_rfl) az (fun w=>kx (ry w) (ao (av oH (av kk (av mP ki))) _ w) (fun _ _ _=>fy fun _=>bZ (aK (by decide)) (bZ (aK (by decide)) (bZ (aK (by decide)) (aK (by decide)))))) [] 600 131 [.tmp 4,.tmp 5] Tryz.func23 rfl Tryz.ntmps23 (by rw [Tryz.results23]) (by simp) rfl (fun hsm=>?_)
 simp (maxSteps:=10000000) only [go_sem,seval,reduceCtorEq,bv,cp,ay,bp,ax,eo,dY,uA,uE,fV,bB,eu,jJ,hr,hz,p2,jY,iU,kZ,jh,hd1,pick,bD,go,iI,dE,gW,fx]
 repeat' with_reducible first |apply And.intro |apply condP<;>intro _
 all_goals first |(show be _ _=true;kernel_rfl)|assumption |rfl |(simp only [go_sem, *]<;>rfl)
theorem Bn {m:List (List X)} {i j:Nat} (hj:j<m.length) (hi:i<m.length):((trn m).getD j [])[i]? =some ((m.getD i []).getD j zX):=by
 have h:=Dy (m:=m) (i:=j) hj
 rw [List.getD_eq_getElem?_getD,h]
 exact Dc (m:=m) (i:=j) (j:=i) hi
def Cp:Lf→Bool
 |.ol _ _=>false
 |.oe _ _ _=>false
 |.ov _ _ _ _=>false
 |_=>true
theorem Bc {d d':Nat}:∀ {ls:List Lf},ls.all Cp=true→ls.map (qO d d')=ls:=by
 intro ls
 induction ls with
 |nil=>intro _;rfl
 |cons l ls ih=>
  intro h
  rw [List.all_cons,Bool.and_eq_true] at h
  rw [List.map_cons,ih h.2]
  congr 1
  cases l<;>first |rfl |exact absurd h.1 (by simp [Cp])
theorem Df (m:List (List X)) (z:Int) (jj:Nat) (jz:Int) (n:Nat) (mm kz:Int) (R:List (List X)) (w:List X):JE 66 52 (b9 m z++[(14,.s (.ol 105 jj)),(16,iA jz),(18,.v false [.ol 66 n]),(20,iA mm),(22,iA kz),(211,.pre 51 1 (aA R)),(133,.pre 30 3 (w.flatMap X.L))])=(b9 m z++[(14,.s (.ol 105 jj)),(16,iA jz),(18,.s (.ol 52 n)),(20,iA mm),(22,iA kz),(211,.pre 51 1 (aA R)),(105,.pre 30 3 (w.flatMap X.L))]):=by
 have e1:(aA R).map (qO 66 52)=aA R:=Bc (fI (p:=Cp) (fun _=>rfl) R)
 have e2:(w.flatMap X.L).map (qO 66 52)=w.flatMap X.L:=Bc (fI (p:=Cp) (fun _=>rfl) w)
 show (0,_)::(2,_)::(8,_)::(10,_)::(12,_)::(14,_)::(16,_)::(18,_)::(20,_)::(22,_)::(211,AV.pre _ _ ((aA R).map (qO 66 52)))::(105,AV.pre _ _ ((w.flatMap X.L).map (qO 66 52)))::[]=_
 rw [e1,e2];rfl
theorem wE {m:List (List X)} {z:Int} {k n j:Nat} {D R:List (List X)} {cs:List Lf} {w:List X} (hR:R=D++[w]) (hk:k=j+1) (hc:cs=aA D) (hn:n=w.length):iI 52 (b9 m z++[(14,.s (.ol 105 k)),(16,iA ((j+1:Nat):Int)),(211,.pre 51 1 (cs++[.ol 52 n])),(105,.pre 30 3 (w.flatMap X.L))])=(b9 m z++[(14,.s (.ol 105 (j+1))),(16,iA ((j+1:Nat):Int)),(211,.pre 51 1 (aA R))]):=by
 subst hk
 subst hc
 subst hR
 unfold iI
 generalize hs:((b9 m z++[(14,.s (.ol 105 (j+1))),(16,iA ((j+1:Nat):Int)),(211,.pre 51 1 (aA D++[.ol 52 n])),(105,.pre 30 3 (w.flatMap X.L))]:St))=st
 have hk:look st (2*52+1)=some (.pre 30 3 (w.flatMap X.L)):=by rw [←hs];rfl
 rw [hk]
 simp only [mu]
 have key:=HU (b:=52) (n:=n) (st:=st) (C:=D) (w:=w) hk hn
 rw [←hs]
 show (0,_)::(2,_)::(8,_)::(10,_)::(12,_)::(14,_)::(16,_)::(211,gW 52 _ _)::[]=_
 rw [hs,key]
 rfl
theorem tN {m:List (List X)} {z:Int} {k n j:Nat} {n9:Nat} {CC:List (List X)} {D R:List (List X)} {cs:List Lf} {w:List X} (hR:R=D++[w]) (hk:k=j+1) (hc:cs=aA D) (hn:n=w.length):iI 125 (kR m z n9++[(38,.s (.ol 129 k)),(40,iA ((j+1:Nat):Int)),(211,.pre 51 1 (aA CC)),(259,.pre 51 1 (cs++[.ol 125 n])),(251,.pre 30 3 (w.flatMap X.L))])=(kR m z n9++[(38,.s (.ol 129 (j+1))),(40,iA ((j+1:Nat):Int)),(211,.pre 51 1 (aA CC)),(259,.pre 51 1 (aA R))]):=by
 subst hk
 subst hc
 subst hR
 unfold iI
 generalize hs:((kR m z n9++[(38,.s (.ol 129 (j+1))),(40,iA ((j+1:Nat):Int)),(211,.pre 51 1 (aA CC)),(259,.pre 51 1 (aA D++[.ol 125 n])),(251,.pre 30 3 (w.flatMap X.L))]:St))=st
 have hk:look st (2*125+1)=some (.pre 30 3 (w.flatMap X.L)):=by rw [←hs];rfl
 rw [hk]
 simp only [mu]
 have key:=HU (b:=125) (n:=n) (st:=st) (C:=D) (w:=w) hk hn
 have key2:gW 125 st (.pre 51 1 (aA CC))= .pre 51 1 (aA CC):=by
  show AV.pre _ _ (List.map (fx 125 st) _)=_
  rw [zi (wA CC)]
 rw [←hs]
 show (0,_)::(2,_)::(8,_)::(10,_)::(12,_)::(14,_)::(16,_)::(38,_)::(40,_)::(211,gW 125 _ (.pre 51 1 (aA CC)))::(259,gW 125 _ _)::[]=_
 rw [hs,key,key2]
 rfl
theorem DF (m:List (List X)) (z:Int) (p1:m.length≤40∧∀ r∈m,r.length≤40) (hr:gK m=true) (hz:vp z=true) (hrz:ft m z=true) (hg:∀ r∈m,∀ x∈r,GX x):Ct Tryz.prog 23 [ji m,iA z] (·=bB rP (colsS z m)):=by
 have p2:=eq_true p1
 refine bF (O:=fB (eo 63 dY) (aD (dh cp (dh ay (dh bp ax))))) (by kernel_rfl) az (fun w=>kx (ry w) (ao (av oH (av kk (av mP ki))) _ w) (fun _ _ _=>fy fun _=>bZ (aK (by decide)) (bZ (aK (by decide)) (bZ (aK (by decide)) (aK (by decide)))))) [9999994,3,116,16,9999995,66,52,9999999,0,2,8,10,12,14,16,18,20,22,211,133,74,12,9999998,52,9999999,0,2,8,10,12,14,16,211,105,220,15,9999998,125,9999999,0,2,8,10,12,14,16,38,40,211,259,251,9999999,0,2,8,10,12,14,16,18,20,22,28,30,32,38,40,42,44,211,105,259,251] ((m.length+1)*30000+40000+900) 131 [.tmp 4,.tmp 5] Tryz.func23 rfl Tryz.ntmps23 (by rw [Tryz.results23]) (by simp) rfl (fun hsm=>?_)
 obtain ⟨hsq,⟨hl1,hl4⟩,hzz,hok⟩:=jD hrz
 have hT0:(trn m).length=m.length:=iW m
 have ht:∀ r∈trn m,r.length=m.length∧∀ x∈r,GX x:=fun r hr=>⟨kM r hr,vC hg r hr⟩
 have hpz:pQ z=true:=by rw [←jU];exact hz
 have hz2:(pQ z=true)=True:=eq_true hpz
 simp (maxSteps:=10000000) only [go_sem,seval,reduceCtorEq,bv,cp,ay,bp,ax,eo,dY,uA,uE,fV,bB,eu,jJ,ey,ke,kA,Option.isSome_none,Nat.zero_le,p2,hr,hz]
 generalize hC:colN z (trn m)=C
 have hCg:∀ k,k≤m.length→(C k).2=0→(C k).1.length=k∧∀ r∈(C k).1,r.length=m.length∧∀ x∈r,GX x:=fun k hk h=>by rw [←hC] at h ⊢;exact rn ht k (by omega) h
 have hs:∀ k,C (k+1)=bif (C k).2 !=0 then ([],(C k).2) else
   bif (witN z (C k).1 ((trn m).getD k []) k).2 !=0 then ([],(witN z (C k).1 ((trn m).getD k []) k).2) else
   bif (scaS (witN z (C k).1 ((trn m).getD k []) k).1).2 !=0 then ([],(scaS (witN z (C k).1 ((trn m).getD k []) k).1).2) else
   ((C k).1++[(scaS (witN z (C k).1 ((trn m).getD k []) k).1).1],0):=fun k=>by rw [←hC];rfl
 have hbad:∀ k e,C (k+1)=([],e)→(e !=0)=true→k<m.length→C m.length=([],e):=fun k e h1 h2 h3=>by rw [←hC] at h1 ⊢;exact sM h1 h2 h3
 have hfin0:∀ {e:Int},C m.length=([],e)→(e !=0)=true→colsS z m=([],e):=fun {e} h1 h2=>by unfold colsS;rw [hrz,cond_true,hC,h1];show (bif e !=0 then _ else _)=_;rw [h2];rfl
 refine aP 30000 (un m z C) m.length (fun k=>(C k).2=0) 40000 (fun k _=>by cases k with
  |zero=>rfl
  |succ k=>simp only [b9,un,List.cons_append,List.nil_append,List.all_cons,List.all_nil,aS,bE,dw,Bool.and_true]<;>rfl) (fun j m1 hm1 hj hI ih=>?_) (by omega) (by rw [←hC];rfl) rfl
 obtain ⟨hCl,hCr⟩:=hCg j hj hI
 have hI0:((C j).2 !=0)=false:=by rw [hI];rfl
 have hsk:=hs j
 rw [hI0,cond_false] at hsk
 rcases Nat.lt_or_ge j m.length with hlt |hge
 ·have hvk:=ba [] (show j<(trn m).length by omega)
  have hbad:=fun e h1 h2=>hbad j e h1 h2 hlt
  have hvg:=ht _ (List.mem_of_getElem? hvk)
  have hcol:∀ i,i<m.length→((trn m).getD j [])[i]? =some ((m.getD i []).getD j zX):=fun i hi=>Bn hlt hi
  generalize (trn m).getD j []=col at*
  have hcl:=hvg.1
  have d:=decide_eq_true (show (j:Int)<(m.length:Int) by omega)
  have gj:(j<m.length)=True:=eq_true hlt
  have g0:(0≤(j:Int))=True:=eq_true (by omega)
  have hw:=aZ (j:=j) (by omega)
  rcases Nat.eq_zero_or_pos j with hj0 |hj0
  ·as_aux_lemma=>
    have hnil:([]:List Lf)=aA (C j).1:=by rw [List.eq_nil_of_length_eq_zero (hCl.trans hj0)];rfl
    have hst:un m z C j=b9 m z++[(14,.s (.lit (.slice none 0 0))),(16,iA (j:Int))]:=by subst hj0;rfl
    rw [hst]
    simp (maxSteps:=10000000) only [go_sem,seval,reduceCtorEq,bv,cp,ay,bp,ax,eo,dY,uA,uE,fV,bB,eu,jJ,ey,ke,kA,Option.isSome_none,Nat.zero_le,p2,hr,hz,b9,li,nk,mO,g0,d,gj]
    refine aP 600 (li (b9 m z++[(14,.s (.lit (.slice none 0 0))),(16,iA (j:Int))]) [] col) m.length (fun _=>True) (m1+20000) (fun i _=>by cases i with
     |zero=>simp only [b9,li,List.cons_append,List.nil_append,List.all_cons,List.all_nil,aS,bE,dw,gL,Bool.and_true]<;>rfl
     |succ i=>simp only [b9,li,List.cons_append,List.nil_append,List.all_cons,List.all_nil,aS,bE,dw,gL,Bool.and_true]<;>rfl) (fun i m2 hL2 hi _ ihA=>?_) (by omega) trivial rfl
    obtain ⟨r2,rfl⟩:=Nat.exists_eq_add_of_le hL2
    rcases Nat.lt_or_ge i m.length with hlt2 |hge2
    ·replace ihA:=ihA hlt2 trivial
     have hr1:=ba [] hlt2
     have hrl:=hsq.2 _ (List.mem_of_getElem? hr1)
     have hxc:=hcol i hlt2
     generalize m.getD i []=r at*
     have hx1:=ba zX (show j<r.length by omega)
     generalize r.getD j zX=x at*
     have e1:=ng hr1
     have e2:=fq hx1
     have f1:(i<m.length)=True:=eq_true hlt2
     have f0:(0≤(i:Int))=True:=eq_true (by omega)
     have f2:(j<r.length)=True:=eq_true (by omega)
     have d2:=decide_eq_true (show (i:Int)<(m.length:Int) by omega)
     have hw2:=aZ (j:=i) (by omega)
     have es:(col.take i).flatMap X.L++[.lit (.bool x.s),.lit (.int .i64 x.e),.ws x.xs]=(col.take (i+1)).flatMap X.L:=by rw [List.take_add_one,hxc,List.flatMap_append];rfl
     rcases Nat.eq_zero_or_pos i with hi0 |hi0
     ·have hs2:li (b9 m z++[(14,.s (.lit (.slice none 0 0))),(16,iA (j:Int))]) [] col i=(b9 m z++[(14,.s (.lit (.slice none 0 0))),(16,iA (j:Int))])++((18,.s (.lit (.slice none 0 0)))::(20,iA (i:Int))::[]):=by subst hi0;rfl
      rw [hs2]
      simp (maxSteps:=10000000) only [go_sem,seval,reduceCtorEq,bv,cp,ay,bp,ax,eo,dY,uA,uE,fV,bB,eu,jJ,ey,ke,kA,Option.isSome_none,Nat.zero_le,p2,hr,hz,b9,li,nk,mO,g0,d,gj,d2,f0,f1,f2,e1,e2,hw2]
      repeat' with_reducible first |apply And.intro |apply condP<;>intro _
      all_goals first |(show be _ _=true;kernel_rfl)|(exact ihA _ _ (by subst hi0;rw [li,←es];rfl))|assumption |rfl
     ·obtain ⟨i,rfl⟩:∃ k,i=k+1:=⟨i - 1,by omega⟩
      have hl:((col.take (i+1)).flatMap X.L).length=(i+1)*3:=by rw [dJ,List.length_take];congr 1;omega
      have g5:(i+1≤100000)=True:=eq_true (by omega)
      simp (maxSteps:=10000000) only [go_sem,seval,reduceCtorEq,bv,cp,ay,bp,ax,eo,dY,uA,uE,fV,bB,eu,jJ,ey,ke,kA,Option.isSome_none,Nat.zero_le,p2,hr,hz,b9,li,nk,mO,g0,d,gj,d2,f0,f1,f2,e1,e2,hw2,hl,g5,es]
      repeat' with_reducible first |apply And.intro |apply condP<;>intro _
      all_goals first |(show be _ _=true;kernel_rfl)|(exact ihA _ _ rfl)|assumption |rfl
    ·obtain ⟨i,rfl⟩:∃ k,i=k+1:=⟨i - 1,by omega⟩
     clear ihA
     have hi1:i+1=col.length:=by omega
     have htk:col.take col.length=col:=List.take_length
     have d2:decide ((col.length:Int)<(m.length:Int))=false:=decide_eq_false (by omega)
     have d3:(col.length<m.length)=False:=eq_false (by omega)
     have hstA:li (b9 m z++[(14,.s (.lit (.slice none 0 0))),(16,iA (j:Int))]) [] col (i+1)=(b9 m z++[(14,.s (.lit (.slice none 0 0))),(16,iA (j:Int))])++((18,.s (.ol 52 col.length))::(20,iA (m.length:Int))::([]++[(105,.pre 30 3 (col.flatMap X.L))])):=by rw [li,hi1,htk,hcl]
     rw [hstA]
     have dn:decide ((m.length:Int)<(m.length:Int))=false:=decide_eq_false (by omega)
     simp (maxSteps:=10000000) only [go_sem,seval,reduceCtorEq,bv,cp,ay,bp,ax,eo,dY,uA,uE,fV,bB,eu,jJ,ey,ke,kA,Option.isSome_none,Nat.zero_le,p2,hr,hz,b9,li,nk,mO,g0,d,gj,dn]
     generalize hV:witN z (C j).1 col=V at*
     have hVg:∀ k,k≤j→(V k).2=0→(V k).1.length=m.length∧∀ x∈(V k).1,GX x:=fun k hk h=>by rw [←hV] at h ⊢;exact oA hvg (fun r hr=>(hCr r hr).1) k (by omega) h
     have hVs:∀ k,V (k+1)=bif (V k).2 !=0 then ([],(V k).2) else witS z (V k).1 ((C j).1.getD k []):=fun k=>by rw [←hV];rfl
     have hVb:∀ k e,V (k+1)=([],e)→(e !=0)=true→k<j→V j=([],e):=fun k e h1 h2 h3=>by rw [←hV] at h1 ⊢;exact pL h1 h2 h3
     refine aP 900 (nk (b9 m z++[(14,.s (.lit (.slice none 0 0))),(16,iA (j:Int))]) [] m.length V) j (fun k=>(V k).2=0) (m1+10000) (fun i _=>by simp only [b9,nk,mO,List.cons_append,List.nil_append,List.all_cons,List.all_nil,aS,bE,dw,gL,Bool.and_true]<;>rfl) (fun k m3 hL3 hk hK ihB=>?_) (by omega) (by rw [←hV];rfl) (by rw [←hV];rfl)
     obtain ⟨r3,rfl⟩:=Nat.exists_eq_add_of_le hL3
     obtain ⟨hVl,hVx⟩:=hVg k hk hK
     have hdl:=DT (V k).1
     have hdt:=mu (V k).1
     have hln:=dJ (V k).1
     have hok:=mw (V k).1
     have v1:((V k).1.length≤1000)=True:=eq_true (by omega)
     have v2:(∀ x∈(V k).1,GX x)=True:=eq_true hVx
     obtain rfl:k=0:=by omega
     have d4:decide ((0:Int)<(0:Int))=false:=rfl
     clear ihB
     have hVj:V j=(V 0):=by rw [hj0]
     have hK0:((V 0).2 !=0)=false:=by rw [hK];rfl
     rw [hVj,hK0,cond_false] at hsk
     obtain ⟨up1,up2⟩:=Bp hVx
     cases hS:dF (grN (V 0).1 (V 0).1.length)==0 with
     |true=>
      have hT:=up1 hS
      have hsc:scaS (V 0).1=([],3):=by unfold scaS;rw [hS];rfl
      have hCn:C m.length=([],3):=hbad 3 (by rw [hsk,hsc];rfl) rfl
      rw [hfin0 hCn rfl]
      simp (maxSteps:=10000000) only [go_sem,seval,reduceCtorEq,bv,cp,ay,bp,ax,eo,dY,uA,uE,fV,bB,eu,jJ,ey,ke,kA,Option.isSome_none,Nat.zero_le,p2,hr,hz,b9,li,nk,mO,g0,d,gj,d4,v1,v2,hdl,hdt,hln,hok,hT]
      repeat' with_reducible first |apply And.intro |apply condP<;>intro _
      all_goals first |(show be _ _=true;kernel_rfl)|assumption |rfl |(simp only [go_sem, *]<;>rfl)
     |false=>
      obtain ⟨hT,hsw⟩:=up2 hS
      have hsc:scaS (V 0).1=eachN (fun i=>(qx (ar ((V 0).1.getD i zX) (kS (V 0).1)).1,(ar ((V 0).1.getD i zX) (kS (V 0).1)).2)) (V 0).1.length:=by unfold scaS;rw [hS];rfl
      generalize hF0:(fun i=>(qx (ar ((V 0).1.getD i zX) (kS (V 0).1)).1,(ar ((V 0).1.getD i zX) (kS (V 0).1)).2))=F at hsc
      have hFj:∀ i,F i=(qx (ar ((V 0).1.getD i zX) (kS (V 0).1)).1,(ar ((V 0).1.getD i zX) (kS (V 0).1)).2):=fun i=>by rw [←hF0]
      generalize hE:eachN F=E at hsc
      simp (maxSteps:=10000000) only [go_sem,seval,reduceCtorEq,bv,cp,ay,bp,ax,eo,dY,uA,uE,fV,bB,eu,jJ,ey,ke,kA,Option.isSome_none,Nat.zero_le,p2,hr,hz,b9,li,nk,mO,g0,d,gj,d4,v1,v2,hdl,hdt,hln,hok,hT]
      generalize (V 0).1=w at*
      refine aP 900 (mO (b9 m z++[(14,.s (.lit (.slice none 0 0))),(16,iA (j:Int))]) [] m.length j w (qR w w.length).1 E) m.length (fun i=>(E i).2=0) m1 (fun i _=>by simp only [b9,nk,mO,List.cons_append,List.nil_append,List.all_cons,List.all_nil,aS,bE,dw,gL,Bool.and_true]<;>rfl) (fun i m4 hL4 hi hE0 ihC=>?_) (by omega) (by rw [←hE];rfl) (by subst hj0;rw [←hE];rfl)
      obtain ⟨r4,rfl⟩:=Nat.exists_eq_add_of_le hL4
      have hI':(eachN F i).2=0:=by rw [hE];exact hE0
      have hlen:(E i).1.length=i:=by rw [←hE];exact eK hI'
      have hml:((de (E i).1 w).flatMap X.L).length=w.length*3:=by rw [dJ,mt (by omega)]
      rcases Nat.lt_or_ge i m.length with hlt4 |hge4
      ·have hyj:=ba zX (show i<w.length by omega)
       have hFj:=hFj i
       generalize w.getD i zX=y at*
       have hm:=wj ((pd hlen).trans hyj)
       have g3:=mw (de (E i).1 w)
       have hset:∀ y,List.take (i*3) ((de (E i).1 w).flatMap X.L)++[.lit (.bool y.s),.lit (.int .i64 y.e),.ws y.xs]++List.drop (i*3+3) ((de (E i).1 w).flatMap X.L)=(de ((E i).1++[y]) w).flatMap X.L:=fun y=>oo y hlen (by omega)
       have d6:=decide_eq_true (show (i:Int)<(m.length:Int) by omega)
       have q0:(0≤(i:Int))=True:=eq_true (by omega)
       have q1:(i<w.length)=True:=eq_true (by omega)
       have q2:(i*3+3≤w.length*3)=True:=eq_true (by omega)
       have q3:(i<m.length)=True:=eq_true hlt4
       have hw4:=aZ (j:=i) (by omega)
       cases hM:(ar y (kS w)).2 !=0 with
       |true=>
        have hrr:E w.length=([],(ar y (kS w)).2):=by rw [←hE,jt hI' (by rw [hFj];exact hM) (by omega),hFj]
        have hCn:C m.length=([],(ar y (kS w)).2):=hbad _ (by rw [hsk,hsc,hrr];show (bif (ar y (kS w)).2 !=0 then _ else _)=_;rw [hM];rfl) hM
        rw [hfin0 hCn hM]
        simp (maxSteps:=10000000) only [go_sem,seval,reduceCtorEq,bv,cp,ay,bp,ax,eo,dY,uA,uE,fV,bB,eu,jJ,ey,ke,kA,Option.isSome_none,Nat.zero_le,p2,hr,hz,b9,li,nk,mO,g0,d,gj,d6,q0,q1,q2,q3,g3,hm,hml,hsw,hM]
        repeat' with_reducible first |apply And.intro |apply condP<;>intro _
        all_goals first |(show be _ _=true;kernel_rfl)|assumption |rfl |(simp only [go_sem, *]<;>rfl)
       |false=>
        have hs:E (i+1)=((E i).1++[qx (ar y (kS w)).1],0):=by rw [←hE,iu hI' (by rw [hFj];simpa using hM),hFj]
        replace ihC:=ihC hlt4 (by rw [hs])
        simp (maxSteps:=10000000) only [go_sem,seval,reduceCtorEq,bv,cp,ay,bp,ax,eo,dY,uA,uE,fV,bB,eu,jJ,ey,ke,kA,Option.isSome_none,Nat.zero_le,p2,hr,hz,b9,li,nk,mO,g0,d,gj,d6,q0,q1,q2,q3,g3,hm,hml,hsw,hM,hset,hw4]
        repeat' with_reducible first |apply And.intro |apply condP<;>intro _
        all_goals first |(show be _ _=true;kernel_rfl)|(exact ihC _ _ (by unfold mO;rw [hs];rfl))|assumption |rfl
      ·obtain rfl:i=m.length:=by omega
       clear ihC
       have hmf:de (E m.length).1 w=(E m.length).1:=kE (by omega)
       have hwl:w.length=m.length:=by omega
       have d6:decide ((m.length:Int)<(m.length:Int))=false:=decide_eq_false (by omega)
       have hEn:scaS w=E m.length:=by rw [hsc,hwl]
       have hE1:((scaS w).2 !=0)=false:=by rw [hEn,hE0];rfl
       rw [hE1,cond_false,hEn] at hsk
       replace ih:=ih hlt (by rw [hsk])
       rw [hmf] at hml
       have hd:=mu (E m.length).1
       simp (maxSteps:=10000000) only [go_sem,seval,reduceCtorEq,bv,cp,ay,bp,ax,eo,dY,uA,uE,fV,bB,eu,jJ,ey,ke,kA,Option.isSome_none,Nat.zero_le,p2,hr,hz,b9,li,nk,mO,g0,d,gj,d6,hmf,hml,hd,hw]
       repeat' with_reducible first |apply And.intro |apply condP<;>intro _
       all_goals first |(show be _ _=true;kernel_rfl)|(simp only [Nat.add_assoc];refine ih _ _ (Eq.trans ?_ (wE (j:=j) (congrArg Prod.fst hsk) (by subst hj0;rfl) hnil (show w.length=(E m.length).1.length by omega)));subst hj0;rfl)|assumption |rfl
  ·as_aux_lemma=>
    obtain ⟨j,rfl⟩:∃ k,j=k+1:=⟨j - 1,by omega⟩
    have ho5:(j+1≤100000)=True:=eq_true (by omega)
    have hol:(aA (C (j+1)).1).length=(j+1)*1:=by rw [iB,hCl]
    simp (maxSteps:=10000000) only [go_sem,seval,reduceCtorEq,bv,cp,ay,bp,ax,eo,dY,uA,uE,fV,bB,eu,jJ,ey,ke,kA,Option.isSome_none,Nat.zero_le,p2,hr,hz,b9,un,li,nk,mO,ho5,hol,dy,eN,fO,g0,d,gj]
    refine aP 600 (li (b9 m z++[(14,.s (.ol 105 (j+1))),(16,iA ((j+1:Nat):Int))]) [(211,.pre 51 1 (aA (C (j+1)).1))] col) m.length (fun _=>True) (m1+20000) (fun i _=>by cases i with
     |zero=>simp only [b9,li,List.cons_append,List.nil_append,List.all_cons,List.all_nil,aS,bE,dw,gL,Bool.and_true]<;>rfl
     |succ i=>simp only [b9,li,List.cons_append,List.nil_append,List.all_cons,List.all_nil,aS,bE,dw,gL,Bool.and_true]<;>rfl) (fun i m2 hL2 hi _ ihA=>?_) (by omega) trivial rfl
    obtain ⟨r2,rfl⟩:=Nat.exists_eq_add_of_le hL2
    rcases Nat.lt_or_ge i m.length with hlt2 |hge2
    ·replace ihA:=ihA hlt2 trivial
     have hr1:=ba [] hlt2
     have hrl:=hsq.2 _ (List.mem_of_getElem? hr1)
     have hxc:=hcol i hlt2
     generalize m.getD i []=r at*
     have hx1:=ba zX (show (j+1)<r.length by omega)
     generalize r.getD (j+1) zX=x at*
     have e1:=ng hr1
     have e2:=fq hx1
     have f1:(i<m.length)=True:=eq_true hlt2
     have f0:(0≤(i:Int))=True:=eq_true (by omega)
     have f2:((j+1)<r.length)=True:=eq_true (by omega)
     have d2:=decide_eq_true (show (i:Int)<(m.length:Int) by omega)
     have hw2:=aZ (j:=i) (by omega)
     have es:(col.take i).flatMap X.L++[.lit (.bool x.s),.lit (.int .i64 x.e),.ws x.xs]=(col.take (i+1)).flatMap X.L:=by rw [List.take_add_one,hxc,List.flatMap_append];rfl
     rcases Nat.eq_zero_or_pos i with hi0 |hi0
     ·have hs2:li (b9 m z++[(14,.s (.ol 105 (j+1))),(16,iA ((j+1:Nat):Int))]) [(211,.pre 51 1 (aA (C (j+1)).1))] col i=(b9 m z++[(14,.s (.ol 105 (j+1))),(16,iA ((j+1:Nat):Int))])++((18,.s (.lit (.slice none 0 0)))::(20,iA (i:Int))::[(211,.pre 51 1 (aA (C (j+1)).1))]):=by subst hi0;rfl
      rw [hs2]
      simp (maxSteps:=10000000) only [go_sem,seval,reduceCtorEq,bv,cp,ay,bp,ax,eo,dY,uA,uE,fV,bB,eu,jJ,ey,ke,kA,Option.isSome_none,Nat.zero_le,p2,hr,hz,b9,un,li,nk,mO,ho5,hol,dy,eN,fO,g0,d,gj,d2,f0,f1,f2,e1,e2,hw2]
      repeat' with_reducible first |apply And.intro |apply condP<;>intro _
      all_goals first |(show be _ _=true;kernel_rfl)|(exact ihA _ _ (by subst hi0;rw [li,←es];rfl))|assumption |rfl
     ·obtain ⟨i,rfl⟩:∃ k,i=k+1:=⟨i - 1,by omega⟩
      have hl:((col.take (i+1)).flatMap X.L).length=(i+1)*3:=by rw [dJ,List.length_take];congr 1;omega
      have g5:(i+1≤100000)=True:=eq_true (by omega)
      simp (maxSteps:=10000000) only [go_sem,seval,reduceCtorEq,bv,cp,ay,bp,ax,eo,dY,uA,uE,fV,bB,eu,jJ,ey,ke,kA,Option.isSome_none,Nat.zero_le,p2,hr,hz,b9,un,li,nk,mO,ho5,hol,dy,eN,fO,g0,d,gj,d2,f0,f1,f2,e1,e2,hw2,hl,g5,es]
      repeat' with_reducible first |apply And.intro |apply condP<;>intro _
      all_goals first |(show be _ _=true;kernel_rfl)|(exact ihA _ _ rfl)|assumption |rfl
    ·obtain ⟨i,rfl⟩:∃ k,i=k+1:=⟨i - 1,by omega⟩
     clear ihA
     have hi1:i+1=col.length:=by omega
     have htk:col.take col.length=col:=List.take_length
     have d2:decide ((col.length:Int)<(m.length:Int))=false:=decide_eq_false (by omega)
     have d3:(col.length<m.length)=False:=eq_false (by omega)
     have hstA:li (b9 m z++[(14,.s (.ol 105 (j+1))),(16,iA ((j+1:Nat):Int))]) [(211,.pre 51 1 (aA (C (j+1)).1))] col (i+1)=(b9 m z++[(14,.s (.ol 105 (j+1))),(16,iA ((j+1:Nat):Int))])++((18,.s (.ol 52 col.length))::(20,iA (m.length:Int))::([(211,.pre 51 1 (aA (C (j+1)).1))]++[(105,.pre 30 3 (col.flatMap X.L))])):=by rw [li,hi1,htk,hcl]
     rw [hstA]
     have dn:decide ((m.length:Int)<(m.length:Int))=false:=decide_eq_false (by omega)
     simp (maxSteps:=10000000) only [go_sem,seval,reduceCtorEq,bv,cp,ay,bp,ax,eo,dY,uA,uE,fV,bB,eu,jJ,ey,ke,kA,Option.isSome_none,Nat.zero_le,p2,hr,hz,b9,un,li,nk,mO,ho5,hol,dy,eN,fO,g0,d,gj,dn]
     generalize hV:witN z (C (j+1)).1 col=V at*
     have hVg:∀ k,k≤(j+1)→(V k).2=0→(V k).1.length=m.length∧∀ x∈(V k).1,GX x:=fun k hk h=>by rw [←hV] at h ⊢;exact oA hvg (fun r hr=>(hCr r hr).1) k (by omega) h
     have hVs:∀ k,V (k+1)=bif (V k).2 !=0 then ([],(V k).2) else witS z (V k).1 ((C (j+1)).1.getD k []):=fun k=>by rw [←hV];rfl
     have hVb:∀ k e,V (k+1)=([],e)→(e !=0)=true→k<(j+1)→V (j+1)=([],e):=fun k e h1 h2 h3=>by rw [←hV] at h1 ⊢;exact pL h1 h2 h3
     refine aP 900 (nk (b9 m z++[(14,.s (.ol 105 (j+1))),(16,iA ((j+1:Nat):Int))]) [(211,.pre 51 1 (aA (C (j+1)).1))] m.length V) (j+1) (fun k=>(V k).2=0) (m1+10000) (fun i _=>by simp only [b9,nk,mO,List.cons_append,List.nil_append,List.all_cons,List.all_nil,aS,bE,dw,gL,Bool.and_true]<;>rfl) (fun k m3 hL3 hk hK ihB=>?_) (by omega) (by rw [←hV];rfl) (by rw [←hV];rfl)
     obtain ⟨r3,rfl⟩:=Nat.exists_eq_add_of_le hL3
     obtain ⟨hVl,hVx⟩:=hVg k hk hK
     have hdl:=DT (V k).1
     have hdt:=mu (V k).1
     have hln:=dJ (V k).1
     have hok:=mw (V k).1
     have v1:((V k).1.length≤1000)=True:=eq_true (by omega)
     have v2:(∀ x∈(V k).1,GX x)=True:=eq_true hVx
     rcases Nat.lt_or_ge k (j+1) with hlt3 |hge3
     ·have huk:=ba [] (show k<(C (j+1)).1.length by omega)
      obtain ⟨hul,hug⟩:=hCr _ (List.mem_of_getElem? huk)
      have hVi:=hVs k
      have hVb:=fun e h1 h2=>hVb k e h1 h2 hlt3
      generalize (C (j+1)).1.getD k []=u at*
      have e3:(aA (C (j+1)).1)[k*1]? =some (.sl true 3 u.length (pC u)):=mH huk
      have d4:=decide_eq_true (show (k:Int)<((j+1:Nat):Int) by omega)
      have h0:(0≤(k:Int))=True:=eq_true (by omega)
      have h1:(k<j+1)=True:=eq_true hlt3
      have v3:((V k).1.length=u.length)=True:=eq_true (by omega)
      have v4:(1≤u.length)=True:=eq_true (by omega)
      have v5:(u.length≤1000)=True:=eq_true (by omega)
      have v6:(∀ x∈u,GX x)=True:=eq_true hug
      have hw3:=aZ (j:=k) (by omega)
      have hK0:((V k).2 !=0)=false:=by rw [hK];rfl
      rw [hK0,cond_false] at hVi
      have g3:=mw (witS z (V k).1 u).1
      have g4:=zH (witS z (V k).1 u).1
      have g5:=dJ (witS z (V k).1 u).1
      cases hW:(witS z (V k).1 u).2 !=0 with
      |true=>
       have hwb:witS z (V k).1 u=([],(witS z (V k).1 u).2):=wN hW
       have hVk:V (j+1)=([],(witS z (V k).1 u).2):=hVb _ (hVi.trans hwb) hW
       have hCn:C m.length=([],(witS z (V k).1 u).2):=hbad _ (by rw [hsk,hVk];show (bif (witS z (V k).1 u).2 !=0 then _ else _)=_;rw [hW];rfl) hW
       rw [hfin0 hCn hW]
       simp (maxSteps:=10000000) only [go_sem,seval,reduceCtorEq,bv,cp,ay,bp,ax,eo,dY,uA,uE,fV,bB,eu,jJ,ey,ke,kA,Option.isSome_none,Nat.zero_le,p2,hr,hz,b9,un,li,nk,mO,ho5,hol,dy,eN,fO,g0,d,gj,d4,h0,h1,v1,v2,v3,v4,v5,v6,hz2,hdl,hdt,hln,hok,e3,hW]
       repeat' with_reducible first |apply And.intro |apply condP<;>intro _
       all_goals first |(show be _ _=true;kernel_rfl)|assumption |rfl |(simp only [go_sem, *]<;>rfl)
      |false=>
       have hW0:(witS z (V k).1 u).2=0:=by simpa using hW
       replace ihB:=ihB hlt3 (by rw [hVi];exact hW0)
       simp (maxSteps:=10000000) only [go_sem,seval,reduceCtorEq,bv,cp,ay,bp,ax,eo,dY,uA,uE,fV,bB,eu,jJ,ey,ke,kA,Option.isSome_none,Nat.zero_le,p2,hr,hz,b9,un,li,nk,mO,ho5,hol,dy,eN,fO,g0,d,gj,d4,h0,h1,v1,v2,v3,v4,v5,v6,hz2,hdl,hdt,hln,hok,e3,hW,hw3]
       repeat' with_reducible first |apply And.intro |apply condP<;>intro _
       all_goals first |(show be _ _=true;kernel_rfl)|(exact ihB _ _ (Eq.trans rfl (Eq.trans (Df m z (j+1) ((j+1:Nat):Int) (witS z (V k).1 u).1.length (m.length:Int) ((k+1:Nat):Int) (C (j+1)).1 (witS z (V k).1 u).1) (by unfold nk;rw [hVi];rfl))))|assumption |rfl
     ·obtain rfl:k=j+1:=by omega
      clear ihB
      have d4:decide (((j+1:Nat):Int)<((j+1:Nat):Int))=false:=decide_eq_false (by omega)
      have d5:(j+1<j+1)=False:=eq_false (by omega)
      have hVj:V (j+1)=(V (j+1)):=rfl
      have hK0:((V (j+1)).2 !=0)=false:=by rw [hK];rfl
      rw [hVj,hK0,cond_false] at hsk
      obtain ⟨up1,up2⟩:=Bp hVx
      cases hS:dF (grN (V (j+1)).1 (V (j+1)).1.length)==0 with
      |true=>
       have hT:=up1 hS
       have hsc:scaS (V (j+1)).1=([],3):=by unfold scaS;rw [hS];rfl
       have hCn:C m.length=([],3):=hbad 3 (by rw [hsk,hsc];rfl) rfl
       rw [hfin0 hCn rfl]
       simp (maxSteps:=10000000) only [go_sem,seval,reduceCtorEq,bv,cp,ay,bp,ax,eo,dY,uA,uE,fV,bB,eu,jJ,ey,ke,kA,Option.isSome_none,Nat.zero_le,p2,hr,hz,b9,un,li,nk,mO,ho5,hol,dy,eN,fO,g0,d,gj,d4,d5,v1,v2,hdl,hdt,hln,hok,hT]
       repeat' with_reducible first |apply And.intro |apply condP<;>intro _
       all_goals first |(show be _ _=true;kernel_rfl)|assumption |rfl |(simp only [go_sem, *]<;>rfl)
      |false=>
       obtain ⟨hT,hsw⟩:=up2 hS
       have hsc:scaS (V (j+1)).1=eachN (fun i=>(qx (ar ((V (j+1)).1.getD i zX) (kS (V (j+1)).1)).1,(ar ((V (j+1)).1.getD i zX) (kS (V (j+1)).1)).2)) (V (j+1)).1.length:=by unfold scaS;rw [hS];rfl
       generalize hF0:(fun i=>(qx (ar ((V (j+1)).1.getD i zX) (kS (V (j+1)).1)).1,(ar ((V (j+1)).1.getD i zX) (kS (V (j+1)).1)).2))=F at hsc
       have hFj:∀ i,F i=(qx (ar ((V (j+1)).1.getD i zX) (kS (V (j+1)).1)).1,(ar ((V (j+1)).1.getD i zX) (kS (V (j+1)).1)).2):=fun i=>by rw [←hF0]
       generalize hE:eachN F=E at hsc
       simp (maxSteps:=10000000) only [go_sem,seval,reduceCtorEq,bv,cp,ay,bp,ax,eo,dY,uA,uE,fV,bB,eu,jJ,ey,ke,kA,Option.isSome_none,Nat.zero_le,p2,hr,hz,b9,un,li,nk,mO,ho5,hol,dy,eN,fO,g0,d,gj,d4,d5,v1,v2,hdl,hdt,hln,hok,hT]
       generalize (V (j+1)).1=w at*
       refine aP 900 (mO (b9 m z++[(14,.s (.ol 105 (j+1))),(16,iA ((j+1:Nat):Int))]) [(211,.pre 51 1 (aA (C (j+1)).1))] m.length (j+1) w (qR w w.length).1 E) m.length (fun i=>(E i).2=0) m1 (fun i _=>by simp only [b9,nk,mO,List.cons_append,List.nil_append,List.all_cons,List.all_nil,aS,bE,dw,gL,Bool.and_true]<;>rfl) (fun i m4 hL4 hi hE0 ihC=>?_) (by omega) (by rw [←hE];rfl) (by rw [←hE];rfl)
       obtain ⟨r4,rfl⟩:=Nat.exists_eq_add_of_le hL4
       have hI':(eachN F i).2=0:=by rw [hE];exact hE0
       have hlen:(E i).1.length=i:=by rw [←hE];exact eK hI'
       have hml:((de (E i).1 w).flatMap X.L).length=w.length*3:=by rw [dJ,mt (by omega)]
       rcases Nat.lt_or_ge i m.length with hlt4 |hge4
       ·have hyj:=ba zX (show i<w.length by omega)
        have hFj:=hFj i
        generalize w.getD i zX=y at*
        have hm:=wj ((pd hlen).trans hyj)
        have g3:=mw (de (E i).1 w)
        have hset:∀ y,List.take (i*3) ((de (E i).1 w).flatMap X.L)++[.lit (.bool y.s),.lit (.int .i64 y.e),.ws y.xs]++List.drop (i*3+3) ((de (E i).1 w).flatMap X.L)=(de ((E i).1++[y]) w).flatMap X.L:=fun y=>oo y hlen (by omega)
        have d6:=decide_eq_true (show (i:Int)<(m.length:Int) by omega)
        have q0:(0≤(i:Int))=True:=eq_true (by omega)
        have q1:(i<w.length)=True:=eq_true (by omega)
        have q2:(i*3+3≤w.length*3)=True:=eq_true (by omega)
        have q3:(i<m.length)=True:=eq_true hlt4
        have hw4:=aZ (j:=i) (by omega)
        cases hM:(ar y (kS w)).2 !=0 with
        |true=>
         have hrr:E w.length=([],(ar y (kS w)).2):=by rw [←hE,jt hI' (by rw [hFj];exact hM) (by omega),hFj]
         have hCn:C m.length=([],(ar y (kS w)).2):=hbad _ (by rw [hsk,hsc,hrr];show (bif (ar y (kS w)).2 !=0 then _ else _)=_;rw [hM];rfl) hM
         rw [hfin0 hCn hM]
         simp (maxSteps:=10000000) only [go_sem,seval,reduceCtorEq,bv,cp,ay,bp,ax,eo,dY,uA,uE,fV,bB,eu,jJ,ey,ke,kA,Option.isSome_none,Nat.zero_le,p2,hr,hz,b9,un,li,nk,mO,ho5,hol,dy,eN,fO,g0,d,gj,d6,q0,q1,q2,q3,g3,hm,hml,hsw,hM]
         repeat' with_reducible first |apply And.intro |apply condP<;>intro _
         all_goals first |(show be _ _=true;kernel_rfl)|assumption |rfl |(simp only [go_sem, *]<;>rfl)
        |false=>
         have hs:E (i+1)=((E i).1++[qx (ar y (kS w)).1],0):=by rw [←hE,iu hI' (by rw [hFj];simpa using hM),hFj]
         replace ihC:=ihC hlt4 (by rw [hs])
         simp (maxSteps:=10000000) only [go_sem,seval,reduceCtorEq,bv,cp,ay,bp,ax,eo,dY,uA,uE,fV,bB,eu,jJ,ey,ke,kA,Option.isSome_none,Nat.zero_le,p2,hr,hz,b9,un,li,nk,mO,ho5,hol,dy,eN,fO,g0,d,gj,d6,q0,q1,q2,q3,g3,hm,hml,hsw,hM,hset,hw4]
         repeat' with_reducible first |apply And.intro |apply condP<;>intro _
         all_goals first |(show be _ _=true;kernel_rfl)|(exact ihC _ _ (by unfold mO;rw [hs];rfl))|assumption |rfl
       ·obtain rfl:i=m.length:=by omega
        clear ihC
        have hmf:de (E m.length).1 w=(E m.length).1:=kE (by omega)
        have hwl:w.length=m.length:=by omega
        have d6:decide ((m.length:Int)<(m.length:Int))=false:=decide_eq_false (by omega)
        have hEn:scaS w=E m.length:=by rw [hsc,hwl]
        have hE1:((scaS w).2 !=0)=false:=by rw [hEn,hE0];rfl
        rw [hE1,cond_false,hEn] at hsk
        replace ih:=ih hlt (by rw [hsk])
        rw [hmf] at hml
        have hd:=mu (E m.length).1
        simp (maxSteps:=10000000) only [go_sem,seval,reduceCtorEq,bv,cp,ay,bp,ax,eo,dY,uA,uE,fV,bB,eu,jJ,ey,ke,kA,Option.isSome_none,Nat.zero_le,p2,hr,hz,b9,un,li,nk,mO,ho5,hol,dy,eN,fO,g0,d,gj,d6,hmf,hml,hd,hw]
        repeat' with_reducible first |apply And.intro |apply condP<;>intro _
        all_goals first |(show be _ _=true;kernel_rfl)|(simp only [Nat.add_assoc];refine ih _ _ (Eq.trans ?_ (wE (j:=(j+1)) (congrArg Prod.fst hsk) rfl rfl (show w.length=(E m.length).1.length by omega)));rfl)|assumption |rfl
 ·as_aux_lemma=>
   obtain ⟨q,rfl⟩:∃ k,j=k+1:=⟨j - 1,by omega⟩
   clear ih
   have hn:q+1=m.length:=by omega
   obtain ⟨r1,rfl⟩:=Nat.exists_eq_add_of_le hm1
   have hst:un m z C (q+1)=kR m z m.length++[(211,.pre 51 1 (aA (C m.length).1))]:=by rw [un,hn];rfl
   rw [hst]
   rw [hn] at hCl hCr hI0
   have hfin:colsS z m=(trn (C m.length).1,0):=by unfold colsS;rw [hrz,cond_true,hC,hI0,cond_false]
   rw [hfin]
   have hcg:=fun r h=>(hCr r h).1
   clear hst hsk hs hbad hfin0 hCg hCr hfin hI0 hI
   generalize (C m.length).1=CC at*
   have hTl:(trn CC).length=m.length:=by rw [iW,hCl]
   have hCL:(aA CC).length=m.length*1:=by rw [iB,hCl]
   have hCo:=dy CC
   have d:decide ((m.length:Int)<(m.length:Int))=false:=decide_eq_false (by omega)
   simp (maxSteps:=10000000) only [go_sem,seval,reduceCtorEq,bv,cp,ay,bp,ax,eo,dY,uA,uE,fV,bB,eu,jJ,ey,ke,kA,Option.isSome_none,Nat.zero_le,p2,hr,hz,b9,kR,d]
   refine aP 12000 (BC m z m.length CC (trn CC)) m.length (fun _=>True) 0 (fun i _=>by cases i with
    |zero=>simp only [b9,kR,BC,List.cons_append,List.nil_append,List.all_cons,List.all_nil,aS,bE,dw,gL,Bool.and_true]<;>rfl
    |succ i=>simp only [b9,kR,BC,List.cons_append,List.nil_append,List.all_cons,List.all_nil,aS,bE,dw,gL,Bool.and_true]<;>rfl) (fun i m2 _ hi _ ihI=>?_) (by omega) trivial rfl
   rcases Nat.lt_or_ge i m.length with hlt2 |hge2
   ·replace ihI:=ihI hlt2 trivial
    have hrw:=ba [] (show i<(trn CC).length by omega)
    have hrl:=kM _ (List.mem_of_getElem? hrw)
    have hel:∀ j,j<m.length→((trn CC).getD i [])[j]? =some ((CC.getD j []).getD i zX):=fun j hj=>Bn (by omega) (by omega)
    have htk:(trn CC).take (i+1)=(trn CC).take i++[(trn CC).getD i []]:=by rw [List.take_add_one,hrw];rfl
    generalize (trn CC).getD i []=row at*
    have d1:=decide_eq_true (show (i:Int)<(m.length:Int) by omega)
    have gi:(i<m.length)=True:=eq_true hlt2
    have g0:(0≤(i:Int))=True:=eq_true (by omega)
    have hw1:=aZ (j:=i) (by omega)
    rcases Nat.eq_zero_or_pos i with hi0 |hi0
    ·skip
     have hst:BC m z m.length CC (trn CC) i=kR m z m.length++[(38,.s (.lit (.slice none 0 0))),(40,iA (i:Int)),(211,.pre 51 1 (aA CC))]:=by subst hi0;rfl
     rw [hst]
     simp (maxSteps:=10000000) only [go_sem,seval,reduceCtorEq,bv,cp,ay,bp,ax,eo,dY,uA,uE,fV,bB,eu,jJ,ey,ke,kA,Option.isSome_none,Nat.zero_le,p2,hr,hz,b9,kR,pS,d1,g0,gi]
     refine aP 900 (pS (kR m z m.length++[(38,.s (.lit (.slice none 0 0))),(40,iA (i:Int))]) [(211,.pre 51 1 (aA CC))] row) m.length (fun _=>True) m2 (fun i _=>by cases i with
    |zero=>simp only [b9,kR,pS,List.cons_append,List.nil_append,List.all_cons,List.all_nil,aS,bE,dw,gL,Bool.and_true]<;>rfl
    |succ i=>simp only [b9,kR,pS,List.cons_append,List.nil_append,List.all_cons,List.all_nil,aS,bE,dw,gL,Bool.and_true]<;>rfl) (fun j m3 hL3 hj _ ihE=>?_) (by omega) trivial rfl
     obtain ⟨r3,rfl⟩:=Nat.exists_eq_add_of_le hL3
     rcases Nat.lt_or_ge j m.length with hlt3 |hge3
     ·replace ihE:=ihE hlt3 trivial
      have huk:=ba [] (show j<CC.length by omega)
      have hul:=hcg _ (List.mem_of_getElem? huk)
      have hxe:=hel j hlt3
      generalize CC.getD j []=u at*
      have hx1:=ba zX (show i<u.length by omega)
      generalize u.getD i zX=x at*
      have e3:(aA CC)[j*1]? =some (.sl true 3 u.length (pC u)):=mH huk
      have e4:=fq hx1
      have d3:=decide_eq_true (show (j:Int)<(m.length:Int) by omega)
      have h0:(0≤(j:Int))=True:=eq_true (by omega)
      have h1:(j<m.length)=True:=eq_true hlt3
      have h2:(i<u.length)=True:=eq_true (by omega)
      have hw3:=aZ (j:=j) (by omega)
      have es:(row.take j).flatMap X.L++[.lit (.bool x.s),.lit (.int .i64 x.e),.ws x.xs]=(row.take (j+1)).flatMap X.L:=by rw [List.take_add_one,hxe,List.flatMap_append];rfl
      rcases Nat.eq_zero_or_pos j with hj0 |hj0
      ·have hs2:pS (kR m z m.length++[(38,.s (.lit (.slice none 0 0))),(40,iA (i:Int))]) [(211,.pre 51 1 (aA CC))] row j=(kR m z m.length++[(38,.s (.lit (.slice none 0 0))),(40,iA (i:Int))])++((42,.s (.lit (.slice none 0 0)))::(44,iA (j:Int))::[(211,.pre 51 1 (aA CC))]):=by subst hj0;rfl
       rw [hs2]
       simp (maxSteps:=10000000) only [go_sem,seval,reduceCtorEq,bv,cp,ay,bp,ax,eo,dY,uA,uE,fV,bB,eu,jJ,ey,ke,kA,Option.isSome_none,Nat.zero_le,p2,hr,hz,b9,kR,pS,d1,g0,gi,d3,h0,h1,h2,e3,e4,hw3,hCL,hCo]
       repeat' with_reducible first |apply And.intro |apply condP<;>intro _
       all_goals first |(show be _ _=true;kernel_rfl)|(exact ihE _ _ (by subst hj0;rw [pS,←es];rfl))|assumption |rfl
      ·obtain ⟨j,rfl⟩:∃ k,j=k+1:=⟨j - 1,by omega⟩
       have hl:((row.take (j+1)).flatMap X.L).length=(j+1)*3:=by rw [dJ,List.length_take];congr 1;omega
       have g5:(j+1≤100000)=True:=eq_true (by omega)
       simp (maxSteps:=10000000) only [go_sem,seval,reduceCtorEq,bv,cp,ay,bp,ax,eo,dY,uA,uE,fV,bB,eu,jJ,ey,ke,kA,Option.isSome_none,Nat.zero_le,p2,hr,hz,b9,kR,pS,d1,g0,gi,d3,h0,h1,h2,e3,e4,hw3,hCL,hCo,hl,g5,es]
       repeat' with_reducible first |apply And.intro |apply condP<;>intro _
       all_goals first |(show be _ _=true;kernel_rfl)|(exact ihE _ _ rfl)|assumption |rfl
     ·obtain ⟨j,rfl⟩:∃ k,j=k+1:=⟨j - 1,by omega⟩
      clear ihE
      have hj1:j+1=row.length:=by omega
      have hrk:row.take row.length=row:=List.take_length
      have hrm:row.length=m.length:=by omega
      have d3:decide ((row.length:Int)<(m.length:Int))=false:=decide_eq_false (by omega)
      have d4:decide ((m.length:Int)<(m.length:Int))=false:=decide_eq_false (by omega)
      have hstE:pS (kR m z m.length++[(38,.s (.lit (.slice none 0 0))),(40,iA (i:Int))]) [(211,.pre 51 1 (aA CC))] row (j+1)=(kR m z m.length++[(38,.s (.lit (.slice none 0 0))),(40,iA (i:Int))])++((42,.s (.ol 125 row.length))::(44,iA (m.length:Int))::([(211,.pre 51 1 (aA CC))]++[(251,.pre 30 3 (row.flatMap X.L))])):=by rw [pS,hj1,hrk,hrm]
      rw [hstE]
      have hl:(row.flatMap X.L).length=row.length*3:=dJ row
      simp (maxSteps:=10000000) only [go_sem,seval,reduceCtorEq,bv,cp,ay,bp,ax,eo,dY,uA,uE,fV,bB,eu,jJ,ey,ke,kA,Option.isSome_none,Nat.zero_le,p2,hr,hz,b9,kR,pS,d1,g0,gi,d4,hl,hw1]
      repeat' with_reducible first |apply And.intro |apply condP<;>intro _
      all_goals first |(show be _ _=true;kernel_rfl)|(simp only [Nat.add_assoc];refine ihI _ _ (Eq.trans ?_ (tN (j:=i) htk (by subst hi0;rfl) (by subst hi0;rfl) rfl));subst hi0;rfl)|assumption |rfl
    ·obtain ⟨i,rfl⟩:∃ k,i=k+1:=⟨i - 1,by omega⟩
     have ho5:(i+1≤100000)=True:=eq_true (by omega)
     have hol:(aA ((trn CC).take (i+1))).length=(i+1)*1:=by rw [iB,List.length_take];congr 1;omega
     simp (maxSteps:=10000000) only [go_sem,seval,reduceCtorEq,bv,cp,ay,bp,ax,eo,dY,uA,uE,fV,bB,eu,jJ,ey,ke,kA,Option.isSome_none,Nat.zero_le,p2,hr,hz,b9,kR,BC,pS,ho5,hol,dy,d1,g0,gi]
     refine aP 900 (pS (kR m z m.length++[(38,.s (.ol 129 (i+1))),(40,iA ((i+1:Nat):Int))]) [(211,.pre 51 1 (aA CC)),(259,.pre 51 1 (aA ((trn CC).take (i+1))))] row) m.length (fun _=>True) m2 (fun i _=>by cases i with
    |zero=>simp only [b9,kR,pS,List.cons_append,List.nil_append,List.all_cons,List.all_nil,aS,bE,dw,gL,Bool.and_true]<;>rfl
    |succ i=>simp only [b9,kR,pS,List.cons_append,List.nil_append,List.all_cons,List.all_nil,aS,bE,dw,gL,Bool.and_true]<;>rfl) (fun j m3 hL3 hj _ ihE=>?_) (by omega) trivial rfl
     obtain ⟨r3,rfl⟩:=Nat.exists_eq_add_of_le hL3
     rcases Nat.lt_or_ge j m.length with hlt3 |hge3
     ·replace ihE:=ihE hlt3 trivial
      have huk:=ba [] (show j<CC.length by omega)
      have hul:=hcg _ (List.mem_of_getElem? huk)
      have hxe:=hel j hlt3
      generalize CC.getD j []=u at*
      have hx1:=ba zX (show (i+1)<u.length by omega)
      generalize u.getD (i+1) zX=x at*
      have e3:(aA CC)[j*1]? =some (.sl true 3 u.length (pC u)):=mH huk
      have e4:=fq hx1
      have d3:=decide_eq_true (show (j:Int)<(m.length:Int) by omega)
      have h0:(0≤(j:Int))=True:=eq_true (by omega)
      have h1:(j<m.length)=True:=eq_true hlt3
      have h2:((i+1)<u.length)=True:=eq_true (by omega)
      have hw3:=aZ (j:=j) (by omega)
      have es:(row.take j).flatMap X.L++[.lit (.bool x.s),.lit (.int .i64 x.e),.ws x.xs]=(row.take (j+1)).flatMap X.L:=by rw [List.take_add_one,hxe,List.flatMap_append];rfl
      rcases Nat.eq_zero_or_pos j with hj0 |hj0
      ·have hs2:pS (kR m z m.length++[(38,.s (.ol 129 (i+1))),(40,iA ((i+1:Nat):Int))]) [(211,.pre 51 1 (aA CC)),(259,.pre 51 1 (aA ((trn CC).take (i+1))))] row j=(kR m z m.length++[(38,.s (.ol 129 (i+1))),(40,iA ((i+1:Nat):Int))])++((42,.s (.lit (.slice none 0 0)))::(44,iA (j:Int))::[(211,.pre 51 1 (aA CC)),(259,.pre 51 1 (aA ((trn CC).take (i+1))))]):=by subst hj0;rfl
       rw [hs2]
       simp (maxSteps:=10000000) only [go_sem,seval,reduceCtorEq,bv,cp,ay,bp,ax,eo,dY,uA,uE,fV,bB,eu,jJ,ey,ke,kA,Option.isSome_none,Nat.zero_le,p2,hr,hz,b9,kR,BC,pS,ho5,hol,dy,d1,g0,gi,d3,h0,h1,h2,e3,e4,hw3,hCL,hCo]
       repeat' with_reducible first |apply And.intro |apply condP<;>intro _
       all_goals first |(show be _ _=true;kernel_rfl)|(exact ihE _ _ (by subst hj0;rw [pS,←es];rfl))|assumption |rfl
      ·obtain ⟨j,rfl⟩:∃ k,j=k+1:=⟨j - 1,by omega⟩
       have hl:((row.take (j+1)).flatMap X.L).length=(j+1)*3:=by rw [dJ,List.length_take];congr 1;omega
       have g5:(j+1≤100000)=True:=eq_true (by omega)
       simp (maxSteps:=10000000) only [go_sem,seval,reduceCtorEq,bv,cp,ay,bp,ax,eo,dY,uA,uE,fV,bB,eu,jJ,ey,ke,kA,Option.isSome_none,Nat.zero_le,p2,hr,hz,b9,kR,BC,pS,ho5,hol,dy,d1,g0,gi,d3,h0,h1,h2,e3,e4,hw3,hCL,hCo,hl,g5,es]
       repeat' with_reducible first |apply And.intro |apply condP<;>intro _
       all_goals first |(show be _ _=true;kernel_rfl)|(exact ihE _ _ rfl)|assumption |rfl
     ·obtain ⟨j,rfl⟩:∃ k,j=k+1:=⟨j - 1,by omega⟩
      clear ihE
      have hj1:j+1=row.length:=by omega
      have hrk:row.take row.length=row:=List.take_length
      have hrm:row.length=m.length:=by omega
      have d3:decide ((row.length:Int)<(m.length:Int))=false:=decide_eq_false (by omega)
      have d4:decide ((m.length:Int)<(m.length:Int))=false:=decide_eq_false (by omega)
      have hstE:pS (kR m z m.length++[(38,.s (.ol 129 (i+1))),(40,iA ((i+1:Nat):Int))]) [(211,.pre 51 1 (aA CC)),(259,.pre 51 1 (aA ((trn CC).take (i+1))))] row (j+1)=(kR m z m.length++[(38,.s (.ol 129 (i+1))),(40,iA ((i+1:Nat):Int))])++((42,.s (.ol 125 row.length))::(44,iA (m.length:Int))::([(211,.pre 51 1 (aA CC)),(259,.pre 51 1 (aA ((trn CC).take (i+1))))]++[(251,.pre 30 3 (row.flatMap X.L))])):=by rw [pS,hj1,hrk,hrm]
      rw [hstE]
      have hl:(row.flatMap X.L).length=row.length*3:=dJ row
      simp (maxSteps:=10000000) only [go_sem,seval,reduceCtorEq,bv,cp,ay,bp,ax,eo,dY,uA,uE,fV,bB,eu,jJ,ey,ke,kA,Option.isSome_none,Nat.zero_le,p2,hr,hz,b9,kR,BC,pS,ho5,hol,dy,d1,g0,gi,d4,hl,hw1]
      repeat' with_reducible first |apply And.intro |apply condP<;>intro _
      all_goals first |(show be _ _=true;kernel_rfl)|(simp only [Nat.add_assoc];refine ihI _ _ (Eq.trans ?_ (tN (j:=(i+1)) htk rfl rfl rfl));rfl)|assumption |rfl
   ·obtain ⟨i,rfl⟩:∃ k,i=k+1:=⟨i - 1,by omega⟩
    have hn2:i+1=m.length:=by omega
    have htk:(trn CC).take m.length=trn CC:=List.take_of_length_le (by omega)
    have d1:decide ((m.length:Int)<(m.length:Int))=false:=decide_eq_false (by omega)
    have hst:BC m z m.length CC (trn CC) (i+1)=kR m z m.length++[(38,.s (.ol 129 m.length)),(40,iA (m.length:Int)),(211,.pre 51 1 (aA CC)),(259,.pre 51 1 (aA (trn CC)))]:=by rw [BC,hn2,htk]
    rw [hst]
    have hTL:(aA (trn CC)).length=m.length*1:=by rw [iB,hTl]
    have hdn:=eN (trn CC)
    have hemp:(trn CC).isEmpty=false:=by
     cases hq:trn CC with
     |nil=>rw [hq] at hTl;simp at hTl;omega
     |cons a l=>rfl
    simp (maxSteps:=10000000) only [go_sem,seval,reduceCtorEq,bv,cp,ay,bp,ax,eo,dY,uA,uE,fV,bB,eu,jJ,ey,ke,kA,Option.isSome_none,Nat.zero_le,p2,hr,hz,b9,kR,d1,hTL,hdn,hemp,hTl]
    repeat' with_reducible first |apply And.intro |apply condP<;>intro _
    all_goals first |(show be _ _=true;kernel_rfl)|assumption |rfl |(simp only [go_sem, *]<;>rfl)
theorem Jk (m:List (List X)) (z:Int) (hS:∀ r∈m,∀ x∈r,Small B64 x.xs) (p1:m.length≤40∧∀ r∈m,r.length≤40):Ct Tryz.prog 23 [ji m,iA z] (·=Ge (colsS z m)):=by
 refine Ct.wk ?_ (vY _)
 have e:=AH m z
 cases hr:gK m with
 |false=>
  rw [hr,cond_false] at e
  have e1:colsS z m=([],1):=by unfold colsS;rw [e];rfl
  rw [e1];exact DC m z p1 hr
 |true=>
  rw [hr,cond_true] at e
  cases hz:vp z with
  |false=>
   rw [hz] at e
   have e1:colsS z m=([],1):=by unfold colsS;rw [e];rfl
   rw [e1];exact DE m z p1 hr hz
  |true=>
   rw [hz] at e
   exact DF m z p1 hr hz e fun r h x hx=>⟨(jD e).2.2.2 r h x hx,hS r h x hx⟩
noncomputable def gQ:fR:=one 23 (gA vN fun m=>gA kg fun z=>gE ((∀ r∈m,∀ x∈r,Small B64 x.xs)∧m.length≤40∧∀ r∈m,r.length≤40,Ge (colsS z m)))
theorem oG:TbOK Tryz.prog gQ:=fM (ew Tryz.func23 (by kernel_rfl) rfl) (.a kq fun m=>.a iq fun z=>.e fun h=>Jk m z h.1 h.2)
end Go.Proofs.YtpacpmmdjmnamaaGreatDoor
