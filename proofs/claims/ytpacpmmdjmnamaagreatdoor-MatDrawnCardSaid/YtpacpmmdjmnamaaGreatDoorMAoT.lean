/- The statements' helper reckons returns true. -/
import Derived.Test.YtpacpmmdjmnamaaGreatDoorMAoU
import Derived.Test.YtpacpmmdjmnamaaGreatDoorMAo2
import Derived.Test.YtpacpmmdjmnamaaGreatDoorMAm2
import Derived.Test.YtpacpmmdjmnamaaGreatDoorMAoS
import Derived.Test.YtpacpmmdjmnamaaGreatDoorMAo4
namespace Go.Proofs.YtpacpmmdjmnamaaGreatDoor
section
open Go.RowKit Nx
set_option linter.unusedVariables false
set_option linter.unusedSimpArgs false
attribute [local irreducible] ar
theorem NK (xs:List Nat) (k:Nat) (hk:k≤900):kZ 8 xs [] k (iA ((dk xs k%4+1:Nat):Int)) (k+1):=by
 have h4:dk xs k%4=0∨dk xs k%4=1∨dk xs k%4=2∨dk xs k%4=3:=by omega
 rcases h4 with h |h |h |h
 ·rw [h];exact NG xs k hk (by rw [h];rfl)
 ·rw [h];exact NH xs k hk (by rw [h];rfl)
 ·rw [h];exact NI xs k hk (by rw [h];rfl)
 ·rw [h];exact NJ xs k hk (by rw [h];rfl)
theorem rG {α β:Type} {φ:α→β→Bool} (d:α) (d':β):∀ {l:List α} {m:List β},l.length=m.length→(∀ i,i<l.length→φ (l.getD i d) (m.getD i d')=true)→bZ φ l m=true:=by
 intro l
 induction l with
 |nil=>intro m h _;cases m with
  |nil=>rfl
  |cons b m=>cases h
 |cons a l ih=>
  intro m h hp
  cases m with
  |nil=>cases h
  |cons b m=>
   unfold bZ
   rw [show φ a b=true from hp 0 (by simp),ih (by simpa using h) fun i hi=>hp (i+1) (by simp;exact hi)];rfl
def GoodM (s:Nat) (m:List (List J)):Prop:=m.length=s∧∀ r∈m,r.length=s∧∀ j∈r,fP j
theorem GoodM.right {s:Nat} {m:List (List J)} (h:GoodM s m) (h1:1≤s) (h4:s≤4):rightM m=true:=by
 have hr:jR (m.length:Int) 1 4=true:=by
  unfold jR
  rw [h.1,decide_eq_true (show (1:Int)≤(s:Int) by omega),cond_true]
  exact decide_eq_true (show (s:Int)≤4 by omega)
 unfold rightM
 rw [hr,cond_true]
 refine List.all_eq_true.2 fun r hm=>?_
 obtain ⟨h2,h3⟩:=h.2 r hm
 unfold mZ
 rw [h.1,h2,bne_self_eq_false,cond_false]
 exact lr h3 (by omega) (by omega)
theorem GoodM.row {s i:Nat} {m:List (List J)} (h:GoodM s m) (hi:i<s):m.getD i []∈m∧(m.getD i []).length=s∧∀ j∈m.getD i [],fP j:=by
 have hm:m.getD i []∈m:=List.mem_of_getElem? (aB [] (by rw [h.1];exact hi))
 exact ⟨hm,h.2 _ hm⟩
theorem Gz {j:J} (h:okJ j=true):Kc j j=true:=by
 unfold Kc
 rw [h,nV,nV];rfl
theorem GA {s:Nat} {m:List (List J)} (h:GoodM s m) (h1:1≤s) (h4:s≤4):Mm m m=true:=by
 unfold Mm
 rw [h.right h1 h4,cond_true,cond_true]
 refine rG [] [] rfl fun i hi=>?_
 obtain ⟨h2,h3,h5⟩:=h.row (i:=i) (by rw [←h.1];exact hi)
 unfold Ol
 rw [lr h5 (by omega) (by omega)]
 exact rG zJ zJ rfl fun k hk=>Gz (h5 _ (List.mem_of_getElem? (aB zJ hk))).1
def PtsM (s:Nat) (m:List (List J)) (p:List (List X)):Prop:=p.length=s∧∀ i,i<s→(p.getD i []).length=s∧∀ k,k<s→GX ((p.getD i []).getD k zX)∧sH (bS m i k) ((p.getD i []).getD k zX)=true
theorem By {l:List X} {k:Nat} (h:k<l.length):(poi l).getD k zJ=⟨l.getD k zX,l.getD k zX⟩:=by
 unfold poi
 rw [List.getD_eq_getElem?_getD,List.getElem?_map,aB zX h];rfl
theorem Ih {p:List (List X)} {i:Nat} (h:i<p.length):(p.map poi).getD i []=poi (p.getD i []):=by
 rw [List.getD_eq_getElem?_getD,List.getElem?_map,aB [] h];rfl
theorem QA {x:X} (h:GX x):fP ⟨x,x⟩:=⟨by unfold okJ;rw [h.1,nV];rfl,⟨h.2,h.2⟩⟩
theorem PtsM.good {s:Nat} {m:List (List J)} {p:List (List X)} (h:PtsM s m p):GoodM s (p.map poi):=by
 refine ⟨by rw [List.length_map];exact h.1,fun r hr=>?_⟩
 obtain ⟨i,hi,e⟩:=List.getElem_of_mem hr
 rw [List.length_map] at hi
 have e:(p.map poi).getD i []=r:=by rw [List.getD_eq_getElem?_getD,List.getElem?_eq_getElem (by rw [List.length_map];exact hi),e];rfl
 rw [Ih hi] at e
 obtain ⟨h2,h3⟩:=h.2 i (by rw [←h.1];exact hi)
 rw [←e]
 refine ⟨by rw [lm];exact h2,fun j hj=>?_⟩
 obtain ⟨k,hk,e2⟩:=List.getElem_of_mem hj
 rw [lm] at hk
 have e2:(poi (p.getD i [])).getD k zJ=j:=by rw [List.getD_eq_getElem?_getD,List.getElem?_eq_getElem (by rw [lm];exact hk),e2];rfl
 rw [By hk] at e2
 rw [←e2]
 exact QA (h3 k (by rw [←h2];exact hk)).1
theorem Oc {j:J} {x:X} (h:sH j x=true):Kc ⟨x,x⟩ j=true:=by
 unfold sH at h
 simp only [Bool.and_eq_true] at h
 unfold Kc okJ
 rw [show (decide (cmpx x x≤0))=true by rw [nV];rfl]
 have h1:=h.1.1.1
 unfold okJ at h1
 show (x.ok&&x.ok&&true&&_&&_&&_)=true
 rw [h.1.1.2,h1,h.1.2,h.2];rfl
theorem O2 {s:Nat} {m:List (List J)} {p:List (List X)} (hm:GoodM s m) (h:PtsM s m p) (h1:1≤s) (h4:s≤4):Mm (p.map poi) m=true:=by
 unfold Mm
 rw [h.good.right h1 h4,hm.right h1 h4,cond_true,cond_true]
 refine rG [] [] (by rw [List.length_map,h.1,hm.1]) fun i hi=>?_
 rw [List.length_map] at hi
 have hi':i<s:=by rw [←h.1];exact hi
 obtain ⟨g1,g2,g3⟩:=h.good.row hi'
 obtain ⟨k1,k2,k3⟩:=hm.row hi'
 unfold Ol
 rw [lr g3 (by omega) (by omega),lr k3 (by omega) (by omega)]
 refine rG zJ zJ (by rw [g2,k2]) fun k hk=>?_
 rw [g2] at hk
 have h2:=h.2 i hi'
 rw [Ih hi,By (by rw [h2.1];exact hk)]
 exact Oc (h2.2 k hk).2
theorem GD {xs:List Nat} {s k:Nat} {m:List (List J)} (hm:GoodM s m) (hk:k+s*s≤900):PtsM s m (vW xs m k).1:=by
 refine ⟨by rw [xE];exact hm.1,fun i hi=>?_⟩
 have hi':i<m.length:=by rw [hm.1];exact hi
 obtain ⟨h1,h2,h3⟩:=hm.row hi
 rw [GF (s:=s) (fun r hr=>(hm.2 r hr).1) hi']
 refine ⟨by rw [xD];exact h2,fun q hq=>?_⟩
 have h4:s*(i+1)≤s*s:=Nat.mul_le_mul_left _ hi
 have h5:s*(i+1)=s*i+s:=Nat.mul_succ _ _
 rw [GB (by rw [h2];exact hq)]
 have:=xC (xs:=xs) (j:=(m.getD i []).getD q zJ) (k:=k+s*i+q) (h3 _ (List.mem_of_getElem? (aB zJ (by rw [h2];exact hq)))) (by omega)
 exact this.1
theorem uC {xs:List Nat} {m k:Nat} (h:k+3*m*m≤800):GoodM m (matD xs m k).1:=⟨(oa h).1,fun r hr=>⟨((oa h).2 r hr).1,fun j hj=>(((oa h).2 r hr).2 j hj).1⟩⟩
theorem Tv {q:Nat} (h:q≤3):3*(q+1)*(q+1)≤48∧(q+1)*(q+1)≤16:=by
 have:q=0∨q=1∨q=2∨q=3:=by omega
 rcases this with rfl |rfl |rfl |rfl<;>exact ⟨by decide,by decide⟩
theorem Jr (l:List J):∀ q,List.take (q*6) (bC l)=bC (l.take q):=by
 induction l with
 |nil=>intro q;simp [g9]
 |cons a l ih=>
  intro q
  cases q with
  |zero=>rfl
  |succ q=>
   have e:(q+1)*6=q*6+1+1+1+1+1+1:=by omega
   rw [List.take_succ_cons,cU,cU,e]
   simp only [List.take_succ_cons,ih q]
end
section
open Go.RowKit Nx
set_option linter.unusedVariables false
set_option linter.unusedSimpArgs false
attribute [local irreducible] ar
theorem CJ {α:Type} {F:Nat→α×Int} {P:α→Prop}:∀ (n:Nat),(∀ j,j<n→P (F j).1)→∀ x∈(eachN F n).1,P x:=by
 intro n
 induction n with
 |zero=>intro _ x hx;cases hx
 |succ n ih=>
  intro h x hx
  have ih:=ih (fun j hj=>h j (by omega))
  cases he:(eachN F n).2 !=0 with
  |true=>rw [ig he (show n≤n+1 by omega)] at hx;exact ih x hx
  |false=>
   have h0:(eachN F n).2=0:=by simpa using he
   cases hf:(F n).2 !=0 with
   |true=>rw [jg h0 hf] at hx;cases hx
   |false=>
    rw [bh h0 (by simpa using hf)] at hx
    rcases List.mem_append.1 hx with hx |hx
    ·exact ih x hx
    ·rw [List.mem_singleton.1 hx];exact h n (by omega)
theorem lY {α:Type} {F:Nat→α×Int}:∀ (n:Nat),(eachN F n).1.length≤n:=by
 intro n
 induction n with
 |zero=>exact Nat.le_refl 0
 |succ n ih=>
  cases he:(eachN F n).2 !=0 with
  |true=>rw [ig he (show n≤n+1 by omega)];omega
  |false=>
   have h0:(eachN F n).2=0:=by simpa using he
   cases hf:(F n).2 !=0 with
   |true=>rw [jg h0 hf];exact Nat.zero_le _
   |false=>rw [bh h0 (by simpa using hf),List.length_append];exact Nat.succ_le_succ ih
theorem eO {α:Type} {b:Bool} {r:List α×Int} {P:List α→Prop} (h0:P []) (h:b=true→P r.1):P (fL b r).1:=by
 cases hb:b with
 |true=>exact h hb
 |false=>exact h0
def wU {α:Type} (m:List (List α)):Prop:=m.length≤4∧∀ r∈m,r.length≤4
theorem qv {α:Type}:wU ([]:List (List α)):=⟨Nat.zero_le _,fun r h=>by cases h⟩
theorem pq {α:Type} {F:Nat→List α×Int} {n:Nat} (hn:n≤4) (h:∀ j,j<n→(F j).1.length≤4):wU (eachN F n).1:=⟨Nat.le_trans (lY n) hn,CJ n h⟩
theorem Kn (k:Int) (l m:List J) (z:Int):(Ek k l m z).1.length≤4:=by
 unfold Ek
 exact eO (P:=fun l=>l.length≤4) (Nat.zero_le _) fun h=>eO (P:=fun l=>l.length≤4) (Nat.zero_le _) fun _=>eO (P:=fun l=>l.length≤4) (Nat.zero_le _) fun _=>eO (P:=fun l=>l.length≤4) (Nat.zero_le _) fun _=>Nat.le_trans (lY _) (c9 h).2
theorem Ko (x:J) (l:List J) (z:Int):(En x l z).1.length≤4:=by
 unfold En
 exact eO (P:=fun l=>l.length≤4) (Nat.zero_le _) fun h=>eO (P:=fun l=>l.length≤4) (Nat.zero_le _) fun _=>eO (P:=fun l=>l.length≤4) (Nat.zero_le _) fun _=>Nat.le_trans (lY _) (c9 h).2
theorem Km (l:List J) (z:Int):(Ht l z).1.length≤4:=by
 unfold Ht
 exact eO (P:=fun l=>l.length≤4) (Nat.zero_le _) fun h=>eO (P:=fun l=>l.length≤4) (Nat.zero_le _) fun _=>Nat.le_trans (lY _) (c9 h).2
theorem Gg (k:Int) (a b:List (List J)) (z:Int):wU (OX k a b z).1:=by
 unfold OX
 exact eO qv fun h=>eO qv fun _=>eO qv fun _=>eO qv fun _=>pq (aP h).1.2 fun j _=>Kn _ _ _ _
theorem Ge (a b:List (List J)) (z:Int):wU (OL a b z).1:=by
 unfold OL
 exact eO qv fun h=>eO qv fun _=>eO qv fun _=>eO qv fun _=>pq (aP h).1.2 fun j _=>Nat.le_trans (lY _) (aP h).1.2
theorem Gh (x:J) (m:List (List J)) (z:Int):wU (Pt x m z).1:=by
 unfold Pt
 exact eO qv fun h=>eO qv fun _=>eO qv fun _=>pq (aP h).1.2 fun j _=>Ko _ _ _
theorem Gd (m:List (List J)) (z:Int):wU (OI m z).1:=by
 unfold OI
 exact eO qv fun h=>eO qv fun _=>pq (aP h).1.2 fun j _=>Km _ _
theorem OC (m:List (List J)) (b:List J) (z:Int):(Pz m b z).1.length≤4:=by
 unfold Pz
 exact eO (P:=fun l=>l.length≤4) (Nat.zero_le _) fun h=>eO (P:=fun l=>l.length≤4) (Nat.zero_le _) fun _=>eO (P:=fun l=>l.length≤4) (Nat.zero_le _) fun _=>eO (P:=fun l=>l.length≤4) (Nat.zero_le _) fun _=>Nat.le_trans (lY _) (aP h).1.2
theorem Be {α:Type} {m:List (List α)} (h:wU m):m.length≤1000:=by have:=h.1;omega
theorem Bf {α:Type} {m:List (List α)} (h:wU m):∀ r∈m,r.length≤6:=fun r hr=>by have:=h.2 r hr;omega
theorem yk (l:List J):dT l l=true:=by
 unfold dT
 induction l with
 |nil=>rfl
 |cons a l ih=>unfold bZ;rw [Am,ih];rfl
theorem yl (m:List (List J)):rr m m=true:=by
 unfold rr
 induction m with
 |nil=>rfl
 |cons a l ih=>unfold bZ;rw [yk,ih];rfl
theorem K5 (l:List X):bZ iT l l=true:=by
 induction l with
 |nil=>rfl
 |cons a l ih=>unfold bZ;rw [mS,ih];rfl
theorem K4 (m:List (List X)):bZ (bZ iT) m m=true:=by
 induction m with
 |nil=>rfl
 |cons a l ih=>unfold bZ;rw [K5,ih];rfl
set_option maxRecDepth 100000 in
set_option maxHeartbeats 4000000 in
theorem zG (a b:List (List J)) (x:J) (v:List J) (p:Int) (ha:BZ a) (hb:BZ b) (hx:GJ x) (hv:∀ j∈v,GJ j):Ct Tryz.prog 14 [bw a,bw b,jA x,bv v,iA p] (·=bA true):=by
 have eA:=Ho (k:=0) a b p fun x y=>lB x y p
 have eS:=Ho (k:=1) a b p fun x y=>wI x y p
 have eM:=KS ha hb p
 have eV:=KV ha hv p
 have eT:=KU hx ha p
 have eD:=KR ha p
 have eN:=Hn ha p
 have l6:=Nat.le_trans (OC a v p) (show 4≤6 by omega)
 refine ak (O:=ai (aF ET (aF E3 (aF EX (aF E5 (aF E7 (aF EV (aF EZ (aF yS (aF yQ (aF yU (aF yV (aF yP (aF yR (aF gu (aF kh (aF vf fI))))))))))))))))) (by kernel_rfl) ah (fun w=>aa (ab EU (ab E4 (ab EY (ab E6 (ab E8 (ab EW (ab E0 (ab Cb (ab B9 (ab Cc (ab Cd (ab B0 (ab Ca (ab r7 (ab oU (ab yT my)))))))))))))))) _ w) [] 3000 201 [.tmp 10] Tryz.func14 rfl Tryz.ntmps14 (by rw [Tryz.results14]) (by simp) rfl (fun hsm=>?_)
 simp (maxSteps:=10000000) only [run,seval,ji,X.L,J.L,vL,X.eta,J.eta,Q.eta,List.cons_append,List.nil_append,tZ,cu,cw,aZ,a5,bN,Aa,kN,tX,m6,bR,eG,dH,eF,eE,iV,iU,jx,jy,il,I3,qE,okO,v8,I8,ju,jw,iW,inL,bH,bx,dom,kV,tQ,Bb,evd,okeys,look,lZ,lC,jG,j7,lenOf,ri,vE,MN,xG,MT,rc,LO,MP,Em,MS,MQ,yN,MR,I9,ru,yw,rv,yx,cZ,Dy,keysOf,ai,mn,po,rj,olA,olL,Ej,Bt,qu,Cp,aF,↓cond_true,↓cond_false,↓bu,eJ,one,fK,k7,e7,aT,nG,rE,outPs,mX,outL,fD,k8,oI,rI,jf,decide_true,decide_false,reduceCtorEq,List.all_cons,List.all_nil,Bool.and_true,Bool.and_self,true_and,and_true,and_self,List.length_cons,List.length_nil,List.drop_succ_cons,List.drop_zero,List.take_succ_cons,List.take_zero,List.getElem?_cons_zero,List.getElem?_cons_succ,List.map_cons,List.map_nil,false_implies,true_implies,Option.bind_some,List.getElem?_toArray,Bool.false_eq_true,List.append_nil,List.flatMap_cons,List.flatMap_nil,true_or,or_true,forall_const,List.reverse_cons,List.reverse_nil,Option.isSome_some,Option.any_some,Nat.lt_irrefl,not_true_eq_false,Bool.not_true,Bool.not_false,imp_self,implies_true,Bool.not_eq_true',Bool.not_eq_false',Bool.true_eq_false,dQ,cntF,nmL,o8,nmA,tn,tR,uc,bB,pH,cT,bO,rp,Int.toNat_zero,decide_eq_true_eq,eH,eU,rf,rh,BEq.rfl,beq_self_eq_true,Int.natCast_zero,ge_iff_le,gt_iff_lt,Int.le_refl,Nat.zero_mul,Nat.one_mul,Nat.zero_add,Nat.zero_lt_succ,Nat.lt_add_one,Nat.le_refl,List.append_eq,dM,cV,dS,cW,↓fc,↓fd,↓gG,↓gH,↓gT,↓gU,↓dR,↓eu,↓gW,↓gX,↓gK,↓gL,↓gR,↓gS,↓gw,↓gD,↓gO,↓gQ,bne_self_eq_false,wr2,Eo,Ep,Er,Es,Et,Eu,gN,ur,I6,gI,CW,mW,gJ,l5,PK,sG,I4,gB,gP,zu,Eh,Ei,ry,g9,cU,iP,dz,jM,Lc.up,AA,BO,pY,Int.toNat_natCast,List.replicate_succ,List.replicate_zero,List.flatten_cons,List.flatten_nil,Int.ofNat_lt,Int.cast_ofNat_Int,Int.ofNat_eq_natCast,List.isEmpty_nil,List.isEmpty_cons,and_false,false_and,List.cons_ne_nil,Nat.add_zero,ite_true,ite_false,if_true,if_false,Nat.le_zero_eq,eq_self,Bool.and_false,Bool.false_and,Bool.true_and,nN,ou,fJ,gA,gE,jd,yK,ki,oy,jH,jI,j8,j9,ite_self,fN,mo,cm,jh,lF,bT,lj,kQ,ET,E3,EX,E5,E7,EV,EZ,yS,yQ,yU,yV,yP,yR,gu,kh,vf,fI,eA,eS,eM,eV,eT,eD,eN,yl,yk,K4,mS,mL,qL,bP,cp]
 repeat' with_reducible first |apply And.intro |apply condP<;>intro _
 all_goals first |(show ar _ _=true;kernel_rfl)|assumption |(exact Be (Gg _ _ _ _))|(exact Bf (Gg _ _ _ _))|(exact Be (Ge _ _ _))|(exact Bf (Ge _ _ _))|(exact Be (Gh _ _ _))|(exact Bf (Gh _ _ _))|(exact Be (Gd _ _))|(exact Bf (Gd _ _))|(exact .inl rfl)|(exact .inr (.inl rfl))|rfl |(simp only [go_sem, *]<;>rfl)
noncomputable def jz:b9:=one 14 (gA kU fun a=>gA kU fun b=>gA ki fun x=>gA jC fun v=>gA jd fun p=>gE (BZ a∧BZ b∧GJ x∧∀ j∈v,GJ j,bA true))
theorem yW:TbOK Tryz.prog jz:=bI (aX Tryz.func14 (by kernel_rfl) rfl) (.a bi fun a=>.a bi fun b=>.a nU fun x=>.a dB fun v=>.a bK fun p=>.e fun h=>zG a b x v p h.1 h.2.1 h.2.2.1 h.2.2.2)
end
end Go.Proofs.YtpacpmmdjmnamaaGreatDoor
