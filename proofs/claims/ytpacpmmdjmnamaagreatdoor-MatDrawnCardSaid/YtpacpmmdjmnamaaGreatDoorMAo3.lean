/- Package mat: sums, differences, multiples, middles, products, vectors. -/
import Derived.Test.YtpacpmmdjmnamaaGreatDoorMAo2
namespace Go.Proofs.YtpacpmmdjmnamaaGreatDoor
set_option linter.unusedSimpArgs false
set_option linter.unusedVariables false
set_option maxHeartbeats 4000000
set_option maxRecDepth 100000
open Go.RowKit Nx
attribute [local irreducible] ar
section
attribute [local go_sem] eZ dU hd1 pick ax bP cp nN ou fJ gA gE jd yK ki oy jH jI j8 j9 ite_self fN mo cm jh lF bT
def bS (m:List (List J)) (i k:Nat):J:=(m.getD i []).getD k zJ
def Sq (n:Nat) (m:List (List J)):Prop:=m.length=n∧∀ r∈m,r.length=n
theorem Sq.row {n i:Nat} {m:List (List J)} (h:Sq n m) (hi:i<n):(m.getD i []).length=n:=by
 have:=aB [] (l:=m) (j:=i) (by rw [h.1];exact hi)
 exact h.2 _ (List.mem_of_getElem? this)
theorem tt {n a b:Int} (h:jR n a b=true):a≤n∧n≤b:=by
 unfold jR at h
 cases h1:decide (a≤n) with
 |false=>rw [h1] at h;cases h
 |true=>rw [h1,cond_true] at h;exact ⟨of_decide_eq_true h1,of_decide_eq_true h⟩
theorem aP {m:List (List J)} (h:rightM m=true):(1≤m.length∧m.length≤4)∧Sq m.length m:=by
 unfold rightM at h
 cases h1:jR m.length 1 4 with
 |false=>rw [h1] at h;cases h
 |true=>
  rw [h1,cond_true] at h
  have h2:=tt h1
  refine ⟨⟨by omega,by omega⟩,rfl,fun r hr=>?_⟩
  have h3:=List.all_eq_true.1 h r hr
  unfold mZ at h3
  cases h4:((r.length:Int)!=(m.length:Int)) with
  |true=>rw [h4] at h3;cases h3
  |false=>
   have:(r.length:Int)=(m.length:Int):=by simpa using h4
   omega
theorem gF {n:Nat} {z:Int} (h:0≤z∧z<(n:Int)):∃ i:Nat,z=(i:Int)∧i<n:=⟨z.toNat,by omega,by omega⟩
abbrev Ot (r:J×J):AV:=.tup [(true,r.1.L),(true,r.2.L)]
theorem Nz {w:World} {S:Nat→Prop} {gs:List Nat} {a b:List (List J)} {p:Int} (hab:a.length=b.length) (hL:Lent S w gs [[.sl false 1 a.length (a.map rC)],[.sl false 1 b.length (b.map rC)],[.lit (.int .i64 p)]]):Fv Tryz.prog w 85 (fu gs) (gI fun z=>(0≤z∧z<(a.length:Int),bP (cR (fun x y=>cH x y p) (a.getD z.toNat []) (b.getD z.toNat [])))):=by
 refine ep hL (aX Tryz.func85 (by kernel_rfl) rfl) (fun args e h=>by obtain ⟨z,rfl,rfl⟩:=d6 h;rfl) (fun args e h hp w' us hb ht' hL' hA=>?_)
 obtain ⟨z,rfl,rfl⟩:=d6 h
 obtain ⟨i,rfl,hi⟩:=gF hp
 have g0:(0≤(i:Int))=True:=eq_true (by omega)
 have g1:(i<a.length)=True:=eq_true hi
 have g2:(i<b.length)=True:=eq_true (by omega)
 have e1:=eQ (aB [] hi)
 have e2:=eQ (aB [] (show i<b.length by omega))
 refine (cL (args:=[iA (i:Int),.s (.own 1000 0),.s (.own 1001 0),.s (.own 1002 0)]) (O:=ai y9) (Pst:=(·=bP (cR (fun x y=>cH x y p) (a.getD i []) (b.getD i [])))) (by kernel_rfl) ah (aa Cg _ w') [] 400 19 [.tmp 5,.tmp 6] Tryz.func85 rfl Tryz.ntmps85 (by rw [Tryz.results85]) (by simp) ht' hL' hA ?_).mono ?_
 case refine_2=>rintro e w'' ⟨u,r,he,rfl,_,hR,hb2⟩;exact ⟨u,he,hR,hb2⟩
 simp (maxSteps:=10000000) only [go_sem,seval,reduceCtorEq,y9,g0,g1,g2,e1,e2,eo,eY,cr,eI,dt]
 repeat' with_reducible first |apply And.intro |apply condP<;>intro _
 all_goals first |(show ar _ _=true;kernel_rfl)|assumption |rfl |(simp only [go_sem, *]<;>rfl)
theorem ND {w:World} {S:Nat→Prop} {gs:List Nat} {a b:List (List J)} {p:Int} (hab:a.length=b.length) (hL:Lent S w gs [[.sl false 1 a.length (a.map rC)],[.sl false 1 b.length (b.map rC)],[.lit (.int .i64 p)]]):Fv Tryz.prog w 88 (fu gs) (gI fun z=>(0≤z∧z<(a.length:Int),bP (cR (fun x y=>lM x y p) (a.getD z.toNat []) (b.getD z.toNat [])))):=by
 refine ep hL (aX Tryz.func88 (by kernel_rfl) rfl) (fun args e h=>by obtain ⟨z,rfl,rfl⟩:=d6 h;rfl) (fun args e h hp w' us hb ht' hL' hA=>?_)
 obtain ⟨z,rfl,rfl⟩:=d6 h
 obtain ⟨i,rfl,hi⟩:=gF hp
 have g0:(0≤(i:Int))=True:=eq_true (by omega)
 have g1:(i<a.length)=True:=eq_true hi
 have g2:(i<b.length)=True:=eq_true (by omega)
 have e1:=eQ (aB [] hi)
 have e2:=eQ (aB [] (show i<b.length by omega))
 refine (cL (args:=[iA (i:Int),.s (.own 1000 0),.s (.own 1001 0),.s (.own 1002 0)]) (O:=ai zb) (Pst:=(·=bP (cR (fun x y=>lM x y p) (a.getD i []) (b.getD i [])))) (by kernel_rfl) ah (aa Ci _ w') [] 400 19 [.tmp 5,.tmp 6] Tryz.func88 rfl Tryz.ntmps88 (by rw [Tryz.results88]) (by simp) ht' hL' hA ?_).mono ?_
 case refine_2=>rintro e w'' ⟨u,r,he,rfl,_,hR,hb2⟩;exact ⟨u,he,hR,hb2⟩
 simp (maxSteps:=10000000) only [go_sem,seval,reduceCtorEq,zb,g0,g1,g2,e1,e2,eo,eY,cr,eI,dt]
 repeat' with_reducible first |apply And.intro |apply condP<;>intro _
 all_goals first |(show ar _ _=true;kernel_rfl)|assumption |rfl |(simp only [go_sem, *]<;>rfl)
theorem NE {w:World} {S:Nat→Prop} {gs:List Nat} {x:J} {m:List (List J)} {p:Int} (hL:Lent S w gs [x.L,[.sl false 1 m.length (m.map rC)],[.lit (.int .i64 p)]]):Fv Tryz.prog w 91 (fu gs) (gI fun z=>(0≤z∧z<(m.length:Int),bP (fU (fun y=>cB x y p) (m.getD z.toNat [])))):=by
 refine ep hL (aX Tryz.func91 (by kernel_rfl) rfl) (fun args e h=>by obtain ⟨z,rfl,rfl⟩:=d6 h;rfl) (fun args e h hp w' us hb ht' hL' hA=>?_)
 obtain ⟨z,rfl,rfl⟩:=d6 h
 obtain ⟨i,rfl,hi⟩:=gF hp
 have g0:(0≤(i:Int))=True:=eq_true (by omega)
 have g1:(i<m.length)=True:=eq_true hi
 have g2:=g1
 have e1:=eQ (aB [] hi)
 have e2:=e1
 refine (cL (args:=[iA (i:Int),.s (.own 1000 0),.s (.own 1001 0),.s (.own 1002 0)]) (O:=ai zc) (Pst:=(·=bP (fU (fun y=>cB x y p) (m.getD i [])))) (by kernel_rfl) ah (aa Cj _ w') [] 400 16 [.tmp 5,.tmp 6] Tryz.func91 rfl Tryz.ntmps91 (by rw [Tryz.results91]) (by simp) ht' hL' hA ?_).mono ?_
 case refine_2=>rintro e w'' ⟨u,r,he,rfl,_,hR,hb2⟩;exact ⟨u,he,hR,hb2⟩
 simp (maxSteps:=10000000) only [go_sem,seval,reduceCtorEq,zc,g0,g1,g2,e1,e2,eo,eY,cr,eI,dt]
 repeat' with_reducible first |apply And.intro |apply condP<;>intro _
 all_goals first |(show ar _ _=true;kernel_rfl)|assumption |rfl |(simp only [go_sem, *]<;>rfl)
theorem NA {w:World} {S:Nat→Prop} {gs:List Nat} {m:List (List J)} {p:Int} (hL:Lent S w gs [[.sl false 1 m.length (m.map rC)],[.lit (.int .i64 p)]]):Fv Tryz.prog w 95 (fu gs) (gI fun z=>(0≤z∧z<(m.length:Int),cp (fU (fun y=>iZ y p) (m.getD z.toNat [])))):=by
 refine ep hL (aX Tryz.func95 (by kernel_rfl) rfl) (fun args e h=>by obtain ⟨z,rfl,rfl⟩:=d6 h;rfl) (fun args e h hp w' us hb ht' hL' hA=>?_)
 obtain ⟨z,rfl,rfl⟩:=d6 h
 obtain ⟨i,rfl,hi⟩:=gF hp
 have g0:(0≤(i:Int))=True:=eq_true (by omega)
 have g1:(i<m.length)=True:=eq_true hi
 have g2:=g1
 have e1:=eQ (aB [] hi)
 have e2:=e1
 refine (cL (args:=[iA (i:Int),.s (.own 1000 0),.s (.own 1001 0)]) (O:=ai za) (Pst:=(·=cp (fU (fun y=>iZ y p) (m.getD i [])))) (by kernel_rfl) ah (aa Ch _ w') [] 400 14 [.tmp 4,.tmp 5] Tryz.func95 rfl Tryz.ntmps95 (by rw [Tryz.results95]) (by simp) ht' hL' hA ?_).mono ?_
 case refine_2=>rintro e w'' ⟨u,r,he,rfl,_,hR,hb2⟩;exact ⟨u,he,hR,hb2⟩
 simp (maxSteps:=10000000) only [go_sem,seval,reduceCtorEq,za,g0,g1,g2,e1,e2,eo,eY,cr,eI,dt]
 repeat' with_reducible first |apply And.intro |apply condP<;>intro _
 all_goals first |(show ar _ _=true;kernel_rfl)|assumption |rfl |(simp only [go_sem, *]<;>rfl)
theorem NB {w:World} {S:Nat→Prop} {gs:List Nat} {n:Nat} {G:Nat→J×J} {p:Int} {f:FuncId} {caps:List Value} (hf:Fv Tryz.prog w f caps (gI fun z=>(0≤z∧z<(n:Int),Ot (G z.toNat)))) (hL:Lent S w gs [[.lit (.func (.func f) #[] caps.toArray)],[.lit (.int .i64 p)]]):Fv Tryz.prog w 130 (fu gs) (gI fun z=>(0≤z∧z<(n:Int),iY (cB (G z.toNat).1 (G z.toNat).2 p))):=by
 refine ep hL (aX Tryz.func130 (by kernel_rfl) rfl) (fun args e h=>by obtain ⟨z,rfl,rfl⟩:=d6 h;rfl) (fun args e h hp w' us hb ht' hL' hA=>?_)
 obtain ⟨z,rfl,rfl⟩:=d6 h
 obtain ⟨i,rfl,hi⟩:=gF hp
 have g0:(0≤(i:Int))=True:=eq_true (by omega)
 have g1:((i:Int)<(n:Int))=True:=eq_true (by omega)
 refine (cL (args:=[iA (i:Int),.s (.own 1000 0),.s (.own 1001 0)]) (O:=bO (jM 1 f caps (gI fun z=>(0≤z∧z<(n:Int),Ot (G z.toNat)))) (ai nP)) (Pst:=(·=iY (cB (G i).1 (G i).2 p))) (by kernel_rfl) ah (J0 (fE (hf.mono hb)) (aa se _ w') (fun g args e h=>by unfold nP one at h;split at h;(case isFalse=>cases h);obtain ⟨j,j1,z,rfl,_⟩:=rQ h;exact ⟨_,_,rfl⟩)) [] 400 20 [.cell 4 32,.tmp 5] Tryz.func130 rfl Tryz.ntmps130 (by rw [Tryz.results130]) (by simp) ht' hL' hA ?_).mono ?_
 case refine_2=>rintro e w'' ⟨u,r,he,rfl,_,hR,hb2⟩;exact ⟨u,he,hR,hb2⟩
 simp (maxSteps:=10000000) only [go_sem,seval,reduceCtorEq,nP,g0,g1,eo,eY,cr,eI,dt]
 repeat' with_reducible first |apply And.intro |apply condP<;>intro _
 all_goals first |(show ar _ _=true;kernel_rfl)|assumption |rfl |(simp only [go_sem, *]<;>rfl)
theorem NC {w:World} {S:Nat→Prop} {gs:List Nat} {p:Int} (hL:Lent S w gs [[.lit (.int .i64 p)]]):Fv Tryz.prog w 133 (fu gs) (l5 fun a b=>(True,iY (cH a b p))):=by
 refine ep hL (aX Tryz.func133 (by kernel_rfl) rfl) (fun args e h=>by obtain ⟨j,j1,rfl,rfl⟩:=iL h;rfl) (fun args e h hp w' us hb ht' hL' hA=>?_)
 obtain ⟨j,j1,rfl,rfl⟩:=iL h
 refine (cL (args:=[jA j,jA j1,.s (.own 1000 0)]) (O:=ai pf) (Pst:=(·=iY (cH j j1 p))) (by kernel_rfl) ah (aa sc _ w') [] 400 13 [.cell 5 32,.tmp 6] Tryz.func133 rfl Tryz.ntmps133 (by rw [Tryz.results133]) (by simp) ht' hL' hA ?_).mono ?_
 case refine_2=>rintro e w'' ⟨u,r,he,rfl,_,hR,hb2⟩;exact ⟨u,he,hR,hb2⟩
 simp (maxSteps:=10000000) only [go_sem,seval,reduceCtorEq,pf,eo,eY,cr,eI,dt]
 repeat' with_reducible first |apply And.intro |apply condP<;>intro _
 all_goals first |(show ar _ _=true;kernel_rfl)|assumption |rfl |(simp only [go_sem, *]<;>rfl)
theorem ME {w:World} {f:FuncId} {caps:List Value} {n:Nat} {G:Nat→J×J} {p:Int} (ht:Tab w) (hf:Fv Tryz.prog w f caps (gI fun z=>(0≤z∧z<(n:Int),Ot (G z.toNat)))) (h2:n≤1000):Hc Tryz.prog w 72 [iA n,iA p,jL f caps] (iY (aC zJ (fun k=>cB (G k).1 (G k).2 p) (fun s x=>cH s x p) n)):=by
 refine fM (O:=bO (jh 132 1 (bT [[.lit (.func (.func f) #[] caps.toArray)],[.lit (.int .i64 p)]] 130 [[.lit (.int .i64 p)]] 133 [iA n] (iY (aC zJ (fun k=>cB (G k).1 (G k).2 p) (fun s x=>cH s x p) n)))) (ai eJ)) (by kernel_rfl) ah (Bk (Bj (aX Tryz.func132 (by kernel_rfl) rfl) (fun ls c ls2 c2 xs e he hp S w' gs gs2 hb ht' hL hL2=>by
  injection he with he;subst he
  obtain ⟨⟨rfl,rfl⟩,⟨rfl,rfl⟩,rfl⟩:=hp
  exact SV ht' (NB (hf.mono hb) hL) (NC hL2) h2)) (aa bk _ w) (fun _ _ _=>bf fun _=>rfl)) ht [] 400 16 [.cell 6 32,.tmp 7] Tryz.func72 rfl Tryz.ntmps72 (by rw [Tryz.results72]) (by simp) rfl (fun hsm=>?_)
 simp (maxSteps:=10000000) only [go_sem,seval,reduceCtorEq,eo,eY,cr,eI,dt]
 repeat' with_reducible first |apply And.intro |apply condP<;>intro _
 all_goals first |(show ar _ _=true;kernel_rfl)|assumption |rfl |(simp only [go_sem, *,jh,lF,bT]<;>rfl)
theorem JD {w:World} {S:Nat→Prop} {gs:List Nat} {a b:List (List J)} {n i j:Nat} (ha:Sq n a) (hb0:Sq n b) (hi:i<n) (hj:j<n) (hL:Lent S w gs [[.sl false 1 a.length (a.map rC)],[.lit (.int .i64 (i:Int))],[.sl false 1 b.length (b.map rC)],[.lit (.int .i64 (j:Int))]]):Fv Tryz.prog w 73 (fu gs) (gI fun z=>(0≤z∧z<(n:Int),Ot (bS a i z.toNat,bS b z.toNat j))):=by
 refine ep hL (aX Tryz.func73 (by kernel_rfl) rfl) (fun args e h=>by obtain ⟨z,rfl,rfl⟩:=d6 h;rfl) (fun args e h hp w' us hb ht' hL' hA=>?_)
 obtain ⟨z,rfl,rfl⟩:=d6 h
 obtain ⟨k,rfl,hk⟩:=gF hp
 have g0:(0≤(i:Int))=True:=eq_true (by omega)
 have g1:(0≤(j:Int))=True:=eq_true (by omega)
 have g2:(0≤(k:Int))=True:=eq_true (by omega)
 have g3:(i<a.length)=True:=eq_true (by rw [ha.1];exact hi)
 have g4:(k<b.length)=True:=eq_true (by rw [hb0.1];exact hk)
 have g5:(k<(a.getD i []).length)=True:=eq_true (by rw [ha.row hi];exact hk)
 have g6:(j<(b.getD k []).length)=True:=eq_true (by rw [hb0.row hk];exact hj)
 have e1:=eQ (aB [] (show i<a.length by rw [ha.1];exact hi))
 have e2:=eQ (aB [] (show k<b.length by rw [hb0.1];exact hk))
 have e3:List.take 6 (List.drop (k*6) (bC (a.getD i [])))=[.lit (.bool (bS a i k).lo.s),.lit (.int .i64 (bS a i k).lo.e),.ws (bS a i k).lo.xs,.lit (.bool (bS a i k).hi.s),.lit (.int .i64 (bS a i k).hi.e),.ws (bS a i k).hi.xs]:=eg (aB zJ (by rw [ha.row hi];exact hk))
 have e4:List.take 6 (List.drop (j*6) (bC (b.getD k [])))=[.lit (.bool (bS b k j).lo.s),.lit (.int .i64 (bS b k j).lo.e),.ws (bS b k j).lo.xs,.lit (.bool (bS b k j).hi.s),.lit (.int .i64 (bS b k j).hi.e),.ws (bS b k j).hi.xs]:=eg (aB zJ (by rw [hb0.row hk];exact hj))
 refine (cL (args:=[iA (k:Int),.s (.own 1000 0),.s (.own 1001 0),.s (.own 1002 0),.s (.own 1003 0)]) (O:=ai eJ) (Pst:=(·=Ot (bS a i k,bS b k j))) (by kernel_rfl) ah (aa bk _ w') [] 400 22 [.cell 6 32,.cell 7 32] Tryz.func73 rfl Tryz.ntmps73 (by rw [Tryz.results73]) (by simp) ht' hL' hA ?_).mono ?_
 case refine_2=>rintro e w'' ⟨u,r,he,rfl,_,hR,hb2⟩;exact ⟨u,he,hR,hb2⟩
 simp (maxSteps:=10000000) only [go_sem,seval,reduceCtorEq,g0,g1,g2,g3,g4,g5,g6,e1,e2,e3,e4,eo,eY,cr,eI,dt]
 repeat' with_reducible first |apply And.intro |apply condP<;>intro _
 all_goals first |(show ar _ _=true;kernel_rfl)|assumption |rfl |(simp only [go_sem, *]<;>rfl)
theorem JC {w:World} {S:Nat→Prop} {gs:List Nat} {a b:List (List J)} {n i:Nat} {p:Int} (ha:Sq n a) (hb0:Sq n b) (hi:i<n) (hn:n≤1000) (hL:Lent S w gs [[.lit (.int .i64 (n:Int))],[.lit (.int .i64 p)],[.sl false 1 a.length (a.map rC)],[.lit (.int .i64 (i:Int))],[.sl false 1 b.length (b.map rC)]]):Fv Tryz.prog w 71 (fu gs) (gI fun z=>(0≤z∧z<(n:Int),iY (aC zJ (fun k=>cB (bS a i k) (bS b k z.toNat) p) (fun s x=>cH s x p) n))):=by
 refine ep hL (aX Tryz.func71 (by kernel_rfl) rfl) (fun args e h=>by obtain ⟨z,rfl,rfl⟩:=d6 h;rfl) (fun args e h hp w' us hb ht' hL' hA=>?_)
 obtain ⟨z,rfl,rfl⟩:=d6 h
 obtain ⟨j,rfl,hj⟩:=gF hp
 refine (cL (args:=[iA (j:Int),.s (.own 1000 0),.s (.own 1001 0),.s (.own 1002 0),.s (.own 1003 0),.s (.own 1004 0)]) (O:=bO (fN 72 2 (cm [[.sl false 1 a.length (a.map rC)],[.lit (.int .i64 (i:Int))],[.sl false 1 b.length (b.map rC)],[.lit (.int .i64 (j:Int))]] 73 [iA n,iA p] (iY (aC zJ (fun k=>cB (bS a i k) (bS b k j) p) (fun s x=>cH s x p) n)))) (ai eJ)) (Pst:=(·=iY (aC zJ (fun k=>cB (bS a i k) (bS b k j) p) (fun s x=>cH s x p) n))) (by kernel_rfl) ah (dD (dC (aX Tryz.func72 (by kernel_rfl) rfl) (fun ls c xs e he hp S2 w2 gs2 hb2 ht2 hL2=>by
  injection he with he;subst he
  obtain ⟨rfl,rfl,rfl⟩:=hp
  exact ME (G:=fun k=>(bS a i k,bS b k j)) ht2 (JD ha hb0 hi hj hL2) (by omega))) (aa bk _ w') (fun _ _ _=>bf fun _=>rfl)) [] 400 15 [.cell 7 32,.tmp 8] Tryz.func71 rfl Tryz.ntmps71 (by rw [Tryz.results71]) (by simp) ht' hL' hA ?_).mono ?_
 case refine_2=>rintro e w'' ⟨u,r,he,rfl,_,hR,hb2⟩;exact ⟨u,he,hR,hb2⟩
 simp (maxSteps:=10000000) only [go_sem,seval,reduceCtorEq,eo,eY,cr,eI,dt]
 repeat' with_reducible first |apply And.intro |apply condP<;>intro _
 all_goals first |(show ar _ _=true;kernel_rfl)|assumption |rfl |(simp only [go_sem, *,fN,mo,cm]<;>rfl)
theorem JB {w:World} {S:Nat→Prop} {gs:List Nat} {a b:List (List J)} {n:Nat} {p:Int} (ha:Sq n a) (hb0:Sq n b) (h1:1≤n) (hn:n≤1000) (hL:Lent S w gs [[.lit (.int .i64 (n:Int))],[.lit (.int .i64 p)],[.sl false 1 a.length (a.map rC)],[.sl false 1 b.length (b.map rC)]]):Fv Tryz.prog w 69 (fu gs) (gI fun z=>(0≤z∧z<(n:Int),bP (eachN (fun j=>aC zJ (fun k=>cB (bS a z.toNat k) (bS b k j) p) (fun s x=>cH s x p) n) n))):=by
 refine ep hL (aX Tryz.func69 (by kernel_rfl) rfl) (fun args e h=>by obtain ⟨z,rfl,rfl⟩:=d6 h;rfl) (fun args e h hp w' us hb ht' hL' hA=>?_)
 obtain ⟨z,rfl,rfl⟩:=d6 h
 obtain ⟨i,rfl,hi⟩:=gF hp
 refine (cL (args:=[iA (i:Int),.s (.own 1000 0),.s (.own 1001 0),.s (.own 1002 0),.s (.own 1003 0)]) (O:=bO (fN 70 1 (cm [[.lit (.int .i64 (n:Int))],[.lit (.int .i64 p)],[.sl false 1 a.length (a.map rC)],[.lit (.int .i64 (i:Int))],[.sl false 1 b.length (b.map rC)]] 71 [iA n] (bP (eachN (fun j=>aC zJ (fun k=>cB (bS a i k) (bS b k j) p) (fun s x=>cH s x p) n) n)))) (ai eJ)) (Pst:=(·=bP (eachN (fun j=>aC zJ (fun k=>cB (bS a i k) (bS b k j) p) (fun s x=>cH s x p) n) n))) (by kernel_rfl) ah (dD (dC (aX Tryz.func70 (by kernel_rfl) rfl) (fun ls c xs e he hp S2 w2 gs2 hb2 ht2 hL2=>by
  injection he with he;subst he
  obtain ⟨rfl,rfl,rfl⟩:=hp
  exact Mk ht2 (JC ha hb0 hi hn hL2) h1 hn)) (aa bk _ w') (fun _ _ _=>bf fun _=>rfl)) [] 400 13 [.tmp 6,.tmp 7] Tryz.func69 rfl Tryz.ntmps69 (by rw [Tryz.results69]) (by simp) ht' hL' hA ?_).mono ?_
 case refine_2=>rintro e w'' ⟨u,r,he,rfl,_,hR,hb2⟩;exact ⟨u,he,hR,hb2⟩
 simp (maxSteps:=10000000) only [go_sem,seval,reduceCtorEq,eo,eY,cr,eI,dt]
 repeat' with_reducible first |apply And.intro |apply condP<;>intro _
 all_goals first |(show ar _ _=true;kernel_rfl)|assumption |rfl |(simp only [go_sem, *,fN,mo,cm]<;>rfl)
theorem JH {w:World} {S:Nat→Prop} {gs:List Nat} {m:List (List J)} {b:List J} {n i:Nat} (ha:Sq n m) (hb0:b.length=n) (hi:i<n) (hL:Lent S w gs [[.sl false 1 m.length (m.map rC)],[.lit (.int .i64 (i:Int))],[.sl false 6 b.length (bC b)]]):Fv Tryz.prog w 84 (fu gs) (gI fun z=>(0≤z∧z<(n:Int),Ot (bS m i z.toNat,b.getD z.toNat zJ))):=by
 refine ep hL (aX Tryz.func84 (by kernel_rfl) rfl) (fun args e h=>by obtain ⟨z,rfl,rfl⟩:=d6 h;rfl) (fun args e h hp w' us hb ht' hL' hA=>?_)
 obtain ⟨z,rfl,rfl⟩:=d6 h
 obtain ⟨k,rfl,hk⟩:=gF hp
 have g0:(0≤(i:Int))=True:=eq_true (by omega)
 have g2:(0≤(k:Int))=True:=eq_true (by omega)
 have g3:(i<m.length)=True:=eq_true (by rw [ha.1];exact hi)
 have g4:(k<b.length)=True:=eq_true (by rw [hb0];exact hk)
 have g5:(k<(m.getD i []).length)=True:=eq_true (by rw [ha.row hi];exact hk)
 have e1:=eQ (aB [] (show i<m.length by rw [ha.1];exact hi))
 have e3:List.take 6 (List.drop (k*6) (bC (m.getD i [])))=[.lit (.bool (bS m i k).lo.s),.lit (.int .i64 (bS m i k).lo.e),.ws (bS m i k).lo.xs,.lit (.bool (bS m i k).hi.s),.lit (.int .i64 (bS m i k).hi.e),.ws (bS m i k).hi.xs]:=eg (aB zJ (by rw [ha.row hi];exact hk))
 have e4:=eg (aB zJ (show k<b.length by rw [hb0];exact hk))
 refine (cL (args:=[iA (k:Int),.s (.own 1000 0),.s (.own 1001 0),.s (.own 1002 0)]) (O:=ai eJ) (Pst:=(·=Ot (bS m i k,b.getD k zJ))) (by kernel_rfl) ah (aa bk _ w') [] 400 18 [.cell 5 32,.cell 6 32] Tryz.func84 rfl Tryz.ntmps84 (by rw [Tryz.results84]) (by simp) ht' hL' hA ?_).mono ?_
 case refine_2=>rintro e w'' ⟨u,r,he,rfl,_,hR,hb2⟩;exact ⟨u,he,hR,hb2⟩
 simp (maxSteps:=10000000) only [go_sem,seval,reduceCtorEq,g0,g2,g3,g4,g5,e1,e3,e4,eo,eY,cr,eI,dt]
 repeat' with_reducible first |apply And.intro |apply condP<;>intro _
 all_goals first |(show ar _ _=true;kernel_rfl)|assumption |rfl |(simp only [go_sem, *]<;>rfl)
theorem JG {w:World} {S:Nat→Prop} {gs:List Nat} {m:List (List J)} {b:List J} {n:Nat} {p:Int} (ha:Sq n m) (hb0:b.length=n) (hn:n≤1000) (hL:Lent S w gs [[.lit (.int .i64 (n:Int))],[.lit (.int .i64 p)],[.sl false 1 m.length (m.map rC)],[.sl false 6 b.length (bC b)]]):Fv Tryz.prog w 83 (fu gs) (gI fun z=>(0≤z∧z<(n:Int),iY (aC zJ (fun k=>cB (bS m z.toNat k) (b.getD k zJ) p) (fun s x=>cH s x p) n))):=by
 refine ep hL (aX Tryz.func83 (by kernel_rfl) rfl) (fun args e h=>by obtain ⟨z,rfl,rfl⟩:=d6 h;rfl) (fun args e h hp w' us hb ht' hL' hA=>?_)
 obtain ⟨z,rfl,rfl⟩:=d6 h
 obtain ⟨i,rfl,hi⟩:=gF hp
 refine (cL (args:=[iA (i:Int),.s (.own 1000 0),.s (.own 1001 0),.s (.own 1002 0),.s (.own 1003 0)]) (O:=bO (fN 72 2 (cm [[.sl false 1 m.length (m.map rC)],[.lit (.int .i64 (i:Int))],[.sl false 6 b.length (bC b)]] 84 [iA n,iA p] (iY (aC zJ (fun k=>cB (bS m i k) (b.getD k zJ) p) (fun s x=>cH s x p) n)))) (ai eJ)) (Pst:=(·=iY (aC zJ (fun k=>cB (bS m i k) (b.getD k zJ) p) (fun s x=>cH s x p) n))) (by kernel_rfl) ah (dD (dC (aX Tryz.func72 (by kernel_rfl) rfl) (fun ls c xs e he hp S2 w2 gs2 hb2 ht2 hL2=>by
  injection he with he;subst he
  obtain ⟨rfl,rfl,rfl⟩:=hp
  exact ME (G:=fun k=>(bS m i k,b.getD k zJ)) ht2 (JH ha hb0 hi hL2) (by omega))) (aa bk _ w') (fun _ _ _=>bf fun _=>rfl)) [] 400 14 [.cell 6 32,.tmp 7] Tryz.func83 rfl Tryz.ntmps83 (by rw [Tryz.results83]) (by simp) ht' hL' hA ?_).mono ?_
 case refine_2=>rintro e w'' ⟨u,r,he,rfl,_,hR,hb2⟩;exact ⟨u,he,hR,hb2⟩
 simp (maxSteps:=10000000) only [go_sem,seval,reduceCtorEq,eo,eY,cr,eI,dt]
 repeat' with_reducible first |apply And.intro |apply condP<;>intro _
 all_goals first |(show ar _ _=true;kernel_rfl)|assumption |rfl |(simp only [go_sem, *,fN,mo,cm]<;>rfl)
theorem JE {w:World} {S:Nat→Prop} {gs:List Nat} {m:List (List J)} {n i:Nat} (ha:Sq n m) (hi:i<n) (hL:Lent S w gs [[.sl false 1 m.length (m.map rC)],[.lit (.int .i64 (i:Int))]]):Fv Tryz.prog w 76 (fu gs) (gI fun z=>(0≤z∧z<(n:Int),kY (iD (bS m i z.toNat),0))):=by
 refine ep hL (aX Tryz.func76 (by kernel_rfl) rfl) (fun args e h=>by obtain ⟨z,rfl,rfl⟩:=d6 h;rfl) (fun args e h hp w' us hb ht' hL' hA=>?_)
 obtain ⟨z,rfl,rfl⟩:=d6 h
 obtain ⟨k,rfl,hk⟩:=gF hp
 have g0:(0≤(i:Int))=True:=eq_true (by omega)
 have g2:(0≤(k:Int))=True:=eq_true (by omega)
 have g3:(i<m.length)=True:=eq_true (by rw [ha.1];exact hi)
 have g5:(k<(m.getD i []).length)=True:=eq_true (by rw [ha.row hi];exact hk)
 have e1:=eQ (aB [] (show i<m.length by rw [ha.1];exact hi))
 have e3:List.take 6 (List.drop (k*6) (bC (m.getD i [])))=[.lit (.bool (bS m i k).lo.s),.lit (.int .i64 (bS m i k).lo.e),.ws (bS m i k).lo.xs,.lit (.bool (bS m i k).hi.s),.lit (.int .i64 (bS m i k).hi.e),.ws (bS m i k).hi.xs]:=eg (aB zJ (by rw [ha.row hi];exact hk))
 refine (cL (args:=[iA (k:Int),.s (.own 1000 0),.s (.own 1001 0)]) (O:=ai pg) (Pst:=(·=kY (iD (bS m i k),0))) (by kernel_rfl) ah (aa sd _ w') [] 400 14 [.cell 4 30,.tmp 5] Tryz.func76 rfl Tryz.ntmps76 (by rw [Tryz.results76]) (by simp) ht' hL' hA ?_).mono ?_
 case refine_2=>rintro e w'' ⟨u,r,he,rfl,_,hR,hb2⟩;exact ⟨u,he,hR,hb2⟩
 simp (maxSteps:=10000000) only [go_sem,seval,reduceCtorEq,pg,g0,g2,g3,g5,e1,e3,eo,eY,cr,eI,dt]
 repeat' with_reducible first |apply And.intro |apply condP<;>intro _
 all_goals first |(show ar _ _=true;kernel_rfl)|assumption |rfl |(simp only [go_sem, *]<;>rfl)
noncomputable def qc (p:Int) (a b:X):X×Int:=((qx (dZ (mI p true) p a b).1),(dZ (mI p true) p a b).2)
theorem JF {w:World} {S:Nat→Prop} {gs:List Nat} {p:Int} (hL:Lent S w gs [[.lit (.int .i64 p)]]):Fv Tryz.prog w 79 (fu gs) (ur fun a b=>(True,kY (qc p a b))):=by
 refine ep hL (aX Tryz.func79 (by kernel_rfl) rfl) (fun args e h=>by obtain ⟨x,x1,rfl,rfl⟩:=lE h;rfl) (fun args e h hp w' us hb ht' hL' hA=>?_)
 obtain ⟨x,x1,rfl,rfl⟩:=lE h
 refine (cL (args:=[.v true x.L,.v true x1.L,.s (.own 1000 0)]) (O:=ai fA) (Pst:=(·=kY (qc p x x1))) (by kernel_rfl) ah (aa lA _ w') [] 400 13 [.cell 5 30,.tmp 6] Tryz.func79 rfl Tryz.ntmps79 (by rw [Tryz.results79]) (by simp) ht' hL' hA ?_).mono ?_
 case refine_2=>rintro e w'' ⟨u,r,he,rfl,_,hR,hb2⟩;exact ⟨u,he,hR,hb2⟩
 simp (maxSteps:=10000000) only [go_sem,seval,reduceCtorEq,fA,eo,eY,cr,eI,dt]
 repeat' with_reducible first |apply And.intro |apply condP<;>intro _
 all_goals first |(show ar _ _=true;kernel_rfl)|assumption |rfl |(simp only [go_sem, *,qc]<;>rfl)
theorem AP {w:World} {S:Nat→Prop} {gs:List Nat} {m:List (List J)} {n:Nat} {p:Int} (ha:Sq n m) (hn:n≤1000) (hL:Lent S w gs [[.sl false 1 m.length (m.map rC)],[.lit (.int .i64 (n:Int))],[.lit (.int .i64 p)]]):Fv Tryz.prog w 75 (fu gs) (gI fun z=>(0≤z∧z<(n:Int),kY (aC zX (fun k=>(iD (bS m z.toNat k),0)) (qc p) n))):=by
 refine ep hL (aX Tryz.func75 (by kernel_rfl) rfl) (fun args e h=>by obtain ⟨z,rfl,rfl⟩:=d6 h;rfl) (fun args e h hp w' us hb ht' hL' hA=>?_)
 obtain ⟨z,rfl,rfl⟩:=d6 h
 obtain ⟨i,rfl,hi⟩:=gF hp
 refine (cL (args:=[iA (i:Int),.s (.own 1000 0),.s (.own 1001 0),.s (.own 1002 0)]) (O:=bO (jh 78 1 (bT [[.sl false 1 m.length (m.map rC)],[.lit (.int .i64 (i:Int))]] 76 [[.lit (.int .i64 p)]] 79 [iA n] (kY (aC zX (fun k=>(iD (bS m i k),0)) (qc p) n)))) (ai eJ)) (Pst:=(·=kY (aC zX (fun k=>(iD (bS m i k),0)) (qc p) n))) (by kernel_rfl) ah (Bk (Bj (aX Tryz.func78 (by kernel_rfl) rfl) (fun ls c ls2 c2 xs e he hp S2 w2 gs2 gs3 hb2 ht2 hL2 hL3=>by
  injection he with he;subst he
  obtain ⟨⟨rfl,rfl⟩,⟨rfl,rfl⟩,rfl⟩:=hp
  exact SW (F:=fun k=>(iD (bS m i k),0)) ht2 (JE ha hi hL2) (JF hL3) hn)) (aa bk _ w') (fun _ _ _=>bf fun _=>rfl)) [] 400 15 [.cell 5 30,.tmp 6] Tryz.func75 rfl Tryz.ntmps75 (by rw [Tryz.results75]) (by simp) ht' hL' hA ?_).mono ?_
 case refine_2=>rintro e w'' ⟨u,r,he,rfl,_,hR,hb2⟩;exact ⟨u,he,hR,hb2⟩
 simp (maxSteps:=10000000) only [go_sem,seval,reduceCtorEq,eo,eY,cr,eI,dt]
 repeat' with_reducible first |apply And.intro |apply condP<;>intro _
 all_goals first |(show ar _ _=true;kernel_rfl)|assumption |rfl |(simp only [go_sem, *,jh,lF,bT]<;>rfl)
end
section
attribute [local go_sem] nN ou fJ gA gE jd yK ki oy jH jI j8 j9 ite_self fN mo cm jh lF bT
theorem vz (m:List (List J)) (r:List Lc):asMs (.sl 1 m.length (m.map rC)::r)=(match asMs r with
 |some l=>some (m::l)
 |none=>none):=by
 show (match vv (m.map rC),asMs r with
  |some m',some l=>if 1=1∧m.length=m'.length then some (m'::l) else none
  |_,_=>none)=_
 rw [Fl]
 cases asMs r<;>simp
theorem dV (a:List (List J)):Fh (.v false [.sl false 1 1 [.sl 1 a.length (a.map rC)]])=some [a]:=by
 show (match asMs [.sl 1 a.length (a.map rC)] with
  |some l=>if 1=1∧1=l.length then some l else none
  |none=>none)=_
 rw [vz];rfl
theorem dW (a b:List (List J)):Fh (.v false [.sl false 1 2 [.sl 1 a.length (a.map rC),.sl 1 b.length (b.map rC)]])=some [a,b]:=by
 show (match asMs [.sl 1 a.length (a.map rC),.sl 1 b.length (b.map rC)] with
  |some l=>if 1=1∧2=l.length then some l else none
  |none=>none)=_
 rw [vz,vz];rfl
def fL {α:Type} (ok:Bool) (r:List α×Int):List α×Int:=bif ok then r else ([],1)
def mN (a b:List (List J)) (p:Int):Bool:=bif (bif rightM a&&rightM b then jR p 8 256 else false) then !((a.length:Int)!=(b.length:Int)) else false
def we (a:List (List J)) (p:Int):Bool:=bif rightM a then jR p 8 256 else false
theorem Kt (a b:List (List J)) (p:Int) (h:(bif rightM a&&rightM b then jR p 8 256 else false)=false):Ct Tryz.prog 30 [bw a,bw b,iA p] (·=oz ([],1)):=by
 refine Ct.wk ?_ (iq (l:=.lit (.slice none 0 0)) (fun _ _ _ _ h=>jm h) rfl)
 refine ak (O:=ai aA) (by kernel_rfl) ah (fun w=>aa aV _ w) [] 600 27 [.tmp 6,.tmp 7] Tryz.func30 rfl Tryz.ntmps30 (by rw [Tryz.results30]) (by simp) rfl (fun hsm=>?_)
 simp (maxSteps:=10000000) only [go_sem,seval,reduceCtorEq,aA,dV,dW,h]
 repeat' with_reducible first |apply And.intro |apply condP<;>intro _
 all_goals first |(show ar _ _=true;kernel_rfl)|assumption |rfl |(simp only [go_sem, *]<;>rfl)
theorem Ku (a b:List (List J)) (p:Int) (h:(bif rightM a&&rightM b then jR p 8 256 else false)=true) (hl:((a.length:Int)!=(b.length:Int))=true):Ct Tryz.prog 30 [bw a,bw b,iA p] (·=oz ([],1)):=by
 refine Ct.wk ?_ (iq (l:=.lit (.slice none 0 0)) (fun _ _ _ _ h=>jm h) rfl)
 refine ak (O:=ai aA) (by kernel_rfl) ah (fun w=>aa aV _ w) [] 600 27 [.tmp 6,.tmp 7] Tryz.func30 rfl Tryz.ntmps30 (by rw [Tryz.results30]) (by simp) rfl (fun hsm=>?_)
 simp (maxSteps:=10000000) only [go_sem,seval,reduceCtorEq,aA,dV,dW,h,hl]
 repeat' with_reducible first |apply And.intro |apply condP<;>intro _
 all_goals first |(show ar _ _=true;kernel_rfl)|assumption |rfl |(simp only [go_sem, *]<;>rfl)
theorem Kv (a b:List (List J)) (p:Int) (h:(bif rightM a&&rightM b then jR p 8 256 else false)=true) (hl:((a.length:Int)!=(b.length:Int))=false):Ct Tryz.prog 30 [bw a,bw b,iA p] (·=oz (eachN (fun i=>cR (fun x y=>cH x y p) (a.getD i []) (b.getD i [])) a.length)):=by
 have hR:rightM a=true∧rightM b=true:=by
  cases h1:rightM a&&rightM b with
  |false=>rw [h1] at h;cases h
  |true=>exact Bool.and_eq_true _ _▸h1
 obtain ⟨⟨n1,n2⟩,qa⟩:=aP hR.1
 have qb:=(aP hR.2).2
 have hab:a.length=b.length:=by
     have:(a.length:Int)=(b.length:Int):=by simpa using hl
     omega
 rw [←hab] at qb
 refine ak (O:=bO (fN 68 1 (cm [[.sl false 1 a.length (a.map rC)],[.sl false 1 b.length (b.map rC)],[.lit (.int .i64 p)]] 85 [iA (a.length:Int)] (oz (eachN (fun i=>cR (fun x y=>cH x y p) (a.getD i []) (b.getD i [])) a.length)))) (ai aA)) (by kernel_rfl) ah (fun w=>dD (dC (aX Tryz.func68 (by kernel_rfl) rfl) (fun ls c xs e he hp S w' gs hb ht' hL=>by
  injection he with he;subst he
  obtain ⟨rfl,rfl,rfl⟩:=hp
  exact A9 (F:=fun i=>cR (fun x y=>cH x y p) (a.getD i []) (b.getD i [])) ht' (Nz hab hL) n1 (by omega))) (aa aV _ w) (fun _ _ _=>bf fun _=>bz (by decide))) [] 600 27 [.tmp 6,.tmp 7] Tryz.func30 rfl Tryz.ntmps30 (by rw [Tryz.results30]) (by simp) rfl (fun hsm=>?_)
 simp (maxSteps:=10000000) only [go_sem,seval,reduceCtorEq,aA,dV,dW,h,hl,bP,cp,eZ,dU,hd1,pick,ax,eo,eY,cr,eI,dt]
 repeat' with_reducible first |apply And.intro |apply condP<;>intro _
 all_goals first |(show ar _ _=true;kernel_rfl)|assumption |rfl |(simp only [go_sem, *,fN,mo,cm]<;>rfl)
theorem Q7 (a b:List (List J)) (p:Int):Ct Tryz.prog 30 [bw a,bw b,iA p] (·=oz (fL (mN a b p) (eachN (fun i=>cR (fun x y=>cH x y p) (a.getD i []) (b.getD i [])) a.length))):=by
 unfold fL mN
 cases h:(bif rightM a&&rightM b then jR p 8 256 else false) with
 |false=>exact Kt a b p h
 |true=>
  cases hl:((a.length:Int)!=(b.length:Int)) with
  |true=>exact Ku a b p h hl
  |false=>exact Kv a b p h hl
noncomputable def ET:b9:=one 30 (gA kU fun a=>gA kU fun b=>gA jd fun p=>gE (True,oz (fL (mN a b p) (eachN (fun i=>cR (fun x y=>cH x y p) (a.getD i []) (b.getD i [])) a.length))))
theorem EU:TbOK Tryz.prog ET:=bI (aX Tryz.func30 (by kernel_rfl) rfl) (.a bi fun a=>.a bi fun b=>.a bK fun p=>.e fun _=>Q7 a b p)
theorem KF (a b:List (List J)) (p:Int) (h:(bif rightM a&&rightM b then jR p 8 256 else false)=false):Ct Tryz.prog 32 [bw a,bw b,iA p] (·=oz ([],1)):=by
 refine Ct.wk ?_ (iq (l:=.lit (.slice none 0 0)) (fun _ _ _ _ h=>jm h) rfl)
 refine ak (O:=ai aA) (by kernel_rfl) ah (fun w=>aa aV _ w) [] 600 27 [.tmp 6,.tmp 7] Tryz.func32 rfl Tryz.ntmps32 (by rw [Tryz.results32]) (by simp) rfl (fun hsm=>?_)
 simp (maxSteps:=10000000) only [go_sem,seval,reduceCtorEq,aA,dV,dW,h]
 repeat' with_reducible first |apply And.intro |apply condP<;>intro _
 all_goals first |(show ar _ _=true;kernel_rfl)|assumption |rfl |(simp only [go_sem, *]<;>rfl)
theorem KG (a b:List (List J)) (p:Int) (h:(bif rightM a&&rightM b then jR p 8 256 else false)=true) (hl:((a.length:Int)!=(b.length:Int))=true):Ct Tryz.prog 32 [bw a,bw b,iA p] (·=oz ([],1)):=by
 refine Ct.wk ?_ (iq (l:=.lit (.slice none 0 0)) (fun _ _ _ _ h=>jm h) rfl)
 refine ak (O:=ai aA) (by kernel_rfl) ah (fun w=>aa aV _ w) [] 600 27 [.tmp 6,.tmp 7] Tryz.func32 rfl Tryz.ntmps32 (by rw [Tryz.results32]) (by simp) rfl (fun hsm=>?_)
 simp (maxSteps:=10000000) only [go_sem,seval,reduceCtorEq,aA,dV,dW,h,hl]
 repeat' with_reducible first |apply And.intro |apply condP<;>intro _
 all_goals first |(show ar _ _=true;kernel_rfl)|assumption |rfl |(simp only [go_sem, *]<;>rfl)
theorem KH (a b:List (List J)) (p:Int) (h:(bif rightM a&&rightM b then jR p 8 256 else false)=true) (hl:((a.length:Int)!=(b.length:Int))=false):Ct Tryz.prog 32 [bw a,bw b,iA p] (·=oz (eachN (fun i=>cR (fun x y=>lM x y p) (a.getD i []) (b.getD i [])) a.length)):=by
 have hR:rightM a=true∧rightM b=true:=by
  cases h1:rightM a&&rightM b with
  |false=>rw [h1] at h;cases h
  |true=>exact Bool.and_eq_true _ _▸h1
 obtain ⟨⟨n1,n2⟩,qa⟩:=aP hR.1
 have qb:=(aP hR.2).2
 have hab:a.length=b.length:=by
     have:(a.length:Int)=(b.length:Int):=by simpa using hl
     omega
 rw [←hab] at qb
 refine ak (O:=bO (fN 68 1 (cm [[.sl false 1 a.length (a.map rC)],[.sl false 1 b.length (b.map rC)],[.lit (.int .i64 p)]] 88 [iA (a.length:Int)] (oz (eachN (fun i=>cR (fun x y=>lM x y p) (a.getD i []) (b.getD i [])) a.length)))) (ai aA)) (by kernel_rfl) ah (fun w=>dD (dC (aX Tryz.func68 (by kernel_rfl) rfl) (fun ls c xs e he hp S w' gs hb ht' hL=>by
  injection he with he;subst he
  obtain ⟨rfl,rfl,rfl⟩:=hp
  exact A9 (F:=fun i=>cR (fun x y=>lM x y p) (a.getD i []) (b.getD i [])) ht' (ND hab hL) n1 (by omega))) (aa aV _ w) (fun _ _ _=>bf fun _=>bz (by decide))) [] 600 27 [.tmp 6,.tmp 7] Tryz.func32 rfl Tryz.ntmps32 (by rw [Tryz.results32]) (by simp) rfl (fun hsm=>?_)
 simp (maxSteps:=10000000) only [go_sem,seval,reduceCtorEq,aA,dV,dW,h,hl,bP,cp,eZ,dU,hd1,pick,ax,eo,eY,cr,eI,dt]
 repeat' with_reducible first |apply And.intro |apply condP<;>intro _
 all_goals first |(show ar _ _=true;kernel_rfl)|assumption |rfl |(simp only [go_sem, *,fN,mo,cm]<;>rfl)
theorem Re (a b:List (List J)) (p:Int):Ct Tryz.prog 32 [bw a,bw b,iA p] (·=oz (fL (mN a b p) (eachN (fun i=>cR (fun x y=>lM x y p) (a.getD i []) (b.getD i [])) a.length))):=by
 unfold fL mN
 cases h:(bif rightM a&&rightM b then jR p 8 256 else false) with
 |false=>exact KF a b p h
 |true=>
  cases hl:((a.length:Int)!=(b.length:Int)) with
  |true=>exact KG a b p h hl
  |false=>exact KH a b p h hl
noncomputable def E3:b9:=one 32 (gA kU fun a=>gA kU fun b=>gA jd fun p=>gE (True,oz (fL (mN a b p) (eachN (fun i=>cR (fun x y=>lM x y p) (a.getD i []) (b.getD i [])) a.length))))
theorem E4:TbOK Tryz.prog E3:=bI (aX Tryz.func32 (by kernel_rfl) rfl) (.a bi fun a=>.a bi fun b=>.a bK fun p=>.e fun _=>Re a b p)
theorem Ky (a b:List (List J)) (p:Int) (h:(bif rightM a&&rightM b then jR p 8 256 else false)=false):Ct Tryz.prog 26 [bw a,bw b,iA p] (·=oz ([],1)):=by
 refine Ct.wk ?_ (iq (l:=.lit (.slice none 0 0)) (fun _ _ _ _ h=>jm h) rfl)
 refine ak (O:=ai aA) (by kernel_rfl) ah (fun w=>aa aV _ w) [] 600 29 [.tmp 6,.tmp 7] Tryz.func26 rfl Tryz.ntmps26 (by rw [Tryz.results26]) (by simp) rfl (fun hsm=>?_)
 simp (maxSteps:=10000000) only [go_sem,seval,reduceCtorEq,aA,dV,dW,h]
 repeat' with_reducible first |apply And.intro |apply condP<;>intro _
 all_goals first |(show ar _ _=true;kernel_rfl)|assumption |rfl |(simp only [go_sem, *]<;>rfl)
theorem Kz (a b:List (List J)) (p:Int) (h:(bif rightM a&&rightM b then jR p 8 256 else false)=true) (hl:((a.length:Int)!=(b.length:Int))=true):Ct Tryz.prog 26 [bw a,bw b,iA p] (·=oz ([],1)):=by
 refine Ct.wk ?_ (iq (l:=.lit (.slice none 0 0)) (fun _ _ _ _ h=>jm h) rfl)
 refine ak (O:=ai aA) (by kernel_rfl) ah (fun w=>aa aV _ w) [] 600 29 [.tmp 6,.tmp 7] Tryz.func26 rfl Tryz.ntmps26 (by rw [Tryz.results26]) (by simp) rfl (fun hsm=>?_)
 simp (maxSteps:=10000000) only [go_sem,seval,reduceCtorEq,aA,dV,dW,h,hl]
 repeat' with_reducible first |apply And.intro |apply condP<;>intro _
 all_goals first |(show ar _ _=true;kernel_rfl)|assumption |rfl |(simp only [go_sem, *]<;>rfl)
theorem KA (a b:List (List J)) (p:Int) (h:(bif rightM a&&rightM b then jR p 8 256 else false)=true) (hl:((a.length:Int)!=(b.length:Int))=false):Ct Tryz.prog 26 [bw a,bw b,iA p] (·=oz (eachN (fun i=>eachN (fun j=>aC zJ (fun k=>cB (bS a i k) (bS b k j) p) (fun s x=>cH s x p) a.length) a.length) a.length)):=by
 have hR:rightM a=true∧rightM b=true:=by
  cases h1:rightM a&&rightM b with
  |false=>rw [h1] at h;cases h
  |true=>exact Bool.and_eq_true _ _▸h1
 obtain ⟨⟨n1,n2⟩,qa⟩:=aP hR.1
 have qb:=(aP hR.2).2
 have hab:a.length=b.length:=by
     have:(a.length:Int)=(b.length:Int):=by simpa using hl
     omega
 rw [←hab] at qb
 refine ak (O:=bO (fN 68 1 (cm [[.lit (.int .i64 (a.length:Int))],[.lit (.int .i64 p)],[.sl false 1 a.length (a.map rC)],[.sl false 1 b.length (b.map rC)]] 69 [iA (a.length:Int)] (oz (eachN (fun i=>eachN (fun j=>aC zJ (fun k=>cB (bS a i k) (bS b k j) p) (fun s x=>cH s x p) a.length) a.length) a.length)))) (ai aA)) (by kernel_rfl) ah (fun w=>dD (dC (aX Tryz.func68 (by kernel_rfl) rfl) (fun ls c xs e he hp S w' gs hb ht' hL=>by
  injection he with he;subst he
  obtain ⟨rfl,rfl,rfl⟩:=hp
  exact A9 (F:=fun i=>eachN (fun j=>aC zJ (fun k=>cB (bS a i k) (bS b k j) p) (fun s x=>cH s x p) a.length) a.length) ht' (JB qa qb n1 (by omega) hL) n1 (by omega))) (aa aV _ w) (fun _ _ _=>bf fun _=>bz (by decide))) [] 600 29 [.tmp 6,.tmp 7] Tryz.func26 rfl Tryz.ntmps26 (by rw [Tryz.results26]) (by simp) rfl (fun hsm=>?_)
 simp (maxSteps:=10000000) only [go_sem,seval,reduceCtorEq,aA,dV,dW,h,hl,bP,cp,eZ,dU,hd1,pick,ax,eo,eY,cr,eI,dt]
 repeat' with_reducible first |apply And.intro |apply condP<;>intro _
 all_goals first |(show ar _ _=true;kernel_rfl)|assumption |rfl |(simp only [go_sem, *,fN,mo,cm]<;>rfl)
theorem Rb (a b:List (List J)) (p:Int):Ct Tryz.prog 26 [bw a,bw b,iA p] (·=oz (fL (mN a b p) (eachN (fun i=>eachN (fun j=>aC zJ (fun k=>cB (bS a i k) (bS b k j) p) (fun s x=>cH s x p) a.length) a.length) a.length))):=by
 unfold fL mN
 cases h:(bif rightM a&&rightM b then jR p 8 256 else false) with
 |false=>exact Ky a b p h
 |true=>
  cases hl:((a.length:Int)!=(b.length:Int)) with
  |true=>exact Kz a b p h hl
  |false=>exact KA a b p h hl
noncomputable def EX:b9:=one 26 (gA kU fun a=>gA kU fun b=>gA jd fun p=>gE (True,oz (fL (mN a b p) (eachN (fun i=>eachN (fun j=>aC zJ (fun k=>cB (bS a i k) (bS b k j) p) (fun s x=>cH s x p) a.length) a.length) a.length))))
theorem EY:TbOK Tryz.prog EX:=bI (aX Tryz.func26 (by kernel_rfl) rfl) (.a bi fun a=>.a bi fun b=>.a bK fun p=>.e fun _=>Rb a b p)
theorem KI (x:J) (m:List (List J)) (p:Int) (hx:okJ x=false):Ct Tryz.prog 33 [jA x,bw m,iA p] (·=oz ([],1)):=by
 refine Ct.wk ?_ (iq (l:=.lit (.slice none 0 0)) (fun _ _ _ _ h=>jm h) rfl)
 refine ak (O:=ai (aF aA bQ)) (by kernel_rfl) ah (fun w=>aa (ab aV dJ) _ w) [] 600 24 [.tmp 6,.tmp 7] Tryz.func33 rfl Tryz.ntmps33 (by rw [Tryz.results33]) (by simp) rfl (fun hsm=>?_)
 simp (maxSteps:=10000000) only [go_sem,seval,reduceCtorEq,aA,bQ,dV,dW,hx]
 repeat' with_reducible first |apply And.intro |apply condP<;>intro _
 all_goals first |(show ar _ _=true;kernel_rfl)|assumption |rfl |(simp only [go_sem, *]<;>rfl)
theorem KJ (x:J) (m:List (List J)) (p:Int) (hx:okJ x=true) (h:(bif rightM m then jR p 8 256 else false)=false):Ct Tryz.prog 33 [jA x,bw m,iA p] (·=oz ([],1)):=by
 refine Ct.wk ?_ (iq (l:=.lit (.slice none 0 0)) (fun _ _ _ _ h=>jm h) rfl)
 refine ak (O:=ai (aF aA bQ)) (by kernel_rfl) ah (fun w=>aa (ab aV dJ) _ w) [] 600 24 [.tmp 6,.tmp 7] Tryz.func33 rfl Tryz.ntmps33 (by rw [Tryz.results33]) (by simp) rfl (fun hsm=>?_)
 simp (maxSteps:=10000000) only [go_sem,seval,reduceCtorEq,aA,bQ,dV,dW,hx,h]
 repeat' with_reducible first |apply And.intro |apply condP<;>intro _
 all_goals first |(show ar _ _=true;kernel_rfl)|assumption |rfl |(simp only [go_sem, *]<;>rfl)
theorem KL (x:J) (m:List (List J)) (p:Int) (hx:okJ x=true) (h:(bif rightM m then jR p 8 256 else false)=true):Ct Tryz.prog 33 [jA x,bw m,iA p] (·=oz (eachN (fun i=>fU (fun y=>cB x y p) (m.getD i [])) m.length)):=by
 have hR:rightM m=true:=by
  cases h1:rightM m with
  |false=>rw [h1] at h;cases h
  |true=>rfl
 obtain ⟨⟨n1,n2⟩,qa⟩:=aP hR
 refine ak (O:=bO (fN 68 1 (cm [x.L,[.sl false 1 m.length (m.map rC)],[.lit (.int .i64 p)]] 91 [iA (m.length:Int)] (oz (eachN (fun i=>fU (fun y=>cB x y p) (m.getD i [])) m.length)))) (ai (aF aA bQ))) (by kernel_rfl) ah (fun w=>dD (dC (aX Tryz.func68 (by kernel_rfl) rfl) (fun ls c xs e he hp S w' gs hb ht' hL=>by
  injection he with he;subst he
  obtain ⟨rfl,rfl,rfl⟩:=hp
  exact A9 (F:=fun i=>fU (fun y=>cB x y p) (m.getD i [])) ht' (NE hL) n1 (by omega))) (aa (ab aV dJ) _ w) (fun _ _ _=>bf fun _=>dx (bz (by decide)) (bz (by decide)))) [] 600 24 [.tmp 6,.tmp 7] Tryz.func33 rfl Tryz.ntmps33 (by rw [Tryz.results33]) (by simp) rfl (fun hsm=>?_)
 simp (maxSteps:=10000000) only [go_sem,seval,reduceCtorEq,aA,bQ,dV,dW,hx,h,bP,cp,eZ,dU,hd1,pick,ax,eo,eY,cr,eI,dt]
 repeat' with_reducible first |apply And.intro |apply condP<;>intro _
 all_goals first |(show ar _ _=true;kernel_rfl)|assumption |rfl |(simp only [go_sem, *,fN,mo,cm]<;>rfl)
theorem Rf (x:J) (m:List (List J)) (p:Int):Ct Tryz.prog 33 [jA x,bw m,iA p] (·=oz (fL (bif okJ x then we m p else false) (eachN (fun i=>fU (fun y=>cB x y p) (m.getD i [])) m.length))):=by
 unfold fL we
 cases hx:okJ x with
 |false=>exact KI x m p hx
 |true=>
  cases h:(bif rightM m then jR p 8 256 else false) with
  |false=>exact KJ x m p hx h
  |true=>exact KL x m p hx h
noncomputable def E5:b9:=one 33 (gA ki fun x=>gA kU fun m=>gA jd fun p=>gE (True,oz (fL (bif okJ x then we m p else false) (eachN (fun i=>fU (fun y=>cB x y p) (m.getD i [])) m.length))))
theorem E6:TbOK Tryz.prog E5:=bI (aX Tryz.func33 (by kernel_rfl) rfl) (.a nU fun x=>.a bi fun m=>.a bK fun p=>.e fun _=>Rf x m p)
theorem Kw (m:List (List J)) (p:Int) (h:(bif rightM m then jR p 8 256 else false)=false):Ct Tryz.prog 35 [bw m,iA p] (·=MG ([],1)):=by
 refine Ct.wk ?_ (iq (l:=.lit (.slice none 0 0)) (fun _ _ _ _ h=>jm h) rfl)
 refine ak (O:=ai aA) (by kernel_rfl) ah (fun w=>aa aV _ w) [] 600 17 [.tmp 4,.tmp 5] Tryz.func35 rfl Tryz.ntmps35 (by rw [Tryz.results35]) (by simp) rfl (fun hsm=>?_)
 simp (maxSteps:=10000000) only [go_sem,seval,reduceCtorEq,aA,dV,dW,h]
 repeat' with_reducible first |apply And.intro |apply condP<;>intro _
 all_goals first |(show ar _ _=true;kernel_rfl)|assumption |rfl |(simp only [go_sem, *]<;>rfl)
theorem Kx (m:List (List J)) (p:Int) (h:(bif rightM m then jR p 8 256 else false)=true):Ct Tryz.prog 35 [bw m,iA p] (·=MG (eachN (fun i=>fU (fun y=>iZ y p) (m.getD i [])) m.length)):=by
 have hR:rightM m=true:=by
  cases h1:rightM m with
  |false=>rw [h1] at h;cases h
  |true=>rfl
 obtain ⟨⟨n1,n2⟩,qa⟩:=aP hR
 refine ak (O:=bO (fN 94 1 (cm [[.sl false 1 m.length (m.map rC)],[.lit (.int .i64 p)]] 95 [iA (m.length:Int)] (MG (eachN (fun i=>fU (fun y=>iZ y p) (m.getD i [])) m.length)))) (ai aA)) (by kernel_rfl) ah (fun w=>dD (dC (aX Tryz.func94 (by kernel_rfl) rfl) (fun ls c xs e he hp S w' gs hb ht' hL=>by
  injection he with he;subst he
  obtain ⟨rfl,rfl,rfl⟩:=hp
  exact Qq (F:=fun i=>fU (fun y=>iZ y p) (m.getD i [])) ht' (NA hL) n1 (by omega))) (aa aV _ w) (fun _ _ _=>bf fun _=>bz (by decide))) [] 600 17 [.tmp 4,.tmp 5] Tryz.func35 rfl Tryz.ntmps35 (by rw [Tryz.results35]) (by simp) rfl (fun hsm=>?_)
 simp (maxSteps:=10000000) only [go_sem,seval,reduceCtorEq,aA,dV,dW,h,bP,cp,eZ,dU,hd1,pick,ax,eo,eY,cr,eI,dt]
 repeat' with_reducible first |apply And.intro |apply condP<;>intro _
 all_goals first |(show ar _ _=true;kernel_rfl)|assumption |rfl |(simp only [go_sem, *,fN,mo,cm]<;>rfl)
theorem Ra (m:List (List J)) (p:Int):Ct Tryz.prog 35 [bw m,iA p] (·=MG (fL (we m p) (eachN (fun i=>fU (fun y=>iZ y p) (m.getD i [])) m.length))):=by
 unfold fL we
 cases h:(bif rightM m then jR p 8 256 else false) with
 |false=>exact Kw m p h
 |true=>exact Kx m p h
noncomputable def EV:b9:=one 35 (gA kU fun m=>gA jd fun p=>gE (True,MG (fL (we m p) (eachN (fun i=>fU (fun y=>iZ y p) (m.getD i [])) m.length))))
theorem EW:TbOK Tryz.prog EV:=bI (aX Tryz.func35 (by kernel_rfl) rfl) (.a bi fun m=>.a bK fun p=>.e fun _=>Ra m p)
theorem KM (m:List (List J)) (b:List J) (p:Int) (h:(bif rightM m then jR p 8 256 else false)=false):Ct Tryz.prog 28 [bw m,bv b,iA p] (·=bP ([],1)):=by
 refine ak (O:=ai (aF aA aQ)) (by kernel_rfl) ah (fun w=>aa (ab aV fB) _ w) [] 600 33 [.tmp 6,.tmp 7] Tryz.func28 rfl Tryz.ntmps28 (by rw [Tryz.results28]) (by simp) rfl (fun hsm=>?_)
 simp (maxSteps:=10000000) only [go_sem,seval,reduceCtorEq,aA,aQ,dV,dW,h]
 repeat' with_reducible first |apply And.intro |apply condP<;>intro _
 all_goals first |(show ar _ _=true;kernel_rfl)|assumption |rfl |(simp only [go_sem, *]<;>rfl)
theorem KN (m:List (List J)) (b:List J) (p:Int) (h:(bif rightM m then jR p 8 256 else false)=true) (hb0:rightB b=false):Ct Tryz.prog 28 [bw m,bv b,iA p] (·=bP ([],1)):=by
 refine ak (O:=ai (aF aA aQ)) (by kernel_rfl) ah (fun w=>aa (ab aV fB) _ w) [] 600 33 [.tmp 6,.tmp 7] Tryz.func28 rfl Tryz.ntmps28 (by rw [Tryz.results28]) (by simp) rfl (fun hsm=>?_)
 simp (maxSteps:=10000000) only [go_sem,seval,reduceCtorEq,aA,aQ,dV,dW,h,hb0]
 repeat' with_reducible first |apply And.intro |apply condP<;>intro _
 all_goals first |(show ar _ _=true;kernel_rfl)|assumption |rfl |(simp only [go_sem, *]<;>rfl)
theorem KO (m:List (List J)) (b:List J) (p:Int) (h:(bif rightM m then jR p 8 256 else false)=true) (hb0:rightB b=true) (hl:((m.length:Int)!=(b.length:Int))=true):Ct Tryz.prog 28 [bw m,bv b,iA p] (·=bP ([],1)):=by
 refine ak (O:=ai (aF aA aQ)) (by kernel_rfl) ah (fun w=>aa (ab aV fB) _ w) [] 600 33 [.tmp 6,.tmp 7] Tryz.func28 rfl Tryz.ntmps28 (by rw [Tryz.results28]) (by simp) rfl (fun hsm=>?_)
 simp (maxSteps:=10000000) only [go_sem,seval,reduceCtorEq,aA,aQ,dV,dW,h,hb0,hl]
 repeat' with_reducible first |apply And.intro |apply condP<;>intro _
 all_goals first |(show ar _ _=true;kernel_rfl)|assumption |rfl |(simp only [go_sem, *]<;>rfl)
theorem KP (m:List (List J)) (b:List J) (p:Int) (h:(bif rightM m then jR p 8 256 else false)=true) (hb0:rightB b=true) (hl:((m.length:Int)!=(b.length:Int))=false):Ct Tryz.prog 28 [bw m,bv b,iA p] (·=bP (eachN (fun i=>aC zJ (fun k=>cB (bS m i k) (b.getD k zJ) p) (fun s x=>cH s x p) m.length) m.length)):=by
 have hR:rightM m=true:=by
  cases h1:rightM m with
  |false=>rw [h1] at h;cases h
  |true=>rfl
 obtain ⟨⟨n1,n2⟩,qa⟩:=aP hR
 have hab:m.length=b.length:=by
     have:(m.length:Int)=(b.length:Int):=by simpa using hl
     omega
 refine ak (O:=bO (fN 70 1 (cm [[.lit (.int .i64 (m.length:Int))],[.lit (.int .i64 p)],[.sl false 1 m.length (m.map rC)],[.sl false 6 b.length (bC b)]] 83 [iA (m.length:Int)] (bP (eachN (fun i=>aC zJ (fun k=>cB (bS m i k) (b.getD k zJ) p) (fun s x=>cH s x p) m.length) m.length)))) (ai (aF aA aQ))) (by kernel_rfl) ah (fun w=>dD (dC (aX Tryz.func70 (by kernel_rfl) rfl) (fun ls c xs e he hp S w' gs hb ht' hL=>by
  injection he with he;subst he
  obtain ⟨rfl,rfl,rfl⟩:=hp
  exact Mk (F:=fun i=>aC zJ (fun k=>cB (bS m i k) (b.getD k zJ) p) (fun s x=>cH s x p) m.length) ht' (JG qa hab.symm (by omega) hL) n1 (by omega))) (aa (ab aV fB) _ w) (fun _ _ _=>bf fun _=>dx (bz (by decide)) (bz (by decide)))) [] 600 33 [.tmp 6,.tmp 7] Tryz.func28 rfl Tryz.ntmps28 (by rw [Tryz.results28]) (by simp) rfl (fun hsm=>?_)
 simp (maxSteps:=10000000) only [go_sem,seval,reduceCtorEq,aA,aQ,dV,dW,h,hb0,hl,bP,cp,eZ,dU,hd1,pick,ax,eo,eY,cr,eI,dt]
 repeat' with_reducible first |apply And.intro |apply condP<;>intro _
 all_goals first |(show ar _ _=true;kernel_rfl)|assumption |rfl |(simp only [go_sem, *,fN,mo,cm]<;>rfl)
def OS (m:List (List J)) (b:List J) (p:Int):Bool:=bif (bif rightM m then jR p 8 256 else false) then (bif rightB b then !((m.length:Int)!=(b.length:Int)) else false) else false
theorem Rg (m:List (List J)) (b:List J) (p:Int):Ct Tryz.prog 28 [bw m,bv b,iA p] (·=bP (fL (OS m b p) (eachN (fun i=>aC zJ (fun k=>cB (bS m i k) (b.getD k zJ) p) (fun s x=>cH s x p) m.length) m.length))):=by
 unfold fL OS
 cases h:(bif rightM m then jR p 8 256 else false) with
 |false=>exact KM m b p h
 |true=>
  cases hb0:rightB b with
  |false=>exact KN m b p h hb0
  |true=>
   cases hl:((m.length:Int)!=(b.length:Int)) with
   |true=>exact KO m b p h hb0 hl
   |false=>exact KP m b p h hb0 hl
noncomputable def E7:b9:=one 28 (gA kU fun m=>gA jC fun b=>gA jd fun p=>gE (True,bP (fL (OS m b p) (eachN (fun i=>aC zJ (fun k=>cB (bS m i k) (b.getD k zJ) p) (fun s x=>cH s x p) m.length) m.length))))
theorem E8:TbOK Tryz.prog E7:=bI (aX Tryz.func28 (by kernel_rfl) rfl) (.a bi fun m=>.a dB fun b=>.a bK fun p=>.e fun _=>Rg m b p)
end
section
attribute [local go_sem] nN ou fJ gA gE jd yK ki oy jH jI j8 j9 ite_self fN mo cm jh lF bT
noncomputable def v6 (l:List X):Nat→X
 |0=>l.getD 0 zX
 |j+1=>bif decide (0<cmpx (l.getD (j+1) zX) (v6 l j)) then l.getD (j+1) zX else v6 l j
theorem SG {w:World} {f:FuncId} {caps:List Value} (ht:Tab w) (hf:Fv Tryz.prog w f caps (ur fun a b=>(True,iA (cmpx a b)))) (l:List X) (n:Nat) (hn:l.length=n+1) (h2:n≤1000):Hc Tryz.prog w 81 [qi l,jL f caps] (.v true (v6 l n).L):=by
 have c1:decide ((l.length:Int)<1)=false:=decide_eq_false (by omega)
 have g00:(0<l.length)=True:=eq_true (by omega)
 have e00:List.take 3 (pC l)=[.lit (.bool (l.getD 0 zX).s),.lit (.int .i64 (l.getD 0 zX).e),.ws (l.getD 0 zX).xs]:=by have:=Ac (aB zX (show 0<l.length by omega));simpa using this
 refine fM (O:=bO (jM 2 f caps (ur fun a b=>(True,iA (cmpx a b)))) (ai eJ)) (by kernel_rfl) ah (kP (fE hf) (aa bk _ w) (fun g d st args h=>LK)) ht [9999999,0,2,8,9,10,11,12] ((n+1)*200+100) 33 [.cell 4 30] Tryz.func81 rfl Tryz.ntmps81 (by rw [Tryz.results81]) (by simp) rfl (fun hsm=>?_)
 simp (maxSteps:=10000000) only [go_sem,seval,reduceCtorEq,c1,g00,e00]
 refine aL 200 (fun j=>[(0,qi l),(2,jL f caps),(8,.s (.own 4 0)),(9,.v true zX.L),(10,.s (.own 5 0)),(11,.v true (v6 l j).L),(12,iA ((j+1:Nat):Int))]) n (fun j=>True) 0 (fun j _=>rfl) (fun j mm _ hj _ ih=>?_) (by omega) trivial rfl
 rcases Nat.lt_or_ge j n with hlt |hge
 ·have e1:=Ac (aB zX (show j+1<l.length by omega))
  have d:=decide_eq_true (show ((j+1:Nat):Int)<(l.length:Int) by omega)
  have g1:(j+1<l.length)=True:=eq_true (by omega)
  have g0:(0≤((j+1:Nat):Int))=True:=eq_true (by omega)
  have hw:=aN (j:=j+1) (by omega)
  replace ih:=ih hlt trivial
  cases hc:decide (0<cmpx (l.getD (j+1) zX) (v6 l j)) with
  |false=>
   have hm:v6 l (j+1)=v6 l j:=by show (bif _ then _ else _)=_;rw [hc];rfl
   rw [hm] at ih
   simp (maxSteps:=10000000) only [go_sem,seval,reduceCtorEq,d,g0,g1,hw,e1,hc]
   repeat' with_reducible first |apply And.intro |apply condP<;>intro _
   all_goals first |(show ar _ _=true;kernel_rfl)|(exact ih _ _ rfl)|assumption |rfl
  |true=>
   have hm:v6 l (j+1)=l.getD (j+1) zX:=by show (bif _ then _ else _)=_;rw [hc];rfl
   rw [hm] at ih
   simp (maxSteps:=10000000) only [go_sem,seval,reduceCtorEq,d,g0,g1,hw,e1,hc]
   repeat' with_reducible first |apply And.intro |apply condP<;>intro _
   all_goals first |(show ar _ _=true;kernel_rfl)|(exact ih _ _ rfl)|assumption |rfl
 ·have hj2:j=n:=by omega
  subst hj2
  have d:=decide_eq_false (show ¬ ((j+1:Nat):Int)<(l.length:Int) by omega)
  have dn:(j+1<l.length)=False:=eq_false (by omega)
  simp (maxSteps:=10000000) only [go_sem,seval,reduceCtorEq,dn]
  repeat' with_reducible first |apply And.intro |apply condP<;>intro _
  all_goals first |(show ar _ _=true;kernel_rfl)|assumption |rfl |(simp only [go_sem, *]<;>rfl)
theorem KB (m:List (List J)) (p:Int) (h:(bif rightM m then jR p 8 256 else false)=false):Ct Tryz.prog 27 [bw m,iA p] (·=kY (zX,1)):=by
 refine ak (O:=ai aA) (by kernel_rfl) ah (fun w=>aa aV _ w) [] 600 29 [.cell 4 30,.tmp 5] Tryz.func27 rfl Tryz.ntmps27 (by rw [Tryz.results27]) (by simp) rfl (fun hsm=>?_)
 simp (maxSteps:=10000000) only [go_sem,seval,reduceCtorEq,aA,dV,dW,h,bP,cp,eZ,dU,hd1,pick,ax,eo,eY,cr,eI,dt]
 repeat' with_reducible first |apply And.intro |apply condP<;>intro _
 all_goals first |(show ar _ _=true;kernel_rfl)|assumption |rfl |(simp only [go_sem, *]<;>rfl)
theorem KC (m:List (List J)) (p e:Int) (h:(bif rightM m then jR p 8 256 else false)=true) (he:eachN (fun i=>aC zX (fun k=>(iD (bS m i k),0)) (qc p) m.length) m.length=([],e)) (he2:(e !=0)=true):Ct Tryz.prog 27 [bw m,iA p] (·=kY (zX,e)):=by
 have hR:rightM m=true:=by
  cases h1:rightM m with
  |false=>rw [h1] at h;cases h
  |true=>rfl
 obtain ⟨⟨n1,n2⟩,qa⟩:=aP hR
 have hE:∀ {S:Nat→Prop} {w:World} {gs:List Nat},Tab w→Lent S w gs [[.sl false 1 m.length (m.map rC)],[.lit (.int .i64 (m.length:Int))],[.lit (.int .i64 p)]]→Hc Tryz.prog w 74 [iA (m.length:Int),jL 75 (fu gs)] (cp (eachN (fun i=>aC zX (fun k=>(iD (bS m i k),0)) (qc p) m.length) m.length)):=fun ht' hL=>Ml (F:=fun i=>aC zX (fun k=>(iD (bS m i k),0)) (qc p) m.length) ht' (AP qa (by omega) hL) n1 (by omega)
 rw [he] at hE
 refine ak (O:=bO (fN 74 1 (cm [[.sl false 1 m.length (m.map rC)],[.lit (.int .i64 (m.length:Int))],[.lit (.int .i64 p)]] 75 [iA (m.length:Int)] (cp ([],e)))) (ai aA)) (by kernel_rfl) ah (fun w=>dD (dC (aX Tryz.func74 (by kernel_rfl) rfl) (fun ls c xs e he hp S w' gs hb ht' hL=>by
  injection he with he;subst he
  obtain ⟨rfl,rfl,rfl⟩:=hp
  exact hE ht' hL)) (aa aV _ w) (fun _ _ _=>bf fun _=>bz (by decide))) [] 600 29 [.cell 4 30,.tmp 5] Tryz.func27 rfl Tryz.ntmps27 (by rw [Tryz.results27]) (by simp) rfl (fun hsm=>?_)
 simp (maxSteps:=10000000) only [go_sem,seval,reduceCtorEq,aA,dV,dW,h,he2,bP,cp,eZ,dU,hd1,pick,ax,eo,eY,cr,eI,dt]
 repeat' with_reducible first |apply And.intro |apply condP<;>intro _
 all_goals first |(show ar _ _=true;kernel_rfl)|assumption |rfl |(simp only [go_sem, *,fN,mo,cm]<;>rfl)
theorem Od {f g:FuncId} {n:Nat} {kk:HK} {d:Nat} {st:St} {args:List AV} (h:f≠g):fN g n kk f d st args=none:=by
 unfold fN;rw [if_neg h]
theorem x8 {A B:dI} {f:FuncId} {d:Nat} {st:St} {args:List AV} (h1:A f d st args=none) (h2:B f d st args=none):bO A B f d st args=none:=by
 unfold bO;rw [h1];exact h2
theorem KD (m:List (List J)) (p:Int) (x:X) (r:List X) (h:(bif rightM m then jR p 8 256 else false)=true) (he:eachN (fun i=>aC zX (fun k=>(iD (bS m i k),0)) (qc p) m.length) m.length=(x::r,0)) (hx:r.length≤1000):Ct Tryz.prog 27 [bw m,iA p] (·=kY (v6 (x::r) r.length,0)):=by
 have hR:rightM m=true:=by
  cases h1:rightM m with
  |false=>rw [h1] at h;cases h
  |true=>rfl
 obtain ⟨⟨n1,n2⟩,qa⟩:=aP hR
 have hE:∀ {S:Nat→Prop} {w:World} {gs:List Nat},Tab w→Lent S w gs [[.sl false 1 m.length (m.map rC)],[.lit (.int .i64 (m.length:Int))],[.lit (.int .i64 p)]]→Hc Tryz.prog w 74 [iA (m.length:Int),jL 75 (fu gs)] (cp (eachN (fun i=>aC zX (fun k=>(iD (bS m i k),0)) (qc p) m.length) m.length)):=fun ht' hL=>Ml (F:=fun i=>aC zX (fun k=>(iD (bS m i k),0)) (qc p) m.length) ht' (AP qa (by omega) hL) n1 (by omega)
 rw [he] at hE
 refine ak (O:=bO (fN 74 1 (cm [[.sl false 1 m.length (m.map rC)],[.lit (.int .i64 (m.length:Int))],[.lit (.int .i64 p)]] 75 [iA (m.length:Int)] (cp (x::r,0)))) (bO (fN 81 1 (cm [] 82 [qi (x::r)] (.v true (v6 (x::r) r.length).L))) (ai aA))) (by kernel_rfl) ah (fun w=>dD (dC (aX Tryz.func74 (by kernel_rfl) rfl) (fun ls c xs e he hp S w' gs hb ht' hL=>by
  injection he with he;subst he
  obtain ⟨rfl,rfl,rfl⟩:=hp
  exact hE ht' hL)) (dD (dC (aX Tryz.func81 (by kernel_rfl) rfl) (fun ls c xs e he hp S w' gs hb ht' hL=>by
  injection he with he;subst he
  obtain ⟨rfl,rfl,rfl⟩:=hp
  obtain rfl:gs=[]:=List.eq_nil_of_length_eq_zero hL.1
  exact SG ht' (Qu fy (aX Tryz.func82 (by kernel_rfl) rfl)) _ r.length rfl hx)) (aa aV _ w) (fun _ _ _=>bf fun _=>bz (by decide))) (fun _ _ _=>x8 (Od (by decide)) (bf fun _=>bz (by decide)))) [] 600 29 [.cell 4 30,.tmp 5] Tryz.func27 rfl Tryz.ntmps27 (by rw [Tryz.results27]) (by simp) rfl (fun hsm=>?_)
 simp (maxSteps:=10000000) only [go_sem,seval,reduceCtorEq,aA,dV,dW,h,bP,cp,eZ,dU,hd1,pick,ax,eo,eY,cr,eI,dt]
 repeat' with_reducible first |apply And.intro |apply condP<;>intro _
 all_goals first |(show ar _ _=true;kernel_rfl)|assumption |rfl |(simp only [go_sem, *,fN,mo,cm]<;>rfl)
theorem CH {α:Type} {F:Nat→α×Int} {n:Nat} (h:((eachN F n).2 !=0)=true):eachN F n=([],(eachN F n).2):=by
 induction n with
 |zero=>cases h
 |succ n ih=>
  cases h1:(eachN F n).2 !=0 with
  |true=>rw [ig (n:=n+1) h1 (Nat.le_succ n)];exact ih h1
  |false=>
   have h1:(eachN F n).2=0:=by simpa using h1
   cases hF:(F n).2 !=0 with
   |true=>rw [jg h1 hF]
   |false=>
    have hF:(F n).2=0:=by simpa using hF
    rw [bh h1 hF] at h;cases h
noncomputable def PM (r:List X×Int):X×Int:=bif r.2 !=0 then (zX,r.2) else (v6 r.1 (r.1.length - 1),0)
noncomputable def sU (m:List (List J)) (p:Int):X×Int:=bif we m p then PM (eachN (fun i=>aC zX (fun k=>(iD (bS m i k),0)) (qc p) m.length) m.length) else (zX,1)
theorem Rc (m:List (List J)) (p:Int):Ct Tryz.prog 27 [bw m,iA p] (·=kY (sU m p)):=by
 unfold sU we
 cases h:(bif rightM m then jR p 8 256 else false) with
 |false=>exact KB m p h
 |true=>
  have h':=h
  have hR:rightM m=true:=by
   cases h1:rightM m with
   |false=>rw [h1] at h;cases h
   |true=>rfl
  obtain ⟨⟨n1,n2⟩,qa⟩:=aP hR
  rw [cond_true]
  cases he2:(eachN (fun i=>aC zX (fun k=>(iD (bS m i k),0)) (qc p) m.length) m.length).2 !=0 with
  |true=>
   have he:=CH he2
   unfold PM
   rw [he2,cond_true]
   exact KC m p _ h he he2
  |false=>
   have h0:(eachN (fun i=>aC zX (fun k=>(iD (bS m i k),0)) (qc p) m.length) m.length).2=0:=by simpa using he2
   have hl:=bq h0
   unfold PM
   rw [he2,cond_false]
   have hq:eachN (fun i=>aC zX (fun k=>(iD (bS m i k),0)) (qc p) m.length) m.length=((eachN (fun i=>aC zX (fun k=>(iD (bS m i k),0)) (qc p) m.length) m.length).1,0):=Prod.ext rfl h0
   generalize (eachN (fun i=>aC zX (fun k=>(iD (bS m i k),0)) (qc p) m.length) m.length).1=s at hl hq ⊢
   cases s with
   |nil=>simp at hl;omega
   |cons x r=>exact KD m p x r h hq (by simp at hl;omega)
noncomputable def EZ:b9:=one 27 (gA kU fun m=>gA jd fun p=>gE (True,kY (sU m p)))
theorem E0:TbOK Tryz.prog EZ:=bI (aX Tryz.func27 (by kernel_rfl) rfl) (.a bi fun m=>.a bK fun p=>.e fun _=>Rc m p)
noncomputable def oX:X:=qx (fH 1 0)
noncomputable def oJ:J:=⟨oX,oX⟩
noncomputable def zE (n j:Nat):List J:=List.replicate j zJ++oJ::List.replicate (n - 1 - j) zJ
noncomputable def qh (n:Nat):List (List J):=(List.range n).map (zE n)
theorem Bl {n j:Nat} (h:j<n):(zE n j).length=n:=by unfold zE;simp;omega
theorem nZ (n:Nat):(qh n).length=n:=by unfold qh;simp
theorem Gy {n j:Nat} (h:j<n):(qh n).take (j+1)=(qh n).take j++[zE n j]:=by
 unfold qh
 rw [List.take_add_one,List.getElem?_map,List.getElem?_range h];rfl
theorem Gl {α:Type} {g:α→List Lf} {a:α}:∀ (k:Nat),(List.replicate k a).flatMap g=(List.replicate k (g a)).flatten:=by
 intro k
 induction k with
 |zero=>rfl
 |succ k ih=>rw [List.replicate_succ,List.replicate_succ,List.flatMap_cons,List.flatten_cons,ih]
theorem JM {z a:List Lf} {s n j:Nat} (hz:z.length=s) (h:j<n):List.take (j*s) (List.replicate n z).flatten++a++List.drop (j*s+s) (List.replicate n z).flatten=(List.replicate j z).flatten++(a++(List.replicate (n - 1 - j) z).flatten):=by
 have h1:∀ k,(List.replicate k z).flatten.length=k*s:=fun k=>wm hz k
 obtain ⟨k,rfl⟩:∃ k,n=j+(1+k):=⟨n - 1 - j,by omega⟩
 rw [←List.replicate_append_replicate,←List.replicate_append_replicate,List.flatten_append,List.flatten_append]
 have h2:=h1 j
 have h3:=h1 1
 rw [List.take_append_of_le_length (by omega),List.take_of_length_le (by omega)]
 rw [List.drop_append,List.drop_of_length_le (by omega),h2,List.nil_append,show j*s+s - j*s=s by omega,List.drop_append_of_le_length (by omega),List.drop_of_length_le (by omega),List.nil_append,show j+(1+k) - 1 - j=k by omega,List.append_assoc]
theorem O3 {C:List Lf} {v:Lf} {i:Nat} (h:i<C.length):(List.take i C++[v]++List.drop (i+1) C)[i]? =some v:=by
 have h1:(List.take i C).length=i:=by rw [List.length_take];omega
 rw [List.append_assoc,List.getElem?_append_right (by omega),h1,Nat.sub_self];rfl
theorem Ll {C:List Lf} {v:Lf} {i:Nat} (h:i<C.length):(List.take i C++[v]++List.drop (i+1) C).length=C.length:=by
 simp only [List.length_append,List.length_take,List.length_drop,List.length_cons,List.length_nil];omega
theorem Da {n j:Nat} (h:j<n):List.take (j*6) (List.replicate n zJ.L).flatten++oJ.L++List.drop (j*6+6) (List.replicate n zJ.L).flatten=(zE n j).flatMap J.L:=by
 rw [JM (s:=6) rfl h]
 unfold zE
 rw [List.flatMap_append,List.flatMap_cons,Gl,Gl]
theorem Kb {n j:Nat} (h:j<n):eY 17 [(0,iA (n:Int)),(6,.s (.osl 9 n)),(19,.v true (List.take (j*1) (tP n ((qh n).take j))++[.osl 17 n]++List.drop (j*1+1) (tP n ((qh n).take j)))),(20,iA (n:Int)),(22,iA ((j+1:Nat):Int)),(35,.v true ((zE n j).flatMap J.L))]=[(0,iA (n:Int)),(6,.s (.osl 9 n)),(19,.v true (tP n ((qh n).take (j+1)))),(20,iA (n:Int)),(22,iA ((j+1:Nat):Int))]:=by
 have hd:fD ((zE n j).flatMap J.L)=some (bC (zE n j)):=dd oK _
 have hl:((zE n j).flatMap J.L).length=n*6:=by rw [bj (s:=6) (fun _=>rfl),Bl h]
 have hq:n*6 / n=6:=Nat.mul_div_cancel_left _ (by omega)
 have hw:=FR (n:=n) (zE n j) (l:=(qh n).take j) (j:=j) (by rw [List.length_take,nZ];omega) h
 rw [Bl h,←Gy h] at hw
 unfold eY
 generalize hs:([(0,iA (n:Int)),(6,.s (.osl 9 n)),(19,.v true (List.take (j*1) (tP n ((qh n).take j))++[.osl 17 n]++List.drop (j*1+1) (tP n ((qh n).take j)))),(20,iA (n:Int)),(22,iA ((j+1:Nat):Int)),(35,.v true ((zE n j).flatMap J.L))]:St)=s0
 have hk:look s0 (2*17+1)=some (.v true ((zE n j).flatMap J.L)):=by rw [←hs];rfl
 rw [hk]
 simp only [hd]
 have ho:outL s0 (.osl 17 n)= .sl true 6 n (bC (zE n j)):=by
  show (match look s0 (2*17+1) with
   |some (AV.v true ls)=>(match fD ls with
    |some ls'=>if 17<1000∧ls.length=n*(ls.length / n) then Lf.sl true (ls.length / n) n ls' else Lf.osl 17 n
    |none=>Lf.osl 17 n)
   |_=>Lf.osl 17 n)=_
  rw [hk]
  simp only [hd,hl,hq,Nat.reduceLT,and_self,if_true]
 have f1:=Gm (b:=17) (st:=s0) (Ff (Mh (n:=n) (l:=(qh n).take j)) (j*1))
 have f2:=Gm (b:=17) (st:=s0) (Fe (Mh (n:=n) (l:=(qh n).take j)) (j*1+1))
 have key:eI 17 s0 (.v true (List.take (j*1) (tP n ((qh n).take j))++[.osl 17 n]++List.drop (j*1+1) (tP n ((qh n).take j))))= .v true (tP n ((qh n).take (j+1))):=by
  show AV.v true (List.map (dt 17 s0) _)=_
  rw [List.map_append,List.map_append,f1,f2,List.map_cons,List.map_nil,rN,ho,←hw];rfl
 rw [←hs]
 show (0,_)::(6,_)::(19,eI 17 _ _)::(20,_)::(22,_)::[]=_
 rw [hs,key]
 rfl
theorem SF (n:Nat) (h:jR (n:Int) 1 4=true):Ct Tryz.prog 31 [iA (n:Int)] (·= .s (.sl true 1 (qh n).length ((qh n).map rC))):=by
 have hr:=tt h
 have c1:(0≤(n:Int))=True:=eq_true (by omega)
 have c2:((n:Int)≤1000)=True:=eq_true (by omega)
 have e0:(List.replicate n [Lf.lit (.slice none 0 0)]).flatten=tP n ([]:List (List J)):=(mB (cf:=fun r:List J=>[.sl true 6 r.length (bC r)]) (zf:=[.lit (.slice none 0 0)])).symm
 refine ak (O:=ai (aF cO (aF lQ jW))) (by kernel_rfl) ah (fun w=>aa (ab k9 (ab qY nQ)) _ w) [9999998,17,9999999,0,6,19,20,22,35] ((n+1)*300+200) 29 [.tmp 2] Tryz.func31 rfl Tryz.ntmps31 (by rw [Tryz.results31]) (by simp) rfl (fun hsm=>?_)
 simp (maxSteps:=10000000) only [go_sem,seval,reduceCtorEq,cO,lQ,jW,h,c1,c2,e0]
 refine aL 300 (fun j=>[(0,iA (n:Int)),(6,.s (.osl 9 n)),(19,.v true (tP n ((qh n).take j))),(20,iA (n:Int)),(22,iA (j:Int))]) n (fun j=>True) 0 (fun j _=>by simp only [List.all_cons,List.all_nil,bH,bx,Mg,Bool.and_true];rfl) (fun j mm _ hj _ ih=>?_) (by omega) trivial rfl
 have hlj:((qh n).take j).length=j:=by rw [List.length_take,nZ];omega
 rcases Nat.lt_or_ge j n with hlt |hge
 ·have hl:=vG (n:=n) (l:=(qh n).take j) (by omega)
  have d:=decide_eq_true (show (j:Int)<(n:Int) by omega)
  have g1:(j<n)=True:=eq_true hlt
  have g0:(0≤(j:Int))=True:=eq_true (by omega)
  have hw:=aN (j:=j) (by omega)
  have d0:((j:Int)<(n:Int))=True:=eq_true (by omega)
  have g3:(j*1+1≤n*1)=True:=eq_true (by omega)
  have g4:(j*6+6≤n*6)=True:=eq_true (by omega)
  have ld:=O3 (v:=Lf.osl 17 n) (C:=tP n ((qh n).take j)) (i:=j*1) (by omega)
  have hl2:=(Ll (v:=Lf.osl 17 n) (C:=tP n ((qh n).take j)) (i:=j*1) (by omega)).trans hl
  have hz:(List.replicate n ([.lit (.bool false),.lit (.int .i64 0),.ws [],.lit (.bool false),.lit (.int .i64 0),.ws []]:List Lf)).flatten.length=n*6:=wm rfl n
  have ec:List.take (j*6) (List.replicate n ([.lit (.bool false),.lit (.int .i64 0),.ws [],.lit (.bool false),.lit (.int .i64 0),.ws []]:List Lf)).flatten++[.lit (.bool (qx (fH 1 0)).s),.lit (.int .i64 (qx (fH 1 0)).e),.ws (qx (fH 1 0)).xs,.lit (.bool (qx (fH 1 0)).s),.lit (.int .i64 (qx (fH 1 0)).e),.ws (qx (fH 1 0)).xs]++List.drop (j*6+6) (List.replicate n ([.lit (.bool false),.lit (.int .i64 0),.ws [],.lit (.bool false),.lit (.int .i64 0),.ws []]:List Lf)).flatten=(zE n j).flatMap J.L:=Da hlt
  replace ih:=ih hlt trivial
  simp (maxSteps:=10000000) only [go_sem,seval,reduceCtorEq,cO,lQ,jW,hl,ld,hl2,hz,g3,g4,ec,d0,c1,c2,d,g0,g1,hw]
  repeat' with_reducible first |apply And.intro |apply condP<;>intro _
  all_goals first |(show ar _ _=true;kernel_rfl)|assumption |rfl |skip
  exact ih _ _ (Kb hlt)
 ·have hn:j=n:=by omega
  subst hn
  have d:=decide_eq_false (show ¬ (j:Int)<(j:Int) by omega)
  have hl:=vG (n:=j) (l:=qh j) (Nat.le_of_eq (nZ j))
  have ht:(qh j).take j=qh j:=by rw [List.take_of_length_le (Nat.le_of_eq (nZ j))]
  have hq:j*1 / j=1:=Nat.mul_div_cancel_left _ (by omega)
  have hdn:=Mf (n:=j) (l:=qh j) (nZ j)
  rw [ht]
  simp (maxSteps:=10000000) only [go_sem,seval,reduceCtorEq,d,hl,hq,hdn,nZ]
  repeat' with_reducible first |apply And.intro |apply condP<;>intro _
  all_goals first |(show ar _ _=true;kernel_rfl)|assumption |rfl |(simp only [go_sem, *]<;>rfl)
end
end Go.Proofs.YtpacpmmdjmnamaaGreatDoor
