/- Package ortho: what is right, rows and columns exchanged. -/
import Derived.Test.YtpacpmmdjmnamaaGreatDoorYAq1
import Derived.Test.YtpacpmmdjmnamaaGreatDoorYAl5
import Derived.Test.YtpacpmmdjmnamaaGreatDoorYAk7
namespace Go.Proofs.YtpacpmmdjmnamaaGreatDoor
set_option linter.unusedSimpArgs false
set_option linter.unusedVariables false
set_option maxHeartbeats 4000000
set_option maxRecDepth 100000
open Go.RowKit Nx
attribute [local irreducible] be
section
attribute [local go_sem] run dX X.L J.L vL X.eta J.eta Q.eta List.cons_append List.nil_append iH dU dV bW bX da nc dA iE eq aG bj aL aR bi cL cQ cR cM kZ jh hd1 pick bD inL aS bE dom fH kU nD evd okeys look dN di co cV lenOf fw jb qK jw qQ fv qf np qh qg nL pF eX jF eY jG bu nV keysOf aD ir jp jg olA olL ot nU mS nT dh jx one cT fi cu bq gG eO jf iO cH decide_true decide_false List.all_cons List.all_nil Bool.and_true Bool.and_self true_and and_true and_self List.length_cons List.length_nil List.drop_succ_cons List.drop_zero List.take_succ_cons List.take_zero List.getElem?_cons_zero List.getElem?_cons_succ List.map_cons List.map_nil false_implies true_implies Option.bind_some List.getElem?_toArray Bool.false_eq_true List.append_nil List.flatMap_cons List.flatMap_nil true_or or_true forall_const List.reverse_cons List.reverse_nil Option.isSome_some Option.any_some Nat.lt_irrefl not_true_eq_false Bool.not_true Bool.not_false imp_self implies_true Bool.not_eq_true' Bool.not_eq_false' Bool.true_eq_false fL jo lQ lV oq pR qo cO qw iJ fB sy Int.toNat_zero decide_eq_true_eq fW fX so sr BEq.rfl beq_self_eq_true Int.natCast_zero ge_iff_le gt_iff_lt Int.le_refl Nat.zero_mul Nat.one_mul Nat.zero_add Nat.zero_lt_succ Nat.lt_add_one Nat.le_refl List.append_eq Int.toNat_natCast gN pP pO gI ek kc gJ su sv ka ss cK cS cN cD pN fN okO je pT gH outPs ep outL fT rD aT aE aY aF jY iU bne_self_eq_false wr2 nM nN nO nP nQ nR gB gP nF nG nH gu cG bw cJ aN nE Lc.up pU List.replicate_succ List.replicate_zero List.flatten_cons List.flatten_nil Int.ofNat_lt Int.cast_ofNat_Int Int.ofNat_eq_natCast List.isEmpty_nil List.isEmpty_cons and_false false_and List.cons_ne_nil Nat.add_zero ite_true ite_false if_true if_false Nat.le_zero_eq eq_self Bool.and_false Bool.false_and Bool.true_and nY gA gE kg oO ip fF ed ef eA eg ite_self AV.s cond_true cond_false Bool.or_true Bool.true_or Bool.or_false Bool.false_or
attribute [local go_sem ↓] cond_true cond_false cw aW aX bI bJ bR bS aU aV bT bU bK bL bP bQ bG bH bM bN
def trn (m:List (List X)):List (List X):=(List.range m.length).map fun j=>m.map fun r=>r.getD j zX
def aA (m:List (List X)):List Lf:=m.flatMap fun r=>[.sl true 3 r.length (pC r)]
def GW (n:Nat) (m:List (List X)):Prop:=m.length=n∧∀ r∈m,r.length=n
theorem ce {α:Type} {l:List α} {n:Nat} (h:l.length=n+1):∃ a r,l=a::r∧r.length=n:=by
 cases l with
 |nil=>cases h
 |cons a r=>exact ⟨a,r,rfl,by simpa using h⟩
theorem iT {α:Type} {l:List α} (h:l.length=0):l=[]:=List.eq_nil_of_length_eq_zero h
theorem FN (x00:X):Gd Tryz.prog 58 [ji [[x00]]] (.one ⟨1,51,1,aA [[x00]]⟩):=by
 refine mh (O:=aD jx) (by kernel_rfl) az (fun w=>ao fZ _ w) [9999997,78,10,9999998,19,9999999,0,6,19,20,22,24,39,9999999,0,6,19,8,20,22,24,39,42,44,46] 1400 41 [.tmp 2] Tryz.func58 rfl Tryz.ntmps58 (by rw [Tryz.results58]) (by simp) rfl (fun hsm=>?_)
 simp (maxSteps:=10000000) only [go_sem,seval,reduceCtorEq,bv,ml,mi,rP,aA,ey,Option.isSome_none,eh,go,iI,dE,gW,fx]
 repeat' with_reducible first |apply And.intro |apply condP<;>intro _
 all_goals first |(show be _ _=true;kernel_rfl)|assumption |rfl |(simp only [go_sem, *]<;>rfl)
theorem FO (x00 x01 x10 x11:X):Gd Tryz.prog 58 [ji [[x00,x01],[x10,x11]]] (.one ⟨2,51,1,aA [[x00,x10],[x01,x11]]⟩):=by
 refine mh (O:=aD jx) (by kernel_rfl) az (fun w=>ao fZ _ w) [9999997,78,10,9999998,19,9999999,0,6,19,20,22,24,39,9999999,0,6,19,8,20,22,24,39,42,44,46] 3200 41 [.tmp 2] Tryz.func58 rfl Tryz.ntmps58 (by rw [Tryz.results58]) (by simp) rfl (fun hsm=>?_)
 simp (maxSteps:=10000000) only [go_sem,seval,reduceCtorEq,bv,ml,mi,rP,aA,ey,Option.isSome_none,eh,go,iI,dE,gW,fx]
 repeat' with_reducible first |apply And.intro |apply condP<;>intro _
 all_goals first |(show be _ _=true;kernel_rfl)|assumption |rfl |(simp only [go_sem, *]<;>rfl)
theorem FP (x00 x01 x02 x10 x11 x12 x20 x21 x22:X):Gd Tryz.prog 58 [ji [[x00,x01,x02],[x10,x11,x12],[x20,x21,x22]]] (.one ⟨3,51,1,aA [[x00,x10,x20],[x01,x11,x21],[x02,x12,x22]]⟩):=by
 refine mh (O:=aD jx) (by kernel_rfl) az (fun w=>ao fZ _ w) [9999997,78,10,9999998,19,9999999,0,6,19,20,22,24,39,9999999,0,6,19,8,20,22,24,39,42,44,46] 6200 41 [.tmp 2] Tryz.func58 rfl Tryz.ntmps58 (by rw [Tryz.results58]) (by simp) rfl (fun hsm=>?_)
 simp (maxSteps:=10000000) only [go_sem,seval,reduceCtorEq,bv,ml,mi,rP,aA,ey,Option.isSome_none,eh,go,iI,dE,gW,fx]
 repeat' with_reducible first |apply And.intro |apply condP<;>intro _
 all_goals first |(show be _ _=true;kernel_rfl)|assumption |rfl |(simp only [go_sem, *]<;>rfl)
theorem FQ (x00 x01 x02 x03 x10 x11 x12 x13 x20 x21 x22 x23 x30 x31 x32 x33:X):Gd Tryz.prog 58 [ji [[x00,x01,x02,x03],[x10,x11,x12,x13],[x20,x21,x22,x23],[x30,x31,x32,x33]]] (.one ⟨4,51,1,aA [[x00,x10,x20,x30],[x01,x11,x21,x31],[x02,x12,x22,x32],[x03,x13,x23,x33]]⟩):=by
 refine mh (O:=aD jx) (by kernel_rfl) az (fun w=>ao fZ _ w) [9999997,78,10,9999998,19,9999999,0,6,19,20,22,24,39,9999999,0,6,19,8,20,22,24,39,42,44,46] 10400 41 [.tmp 2] Tryz.func58 rfl Tryz.ntmps58 (by rw [Tryz.results58]) (by simp) rfl (fun hsm=>?_)
 simp (maxSteps:=10000000) only [go_sem,seval,reduceCtorEq,bv,ml,mi,rP,aA,ey,Option.isSome_none,eh,go,iI,dE,gW,fx]
 repeat' with_reducible first |apply And.intro |apply condP<;>intro _
 all_goals first |(show be _ _=true;kernel_rfl)|assumption |rfl |(simp only [go_sem, *]<;>rfl)
theorem Iz {m:List (List X)} {n:Nat} (h:GW n m) (h1:1≤n) (h4:n≤4):Gd Tryz.prog 58 [ji m] (.one ⟨n,51,1,aA (trn m)⟩):=by
 obtain ⟨hl,hr⟩:=h
 have hn:n=1∨n=2∨n=3∨n=4:=by omega
 rcases hn with rfl |rfl |rfl |rfl
 ·obtain ⟨r0,m0,rfl,hl0⟩:=ce hl
  obtain rfl:=iT hl0
  have q0:r0.length=1:=hr r0 (by simp)
  clear hr
  obtain ⟨x00,s00,rfl,p00⟩:=ce q0
  obtain rfl:=iT p00
  exact FN x00
 ·obtain ⟨r0,m0,rfl,hl0⟩:=ce hl
  obtain ⟨r1,m1,rfl,hl1⟩:=ce hl0
  obtain rfl:=iT hl1
  have q0:r0.length=2:=hr r0 (by simp)
  have q1:r1.length=2:=hr r1 (by simp)
  clear hr
  obtain ⟨x00,s00,rfl,p00⟩:=ce q0
  obtain ⟨x01,s01,rfl,p01⟩:=ce p00
  obtain rfl:=iT p01
  obtain ⟨x10,s10,rfl,p10⟩:=ce q1
  obtain ⟨x11,s11,rfl,p11⟩:=ce p10
  obtain rfl:=iT p11
  exact FO x00 x01 x10 x11
 ·obtain ⟨r0,m0,rfl,hl0⟩:=ce hl
  obtain ⟨r1,m1,rfl,hl1⟩:=ce hl0
  obtain ⟨r2,m2,rfl,hl2⟩:=ce hl1
  obtain rfl:=iT hl2
  have q0:r0.length=3:=hr r0 (by simp)
  have q1:r1.length=3:=hr r1 (by simp)
  have q2:r2.length=3:=hr r2 (by simp)
  clear hr
  obtain ⟨x00,s00,rfl,p00⟩:=ce q0
  obtain ⟨x01,s01,rfl,p01⟩:=ce p00
  obtain ⟨x02,s02,rfl,p02⟩:=ce p01
  obtain rfl:=iT p02
  obtain ⟨x10,s10,rfl,p10⟩:=ce q1
  obtain ⟨x11,s11,rfl,p11⟩:=ce p10
  obtain ⟨x12,s12,rfl,p12⟩:=ce p11
  obtain rfl:=iT p12
  obtain ⟨x20,s20,rfl,p20⟩:=ce q2
  obtain ⟨x21,s21,rfl,p21⟩:=ce p20
  obtain ⟨x22,s22,rfl,p22⟩:=ce p21
  obtain rfl:=iT p22
  exact FP x00 x01 x02 x10 x11 x12 x20 x21 x22
 ·obtain ⟨r0,m0,rfl,hl0⟩:=ce hl
  obtain ⟨r1,m1,rfl,hl1⟩:=ce hl0
  obtain ⟨r2,m2,rfl,hl2⟩:=ce hl1
  obtain ⟨r3,m3,rfl,hl3⟩:=ce hl2
  obtain rfl:=iT hl3
  have q0:r0.length=4:=hr r0 (by simp)
  have q1:r1.length=4:=hr r1 (by simp)
  have q2:r2.length=4:=hr r2 (by simp)
  have q3:r3.length=4:=hr r3 (by simp)
  clear hr
  obtain ⟨x00,s00,rfl,p00⟩:=ce q0
  obtain ⟨x01,s01,rfl,p01⟩:=ce p00
  obtain ⟨x02,s02,rfl,p02⟩:=ce p01
  obtain ⟨x03,s03,rfl,p03⟩:=ce p02
  obtain rfl:=iT p03
  obtain ⟨x10,s10,rfl,p10⟩:=ce q1
  obtain ⟨x11,s11,rfl,p11⟩:=ce p10
  obtain ⟨x12,s12,rfl,p12⟩:=ce p11
  obtain ⟨x13,s13,rfl,p13⟩:=ce p12
  obtain rfl:=iT p13
  obtain ⟨x20,s20,rfl,p20⟩:=ce q2
  obtain ⟨x21,s21,rfl,p21⟩:=ce p20
  obtain ⟨x22,s22,rfl,p22⟩:=ce p21
  obtain ⟨x23,s23,rfl,p23⟩:=ce p22
  obtain rfl:=iT p23
  obtain ⟨x30,s30,rfl,p30⟩:=ce q3
  obtain ⟨x31,s31,rfl,p31⟩:=ce p30
  obtain ⟨x32,s32,rfl,p32⟩:=ce p31
  obtain ⟨x33,s33,rfl,p33⟩:=ce p32
  obtain rfl:=iT p33
  exact FQ x00 x01 x02 x03 x10 x11 x12 x13 x20 x21 x22 x23 x30 x31 x32 x33
end
section
attribute [local go_sem] run dX X.L J.L vL X.eta J.eta Q.eta List.cons_append List.nil_append iH dU dV bW bX da nc dA iE eq aG bj aL aR bi cL cQ cR cM inL aS bE dom fH kU nD evd okeys look dN di co cV lenOf fw jb qK jw qQ fv qf np qh qg nL pF eX jF eY jG bu nV keysOf aD ir jp jg olA olL ot nU mS nT dh jx one cT fi cu bq gG eO jf iO cH decide_true decide_false List.all_cons List.all_nil Bool.and_true Bool.and_self true_and and_true and_self List.length_cons List.length_nil List.drop_succ_cons List.drop_zero List.take_succ_cons List.take_zero List.getElem?_cons_zero List.getElem?_cons_succ List.map_cons List.map_nil false_implies true_implies Option.bind_some List.getElem?_toArray Bool.false_eq_true List.append_nil List.flatMap_cons List.flatMap_nil true_or or_true forall_const List.reverse_cons List.reverse_nil Option.isSome_some Option.any_some Nat.lt_irrefl not_true_eq_false Bool.not_true Bool.not_false imp_self implies_true Bool.not_eq_true' Bool.not_eq_false' Bool.true_eq_false fL jo lQ lV oq pR qo cO qw iJ fB sy Int.toNat_zero decide_eq_true_eq fW fX so sr BEq.rfl beq_self_eq_true Int.natCast_zero ge_iff_le gt_iff_lt Int.le_refl Nat.zero_mul Nat.one_mul Nat.zero_add Nat.zero_lt_succ Nat.lt_add_one Nat.le_refl List.append_eq Int.toNat_natCast gN pP pO gI ek kc gJ su sv ka ss cK cS cN cD pN fN okO je pT gH outPs ep outL fT rD aT aE aY aF bne_self_eq_false wr2 nM nN nO nP nQ nR gB gP nF nG nH gu cG bw cJ aN nE Lc.up pU List.replicate_succ List.replicate_zero List.flatten_cons List.flatten_nil Int.ofNat_lt Int.cast_ofNat_Int Int.ofNat_eq_natCast List.isEmpty_nil List.isEmpty_cons and_false false_and List.cons_ne_nil Nat.add_zero ite_true ite_false if_true if_false Nat.le_zero_eq eq_self Bool.and_false Bool.false_and Bool.true_and nY gA gE kg oO ip fF ed ef eA eg ite_self AV.s cond_true cond_false Bool.or_true Bool.true_or Bool.or_false Bool.false_or
attribute [local go_sem ↓] cond_true cond_false cw aW aX bI bJ bR bS aU aV bT bU bK bL bP bQ bG bH bM bN
theorem ng {m:List (List X)} {j:Nat} {r:List X} (h:m[j]? =some r):List.take 1 (List.drop (j*1) (List.map rP m))=[Lc.sl 3 r.length (pC r)]:=by
 rw [Nat.mul_one,←List.map_drop,←List.map_take]
 have hlt:j<m.length:=(List.getElem?_eq_some_iff.1 h).1
 rw [List.drop_eq_getElem_cons hlt,List.take_succ_cons,List.take_zero,(List.getElem?_eq_some_iff.1 h).2]
 rfl
def rowQ (n:Nat) (r:List X):Bool:=bif ((r.length:Int)!=(n:Int)) then false else r.all X.ok
def ft (m:List (List X)) (z:Int):Bool:=bif decide ((m.length:Int)<1) then false else bif decide (4<(m.length:Int)) then false else bif decide (z<8) then false else bif decide (256<z) then false else m.all (rowQ m.length)
theorem jD {m:List (List X)} {z:Int} (h:ft m z=true):GW m.length m∧(1≤m.length∧m.length≤4)∧(8≤z∧z≤256)∧∀ r∈m,∀ x∈r,X.ok x=true:=by
 unfold ft at h
 cases h1:decide ((m.length:Int)<1) with
 |true=>rw [h1] at h;cases h
 |false=>
 rw [h1,cond_false] at h
 cases h2:decide (4<(m.length:Int)) with
 |true=>rw [h2] at h;cases h
 |false=>
 rw [h2,cond_false] at h
 cases h3:decide (z<8) with
 |true=>rw [h3] at h;cases h
 |false=>
 rw [h3,cond_false] at h
 cases h4:decide (256<z) with
 |true=>rw [h4] at h;cases h
 |false=>
 rw [h4,cond_false] at h
 have h1:=of_decide_eq_false h1
 have h2:=of_decide_eq_false h2
 have h3:=of_decide_eq_false h3
 have h4:=of_decide_eq_false h4
 have h5:=List.all_eq_true.1 h
 have h6:∀ r∈m,r.length=m.length∧r.all X.ok=true:=fun r hr=>by
  have:=h5 r hr
  unfold rowQ at this
  cases h7:((r.length:Int)!=(m.length:Int)) with
  |true=>rw [h7] at this;cases this
  |false=>rw [h7,cond_false] at this;exact ⟨by
      have:(r.length:Int)=(m.length:Int):=by simpa using h7
      omega,this⟩
 exact ⟨⟨rfl,fun r hr=>(h6 r hr).1⟩,⟨by omega,by omega⟩,⟨by omega,by omega⟩,fun r hr=>List.all_eq_true.1 (h6 r hr).2⟩
theorem FI (m:List (List X)) (z:Int) (c0:decide ((m.length:Int)<1)=true):Ct Tryz.prog 57 [ji m,iA z] (·=bA false):=by
 refine bF (O:=aD bz) (by kernel_rfl) az (fun w=>ao eU _ w) [] 600 47 [.tmp 4] Tryz.func57 rfl Tryz.ntmps57 (by rw [Tryz.results57]) (by simp) rfl (fun hsm=>?_)
 simp (maxSteps:=10000000) only [go_sem,seval,reduceCtorEq,bv,bz,c0,jY,iU,kZ,jh,hd1,pick,bD,go,iI,dE,gW,fx]
 repeat' with_reducible first |apply And.intro |apply condP<;>intro _
 all_goals first |(show be _ _=true;kernel_rfl)|assumption |rfl |(simp only [go_sem, *]<;>rfl)
theorem FJ (m:List (List X)) (z:Int) (c0:decide ((m.length:Int)<1)=false) (c1:decide (4<(m.length:Int))=true):Ct Tryz.prog 57 [ji m,iA z] (·=bA false):=by
 refine bF (O:=aD bz) (by kernel_rfl) az (fun w=>ao eU _ w) [] 600 47 [.tmp 4] Tryz.func57 rfl Tryz.ntmps57 (by rw [Tryz.results57]) (by simp) rfl (fun hsm=>?_)
 simp (maxSteps:=10000000) only [go_sem,seval,reduceCtorEq,bv,bz,c0,c1,jY,iU,kZ,jh,hd1,pick,bD,go,iI,dE,gW,fx]
 repeat' with_reducible first |apply And.intro |apply condP<;>intro _
 all_goals first |(show be _ _=true;kernel_rfl)|assumption |rfl |(simp only [go_sem, *]<;>rfl)
theorem FK (m:List (List X)) (z:Int) (c0:decide ((m.length:Int)<1)=false) (c1:decide (4<(m.length:Int))=false) (c2:decide (z<8)=true):Ct Tryz.prog 57 [ji m,iA z] (·=bA false):=by
 refine bF (O:=aD bz) (by kernel_rfl) az (fun w=>ao eU _ w) [] 600 47 [.tmp 4] Tryz.func57 rfl Tryz.ntmps57 (by rw [Tryz.results57]) (by simp) rfl (fun hsm=>?_)
 simp (maxSteps:=10000000) only [go_sem,seval,reduceCtorEq,bv,bz,c0,c1,c2,jY,iU,kZ,jh,hd1,pick,bD,go,iI,dE,gW,fx]
 repeat' with_reducible first |apply And.intro |apply condP<;>intro _
 all_goals first |(show be _ _=true;kernel_rfl)|assumption |rfl |(simp only [go_sem, *]<;>rfl)
theorem FL (m:List (List X)) (z:Int) (c0:decide ((m.length:Int)<1)=false) (c1:decide (4<(m.length:Int))=false) (c2:decide (z<8)=false) (c3:decide (256<z)=true):Ct Tryz.prog 57 [ji m,iA z] (·=bA false):=by
 refine bF (O:=aD bz) (by kernel_rfl) az (fun w=>ao eU _ w) [] 600 47 [.tmp 4] Tryz.func57 rfl Tryz.ntmps57 (by rw [Tryz.results57]) (by simp) rfl (fun hsm=>?_)
 simp (maxSteps:=10000000) only [go_sem,seval,reduceCtorEq,bv,bz,c0,c1,c2,c3,jY,iU,kZ,jh,hd1,pick,bD,go,iI,dE,gW,fx]
 repeat' with_reducible first |apply And.intro |apply condP<;>intro _
 all_goals first |(show be _ _=true;kernel_rfl)|assumption |rfl |(simp only [go_sem, *]<;>rfl)
theorem Cw (m:List (List X)) (z:Int) (c0:decide ((m.length:Int)<1)=false) (c1:decide (4<(m.length:Int))=false) (c2:decide (z<8)=false) (c3:decide (256<z)=false):Ct Tryz.prog 57 [ji m,iA z] (·=bA (m.all (rowQ m.length))):=by
 refine bF (O:=aD bz) (by kernel_rfl) az (fun w=>ao eU _ w) [9999997,92,7,9999999,0,2,10,52,54,56,9999999,0,2,10,52,54,56,14,72,74,76] ((m.length+1)*3000+500) 47 [.tmp 4] Tryz.func57 rfl Tryz.ntmps57 (by rw [Tryz.results57]) (by simp) rfl (fun hsm=>?_)
 have hl1:1≤m.length:=by have:=of_decide_eq_false c0;omega
 have hl4:m.length≤4:=by have:=of_decide_eq_false c1;omega
 simp (maxSteps:=10000000) only [go_sem,seval,reduceCtorEq,bv,bz,c0,c1,c2,c3]
 refine aP 3000 (fun i=>[(0,ji m),(2,iA z),(10,iA (m.length:Int)),(52,ji m),(54,iA (m.length:Int)),(56,iA (i:Int))]) m.length (fun i=>(m.take i).all (rowQ m.length)=true) 0 (fun i _=>rfl) (fun i m1 _ hi hI ih=>?_) (by omega) rfl rfl
 rcases Nat.lt_or_ge i m.length with hlt |hge
 ·have hx:=ba [] hlt
  generalize m.getD i []=r at hx
  have ht:m.take (i+1)=m.take i++[r]:=by rw [List.take_add_one,hx];rfl
  have e1:=ng hx
  have d:=decide_eq_true (show (i:Int)<(m.length:Int) by omega)
  have g1:(i<m.length)=True:=eq_true hlt
  have g0:(0≤(i:Int))=True:=eq_true (by omega)
  have hw:=aZ (j:=i) (by omega)
  have hbad:rowQ m.length r=false→m.all (rowQ m.length)=false:=fun h=>List.all_eq_false.2 ⟨r,List.mem_of_getElem? hx,by rw [h];simp⟩
  cases hq:((r.length:Int)!=(m.length:Int)) with
  |true=>
   rw [hbad (by unfold rowQ;rw [hq];rfl)]
   simp (maxSteps:=10000000) only [go_sem,seval,reduceCtorEq,bv,bz,d,g0,g1,e1,hw,hq]
   repeat' with_reducible first |apply And.intro |apply condP<;>intro _
   all_goals first |(show be _ _=true;kernel_rfl)|assumption |rfl |(simp only [go_sem, *]<;>rfl)
  |false=>
   have hrl:r.length=m.length:=by
       have:(r.length:Int)=(m.length:Int):=by simpa using hq
       omega
   have hrq:rowQ m.length r=r.all X.ok:=by unfold rowQ;rw [hq];rfl
   simp (maxSteps:=10000000) only [go_sem,seval,reduceCtorEq,bv,bz,d,g0,g1,e1,hw,hq]
   refine aP 500 (fun j=>[(0,ji m),(2,iA z),(10,iA (m.length:Int)),(52,ji m),(54,iA (m.length:Int)),(56,iA (i:Int)),(14,eM r),(72,eM r),(74,iA (r.length:Int)),(76,iA (j:Int))]) r.length (fun j=>(r.take j).all X.ok=true) m1 (fun j _=>rfl) (fun j m2 hL2 hj hJ ihJ=>?_) (by omega) rfl rfl
   obtain ⟨r2,rfl⟩:=Nat.exists_eq_add_of_le hL2
   rcases Nat.lt_or_ge j r.length with hlt2 |hge2
   ·have hy:=ba zX hlt2
    generalize r.getD j zX=x at hy
    have ht2:r.take (j+1)=r.take j++[x]:=by rw [List.take_add_one,hy];rfl
    have e2:=fq hy
    have d2:=decide_eq_true (show (j:Int)<(r.length:Int) by omega)
    have h1:(j<r.length)=True:=eq_true hlt2
    have h0:(0≤(j:Int))=True:=eq_true (by omega)
    have hw2:=aZ (j:=j) (by omega)
    cases hok:x.ok with
    |false=>
     rw [hbad (by rw [hrq];exact List.all_eq_false.2 ⟨x,List.mem_of_getElem? hy,by rw [hok];simp⟩)]
     simp (maxSteps:=10000000) only [go_sem,seval,reduceCtorEq,bv,bz,ey,Option.isSome_none,d2,h0,h1,e2,hw2,hok]
     repeat' with_reducible first |apply And.intro |apply condP<;>intro _
     all_goals first |(show be _ _=true;kernel_rfl)|assumption |rfl |(simp only [go_sem, *]<;>rfl)
    |true=>
     replace ihJ:=ihJ hlt2 (by rw [ht2,List.all_append,hJ,List.all_cons,hok];rfl)
     simp (maxSteps:=10000000) only [go_sem,seval,reduceCtorEq,bv,bz,ey,Option.isSome_none,d2,h0,h1,e2,hw2,hok]
     repeat' with_reducible first |apply And.intro |apply condP<;>intro _
     all_goals first |(show be _ _=true;kernel_rfl)|(exact ihJ _ _ rfl)|assumption |rfl
   ·obtain rfl:j=r.length:=by omega
    rw [List.take_length] at hJ
    replace ih:=ih hlt (by rw [ht,List.all_append,hI,List.all_cons,hrq,hJ];rfl)
    have d2:decide ((r.length:Int)<(r.length:Int))=false:=decide_eq_false (by omega)
    simp (maxSteps:=10000000) only [go_sem,seval,reduceCtorEq,bv,bz,ey,Option.isSome_none,d2,hw]
    repeat' with_reducible first |apply And.intro |apply condP<;>intro _
    all_goals first |(show be _ _=true;kernel_rfl)|(rw [Nat.add_assoc];exact ih _ _ rfl)|assumption |rfl
 ·obtain rfl:i=m.length:=by omega
  rw [List.take_length] at hI
  rw [hI]
  have d:decide ((m.length:Int)<(m.length:Int))=false:=decide_eq_false (by omega)
  simp (maxSteps:=10000000) only [go_sem,seval,reduceCtorEq,bv,bz,d]
  repeat' with_reducible first |apply And.intro |apply condP<;>intro _
  all_goals first |(show be _ _=true;kernel_rfl)|assumption |rfl |(simp only [go_sem, *]<;>rfl)
theorem JV (m:List (List X)) (z:Int):Ct Tryz.prog 57 [ji m,iA z] (·=bA (ft m z)):=by
 unfold ft
 cases c0:decide ((m.length:Int)<1) with
 |true=>exact FI m z c0
 |false=>
 cases c1:decide (4<(m.length:Int)) with
 |true=>exact FJ m z c0 c1
 |false=>
 cases c2:decide (z<8) with
 |true=>exact FK m z c0 c1 c2
 |false=>
 cases c3:decide (256<z) with
 |true=>exact FL m z c0 c1 c2 c3
 |false=>
 exact Cw m z c0 c1 c2 c3
noncomputable def dz:fR:=one 57 (gA vN fun m=>gA kg fun z=>gE (True,bA (ft m z)))
theorem lY:TbOK Tryz.prog dz:=fM (ew Tryz.func57 (by kernel_rfl) rfl) (.a kq fun m=>.a iq fun z=>.e fun _=>JV m z)
theorem pA {g:Q→Q→Q×Int} (hg:∀ a b,aH (g a b).1) {z:Int} {x y:X}:aH (an g z x y).1:=by
 have h0:aH q0:=⟨fm,by decide,by decide,by decide⟩
 unfold an iF
 split
 ·exact hg _ _
 ·exact h0
theorem Bq {z:Int} {b:Bool} (x y:Q):aH (eB z b x y).1:=CY (dT _ _ _)
theorem Bs {z:Int} {b:Bool} (x y:Q):aH (jQ z b x y).1:=CY (dT _ _ _)
theorem Br {z:Int} {b:Bool} (x y:Q):aH (bf z b x y).1:=CY (dT _ _ _)
theorem FC {z:Int} {c x y:X} (h:(gy z c x y).2=0):GX (gy z c x y).1:=by
 unfold gy at h ⊢
 cases hM:(an (bf z false) z c x).2 !=0 with
 |true=>
  rw [hM,cond_true] at h
  have h:(an (bf z false) z c x).2=0:=h
  rw [h] at hM;cases hM
 |false=>exact uW (pA Bs)
theorem AR (x:X) (k:Int):GX (qx (ar x k).1):=by
 refine uW ?_
 unfold ar mR
 split
 ·exact CY (gD _ _ _)
 ·exact ⟨fm,by decide,by decide,by decide⟩
theorem sV {α:Type} {F:Nat→α×Int} {n:Nat} {p:α→Prop} (h:(eachN F n).2=0) (hp:∀ j,j<n→(F j).2=0→p (F j).1):∀ a∈(eachN F n).1,p a:=by
 intro a ha
 obtain ⟨i,hi,e⟩:=List.getElem_of_mem ha
 have hl:=eK h
 obtain ⟨h1,h2⟩:=xd h i (by omega)
 rw [List.getElem?_eq_getElem hi] at h2
 injection h2 with h2
 rw [←e,h2]
 exact hp i (by omega) h1
theorem GD {z:Int} {v u:List X} (h:(witS z v u).2=0):(witS z v u).1.length=u.length∧∀ x∈(witS z v u).1,GX x:=by
 unfold witS at h ⊢
 cases he:(facS z v u).2 !=0 with
 |true=>
  rw [he,cond_true] at h
  have h:(facS z v u).2=0:=h
  rw [h] at he;cases he
 |false=>
  rw [he,cond_false] at h
  exact ⟨eK h,sV h fun j _ hj=>FC hj⟩
theorem Gn {v:List X} (h:(scaS v).2=0):(scaS v).1.length=v.length∧∀ x∈(scaS v).1,GX x:=by
 unfold scaS at h ⊢
 cases he:dF (grN v v.length)==0 with
 |true=>rw [he,cond_true] at h;cases h
 |false=>
  rw [he,cond_false] at h
  exact ⟨eK h,sV h fun j _ _=>AR _ _⟩
theorem gx_nil:GX zX:=by
 rw [←um];exact uW (q:=q0) ⟨fm,by decide,by decide,by decide⟩
theorem DP {v:List X} (hv:∀ x∈v,GX x):∀ j,GX (grN v j):=by
 intro j
 have h0:GX zX:=gx_nil
 induction j with
 |zero=>exact h0
 |succ j ih=>
  show GX (bif _ then _ else _)
  cases decide (0<cmpx (qx (absx (v.getD j zX))) (grN v j)) with
  |false=>exact ih
  |true=>
   rw [cond_true]
   rcases Nat.lt_or_ge j v.length with h |h
   ·exact (yB (hv _ (List.mem_of_getElem? (ba zX h)))).1
   ·rw [List.getD_eq_getElem?_getD,List.getElem?_eq_none h];exact (yB h0).1
theorem Fx {v:List X} (hv:∀ x∈v,GX x) (h:(dF (grN v v.length)==0)=false):(grN v v.length).ok=true∧0<(grN v v.length).xs.length:=by
 have h1:=DP hv v.length
 refine ⟨h1.1,?_⟩
 rcases Nat.eq_zero_or_pos (grN v v.length).xs.length with h2 |h2
 ·exfalso
  have h3:=List.eq_nil_of_length_eq_zero h2
  have:dF (grN v v.length)=0:=by
   unfold dF
   rw [if_pos h1.1]
   unfold X.q
   rw [h3]
   unfold signq nval
   rfl
  rw [this] at h;cases h
 ·exact h2
end
section
attribute [local go_sem] run dX X.L J.L vL X.eta J.eta Q.eta List.cons_append List.nil_append iH dU dV bW bX da nc dA iE eq aG bj aL aR bi cL cQ cR cM inL aS bE dom fH kU nD evd okeys look dN di co cV lenOf fw jb qK jw qQ fv qf np qh qg nL pF eX jF eY jG bu nV keysOf aD ir jp jg olA olL ot nU mS nT dh jx one cT fi cu bq gG eO jf iO cH decide_true decide_false List.all_cons List.all_nil Bool.and_true Bool.and_self true_and and_true and_self List.length_cons List.length_nil List.drop_succ_cons List.drop_zero List.take_succ_cons List.take_zero List.getElem?_cons_zero List.getElem?_cons_succ List.map_cons List.map_nil false_implies true_implies Option.bind_some List.getElem?_toArray Bool.false_eq_true List.append_nil List.flatMap_cons List.flatMap_nil true_or or_true forall_const List.reverse_cons List.reverse_nil Option.isSome_some Option.any_some Nat.lt_irrefl not_true_eq_false Bool.not_true Bool.not_false imp_self implies_true Bool.not_eq_true' Bool.not_eq_false' Bool.true_eq_false fL jo lQ lV oq pR qo cO qw iJ fB sy Int.toNat_zero decide_eq_true_eq fW fX so sr BEq.rfl beq_self_eq_true Int.natCast_zero ge_iff_le gt_iff_lt Int.le_refl Nat.zero_mul Nat.one_mul Nat.zero_add Nat.zero_lt_succ Nat.lt_add_one Nat.le_refl List.append_eq Int.toNat_natCast gN pP pO gI ek kc gJ su sv ka ss cK cS cN cD pN fN okO je pT gH outPs ep outL fT rD aT aE aY aF bne_self_eq_false wr2 nM nN nO nP nQ nR gB gP nF nG nH gu cG bw cJ aN nE Lc.up pU List.replicate_succ List.replicate_zero List.flatten_cons List.flatten_nil Int.ofNat_lt Int.cast_ofNat_Int Int.ofNat_eq_natCast List.isEmpty_nil List.isEmpty_cons and_false false_and List.cons_ne_nil Nat.add_zero ite_true ite_false if_true if_false Nat.le_zero_eq eq_self Bool.and_false Bool.false_and Bool.true_and nY gA gE kg oO ip fF ed ef eA eg ite_self AV.s cond_true cond_false Bool.or_true Bool.true_or Bool.or_false Bool.false_or
attribute [local go_sem ↓] cond_true cond_false cw aW aX bI bJ bR bS aU aV bT bU bK bL bP bQ bG bH bM bN
theorem mH {m:List (List X)} {j:Nat} {r:List X} (h:m[j]? =some r):(aA m)[j*1]? =some (.sl true 3 r.length (pC r)):=by
 rw [Nat.mul_one]
 unfold aA
 rw [zh,List.getElem?_map,h];rfl
theorem iB (m:List (List X)):(aA m).length=m.length*1:=zg (s:=1) (fun _=>rfl) m
theorem dy (m:List (List X)):(aA m).all bu=true:=fI (fun _=>rfl) m
theorem fO (m:List (List X)):(aA m).all iO=true:=fI (fun _=>rfl) m
theorem dw (st:St) (m:List (List X)):(aA m).all (bE st)=true:=fI (p:=bE st) (fun _=>rfl) m
theorem eN (m:List (List X)):fT (aA m)=some (m.map rP):=by rw [←zh];exact yY (fun _=>rfl) m
theorem Db:∀ (m:List (List X)),jg (aA m)=some (m.map rP):=by
 intro m
 induction m with
 |nil=>rfl
 |cons a m ih=>
  show (match jg (aA m) with
   |some k=>some (Lc.sl 3 a.length (pC a)::k)
   |none=>none)=_
  rw [ih];rfl
theorem AJ {A v:List (List X)} {j:Nat} (y:List X) (h:A.length=j) (hj:j<v.length):List.take (j*1) (aA (de A v))++[.sl true 3 y.length (pC y)]++List.drop (j*1+1) (aA (de A v))=aA (de (A++[y]) v):=by
 subst h
 have e1:(aA A).length=A.length*1:=iB A
 have e0:∀ a b,aA (a++b)=aA a++aA b:=fun a b=>List.flatMap_append
 unfold de
 rw [List.length_append,List.length_singleton,e0,←e1,List.take_left,List.drop_append,List.drop_eq_nil_of_le (by omega),List.nil_append,List.drop_eq_getElem_cons hj,e0,e0]
 congr 1
 rw [show (aA A).length+1 - (aA A).length=1 by omega]
 rfl
theorem Cn {α:Type} {A v:List α} {i:Nat} (h:i<A.length):(de A v)[i]? =A[i]?:=List.getElem?_append_left h
noncomputable def witN (z:Int) (us:List (List X)) (v:List X):Nat→List X×Int
 |0=>(v,0)
 |i+1=>bif (witN z us v i).2 !=0 then ([],(witN z us v i).2) else witS z (witN z us v i).1 (us.getD i [])
theorem pL {z:Int} {us:List (List X)} {v:List X} {i n:Nat} {e:Int} (h:witN z us v (i+1)=([],e)) (he:(e !=0)=true) (hn:i<n):witN z us v n=([],e):=by
 induction n with
 |zero=>omega
 |succ n ih=>
  rcases Nat.lt_or_ge i n with h1 |h1
  ·show (bif _ then _ else _)=_
   rw [ih h1]
   show (bif e !=0 then _ else _)=_
   rw [he];rfl
  ·obtain rfl:i=n:=by omega
   exact h
noncomputable def colN (z:Int) (t:List (List X)):Nat→List (List X)×Int
 |0=>([],0)
 |k+1=>bif (colN z t k).2 !=0 then ([],(colN z t k).2) else
  bif (witN z (colN z t k).1 (t.getD k []) k).2 !=0 then ([],(witN z (colN z t k).1 (t.getD k []) k).2) else
  bif (scaS (witN z (colN z t k).1 (t.getD k []) k).1).2 !=0 then ([],(scaS (witN z (colN z t k).1 (t.getD k []) k).1).2) else
  ((colN z t k).1++[(scaS (witN z (colN z t k).1 (t.getD k []) k).1).1],0)
theorem sM {z:Int} {t:List (List X)} {k n:Nat} {e:Int} (h:colN z t (k+1)=([],e)) (he:(e !=0)=true) (hn:k<n):colN z t n=([],e):=by
 induction n with
 |zero=>omega
 |succ n ih=>
  rcases Nat.lt_or_ge k n with h1 |h1
  ·show (bif _ then _ else _)=_
   rw [ih h1]
   show (bif e !=0 then _ else _)=_
   rw [he];rfl
  ·obtain rfl:k=n:=by omega
   exact h
noncomputable def colsS (z:Int) (m:List (List X)):List (List X)×Int:=bif ft m z then (bif (colN z (trn m) m.length).2 !=0 then ([],(colN z (trn m) m.length).2) else (trn (colN z (trn m) m.length).1,0)) else ([],1)
theorem oA {z:Int} {us:List (List X)} {v:List X} {n:Nat} (hv:v.length=n∧∀ x∈v,GX x) (hu:∀ r∈us,r.length=n):∀ i,i≤us.length→(witN z us v i).2=0→(witN z us v i).1.length=n∧∀ x∈(witN z us v i).1,GX x:=by
 intro i
 induction i with
 |zero=>intro _ _;exact hv
 |succ i _=>
  intro hi h
  have e:witN z us v (i+1)=bif (witN z us v i).2 !=0 then ([],(witN z us v i).2) else witS z (witN z us v i).1 (us.getD i []):=rfl
  cases hw:(witN z us v i).2 !=0 with
  |true=>
   rw [e,hw,cond_true] at h
   have h:(witN z us v i).2=0:=h
   rw [h] at hw;cases hw
  |false=>
   rw [hw,cond_false] at e
   rw [e] at h ⊢
   have:=GD h
   rw [hu _ (List.mem_of_getElem? (ba [] (show i<us.length by omega)))] at this
   exact this
theorem rn {z:Int} {t:List (List X)} {n:Nat} (ht:∀ r∈t,r.length=n∧∀ x∈r,GX x):∀ k,k≤t.length→(colN z t k).2=0→(colN z t k).1.length=k∧∀ r∈(colN z t k).1,r.length=n∧∀ x∈r,GX x:=by
 intro k
 induction k with
 |zero=>intro _ _;exact ⟨rfl,fun r hr=>by cases hr⟩
 |succ k ih=>
  intro hk h
  have e:colN z t (k+1)=bif (colN z t k).2 !=0 then ([],(colN z t k).2) else
   bif (witN z (colN z t k).1 (t.getD k []) k).2 !=0 then ([],(witN z (colN z t k).1 (t.getD k []) k).2) else
   bif (scaS (witN z (colN z t k).1 (t.getD k []) k).1).2 !=0 then ([],(scaS (witN z (colN z t k).1 (t.getD k []) k).1).2) else
   ((colN z t k).1++[(scaS (witN z (colN z t k).1 (t.getD k []) k).1).1],0):=rfl
  have bad:∀ q:Int,(q !=0)=true→¬ (q=0):=fun q hq e=>by rw [e] at hq;cases hq
  cases h1:(colN z t k).2 !=0 with
  |true=>rw [e,h1,cond_true] at h;exact absurd h (bad _ h1)
  |false=>
   rw [h1,cond_false] at e
   have h10:(colN z t k).2=0:=by simpa using h1
   obtain ⟨i1,i2⟩:=ih (by omega) h10
   cases h2:(witN z (colN z t k).1 (t.getD k []) k).2 !=0 with
   |true=>rw [e,h2,cond_true] at h;exact absurd h (bad _ h2)
   |false=>
    rw [h2,cond_false] at e
    cases h3:(scaS (witN z (colN z t k).1 (t.getD k []) k).1).2 !=0 with
    |true=>rw [e,h3,cond_true] at h;exact absurd h (bad _ h3)
    |false=>
     rw [h3,cond_false] at e
     rw [e]
     have h20:(witN z (colN z t k).1 (t.getD k []) k).2=0:=by simpa using h2
     have h30:(scaS (witN z (colN z t k).1 (t.getD k []) k).1).2=0:=by simpa using h3
     have j1:=oA (ht _ (List.mem_of_getElem? (ba [] (show k<t.length by omega)))) (fun r hr=>(i2 r hr).1) k (by omega) h20
     have j2:=Gn h30
     refine ⟨by rw [List.length_append,i1];rfl,fun r hr=>?_⟩
     rcases List.mem_append.1 hr with h4 |h4
     ·exact i2 r h4
     ·rw [List.mem_singleton] at h4;subst h4;exact ⟨by rw [j2.1,j1.1],j2.2⟩
theorem iW (m:List (List X)):(trn m).length=m.length:=by unfold trn;simp
theorem kM {m:List (List X)}:∀ r∈trn m,r.length=m.length:=by
 intro r hr
 unfold trn at hr
 obtain ⟨j,_,rfl⟩:=List.mem_map.1 hr
 simp
theorem vC {m:List (List X)} (h:∀ r∈m,∀ x∈r,GX x):∀ r∈trn m,∀ x∈r,GX x:=by
 intro r hr x hx
 unfold trn at hr
 obtain ⟨j,_,rfl⟩:=List.mem_map.1 hr
 obtain ⟨s,hs,rfl⟩:=List.mem_map.1 hx
 rcases Nat.lt_or_ge j s.length with h1 |h1
 ·exact h s hs _ (List.mem_of_getElem? (ba zX h1))
 ·rw [List.getD_eq_getElem?_getD,List.getElem?_eq_none h1];exact gx_nil
def oW:List AV→Option (Prop×GR):=uA vN fun m=>uE (GW m.length m∧1≤m.length∧m.length≤4,.one ⟨m.length,51,1,aA (trn m)⟩)
theorem wh (w:World):OrOK Tryz.prog (eo 58 oW) (fun _=>False) w:=zn (ew Tryz.func58 (by kernel_rfl) rfl) (GdT.a kq fun m=>GdT.e fun h=>Iz h.1 h.2.1 h.2.2)
theorem zb {α:Type} {F:Nat→α×Int} {n:Nat} (h:((eachN F n).2 !=0)=true):eachN F n=([],(eachN F n).2):=by
 induction n with
 |zero=>cases h
 |succ n ih=>
  have e:eachN F (n+1)=bif (eachN F n).2 !=0 then eachN F n else bif (F n).2 !=0 then ([],(F n).2) else ((eachN F n).1++[(F n).1],0):=rfl
  cases h1:(eachN F n).2 !=0 with
  |true=>rw [e,h1,cond_true];exact ih h1
  |false=>
   rw [h1,cond_false] at e
   cases h2:(F n).2 !=0 with
   |true=>rw [e,h2];rfl
   |false=>rw [e,h2] at h;cases h
theorem wN {z:Int} {v u:List X} (h:((witS z v u).2 !=0)=true):witS z v u=([],(witS z v u).2):=by
 unfold witS at h ⊢
 cases he:(facS z v u).2 !=0 with
 |true=>rfl
 |false=>
  rw [he,cond_false] at h
  rw [cond_false]
  exact zb h
theorem vY (x:List (List X)×Int):Hm (bB rP x) (Ge x):=by
 obtain ⟨l,e⟩:=x
 cases l with
 |nil=>exact sj (fun _ _ _ _ h=>zN h) rfl
 |cons a l=>exact sj (fun _ _ _ _ h=>h) rfl
theorem Cv (m:List (List X)) (z:Int) (hr:ft m z=false):Ct Tryz.prog 22 [ji m,iA z] (·=bB rP ([],1)):=by
 refine bF (O:=fB (eo 58 oW) (aD (dh dz (dh fD fC)))) (by kernel_rfl) az (fun w=>kx (wh w) (ao (av lY (av oL oK)) _ w) (fun _ _ _=>fy fun _=>bZ (aK (by decide)) (bZ (aK (by decide)) (aK (by decide))))) [] 600 59 [.tmp 4,.tmp 5] Tryz.func22 rfl Tryz.ntmps22 (by rw [Tryz.results22]) (by simp) rfl (fun hsm=>?_)
 simp (maxSteps:=10000000) only [go_sem,seval,reduceCtorEq,bv,dz,fD,fC,eo,oW,uA,uE,fV,bB,hr,jY,iU,kZ,jh,hd1,pick,bD,go,iI,dE,gW,fx]
 repeat' with_reducible first |apply And.intro |apply condP<;>intro _
 all_goals first |(show be _ _=true;kernel_rfl)|assumption |rfl |(simp only [go_sem, *]<;>rfl)
theorem zV (m:List (List X)) (z:Int) (hr:ft m z=true) (hg:∀ r∈m,∀ x∈r,GX x):Ct Tryz.prog 22 [ji m,iA z] (·=bB rP (colsS z m)):=by
 refine bF (O:=fB (eo 58 oW) (aD (dh dz (dh fD fC)))) (by kernel_rfl) az (fun w=>kx (wh w) (ao (av lY (av oL oK)) _ w) (fun _ _ _=>fy fun _=>bZ (aK (by decide)) (bZ (aK (by decide)) (aK (by decide))))) [9999997,106,9,9999999,0,2,12,14,35,36,38,40,9999999,0,2,12,14,35,36,38,40,16,18,54,56,58] ((m.length+1)*4000+800) 59 [.tmp 4,.tmp 5] Tryz.func22 rfl Tryz.ntmps22 (by rw [Tryz.results22]) (by simp) rfl (fun hsm=>?_)
 obtain ⟨hsq,⟨hl1,hl4⟩,hz,hok⟩:=jD hr
 have q1:GW m.length m=True:=eq_true hsq
 have q2:(1≤m.length)=True:=eq_true hl1
 have q3:(m.length≤4)=True:=eq_true hl4
 have hT0:(trn m).length=m.length:=iW m
 have ht:∀ r∈trn m,r.length=m.length∧∀ x∈r,GX x:=fun r hr=>⟨kM r hr,vC hg r hr⟩
 simp (maxSteps:=10000000) only [go_sem,seval,reduceCtorEq,bv,dz,fD,fC,eo,oW,uA,uE,fV,bB,hr,q1,q2,q3]
 generalize hC:colN z (trn m)=C
 have hCg:∀ k,k≤m.length→(C k).2=0→(C k).1.length=k∧∀ r∈(C k).1,r.length=m.length∧∀ x∈r,GX x:=fun k hk h=>by rw [←hC] at h ⊢;exact rn ht k (by omega) h
 have hs:∀ k,C (k+1)=bif (C k).2 !=0 then ([],(C k).2) else
   bif (witN z (C k).1 ((trn m).getD k []) k).2 !=0 then ([],(witN z (C k).1 ((trn m).getD k []) k).2) else
   bif (scaS (witN z (C k).1 ((trn m).getD k []) k).1).2 !=0 then ([],(scaS (witN z (C k).1 ((trn m).getD k []) k).1).2) else
   ((C k).1++[(scaS (witN z (C k).1 ((trn m).getD k []) k).1).1],0):=fun k=>by rw [←hC];rfl
 have hbad:∀ k e,C (k+1)=([],e)→(e !=0)=true→k<m.length→C m.length=([],e):=fun k e h1 h2 h3=>by rw [←hC] at h1 ⊢;exact sM h1 h2 h3
 refine aP 4000 (fun k=>[(0,ji m),(2,iA z),(12,.s (.ol 17 m.length)),(14,iA 0),(35,.pre 51 1 (aA (de (C k).1 (trn m)))),(36,.s (.ol 17 m.length)),(38,iA (m.length:Int)),(40,iA (k:Int))]) m.length (fun k=>(C k).2=0) 0 (fun k _=>by simp only [List.all_cons,List.all_nil,aS,bE,dw,Bool.and_true];rfl) (fun k m1 _ hk hI ih=>?_) (by omega) (by rw [←hC];rfl) (by rw [←hC];rfl)
 obtain ⟨hCl,hCr⟩:=hCg k hk hI
 have hI0:((C k).2 !=0)=false:=by rw [hI];rfl
 have hsk:=hs k
 rw [hI0,cond_false] at hsk
 generalize hM:de (C k).1 (trn m)=M
 have hml:(aA M).length=m.length*1:=by rw [iB,←hM,mt (by omega),hT0]
 rcases Nat.lt_or_ge k m.length with hlt |hge
 ·have hvk:=ba [] (show k<(trn m).length by omega)
  have hbad:=fun e h1 h2=>hbad k e h1 h2 hlt
  have hvg:=ht _ (List.mem_of_getElem? hvk)
  generalize (trn m).getD k []=v at*
  have e1:(aA M)[k*1]? =some (.sl true 3 v.length (pC v)):=mH (by rw [←hM];exact (pd hCl).trans hvk)
  have hset:∀ y,List.take (k*1) (aA M)++[.sl true 3 y.length (pC y)]++List.drop (k*1+1) (aA M)=aA (de ((C k).1++[y]) (trn m)):=fun y=>by rw [←hM];exact AJ y hCl (by omega)
  have d:=decide_eq_true (show (k:Int)<(m.length:Int) by omega)
  have g0:(0≤(k:Int))=True:=eq_true (by omega)
  have g1:(k<m.length)=True:=eq_true hlt
  have g2:(k≤m.length)=True:=eq_true hk
  have g3:(k*1+1≤m.length*1)=True:=eq_true (by omega)
  have hw:=aZ (j:=k) (by omega)
  generalize hV:witN z (C k).1 v=V at*
  have hVg:∀ i,i≤k→(V i).2=0→(V i).1.length=m.length∧∀ x∈(V i).1,GX x:=fun i hi h=>by rw [←hV] at h ⊢;exact oA hvg (fun r hr=>(hCr r hr).1) i (by omega) h
  have hVs:∀ i,V (i+1)=bif (V i).2 !=0 then ([],(V i).2) else witS z (V i).1 ((C k).1.getD i []):=fun i=>by rw [←hV];rfl
  have hVb:∀ i e,V (i+1)=([],e)→(e !=0)=true→i<k→V k=([],e):=fun i e h1 h2 h3=>by rw [←hV] at h1 ⊢;exact pL h1 h2 h3
  simp (maxSteps:=10000000) only [go_sem,seval,reduceCtorEq,bv,dz,fD,fC,eo,oW,uA,uE,fV,bB,ey,Option.isSome_none,Nat.sub_zero,Nat.zero_le,d,g0,g1,g2,hml,e1]
  refine aP 500 (fun i=>[(0,ji m),(2,iA z),(12,.s (.ol 17 m.length)),(14,iA 0),(35,.pre 51 1 (aA M)),(36,.s (.ol 17 m.length)),(38,iA (m.length:Int)),(40,iA (k:Int)),(16,iA (k:Int)),(18,.s (.sl true 3 (V i).1.length (pC (V i).1))),(54,.s (.ov 17 m.length 0 k)),(56,iA (k:Int)),(58,iA (i:Int))]) k (fun i=>(V i).2=0) m1 (fun i _=>by simp only [List.all_cons,List.all_nil,aS,bE,dw,Bool.and_true];rfl) (fun i m2 hL2 hi hJ ihJ=>?_) (by omega) (by rw [←hV];rfl) (by rw [←hV];rfl)
  obtain ⟨r2,rfl⟩:=Nat.exists_eq_add_of_le hL2
  obtain ⟨hVl,hVx⟩:=hVg i hi hJ
  rcases Nat.lt_or_ge i k with hlt2 |hge2
  ·have huk:=ba [] (show i<(C k).1.length by omega)
   have hul:=(hCr _ (List.mem_of_getElem? huk)).1
   have hVi:=hVs i
   have hVb:=fun e h1 h2=>hVb i e h1 h2 hlt2
   generalize (C k).1.getD i []=u at*
   have e2:(aA M)[i*1]? =some (.sl true 3 u.length (pC u)):=mH (by rw [←hM,Cn (by omega)];exact huk)
   have d2:=decide_eq_true (show (i:Int)<(k:Int) by omega)
   have f0:(0≤(i:Int))=True:=eq_true (by omega)
   have f1:(i<k)=True:=eq_true hlt2
   have f2:((V i).1.length=u.length)=True:=eq_true (by omega)
   have f3:(1≤u.length)=True:=eq_true (by omega)
   have f4:(u.length≤1000)=True:=eq_true (by omega)
   have hw2:=aZ (j:=i) (by omega)
   have hJ0:((V i).2 !=0)=false:=by rw [hJ];rfl
   rw [hJ0,cond_false] at hVi
   cases hW:(witS z (V i).1 u).2 !=0 with
   |true=>
    have hwb:witS z (V i).1 u=([],(witS z (V i).1 u).2):=wN hW
    have hVk:V k=([],(witS z (V i).1 u).2):=hVb _ (hVi.trans hwb) hW
    have hCn:C m.length=([],(witS z (V i).1 u).2):=hbad _ (by rw [hsk,hVk];show (bif (witS z (V i).1 u).2 !=0 then _ else _)=_;rw [hW];rfl) hW
    have hfin:colsS z m=([],(witS z (V i).1 u).2):=by unfold colsS;rw [hr,cond_true,hC,hCn];show (bif (witS z (V i).1 u).2 !=0 then _ else _)=_;rw [hW];rfl
    rw [hfin]
    simp (maxSteps:=10000000) only [go_sem,seval,reduceCtorEq,bv,dz,fD,fC,eo,oW,uA,uE,fV,bB,ey,Option.isSome_none,Nat.sub_zero,Nat.zero_le,d2,f0,f1,f2,f3,f4,hml,e2,hW]
    repeat' with_reducible first |apply And.intro |apply condP<;>intro _
    all_goals first |(show be _ _=true;kernel_rfl)|assumption |rfl |(simp only [go_sem, *]<;>rfl)
   |false=>
    have hW0:(witS z (V i).1 u).2=0:=by simpa using hW
    replace ihJ:=ihJ hlt2 (by rw [hVi];exact hW0)
    simp (maxSteps:=10000000) only [go_sem,seval,reduceCtorEq,bv,dz,fD,fC,eo,oW,uA,uE,fV,bB,ey,Option.isSome_none,Nat.sub_zero,Nat.zero_le,d2,f0,f1,f2,f3,f4,hml,e2,hW,hW0,hw2]
    repeat' with_reducible first |apply And.intro |apply condP<;>intro _
    all_goals first |(show be _ _=true;kernel_rfl)|(exact ihJ _ _ (by rw [hVi];rfl))|assumption |rfl
  ·obtain rfl:i=k:=by omega
   have hJ0:((V i).2 !=0)=false:=by rw [hJ];rfl
   rw [hJ0,cond_false] at hsk
   have d2:decide ((i:Int)<(i:Int))=false:=decide_eq_false (by omega)
   have f3:(1≤(V i).1.length)=True:=eq_true (by omega)
   have f4:((V i).1.length≤1000)=True:=eq_true (by omega)
   have f5:((dF (grN (V i).1 (V i).1.length)==0)=false→(grN (V i).1 (V i).1.length).ok=true∧0<(grN (V i).1 (V i).1.length).xs.length)=True:=eq_true (Fx hVx)
   cases hW:(scaS (V i).1).2 !=0 with
   |true=>
    have hCn:C m.length=([],(scaS (V i).1).2):=hbad _ (by rw [hsk,hW];rfl) hW
    have hfin:colsS z m=([],(scaS (V i).1).2):=by unfold colsS;rw [hr,cond_true,hC,hCn];show (bif (scaS (V i).1).2 !=0 then _ else _)=_;rw [hW];rfl
    rw [hfin]
    simp (maxSteps:=10000000) only [go_sem,seval,reduceCtorEq,bv,dz,fD,fC,eo,oW,uA,uE,fV,bB,ey,Option.isSome_none,Nat.sub_zero,Nat.zero_le,d2,g0,g1,g3,f3,f4,f5,hml,hW]
    repeat' with_reducible first |apply And.intro |apply condP<;>intro _
    all_goals first |(show be _ _=true;kernel_rfl)|assumption |rfl |(simp only [go_sem, *]<;>rfl)
   |false=>
    rw [hW,cond_false] at hsk
    have hW0:(scaS (V i).1).2=0:=by simpa using hW
    replace ih:=ih hlt (by rw [hsk])
    simp (maxSteps:=10000000) only [go_sem,seval,reduceCtorEq,bv,dz,fD,fC,eo,oW,uA,uE,fV,bB,ey,Option.isSome_none,Nat.sub_zero,Nat.zero_le,d2,g0,g1,g3,f3,f4,f5,hml,hW,hW0,hw,hset]
    repeat' with_reducible first |apply And.intro |apply condP<;>intro _
    all_goals first |(show be _ _=true;kernel_rfl)|(rw [Nat.add_assoc];exact ih _ _ (by rw [hsk];rfl))|assumption |rfl
 ·obtain rfl:k=m.length:=by omega
  have hMC:M=(C m.length).1:=by rw [←hM];exact kE (by omega)
  have hMl:M.length=m.length:=by rw [hMC,hCl]
  have hMr:∀ r∈M,r.length=m.length:=fun r h=>by rw [hMC] at h;exact (hCr r h).1
  have hfin:colsS z m=(trn M,0):=by unfold colsS;rw [hr,cond_true,hC,hI0,cond_false,hMC]
  have d:decide ((m.length:Int)<(m.length:Int))=false:=decide_eq_false (by omega)
  have hdl:=Db M
  have hdn:=eN (trn M)
  have asn:vN (.v false [.sl false 1 m.length (M.map rP)])=some M:=by rw [←hMl];exact eg M
  have q4:GW M.length M=True:=eq_true ⟨rfl,fun r h=>by rw [hMl];exact hMr r h⟩
  have q5:(1≤M.length)=True:=eq_true (by omega)
  have q6:(M.length≤4)=True:=eq_true (by omega)
  have q7:(aA (trn M)).length=M.length*1:=by rw [iB,iW]
  have hemp:(trn M).isEmpty=false:=by
   cases hq:trn M with
   |nil=>have:=iW M;rw [hq] at this;simp at this;omega
   |cons a l=>rfl
  have htl:=iW M
  rw [hfin]
  simp (maxSteps:=10000000) only [go_sem,seval,reduceCtorEq,bv,dz,fD,fC,eo,oW,uA,uE,fV,bB,ey,Option.isSome_none,Nat.sub_zero,Nat.zero_le,d,hml,hdl,hdn,asn,q4,q5,q6,q7,hemp,htl]
  repeat' with_reducible first |apply And.intro |apply condP<;>intro _
  all_goals first |(show be _ _=true;kernel_rfl)|assumption |rfl |(simp only [go_sem, *]<;>rfl)
theorem zU (m:List (List X)) (z:Int) (hg:∀ r∈m,∀ x∈r,Small B64 x.xs):Ct Tryz.prog 22 [ji m,iA z] (·=Ge (colsS z m)):=by
 refine Ct.wk ?_ (vY _)
 cases hr:ft m z with
 |false=>
  have e:colsS z m=([],1):=by unfold colsS;rw [hr];rfl
  rw [e];exact Cv m z hr
 |true=>exact zV m z hr fun r h x hx=>⟨(jD hr).2.2.2 r h x hx,hg r h x hx⟩
noncomputable def gR:fR:=one 22 (gA vN fun m=>gA kg fun z=>gE (∀ r∈m,∀ x∈r,Small B64 x.xs,Ge (colsS z m)))
theorem oI:TbOK Tryz.prog gR:=fM (ew Tryz.func22 (by kernel_rfl) rfl) (.a kq fun m=>.a iq fun z=>.e fun h=>zU m z h)
end
end Go.Proofs.YtpacpmmdjmnamaaGreatDoor
