/- Loops of any length in the engine: a state for each turn. -/
import Derived.Test.YtpacpmmdjmnamaaGreatDoorMAi7
import Derived.Test.YtpacpmmdjmnamaaGreatDoorMAl1
namespace Go.Proofs.YtpacpmmdjmnamaaGreatDoor
set_option linter.unusedSimpArgs false
set_option linter.unusedVariables false
set_option maxHeartbeats 4000000
set_option maxRecDepth 100000
open Go.RowKit Nx
section
theorem aL {ty:TypeId→Option TI} {O:dI} {N:Nat} {Post:St→Prop} {fg:List Nat} {c:Code} {k:List It} (B:Nat) (ST:Nat→St) (n:Nat) (I:Nat→Prop) (L:Nat)
  (hm:∀ j,j≤n→((ST j).all fun p=>bH (ST j) p.2)=true)
  (step:∀ j m,L≤m→j≤n→I j→(j<n→I (j+1)→∀ r st,dU fg st=ST (j+1)→eZ (run ty O N Post fg (m+r)) (.code c::.lp c::k) (dU fg st))→run ty O N Post fg (m+B) (.code c::.lp c::k) (ST j))
  {M:Nat} {st:St} (hM:(n+1)*B+L≤M) (hI:I 0) (h0:dU fg st=ST 0):eZ (run ty O N Post fg M) (.code c::.lp c::k) (dU fg st):=by
 have key:∀ d j,j+d=n→I j→∀ m,(d+1)*B+L≤m→run ty O N Post fg m (.code c::.lp c::k) (ST j):=by
  intro d
  induction d with
  |zero=>
   intro j hj hi m hm'
   have hm':B+L≤m:=by simpa using hm'
   obtain ⟨m0,rfl⟩:∃ m0,m=m0+B:=⟨m - B,by omega⟩
   exact step j m0 (by omega) (by omega) hi (fun h=>by omega)
  |succ d ih=>
   intro j hj hi m hm'
   have hm':(d+1)*B+B+L≤m:=by rw [←Nat.succ_mul];exact hm'
   obtain ⟨m0,rfl⟩:∃ m0,m=m0+B:=⟨m - B,by omega⟩
   refine step j m0 (by omega) (by omega) hi fun _ hi' r st' h'=>?_
   rw [h']
   exact ⟨hm (j+1) (by omega),ih (j+1) (by omega) hi' (m0+r) (by omega)⟩
 rw [h0]
 exact ⟨hm 0 (Nat.zero_le _),key n 0 (by omega) hI M hM⟩
theorem aN {j:Nat} (h:j<4611686018427387904):IntKind.i64.wrap ((j:Int)+1)=((j+1:Nat):Int):=by rw [IntKind.wrap_i64];omega
end
section
attribute [local go_sem] X.eta J.eta Q.eta cu cw aZ a5 bN aT dQ cntF nmL o8 nmA tn tR bB pH cT bO rp Int.toNat_zero decide_eq_true_eq eH eU rf rh BEq.rfl beq_self_eq_true Int.natCast_zero ge_iff_le gt_iff_lt Int.le_refl Nat.zero_mul Nat.one_mul Nat.zero_add Nat.zero_lt_succ Nat.lt_add_one Nat.le_refl List.append_eq Int.toNat_natCast uc dM cV dS cW bP cp bne_self_eq_false wr2 Eo Ep Er Es Et Eu gB gP zu Eh Ei ry tY m7 g9 cU iP dz jM Lc.up AA BO pY List.replicate_succ List.replicate_zero List.flatten_cons List.flatten_nil Int.ofNat_lt Int.cast_ofNat_Int Int.ofNat_eq_natCast List.isEmpty_nil List.isEmpty_cons and_false false_and List.cons_ne_nil Nat.add_zero ite_true ite_false if_true if_false Nat.le_zero_eq eq_self
attribute [local go_sem ↓] bu fc fd gG gH gT gU dR eu gW gX gK gL gR gS gw gD gO gQ
attribute [local irreducible] ar
theorem If:∀ {l:List X} {j:Nat} {x:X},l[j]? =some x→((pC l).drop (j*3)).take 3=[.lit (.bool x.s),.lit (.int .i64 x.e),.ws x.xs]:=by
 intro l
 induction l with
 |nil=>intro j x h;simp at h
 |cons a l ih=>
  intro j x h
  cases j with
  |zero=>simp at h;subst h;rfl
  |succ j=>
   rw [dz,show (j+1)*3=j*3+3 by omega]
   exact ih (by simpa using h)
theorem lT {α β:Type} {φ:α→β→Bool}:∀ {l:List α} {m:List β} {j:Nat} {x:α} {y:β},l[j]? =some x→m[j]? =some y→(φ x y=false→bZ φ l m=false)∧(bZ φ (l.take j) (m.take j)=true→φ x y=true→bZ φ (l.take (j+1)) (m.take (j+1))=true):=by
 intro l
 induction l with
 |nil=>intro m j x y h;simp at h
 |cons a l ih=>
  intro m j x y h h1
  cases m with
  |nil=>simp at h1
  |cons b m=>
   cases j with
   |zero=>simp at h h1;subst h;subst h1;simp [bZ];intro h;simp [h]
   |succ j=>
    obtain ⟨i1,i2⟩:=ih (m:=m) (j:=j) (x:=x) (y:=y) (by simpa using h) (by simpa using h1)
    refine ⟨fun hf=>by unfold bZ;rw [i1 hf,Bool.and_false],fun ht hp=>?_⟩
    simp only [List.take_succ_cons] at ht ⊢
    unfold bZ at ht ⊢
    rw [Bool.and_eq_true] at ht ⊢
    exact ⟨ht.1,i2 ht.2 hp⟩
theorem H6 (l m:List X) (hl:l.length=m.length) (hb:l.length<4611686018427387904):Ct Tryz.prog 66 [qi l,qi m] (·=bA (bZ iT l m)):=by
 have h1:((l.length:Int)!=(m.length:Int))=false:=by rw [hl];exact bne_self_eq_false ..
 refine ak (O:=ai fI) (by kernel_rfl) be (fun w=>aa my _ w) [9999999,0,2,8,10] ((l.length+1)*200+100) 27 [.tmp 4] Tryz.func66 rfl Tryz.ntmps66 (by rw [Tryz.results66]) (by simp) rfl (fun hsm=>?_)
 simp (maxSteps:=10000000) only [go_sem,seval,reduceCtorEq,fI,h1]
 refine aL 200 (fun j=>[(0,qi l),(2,qi m),(8,bA false),(10,iA (j:Int))]) l.length (fun j=>bZ iT (l.take j) (m.take j)=true) 0 (fun j _=>rfl) (fun j mm _ hj hI ih=>?_) (by omega) (by simp [bZ]) rfl
 rcases Nat.lt_or_ge j l.length with hlt |hge
 ·have hx:=List.getElem?_eq_getElem hlt
  have hy:=List.getElem?_eq_getElem (show j<m.length by omega)
  generalize l[j]=x at hx
  generalize m[j]=y at hy
  have d:=decide_eq_true (show (j:Int)<(l.length:Int) by omega)
  have g1:(j<l.length)=True:=eq_true hlt
  have g2:(j<m.length)=True:=eq_true (by omega)
  have e1:=If hx
  have e2:=If hy
  have hw:=aN (j:=j) (by omega)
  have g0:(0≤(j:Int))=True:=eq_true (by omega)
  obtain ⟨s1,s2⟩:=lT (φ:=iT) hx hy
  replace ih:=ih hlt
  simp (maxSteps:=10000000) only [go_sem,seval,reduceCtorEq,fI,d,g0,g1,g2,e1,e2,hw]
  refine ⟨by show ar _ _=true;kernel_rfl,condP (fun h=>ih (s2 hI h) _ _ rfl) fun h=>by rw [s1 h]⟩
 ·have hn:j=l.length:=by omega
  subst hn
  have d:=decide_eq_false (show ¬ (l.length:Int)<(l.length:Int) by omega)
  simp (maxSteps:=10000000) only [go_sem,seval,reduceCtorEq,fI,d]
  rw [List.take_of_length_le (Nat.le_refl _),List.take_of_length_le (by omega)] at hI
  rw [hI]
end
section
attribute [local go_sem] X.eta J.eta Q.eta cu cw aZ a5 bN aT dQ cntF nmL o8 nmA tn tR bB pH cT bO rp Int.toNat_zero decide_eq_true_eq eH eU rf rh BEq.rfl beq_self_eq_true Int.natCast_zero ge_iff_le gt_iff_lt Int.le_refl Nat.zero_mul Nat.one_mul Nat.zero_add Nat.zero_lt_succ Nat.lt_add_one Nat.le_refl List.append_eq Int.toNat_natCast uc dM cV dS cW bP cp bne_self_eq_false wr2 Eo Ep Er Es Et Eu gB gP zu Eh Ei ry tY m7 g9 cU iP dz jM Lc.up AA BO pY List.replicate_succ List.replicate_zero List.flatten_cons List.flatten_nil Int.ofNat_lt Int.cast_ofNat_Int Int.ofNat_eq_natCast List.isEmpty_nil List.isEmpty_cons and_false false_and List.cons_ne_nil Nat.add_zero ite_true ite_false if_true if_false Nat.le_zero_eq eq_self
attribute [local go_sem ↓] bu fc fd gG gH gT gU dR eu gW gX gK gL gR gS gw gD gO gQ
attribute [local irreducible] ar
theorem FG:∀ {l:List J} {j:Nat} {x:J},l[j]? =some x→((bC l).drop (j*6)).take 6=[.lit (.bool x.lo.s),.lit (.int .i64 x.lo.e),.ws x.lo.xs,.lit (.bool x.hi.s),.lit (.int .i64 x.hi.e),.ws x.hi.xs]:=by
 intro l
 induction l with
 |nil=>intro j x h;simp at h
 |cons a l ih=>
  intro j x h
  cases j with
  |zero=>simp at h;subst h;rfl
  |succ j=>
   rw [cU,show (j+1)*6=j*6+6 by omega]
   exact ih (by simpa using h)
theorem LK {g:FuncId} {d:Nat} {st:St} {args:List AV}:ai eJ g d st args=none:=rfl
theorem Sx {w:World} {f:FuncId} {caps:List Value} {φ:J→J→Bool} (ht:Tab w) (hf:Fv Tryz.prog w f caps (l5 fun a b=>(True,bA (φ a b)))) (l:List J) (m:List J) (hl:l.length=m.length) (hb:l.length<4611686018427387904):Hc Tryz.prog w 113 [bv l,bv m,jL f caps] (bA (bZ φ l m)):=by
 have h1:((l.length:Int)!=(m.length:Int))=false:=by rw [hl];exact bne_self_eq_false ..
 refine fM (O:=bO (jM 2 f caps (l5 fun a b=>(True,bA (φ a b)))) (ai eJ)) (by kernel_rfl) be (kP (fE hf) (aa bk _ w) (fun g d st args h=>LK)) ht [9999999,0,2,4,12,30,32,34] ((l.length+1)*200+100) 32 [.tmp 6] Tryz.func113 rfl Tryz.ntmps113 (by rw [Tryz.results113]) (by simp) rfl (fun hsm=>?_)
 simp (maxSteps:=10000000) only [go_sem,seval,reduceCtorEq,h1]
 refine aL 200 (fun j=>[(0,bv l),(2,bv m),(4,jL f caps),(12,bA false),(30,bv l),(32,iA (l.length:Int)),(34,iA (j:Int))]) l.length (fun j=>bZ φ (l.take j) (m.take j)=true) 0 (fun j _=>rfl) (fun j mm _ hj hI ih=>?_) (by omega) (by simp [bZ]) rfl
 rcases Nat.lt_or_ge j l.length with hlt |hge
 ·have hx:=List.getElem?_eq_getElem hlt
  have hy:=List.getElem?_eq_getElem (show j<m.length by omega)
  generalize l[j]=x at hx
  generalize m[j]=y at hy
  have d:=decide_eq_true (show (j:Int)<(l.length:Int) by omega)
  have g1:(j<l.length)=True:=eq_true hlt
  have g2:(j<m.length)=True:=eq_true (by omega)
  have e1:=FG hx
  have e2:=FG hy
  have hw:=aN (j:=j) (by omega)
  have g0:(0≤(j:Int))=True:=eq_true (by omega)
  obtain ⟨s1,s2⟩:=lT (φ:=φ) hx hy
  replace ih:=ih hlt
  simp (maxSteps:=10000000) only [go_sem,seval,reduceCtorEq,d,g0,g1,g2,e1,e2,hw]
  repeat' with_reducible first |apply And.intro |apply condP<;>intro _
  all_goals first |(show ar _ _=true;kernel_rfl)|(exact ih (s2 hI (by assumption)) _ _ rfl)|(rw [s1 (by assumption)])
 ·have hn:j=l.length:=by omega
  subst hn
  have d:=decide_eq_false (show ¬ (l.length:Int)<(l.length:Int) by omega)
  simp (maxSteps:=10000000) only [go_sem,seval,reduceCtorEq,d]
  rw [List.take_of_length_le (Nat.le_refl _),List.take_of_length_le (by omega)] at hI
  rw [hI]
end
end Go.Proofs.YtpacpmmdjmnamaaGreatDoor
