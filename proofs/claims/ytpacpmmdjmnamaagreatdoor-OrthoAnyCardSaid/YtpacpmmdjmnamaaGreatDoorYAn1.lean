/- Loops of any length in the engine: a state for each turn. -/
import Derived.Test.YtpacpmmdjmnamaaGreatDoorYAi4
import Derived.Test.YtpacpmmdjmnamaaGreatDoorYAl1
namespace Go.Proofs.YtpacpmmdjmnamaaGreatDoor
set_option linter.unusedSimpArgs false
set_option linter.unusedVariables false
open Go.RowKit Nx
section
theorem aP {ty:TypeId→Option TI} {O:eJ} {N:Nat} {Post:St→Prop} {fg:List Nat} {c:Code} {k:List It} (B:Nat) (ST:Nat→St) (n:Nat) (I:Nat→Prop) (L:Nat)
  (hm:∀ j,j≤n→((ST j).all fun p=>aS (ST j) p.2)=true)
  (step:∀ j m,L≤m→j≤n→I j→(j<n→I (j+1)→∀ r st,jh fg st=ST (j+1)→kZ (run ty O N Post fg (m+r)) (.code c::.lp c::k) (jh fg st))→run ty O N Post fg (m+B) (.code c::.lp c::k) (ST j))
  {M:Nat} {st:St} (hM:(n+1)*B+L≤M) (hI:I 0) (h0:jh fg st=ST 0):kZ (run ty O N Post fg M) (.code c::.lp c::k) (jh fg st):=by
 have key:∀ d j,j+d=n→I j→∀ m,(d+1)*B+L≤m→run ty O N Post fg m (.code c::.lp c::k) (ST j):=by
  intro d
  induction d with
  |zero=>
   intro j hj hi m hm'
   have hm':B+L≤m:=by simpa using hm'
   obtain ⟨m0,rfl⟩:∃ m0,m=m0+B:=⟨m - B,by omega⟩
   exact step j m0 (by omega) (by omega) hi (fun h=>by omega)
  |succ d ih=>
   intro j hj hi m hm'
   have hm':(d+1)*B+B+L≤m:=by rw [←Nat.succ_mul];exact hm'
   obtain ⟨m0,rfl⟩:∃ m0,m=m0+B:=⟨m - B,by omega⟩
   refine step j m0 (by omega) (by omega) hi fun _ hi' r st' h'=>?_
   rw [h']
   exact ⟨hm (j+1) (by omega),ih (j+1) (by omega) hi' (m0+r) (by omega)⟩
 rw [h0]
 exact ⟨hm 0 (Nat.zero_le _),key n 0 (by omega) hI M hM⟩
theorem aZ {j:Nat} (h:j<4611686018427387904):IntKind.i64.wrap ((j:Int)+1)=((j+1:Nat):Int):=by rw [IntKind.wrap_i64];omega
end
section
attribute [local go_sem] run dX X.L J.L vL X.eta J.eta Q.eta List.cons_append List.nil_append iH dU dV bW bX da nc dA iE eq aG bj aL aR bi cL cQ cR cM inL aS bE dom fH kU nD evd okeys look dN di co cV lenOf fw jb qK jw qQ fv He qf np qh qg nL Ja pF eX jF eY jG bu nV keysOf aD ir jp jg olA olL ot nU mS nT dh jx one cT fi cu bq gG eO jf iO cH decide_true decide_false List.all_cons List.all_nil Bool.and_true Bool.and_self true_and and_true and_self List.length_cons List.length_nil List.drop_succ_cons List.drop_zero List.take_succ_cons List.take_zero List.getElem?_cons_zero List.getElem?_cons_succ List.map_cons List.map_nil false_implies true_implies Option.bind_some List.getElem?_toArray Bool.false_eq_true List.append_nil List.flatMap_cons List.flatMap_nil true_or or_true forall_const List.reverse_cons List.reverse_nil Option.isSome_some Option.any_some Nat.lt_irrefl not_true_eq_false Bool.not_true Bool.not_false imp_self implies_true Bool.not_eq_true' Bool.not_eq_false' Bool.true_eq_false fL jo lQ lV oq pR qo cO qw iJ fB sy Int.toNat_zero decide_eq_true_eq fW fX so sr BEq.rfl beq_self_eq_true Int.natCast_zero ge_iff_le gt_iff_lt Int.le_refl Nat.zero_mul Nat.one_mul Nat.zero_add Nat.zero_lt_succ Nat.lt_add_one Nat.le_refl List.append_eq Int.toNat_natCast gN pP pO gI ek kc gJ su sv ka ss cK cS cN cD pN fN okO je pT gH outPs ep outL fT rD aT aE aY aF jY iU bne_self_eq_false wr2 nM nN nO nP nQ nR gB gP nF nG nH gu ny nS cG bw cJ aN nE Lc.up Jb pU Bi List.replicate_succ List.replicate_zero List.flatten_cons List.flatten_nil Int.ofNat_lt Int.cast_ofNat_Int Int.ofNat_eq_natCast List.isEmpty_nil List.isEmpty_cons and_false false_and List.cons_ne_nil Nat.add_zero ite_true ite_false if_true if_false Nat.le_zero_eq eq_self Bool.and_false Bool.false_and Bool.true_and AV.s cond_true cond_false Bool.or_true Bool.true_or Bool.or_false Bool.false_or
attribute [local go_sem ↓] cond_true cond_false cw aW aX bI bJ bR bS aU aV bT bU bK bL bP bQ bG bH bM bN
attribute [local irreducible] be
theorem AA:∀ {l:List X} {j:Nat} {x:X},l[j]? =some x→((pC l).drop (j*3)).take 3=[.lit (.bool x.s),.lit (.int .i64 x.e),.ws x.xs]:=by
 intro l
 induction l with
 |nil=>intro j x h;simp at h
 |cons a l ih=>
  intro j x h
  cases j with
  |zero=>simp at h;subst h;rfl
  |succ j=>
   rw [aN,show (j+1)*3=j*3+3 by omega]
   exact ih (by simpa using h)
theorem qk {α β:Type} {φ:α→β→Bool}:∀ {l:List α} {m:List β} {j:Nat} {x:α} {y:β},l[j]? =some x→m[j]? =some y→(φ x y=false→fU φ l m=false)∧(fU φ (l.take j) (m.take j)=true→φ x y=true→fU φ (l.take (j+1)) (m.take (j+1))=true):=by
 intro l
 induction l with
 |nil=>intro m j x y h;simp at h
 |cons a l ih=>
  intro m j x y h h1
  cases m with
  |nil=>simp at h1
  |cons b m=>
   cases j with
   |zero=>simp at h h1;subst h;subst h1;simp [fU];intro h;simp [h]
   |succ j=>
    obtain ⟨i1,i2⟩:=ih (m:=m) (j:=j) (x:=x) (y:=y) (by simpa using h) (by simpa using h1)
    refine ⟨fun hf=>by unfold fU;rw [i1 hf,Bool.and_false],fun ht hp=>?_⟩
    simp only [List.take_succ_cons] at ht ⊢
    unfold fU at ht ⊢
    rw [Bool.and_eq_true] at ht ⊢
    exact ⟨ht.1,i2 ht.2 hp⟩
set_option maxRecDepth 100000 in
set_option maxHeartbeats 4000000 in
theorem zR (l m:List X) (hl:l.length=m.length) (hb:l.length<4611686018427387904):Ct Tryz.prog 66 [eM l,eM m] (·=bA (fU iC l m)):=by
 have h1:((l.length:Int)!=(m.length:Int))=false:=by rw [hl];exact bne_self_eq_false ..
 refine bF (O:=aD jm) (by kernel_rfl) fQ (fun w=>ao ra _ w) [9999999,0,2,8,10] ((l.length+1)*200+100) 27 [.tmp 4] Tryz.func66 rfl Tryz.ntmps66 (by rw [Tryz.results66]) (by simp) rfl (fun hsm=>?_)
 simp (maxSteps:=10000000) only [go_sem,seval,reduceCtorEq,jm,h1]
 refine aP 200 (fun j=>[(0,eM l),(2,eM m),(8,bA false),(10,iA (j:Int))]) l.length (fun j=>fU iC (l.take j) (m.take j)=true) 0 (fun j _=>rfl) (fun j mm _ hj hI ih=>?_) (by omega) (by simp [fU]) rfl
 rcases Nat.lt_or_ge j l.length with hlt |hge
 ·have hx:=List.getElem?_eq_getElem hlt
  have hy:=List.getElem?_eq_getElem (show j<m.length by omega)
  generalize l[j]=x at hx
  generalize m[j]=y at hy
  have d:=decide_eq_true (show (j:Int)<(l.length:Int) by omega)
  have g1:(j<l.length)=True:=eq_true hlt
  have g2:(j<m.length)=True:=eq_true (by omega)
  have e1:=AA hx
  have e2:=AA hy
  have hw:=aZ (j:=j) (by omega)
  have g0:(0≤(j:Int))=True:=eq_true (by omega)
  obtain ⟨s1,s2⟩:=qk (φ:=iC) hx hy
  replace ih:=ih hlt
  simp (maxSteps:=10000000) only [go_sem,seval,reduceCtorEq,jm,d,g0,g1,g2,e1,e2,hw]
  refine ⟨by show be _ _=true;kernel_rfl,condP (fun h=>ih (s2 hI h) _ _ rfl) fun h=>by rw [s1 h]⟩
 ·have hn:j=l.length:=by omega
  subst hn
  have d:=decide_eq_false (show ¬ (l.length:Int)<(l.length:Int) by omega)
  simp (maxSteps:=10000000) only [go_sem,seval,reduceCtorEq,jm,d]
  rw [List.take_of_length_le (Nat.le_refl _),List.take_of_length_le (by omega)] at hI
  rw [hI]
end
section
attribute [local irreducible] be
end
end Go.Proofs.YtpacpmmdjmnamaaGreatDoor
