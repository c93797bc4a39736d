/- Rows of numbers side by side. -/
import Derived.Test.YtpacpmmdjmnamaaGreatDoorYAq3
namespace Go.Proofs.YtpacpmmdjmnamaaGreatDoor
open Go.RowKit Nx
set_option linter.unusedVariables false
set_option linter.unusedSimpArgs false
set_option maxRecDepth 100000
set_option maxHeartbeats 4000000
attribute [local go_sem] run dX X.L J.L vL X.eta J.eta Q.eta List.cons_append List.nil_append iH dU dV bW bX da nc dA iE eq aG bj aL aR bi cL cQ cR cM inL aS bE dom fH kU nD evd okeys look dN di co cV lenOf fw jb qK jw qQ fv qf np qh qg nL pF eX jF eY jG bu nV keysOf aD ir jp jg olA olL ot nU mS nT dh jx one cT fi cu bq gG eO jf iO cH decide_true decide_false List.all_cons List.all_nil Bool.and_true Bool.and_self true_and and_true and_self List.length_cons List.length_nil List.drop_succ_cons List.drop_zero List.take_succ_cons List.take_zero List.getElem?_cons_zero List.getElem?_cons_succ List.map_cons List.map_nil false_implies true_implies Option.bind_some List.getElem?_toArray Bool.false_eq_true List.append_nil List.flatMap_cons List.flatMap_nil true_or or_true forall_const List.reverse_cons List.reverse_nil Option.isSome_some Option.any_some Nat.lt_irrefl not_true_eq_false Bool.not_true Bool.not_false imp_self implies_true Bool.not_eq_true' Bool.not_eq_false' Bool.true_eq_false fL jo lQ lV oq pR qo cO qw iJ fB sy Int.toNat_zero decide_eq_true_eq fW fX so sr BEq.rfl beq_self_eq_true Int.natCast_zero ge_iff_le gt_iff_lt Int.le_refl Nat.zero_mul Nat.one_mul Nat.zero_add Nat.zero_lt_succ Nat.lt_add_one Nat.le_refl List.append_eq Int.toNat_natCast gN pP pO gI ek kc gJ su sv ka ss cK cS cN cD pN fN okO je pT gH outPs ep outL fT rD aT aE aY aF bne_self_eq_false wr2 nM nN nO nP nQ nR gB gP nF nG nH gu cG bw cJ aN nE Lc.up pU List.replicate_succ List.replicate_zero List.flatten_cons List.flatten_nil Int.ofNat_lt Int.cast_ofNat_Int Int.ofNat_eq_natCast List.isEmpty_nil List.isEmpty_cons and_false false_and List.cons_ne_nil Nat.add_zero ite_true ite_false if_true if_false Nat.le_zero_eq eq_self Bool.and_false Bool.false_and Bool.true_and nY gA gE kg oO ip fF ed ef eA eg ite_self AV.s cond_true cond_false Bool.or_true Bool.true_or Bool.or_false Bool.false_or
attribute [local go_sem ↓] cond_true cond_false cw aW aX bI bJ bR bS aU aV bT bU bK bL bP bQ bG bH bM bN
attribute [local irreducible] be
theorem vM {α β:Type} {φ:α→β→Bool}:∀ {l:List α} {m:List β},l.length≠m.length→fU φ l m=false:=by
 intro l
 induction l with
 |nil=>intro m h;cases m with
  |nil=>exact absurd rfl h
  |cons _ _=>rfl
 |cons a l ih=>intro m h;cases m with
  |nil=>rfl
  |cons b m=>
   show (φ a b&&fU φ l m)=false
   rw [ih (fun e=>h (by simp [e])),Bool.and_false]
theorem Ip (l m:List X) (hl:((l.length:Int)!=(m.length:Int))=true):Ct Tryz.prog 66 [eM l,eM m] (·=bA false):=by
 refine bF (O:=aD jx) (by kernel_rfl) az (fun w=>ao fZ _ w) [] 600 27 [.tmp 4] Tryz.func66 rfl Tryz.ntmps66 (by rw [Tryz.results66]) (by simp) rfl (fun hsm=>?_)
 simp (maxSteps:=10000000) only [go_sem,seval,reduceCtorEq,bv,hl,jY,iU,kZ,jh,hd1,pick,bD,go,iI,dE,gW,fx]
 repeat' with_reducible first |apply And.intro |apply condP<;>intro _
 all_goals first |(show be _ _=true;kernel_rfl)|assumption |rfl |(simp only [go_sem, *]<;>rfl)
theorem Iq (l m:List X) (hb:l.length≤1000):Ct Tryz.prog 66 [eM l,eM m] (·=bA (fU iC l m)):=by
 by_cases h:l.length=m.length
 ·exact zR l m h (by omega)
 ·rw [vM h];exact Ip l m (bne_iff_ne.2 (by omega))
noncomputable def iM:fR:=one 66 (gA ny fun l=>gA ny fun m=>gE (l.length≤1000,bA (fU iC l m)))
theorem oE:TbOK Tryz.prog iM:=fM (ew Tryz.func66 (by kernel_rfl) rfl) (.a fj fun l=>.a fj fun m=>.e fun h=>Iq l m h)
theorem Ir (l m:List (List X)) (hl:((l.length:Int)!=(m.length:Int))=true):Ct Tryz.prog 24 [ji l,ji m] (·=bA false):=by
 refine bF (O:=aD iM) (by kernel_rfl) az (fun w=>ao oE _ w) [] 600 27 [.tmp 4] Tryz.func24 rfl Tryz.ntmps24 (by rw [Tryz.results24]) (by simp) rfl (fun hsm=>?_)
 simp (maxSteps:=10000000) only [go_sem,seval,reduceCtorEq,bv,iM,hl,jY,iU,kZ,jh,hd1,pick,bD,go,iI,dE,gW,fx]
 repeat' with_reducible first |apply And.intro |apply condP<;>intro _
 all_goals first |(show be _ _=true;kernel_rfl)|assumption |rfl |(simp only [go_sem, *]<;>rfl)
theorem Iu (l m:List (List X)) (hl:((l.length:Int)!=(m.length:Int))=false) (hb:l.length≤1000) (h3:∀ r∈l,r.length≤6):Ct Tryz.prog 24 [ji l,ji m] (·=bA (fU (fU iC) l m)):=by
 have hlm:l.length=m.length:=by
     have:(l.length:Int)=(m.length:Int):=by simpa using hl
     omega
 refine bF (O:=aD iM) (by kernel_rfl) az (fun w=>ao oE _ w) [9999999,0,2,8,10] ((l.length+1)*300+200) 27 [.tmp 4] Tryz.func24 rfl Tryz.ntmps24 (by rw [Tryz.results24]) (by simp) rfl (fun hsm=>?_)
 simp (maxSteps:=10000000) only [go_sem,seval,reduceCtorEq,bv,iM,hl]
 refine aP 300 (fun j=>[(0,ji l),(2,ji m),(8,bA false),(10,iA (j:Int))]) l.length (fun j=>fU (fU iC) (l.take j) (m.take j)=true) 0 (fun j _=>rfl) (fun j mm _ hj hI ih=>?_) (by omega) (by simp [fU]) rfl
 rcases Nat.lt_or_ge j l.length with hlt |hge
 ·have hx:=ba [] hlt
  have hy:=ba [] (show j<m.length by omega)
  have hr:=h3 _ (List.mem_of_getElem? hx)
  have g4:((l.getD j []).length≤1000)=True:=eq_true (by omega)
  generalize l.getD j []=x at*
  generalize m.getD j []=y at*
  have e1:=ng hx
  have e2:=ng hy
  have d:=decide_eq_true (show (j:Int)<(l.length:Int) by omega)
  have g1:(j<l.length)=True:=eq_true hlt
  have g0:(0≤(j:Int))=True:=eq_true (by omega)
  have hw:=aZ (j:=j) (by omega)
  have g2:(j<m.length)=True:=eq_true (by omega)
  obtain ⟨s1,s2⟩:=qk (φ:=(fU iC)) hx hy
  replace ih:=ih hlt
  cases hp:(fU iC) x y with
  |false=>
   have s1:=s1 hp
   simp (maxSteps:=10000000) only [go_sem,seval,reduceCtorEq,bv,iM,d,g0,g1,g2,g4,e1,e2,hw,hp,s1]
   repeat' with_reducible first |apply And.intro |apply condP<;>intro _
   all_goals first |(show be _ _=true;kernel_rfl)|assumption |rfl |(simp only [go_sem, *]<;>rfl)
  |true=>
   replace ih:=ih (s2 hI hp)
   simp (maxSteps:=10000000) only [go_sem,seval,reduceCtorEq,bv,iM,d,g0,g1,g2,g4,e1,e2,hw,hp]
   repeat' with_reducible first |apply And.intro |apply condP<;>intro _
   all_goals first |(show be _ _=true;kernel_rfl)|(exact ih _ _ rfl)|assumption |rfl
 ·have hn:j=l.length:=by omega
  subst hn
  have d:=decide_eq_false (show ¬ (l.length:Int)<(l.length:Int) by omega)
  rw [List.take_of_length_le (Nat.le_refl _),List.take_of_length_le (by omega)] at hI
  simp (maxSteps:=10000000) only [go_sem,seval,reduceCtorEq,bv,iM,d,hI]
  repeat' with_reducible first |apply And.intro |apply condP<;>intro _
  all_goals first |(show be _ _=true;kernel_rfl)|assumption |rfl |(simp only [go_sem, *]<;>rfl)
theorem FH (l m:List (List X)) (hb:l.length≤1000∧∀ r∈l,r.length≤6):Ct Tryz.prog 24 [ji l,ji m] (·=bA (fU (fU iC) l m)):=by
 cases hl:((l.length:Int)!=(m.length:Int)) with
 |true=>rw [vM (fun e=>by rw [e,bne_self_eq_false] at hl;cases hl)];exact Ir l m hl
 |false=>exact Iu l m hl hb.1 hb.2
theorem Dl (x:X):iC x x=true:=by
 unfold iC kJ
 simp
theorem xV (m:List (List X)):fU (fU iC) m m=true:=by
 have h1:∀ l:List X,fU iC l l=true:=by
  intro l
  induction l with
  |nil=>rfl
  |cons a l ih=>unfold fU;rw [Dl,ih];rfl
 induction m with
 |nil=>rfl
 |cons a l ih=>unfold fU;rw [h1,ih];rfl
noncomputable def gO:fR:=one 24 (gA vN fun l=>gA vN fun m=>gE (l=m∧l.length≤1000∧∀ r∈l,r.length≤6,bA true))
theorem oF:TbOK Tryz.prog gO:=fM (ew Tryz.func24 (by kernel_rfl) rfl) (.a kq fun l=>.a kq fun m=>.e fun h=>by
 obtain ⟨rfl,h⟩:=h
 have:=FH l l h
 rw [xV] at this
 exact this)
end Go.Proofs.YtpacpmmdjmnamaaGreatDoor
