/- OrthoAny. -/
import Derived.Test.YtpacpmmdjmnamaaGreatDoorYAqV
import Derived.Test.YtpacpmmdjmnamaaGreatDoorYAqR
import Derived.Test.YtpacpmmdjmnamaaGreatDoorYAqS
namespace Go.Proofs.YtpacpmmdjmnamaaGreatDoor
set_option maxHeartbeats 4000000
set_option maxRecDepth 100000
open Go.RowKit Nx
set_option linter.unusedVariables false
set_option linter.unusedSimpArgs false
attribute [local go_sem] run dX X.L J.L vL X.eta J.eta Q.eta List.cons_append List.nil_append iH dU dV bW bX da nc dA iE eq aG bj aL aR bi cL cQ cR cM kZ jh hd1 pick bD inL aS bE dom fH kU nD evd okeys look dN di co cV lenOf fw jb qK jw qQ fv qf np qh qg nL pF eX jF eY jG bu nV keysOf aD ir jp jg olA olL ot nU mS nT dh jx one cT fi cu bq gG eO jf iO cH decide_true decide_false List.all_cons List.all_nil Bool.and_true Bool.and_self true_and and_true and_self List.length_cons List.length_nil List.drop_succ_cons List.drop_zero List.take_succ_cons List.take_zero List.getElem?_cons_zero List.getElem?_cons_succ List.map_cons List.map_nil false_implies true_implies Option.bind_some List.getElem?_toArray Bool.false_eq_true List.append_nil List.flatMap_cons List.flatMap_nil true_or or_true forall_const List.reverse_cons List.reverse_nil Option.isSome_some Option.any_some Nat.lt_irrefl not_true_eq_false Bool.not_true Bool.not_false imp_self implies_true Bool.not_eq_true' Bool.not_eq_false' Bool.true_eq_false fL jo lQ lV oq pR qo cO qw iJ fB sy Int.toNat_zero decide_eq_true_eq fW fX so sr BEq.rfl beq_self_eq_true Int.natCast_zero ge_iff_le gt_iff_lt Int.le_refl Nat.zero_mul Nat.one_mul Nat.zero_add Nat.zero_lt_succ Nat.lt_add_one Nat.le_refl List.append_eq Int.toNat_natCast gN pP pO gI ek kc gJ su sv ka ss cK cS cN cD pN fN okO je pT gH outPs ep outL fT rD aT aE aY aF jY iU bne_self_eq_false wr2 nM nN nO nP nQ nR gB gP nF nG nH gu cG bw cJ aN nE Lc.up pU List.replicate_succ List.replicate_zero List.flatten_cons List.flatten_nil Int.ofNat_lt Int.cast_ofNat_Int Int.ofNat_eq_natCast List.isEmpty_nil List.isEmpty_cons and_false false_and List.cons_ne_nil Nat.add_zero ite_true ite_false if_true if_false Nat.le_zero_eq eq_self Bool.and_false Bool.false_and Bool.true_and nY gA gE kg oO ip fF ed ef eA eg ite_self AV.s cond_true cond_false Bool.or_true Bool.true_or Bool.or_false Bool.false_or
attribute [local go_sem ↓] cond_true cond_false cw aW aX bI bJ bR bS aU aV bT bU bK bL bP bQ bG bH bM bN
attribute [local irreducible] be
theorem JX (w:World):Old jZ xy w:=⟨fun b h=>(by cases h),fun b g h=>(by cases h),Nat.zero_le _⟩
theorem DL {f:FuncId} {args:List AV} {w:World} {us:List Value} (h:Ct Tryz.prog f args (·=bA true)) (ht:Tab w) (hA:RA jZ xy w args us):Calls Tryz.prog f us.toArray w fun e w'=>e= .returned (.bool true)∧Below w.heap.size w w':=by
 refine (h _ _ _ _ ht hA).mono ?_
 rintro e w' ⟨u,r,rfl,rfl,_,hR,hb⟩
 have:u= .bool true:=RL.one.1 (hR _ _ (JX w))
 rw [this];exact ⟨rfl,hb⟩
theorem GA (km:List (List Kp)) (z:Int) (h:tj (Kn km)=false):Ct Tryz.prog 4 [.s (.sl false 1 km.length (km.map kP)),iA z] (·=bA true):=by
 refine bF (O:=aD (dh ez (Hk (.s (.sl false 1 km.length (km.map kP))) false))) (by kernel_rfl) az (fun w=>ao (av kj (yA (by have:=tg km;rwa [h] at this))) _ w) [] 800 34 [.tmp 4] Tryz.func4 rfl Tryz.ntmps4 (by rw [Tryz.results4]) (by simp) rfl (fun hsm=>?_)
 simp (maxSteps:=10000000) only [go_sem,seval,reduceCtorEq,bv,ez,Hk,JB,go,iI,dE,gW,fx]
 repeat' with_reducible first |apply And.intro |apply condP<;>intro _
 all_goals first |(show be _ _=true;kernel_rfl)|assumption |rfl |(simp only [go_sem, *]<;>rfl)
theorem Kj (m:List (List X)) (z:Int) (h:tj (Xn m)=true) (hSm:(∀ r∈m,∀ x∈r,Small B64 x.xs)=True) (hR1:m.length≤40) (hR2:∀ r∈m,r.length≤40) (hC:((colsS z m).1.length≤1000∧∀ r∈(colsS z m).1,r.length≤6)=True):Ct Tryz.prog 4 [ji m,iA z] (·=bA true):=by
 refine bF (O:=aD (dh ez (dh (Hk (ji m) true) (dh gR (dh gQ gO))))) (by kernel_rfl) az (fun w=>ao (av kj (av (yA (by have:=xl m;rwa [h] at this)) (av oI (av oG oF)))) _ w) [] 900 34 [.tmp 4] Tryz.func4 rfl Tryz.ntmps4 (by rw [Tryz.results4]) (by simp) rfl (fun hsm=>?_)
 simp (maxSteps:=10000000) only [go_sem,seval,reduceCtorEq,bv,ez,Hk,gR,gQ,gO,JB,hSm,hC,go,iI,dE,gW,fx]
 repeat' with_reducible first |apply And.intro |apply condP<;>intro _
 all_goals first |(show be _ _=true;kernel_rfl)|assumption |rfl |(simp only [go_sem, *]<;>rfl)
theorem qc (W:World) (v:Value) (z:Int) {m:List (List X)} (hm:RowsV W v m) (ht:Tab W):Calls Tryz.prog 4 #[v,.int .i64 z] W fun e w'=>e= .returned (.bool true)∧Below W.heap.size W w':=by
 cases hl:tj (Xn m) with
 |false=>
  obtain ⟨km,h1,e1⟩:=hm.raw
  exact DL (GA km z (by rw [e1];exact hl)) ht ⟨_,_,rfl,h1,_,_,rfl,RL.one.2 rfl,rfl⟩
 |true=>
  obtain ⟨l1,l2⟩:=FD hl
  have hs:=hm.sm
  have r1:=hm.ws fun l hl x hx=>by have:=(l2 l hl).2 x hx;omega
  exact DL (Kj m z hl (eq_true hs) (by omega) (fun r hr=>by have:=(l2 r hr).1;omega) (eq_true (oR z hs))) ht ⟨_,_,rfl,r1,_,_,rfl,RL.one.2 rfl,rfl⟩
end Go.Proofs.YtpacpmmdjmnamaaGreatDoor
