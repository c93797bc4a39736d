/- The document's sums, differences, products: intervals and numbers; no quotients. -/
import Derived.Test.YtpacpmmdjmnamaaGreatDoorYAl5
import Derived.Test.YtpacpmmdjmnamaaGreatDoorYAi4
namespace Go.Proofs.YtpacpmmdjmnamaaGreatDoor
open Go.RowKit Nx
set_option linter.unusedVariables false
set_option linter.unusedSimpArgs false
set_option maxRecDepth 100000
set_option maxHeartbeats 4000000
attribute [local go_sem] run dX X.L J.L vL X.eta J.eta Q.eta List.cons_append List.nil_append iH dU dV bW bX da nc dA iE eq aG bj aL aR bi cL cQ cR cM kZ jh hd1 pick bD inL aS bE dom fH kU nD evd okeys look dN di co cV lenOf fw jb qK jw qQ fv He qf np qh qg nL Ja pF eX jF eY jG bu nV keysOf aD ir jp jg olA olL ot nU mS nT dh jx one cT fi cu bq gG eO jf iO cH decide_true decide_false List.all_cons List.all_nil Bool.and_true Bool.and_self true_and and_true and_self List.length_cons List.length_nil List.drop_succ_cons List.drop_zero List.take_succ_cons List.take_zero List.getElem?_cons_zero List.getElem?_cons_succ List.map_cons List.map_nil false_implies true_implies Option.bind_some List.getElem?_toArray Bool.false_eq_true List.append_nil List.flatMap_cons List.flatMap_nil true_or or_true forall_const List.reverse_cons List.reverse_nil Option.isSome_some Option.any_some Nat.lt_irrefl not_true_eq_false Bool.not_true Bool.not_false imp_self implies_true Bool.not_eq_true' Bool.not_eq_false' Bool.true_eq_false fL jo lQ lV oq pR qo cO qw iJ fB sy Int.toNat_zero decide_eq_true_eq fW fX so sr BEq.rfl beq_self_eq_true Int.natCast_zero ge_iff_le gt_iff_lt Int.le_refl Nat.zero_mul Nat.one_mul Nat.zero_add Nat.zero_lt_succ Nat.lt_add_one Nat.le_refl List.append_eq Int.toNat_natCast gN pP pO gI ek kc gJ su sv ka ss cK cS cN cD pN fN okO je pT gH outPs ep outL fT rD aT aE aY aF jY iU bne_self_eq_false wr2 nM nN nO nP nQ nR gB gP nF nG nH gu yE ny qb re nS sn cG bw cJ aN nE Lc.up Jb pU Bi List.replicate_succ List.replicate_zero List.flatten_cons List.flatten_nil Int.ofNat_lt Int.cast_ofNat_Int Int.ofNat_eq_natCast List.isEmpty_nil List.isEmpty_cons and_false false_and List.cons_ne_nil Nat.add_zero ite_true ite_false if_true if_false Nat.le_zero_eq eq_self Bool.and_false Bool.false_and Bool.true_and AV.s cond_true cond_false Bool.or_true Bool.true_or Bool.or_false Bool.false_or
attribute [local go_sem ↓] cond_true cond_false cw aW aX bI bJ bR bS aU aV bT bU bK bL bP bQ bG bH bM bN
attribute [local irreducible] be
def iG (z:Int) (a b:X):Bool:=bif a.ok then (bif b.ok then (bif decide (z<8) then true else decide (256<z)) else true) else true
theorem badB_not {z:Int} {a b:X}:iG z a b=false↔a.ok=true∧b.ok=true∧vp z=true:=by
 unfold iG vp
 cases a.ok<;>cases b.ok<;>by_cases h1:z<8<;>by_cases h2:256<z<;>simp [h1,h2]<;>omega
theorem Jj (z:Int) (a b:X):Ct Tryz.prog 164 [iA z,eM [a,b]] (·=bA (iG z a b)):=by
 refine bF (O:=aD cB) (by kernel_rfl) fQ (fun w=>ao lu _ w) [] 1500 24 [.tmp 4] Tryz.func164 rfl Tryz.ntmps164 (by rw [Tryz.results164]) (by simp) rfl (fun hsm=>?_)
 simp (maxSteps:=10000000) only [go_sem,seval,reduceCtorEq,cB]
 repeat' with_reducible first |apply And.intro |apply condP<;>intro _
 all_goals first |(show be _ _=true;kernel_rfl)|assumption |(simp only [go_sem, *,iG]<;>rfl)|rfl |(exfalso;simp_all only [Bool.true_eq_false,Bool.false_eq_true,reduceCtorEq];done)
def oU (k:Int→X→X→Prop×AV):List AV→Option (Prop×AV)
 |[.v false [.lit (.int .i64 z)],x]=>(match ny x with
  |some [a,b]=>some (k z a b)
  |_=>none)
 |_=>none
noncomputable def cg:fR:=one 164 (oU fun z a b=>(True,bA (iG z a b)))
theorem dj:TbOK Tryz.prog cg:=cC (ew Tryz.func164 (by kernel_rfl) rfl) fun args e h hp=>by
 unfold oU at h
 split at h
 ·split at h
  ·rename_i z x _ a b hx
   injection h with h;subst h
   exact (Jj z a b).of fun ρ D w=>RA.c (fun u h=>h) (RA.c (fun u=>DI hx) fun us h=>h)
  ·cases h
 ·cases h
def uS (k:Int→Q→Q→Prop×AV):List AV→Option (Prop×AV)
 |[.v false [.lit (.int .i64 z)],.v true mq,.v true mq1]=>(match cu mq,cu mq1 with
  |some q,some q1=>some (k z q q1)
  |_,_=>none)
 |_=>none
theorem wc {k:Int→Q→Q→Prop×AV} {args:List AV} {e:Prop×AV} (h:uS k args=some e):∃ z q q1,args=[iA z,.v true (vL q),.v true (vL q1)]∧e=k z q q1:=by
 unfold uS at h
 split at h
 ·rename_i z mq mq1
  obtain ⟨q,q1,h1,h2⟩:=ru (k:=k z) (args:=[.v true mq,.v true mq1]) h
  injection h1 with h3 h1;injection h1 with h4 h1
  exact ⟨z,q,q1,by rw [h3,h4],h2⟩
 ·cases h
theorem Jl (q q1:Q) (h:Vb q) (h1:Vb q1):Ct Tryz.prog 167 [iA 0,.v true (vL q),.v true (vL q1)] (·= .v true (vL (plus q q1))):=by
 refine bF (O:=aD (dh jl jk)) (by kernel_rfl) fQ (fun w=>ao (av ma lZ) _ w) [] 1500 21 [.cell 6 127] Tryz.func167 rfl Tryz.ntmps167 (by rw [Tryz.results167]) (by simp) rfl (fun hsm=>?_)
 simp (maxSteps:=10000000) only [go_sem,seval,reduceCtorEq,jl,jk,ym]
 repeat' with_reducible first |apply And.intro |apply condP<;>intro _
 all_goals first |(show be _ _=true;kernel_rfl)|assumption |(simp only [go_sem, *]<;>rfl)|rfl |(exfalso;simp_all only [Bool.true_eq_false,Bool.false_eq_true,reduceCtorEq];done)
theorem Jm (q q1:Q) (h:Vb q) (h1:Vb q1):Ct Tryz.prog 167 [iA 1,.v true (vL q),.v true (vL q1)] (·= .v true (vL (minus q q1))):=by
 refine bF (O:=aD (dh jl jk)) (by kernel_rfl) fQ (fun w=>ao (av ma lZ) _ w) [] 1500 21 [.cell 6 127] Tryz.func167 rfl Tryz.ntmps167 (by rw [Tryz.results167]) (by simp) rfl (fun hsm=>?_)
 simp (maxSteps:=10000000) only [go_sem,seval,reduceCtorEq,jl,jk,ym]
 repeat' with_reducible first |apply And.intro |apply condP<;>intro _
 all_goals first |(show be _ _=true;kernel_rfl)|assumption |(simp only [go_sem, *]<;>rfl)|rfl |(exfalso;simp_all only [Bool.true_eq_false,Bool.false_eq_true,reduceCtorEq];done)
noncomputable def il:fR:=one 167 (uS fun k q q1=>((k=0∨k=1)∧Vb q∧Vb q1,.v true (vL (bif k==0 then plus q q1 else minus q q1))))
theorem lr:TbOK Tryz.prog il:=cC (ew Tryz.func167 (by kernel_rfl) rfl) fun args e h hp=>by
 obtain ⟨k,q,q1,rfl,rfl⟩:=wc h
 obtain ⟨hk,h1,h2⟩:=hp
 rcases hk with rfl |rfl
 ·exact Jl q q1 h1 h2
 ·exact Jm q q1 h1 h2
theorem KD {z:Int} (h:dO z=true):pQ z=true:=by
 simp only [dO,decide_eq_true_eq] at h
 unfold pQ
 rw [decide_eq_true h.1,decide_eq_true h.2];rfl
theorem kI {g:Q→Q→Q×Int} {z:Int} {x x1:X} (h:iG z x x1=true):an g z x x1=(q0,1):=by
 unfold an iF
 rw [if_neg]
 intro hc
 rw [Bool.and_eq_true,Bool.and_eq_true] at hc
 have:iG z x x1=false:=badB_not.2 ⟨hc.1.1,hc.1.2,by rw [jU];exact KD hc.2⟩
 rw [this] at h;cases h
theorem GM (x x1:X) (z:Int) (b:Bool) (h:iG z x x1=true):Ct Tryz.prog 111 [iA 0,xA x,xA x1,iA z,bA b] (·=lP (q0,1)):=by
 refine bF (O:=aD cg) (by kernel_rfl) fQ (fun w=>ao dj _ w) [] 1500 49 [.cell 10 30,.tmp 11] Tryz.func111 rfl Tryz.ntmps111 (by rw [Tryz.results111]) (by simp) rfl (fun hsm=>?_)
 simp (maxSteps:=10000000) only [go_sem,seval,reduceCtorEq,cg,oU,h,zX]
 repeat' with_reducible first |apply And.intro |apply condP<;>intro _
 all_goals first |(show be _ _=true;kernel_rfl)|assumption |(simp only [go_sem, *,um,zX,lP]<;>rfl)|rfl |(exfalso;simp_all only [Bool.true_eq_false,Bool.false_eq_true,reduceCtorEq];done)
theorem GN (x x1:X) (z:Int) (b:Bool) (h:iG z x x1=false):Ct Tryz.prog 111 [iA 0,xA x,xA x1,iA z,bA b] (·=lP (res (dP z.toNat b (plus x.q x1.q)))):=by
 refine bF (O:=aD (dh cg (dh fE (dh il (dh fd cU))))) (by kernel_rfl) fQ (fun w=>ao (av dj (av io (av lr (av iY fa)))) _ w) [] 1500 49 [.cell 10 30,.tmp 11] Tryz.func111 rfl Tryz.ntmps111 (by rw [Tryz.results111]) (by simp) rfl (fun hsm=>?_)
 obtain ⟨hx,hx1,hz⟩:=badB_not.1 h
 have v0:=eQ hx hsm.2.1.2.2.1.1
 have v1:=eQ hx1 hsm.2.2.1.2.2.1.1
 have b0:=uf v0
 have b1:=uf v1
 have hp:=tF hz
 have w0:=Bu (sh v0 v1)
 have w1:=vw hp b (sh v0 v1)
 simp (maxSteps:=10000000) only [go_sem,seval,reduceCtorEq,cg,fE,il,fd,cU,oU,uS,h,qa,gV]
 repeat' with_reducible first |apply And.intro |apply condP<;>intro _
 all_goals first |(show be _ _=true;kernel_rfl)|assumption |(simp only [go_sem, *,lP]<;>rfl)|rfl |(exfalso;simp_all only [Bool.true_eq_false,Bool.false_eq_true,reduceCtorEq];done)
theorem Jo (x x1:X) (z:Int) (b:Bool):Ct Tryz.prog 111 [iA 0,xA x,xA x1,iA z,bA b] (·=lP (an (gk 0 z b) z x x1)):=by
 cases h:iG z x x1 with
 |true=>rw [kI h];exact GM x x1 z b h
 |false=>
  obtain ⟨hx,hx1,hz⟩:=badB_not.1 h
  rw [gp hx hx1 (by rw [←jU];exact hz),zo]
  exact GN x x1 z b h
theorem GO (x x1:X) (z:Int) (b:Bool) (h:iG z x x1=true):Ct Tryz.prog 111 [iA 1,xA x,xA x1,iA z,bA b] (·=lP (q0,1)):=by
 refine bF (O:=aD cg) (by kernel_rfl) fQ (fun w=>ao dj _ w) [] 1500 49 [.cell 10 30,.tmp 11] Tryz.func111 rfl Tryz.ntmps111 (by rw [Tryz.results111]) (by simp) rfl (fun hsm=>?_)
 simp (maxSteps:=10000000) only [go_sem,seval,reduceCtorEq,cg,oU,h,zX]
 repeat' with_reducible first |apply And.intro |apply condP<;>intro _
 all_goals first |(show be _ _=true;kernel_rfl)|assumption |(simp only [go_sem, *,um,zX,lP]<;>rfl)|rfl |(exfalso;simp_all only [Bool.true_eq_false,Bool.false_eq_true,reduceCtorEq];done)
theorem GP (x x1:X) (z:Int) (b:Bool) (h:iG z x x1=false):Ct Tryz.prog 111 [iA 1,xA x,xA x1,iA z,bA b] (·=lP (res (dP z.toNat b (minus x.q x1.q)))):=by
 refine bF (O:=aD (dh cg (dh fE (dh il (dh fd cU))))) (by kernel_rfl) fQ (fun w=>ao (av dj (av io (av lr (av iY fa)))) _ w) [] 1500 49 [.cell 10 30,.tmp 11] Tryz.func111 rfl Tryz.ntmps111 (by rw [Tryz.results111]) (by simp) rfl (fun hsm=>?_)
 obtain ⟨hx,hx1,hz⟩:=badB_not.1 h
 have v0:=eQ hx hsm.2.1.2.2.1.1
 have v1:=eQ hx1 hsm.2.2.1.2.2.1.1
 have b0:=uf v0
 have b1:=uf v1
 have hp:=tF hz
 have w0:=Bu (uh v0 v1)
 have w1:=vw hp b (uh v0 v1)
 simp (maxSteps:=10000000) only [go_sem,seval,reduceCtorEq,cg,fE,il,fd,cU,oU,uS,h,qa,gV]
 repeat' with_reducible first |apply And.intro |apply condP<;>intro _
 all_goals first |(show be _ _=true;kernel_rfl)|assumption |(simp only [go_sem, *,lP]<;>rfl)|rfl |(exfalso;simp_all only [Bool.true_eq_false,Bool.false_eq_true,reduceCtorEq];done)
theorem Jp (x x1:X) (z:Int) (b:Bool):Ct Tryz.prog 111 [iA 1,xA x,xA x1,iA z,bA b] (·=lP (an (gk 1 z b) z x x1)):=by
 cases h:iG z x x1 with
 |true=>rw [kI h];exact GO x x1 z b h
 |false=>
  obtain ⟨hx,hx1,hz⟩:=badB_not.1 h
  rw [gp hx hx1 (by rw [←jU];exact hz),Fs]
  exact GP x x1 z b h
def jd (k:Int→X→X→Int→Bool→Prop×AV):List AV→Option (Prop×AV)
 |[.v false [.lit (.int .i64 kd)],.v true mx,.v true mx1,.v false [.lit (.int .i64 z)],.v false [.lit (.bool b)]]=>(match cT mx,cT mx1 with
  |some x,some x1=>some (k kd x x1 z b)
  |_,_=>none)
 |_=>none
theorem xi {k:Int→X→X→Int→Bool→Prop×AV} {args:List AV} {e:Prop×AV} (h:jd k args=some e):∃ kd x x1 z b,args=[iA kd,.v true x.L,.v true x1.L,iA z,bA b]∧e=k kd x x1 z b:=by
 unfold jd at h
 split at h
 ·split at h
  ·rename_i kd mx mx1 z b _ _ x x1 hx hx1
   injection h with h;subst h
   exact ⟨kd,x,x1,z,b,by rw [fG hx,fG hx1],rfl⟩
  ·cases h
 ·cases h
end Go.Proofs.YtpacpmmdjmnamaaGreatDoor
