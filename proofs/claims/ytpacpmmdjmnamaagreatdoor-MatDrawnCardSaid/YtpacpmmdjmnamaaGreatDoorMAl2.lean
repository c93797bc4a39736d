/- Package box: equal, pairs, each, for any function handed over. -/
import Derived.Test.YtpacpmmdjmnamaaGreatDoorMAl1
namespace Go.Proofs.YtpacpmmdjmnamaaGreatDoor
set_option linter.unusedSimpArgs false
set_option linter.unusedVariables false
set_option maxHeartbeats 4000000
set_option maxRecDepth 100000
open Go.RowKit Nx
attribute [local irreducible] ar
section
theorem RU {g:FuncId} {d:Nat} {st:St} {args:List AV}:ai eJ g d st args=none:=rfl
theorem Fd {α β:Type} {φ:α→β→Bool}:∀ {l:List α} {m:List β},l.length≠m.length→bZ φ l m=false:=by
 intro l
 induction l with
 |nil=>intro m h;cases m with
  |nil=>exact absurd rfl h
  |cons _ _=>rfl
 |cons a l ih=>intro m h;cases m with
  |nil=>rfl
  |cons b m=>
   unfold bZ
   rw [ih (by simpa using h),Bool.and_false]
end
section
attribute [local go_sem] X.eta J.eta Q.eta cu cw aZ a5 bN eZ dU hd1 pick ax aT dQ cntF nmL o8 nmA tn tR bB pH cT bO rp Int.toNat_zero decide_eq_true_eq eH eU rf rh BEq.rfl beq_self_eq_true Int.natCast_zero ge_iff_le gt_iff_lt Int.le_refl Nat.zero_mul Nat.one_mul Nat.zero_add Nat.zero_lt_succ Nat.lt_add_one Nat.le_refl Int.toNat_natCast uc dM cV dS cW bP cp bne_self_eq_false wr2 Eo Ep Er Es Et Eu gB gP zu Eh Ei ry jC tY nw ox m7 qg g9 cU iP dz jM Lc.up AA BO pY List.replicate_succ List.replicate_zero List.flatten_cons List.flatten_nil Int.ofNat_lt Int.cast_ofNat_Int Int.ofNat_eq_natCast List.isEmpty_nil List.isEmpty_cons and_false false_and List.cons_ne_nil Nat.add_zero ite_true ite_false if_true if_false Nat.le_zero_eq eq_self
attribute [local go_sem ↓] bu fc fd gG gH gT gU dR eu gW gX gK gL gR gS gw gD gO gQ
theorem c9 {l:List J} (h:rightB l=true):1≤l.length∧l.length≤4:=by
 unfold rightB at h
 simp only [Bool.and_eq_true,decide_eq_true_eq] at h
 exact h.1
def cm (L:List (List Lf)) (c0:FuncId) (A:List AV) (r:AV):HK:=fun ls c xs=>some (ls=L∧c=c0∧xs=A,r)
theorem Qr {w:World} {S:Nat→Prop} {gs:List Nat} {f:FuncId} {caps:List Value} {φ:J→J×Int} (hL:Lent S w gs [[.lit (.func (.func f) #[] caps.toArray)]]) (hf:Fv Tryz.prog w f caps (gJ fun j=>(True,iY (φ j)))):Fv Tryz.prog w 199 (fu gs) (l5 fun a _=>(True,iY (φ a))):=by
 refine ep hL (aX Tryz.func199 (by kernel_rfl) rfl) (fun args e h=>by obtain ⟨j,j1,rfl,rfl⟩:=iL h;rfl) (fun args e h hp w' us hb ht' hL' hA=>?_)
 obtain ⟨j,j1,rfl,rfl⟩:=iL h
 refine (cL (args:=[jA j,jA j1,.s (.own 1000 0)]) (O:=bO (jM 1 f caps (gJ fun j=>(True,iY (φ j)))) (ai eJ)) (Pst:=(·=iY (φ j))) (by kernel_rfl) be (kP (fE (hf.mono hb)) (aa bk _ w') (fun g d st args h=>RU)) [] 300 12 [.cell 5 32,.tmp 6] Tryz.func199 rfl Tryz.ntmps199 (by rw [Tryz.results199]) (by simp) ht' hL' hA ?_).mono ?_
 case refine_2=>rintro e w'' ⟨u,r,he,rfl,_,hR,hb2⟩;exact ⟨u,he,hR,hb2⟩
 simp (maxSteps:=10000000) only [go_sem,seval,reduceCtorEq]
 repeat' with_reducible first |apply And.intro |apply condP<;>intro _
 all_goals first |(show ar _ _=true;kernel_rfl)|assumption |(simp only [go_sem, *]<;>rfl)|rfl |(exfalso;simp_all only [Bool.true_eq_false,Bool.false_eq_true,reduceCtorEq];done)
theorem Qs {w:World} {S:Nat→Prop} {gs:List Nat} {f:FuncId} {caps:List Value} {φ:J→X×Int} (hL:Lent S w gs [[.lit (.func (.func f) #[] caps.toArray)]]) (hf:Fv Tryz.prog w f caps (gJ fun j=>(True,kY (φ j)))):Fv Tryz.prog w 201 (fu gs) (l5 fun a _=>(True,kY (φ a))):=by
 refine ep hL (aX Tryz.func201 (by kernel_rfl) rfl) (fun args e h=>by obtain ⟨j,j1,rfl,rfl⟩:=iL h;rfl) (fun args e h hp w' us hb ht' hL' hA=>?_)
 obtain ⟨j,j1,rfl,rfl⟩:=iL h
 refine (cL (args:=[jA j,jA j1,.s (.own 1000 0)]) (O:=bO (jM 1 f caps (gJ fun j=>(True,kY (φ j)))) (ai eJ)) (Pst:=(·=kY (φ j))) (by kernel_rfl) be (kP (fE (hf.mono hb)) (aa bk _ w') (fun g d st args h=>RU)) [] 300 12 [.cell 5 30,.tmp 6] Tryz.func201 rfl Tryz.ntmps201 (by rw [Tryz.results201]) (by simp) ht' hL' hA ?_).mono ?_
 case refine_2=>rintro e w'' ⟨u,r,he,rfl,_,hR,hb2⟩;exact ⟨u,he,hR,hb2⟩
 simp (maxSteps:=10000000) only [go_sem,seval,reduceCtorEq]
 repeat' with_reducible first |apply And.intro |apply condP<;>intro _
 all_goals first |(show ar _ _=true;kernel_rfl)|assumption |(simp only [go_sem, *]<;>rfl)|rfl |(exfalso;simp_all only [Bool.true_eq_false,Bool.false_eq_true,reduceCtorEq];done)
end
section
attribute [local go_sem] X.eta J.eta Q.eta cu cw aZ a5 bN eZ dU hd1 pick ax aT dQ cntF nmL o8 nmA tn tR bB pH cT bO rp Int.toNat_zero decide_eq_true_eq eH eU rf rh BEq.rfl beq_self_eq_true Int.natCast_zero ge_iff_le gt_iff_lt Int.le_refl Nat.zero_mul Nat.one_mul Nat.zero_add Nat.zero_lt_succ Nat.lt_add_one Nat.le_refl Int.toNat_natCast uc dM cV dS cW bP cp bne_self_eq_false wr2 Eo Ep Er Es Et Eu gB gP zu Eh Ei ry jC tY nw ox m7 qg g9 cU iP dz jM Lc.up AA BO pY List.replicate_succ List.replicate_zero List.flatten_cons List.flatten_nil Int.ofNat_lt Int.cast_ofNat_Int Int.ofNat_eq_natCast List.isEmpty_nil List.isEmpty_cons and_false false_and List.cons_ne_nil Nat.add_zero ite_true ite_false if_true if_false Nat.le_zero_eq eq_self
attribute [local go_sem ↓] bu fc fd gG gH gT gU dR eu gW gX gK gL gR gS gw gD gO gQ
theorem bf {T:b9} {g:FuncId} {d:Nat} {st:St} {args:List AV} (h:∀ args,T g args=none):ai T g d st args=none:=by unfold ai;rw [h]
theorem bz {f g:FuncId} {k:List AV→Option (Prop×AV)} {args:List AV} (h:f≠g):one g k f args=none:=if_neg h
theorem Qu {f:FuncId} {k:List AV→Option (Prop×AV)} (h:TbOK Tryz.prog (one f k)) (he:∀ (vs:Array Value) (w:World),(callFunc f vs).run Tryz.prog w= .ok (.enter f vs) w) {w:World}:Fv Tryz.prog w f [] k:=
 Qv he fun args e h1 h2=>h.2 f args e ((if_pos rfl).trans h1) h2
theorem Qc {w:World} {S:Nat→Prop} {gs:List Nat} {z:Int} (hL:Lent S w gs [[.lit (.int .i64 z)]]):Fv Tryz.prog w 143 (fu gs) (l5 fun a b=>(True,iY (cH a b z))):=by
 refine ep hL (aX Tryz.func143 (by kernel_rfl) rfl) (fun args e h=>by obtain ⟨j,j1,rfl,rfl⟩:=iL h;rfl) (fun args e h hp w' us hb ht' hL' hA=>?_)
 obtain ⟨j,j1,rfl,rfl⟩:=iL h
 refine (cL (args:=[jA j,jA j1,.s (.own 1000 0)]) (O:=ai pf) (Pst:=(·=iY (cH j j1 z))) (by kernel_rfl) be (aa sc _ w') [] 300 13 [.cell 5 32,.tmp 6] Tryz.func143 rfl Tryz.ntmps143 (by rw [Tryz.results143]) (by simp) ht' hL' hA ?_).mono ?_
 case refine_2=>rintro e w'' ⟨u,r,he,rfl,_,hR,hb2⟩;exact ⟨u,he,hR,hb2⟩
 simp (maxSteps:=10000000) only [go_sem,seval,reduceCtorEq,pf]
 repeat' with_reducible first |apply And.intro |apply condP<;>intro _
 all_goals first |(show ar _ _=true;kernel_rfl)|assumption |(simp only [go_sem, *]<;>rfl)|rfl |(exfalso;simp_all only [Bool.true_eq_false,Bool.false_eq_true,reduceCtorEq];done)
theorem Qe {w:World} {S:Nat→Prop} {gs:List Nat} {z:Int} (hL:Lent S w gs [[.lit (.int .i64 z)]]):Fv Tryz.prog w 145 (fu gs) (l5 fun a b=>(True,iY (lM a b z))):=by
 refine ep hL (aX Tryz.func145 (by kernel_rfl) rfl) (fun args e h=>by obtain ⟨j,j1,rfl,rfl⟩:=iL h;rfl) (fun args e h hp w' us hb ht' hL' hA=>?_)
 obtain ⟨j,j1,rfl,rfl⟩:=iL h
 refine (cL (args:=[jA j,jA j1,.s (.own 1000 0)]) (O:=ai vh) (Pst:=(·=iY (lM j j1 z))) (by kernel_rfl) be (aa yZ _ w') [] 300 13 [.cell 5 32,.tmp 6] Tryz.func145 rfl Tryz.ntmps145 (by rw [Tryz.results145]) (by simp) ht' hL' hA ?_).mono ?_
 case refine_2=>rintro e w'' ⟨u,r,he,rfl,_,hR,hb2⟩;exact ⟨u,he,hR,hb2⟩
 simp (maxSteps:=10000000) only [go_sem,seval,reduceCtorEq,vh]
 repeat' with_reducible first |apply And.intro |apply condP<;>intro _
 all_goals first |(show ar _ _=true;kernel_rfl)|assumption |(simp only [go_sem, *]<;>rfl)|rfl |(exfalso;simp_all only [Bool.true_eq_false,Bool.false_eq_true,reduceCtorEq];done)
theorem Jy {w:World} {S:Nat→Prop} {gs:List Nat} {x:J} {z:Int} (hL:Lent S w gs [x.L,[.lit (.int .i64 z)]]):Fv Tryz.prog w 148 (fu gs) (gJ fun a=>(True,iY (cB x a z))):=by
 refine ep hL (aX Tryz.func148 (by kernel_rfl) rfl) (fun args e h=>by obtain ⟨j,rfl,rfl⟩:=oM h;rfl) (fun args e h hp w' us hb ht' hL' hA=>?_)
 obtain ⟨j,rfl,rfl⟩:=oM h
 refine (cL (args:=[jA j,.s (.own 1000 0),.s (.own 1001 0)]) (O:=ai nP) (Pst:=(·=iY (cB x j z))) (by kernel_rfl) be (aa se _ w') [] 300 12 [.cell 4 32,.tmp 5] Tryz.func148 rfl Tryz.ntmps148 (by rw [Tryz.results148]) (by simp) ht' hL' hA ?_).mono ?_
 case refine_2=>rintro e w'' ⟨u,r,he,rfl,_,hR,hb2⟩;exact ⟨u,he,hR,hb2⟩
 simp (maxSteps:=10000000) only [go_sem,seval,reduceCtorEq,nP]
 repeat' with_reducible first |apply And.intro |apply condP<;>intro _
 all_goals first |(show ar _ _=true;kernel_rfl)|assumption |(simp only [go_sem, *]<;>rfl)|rfl |(exfalso;simp_all only [Bool.true_eq_false,Bool.false_eq_true,reduceCtorEq];done)
theorem Qd {w:World} {S:Nat→Prop} {gs:List Nat} {z:Int} (hL:Lent S w gs [[.lit (.int .i64 z)]]):Fv Tryz.prog w 150 (fu gs) (gJ fun a=>(True,kY (iZ a z))):=by
 refine ep hL (aX Tryz.func150 (by kernel_rfl) rfl) (fun args e h=>by obtain ⟨j,rfl,rfl⟩:=oM h;rfl) (fun args e h hp w' us hb ht' hL' hA=>?_)
 obtain ⟨j,rfl,rfl⟩:=oM h
 refine (cL (args:=[jA j,.s (.own 1000 0)]) (O:=ai vg) (Pst:=(·=kY (iZ j z))) (by kernel_rfl) be (aa yY _ w') [] 300 10 [.cell 3 30,.tmp 4] Tryz.func150 rfl Tryz.ntmps150 (by rw [Tryz.results150]) (by simp) ht' hL' hA ?_).mono ?_
 case refine_2=>rintro e w'' ⟨u,r,he,rfl,_,hR,hb2⟩;exact ⟨u,he,hR,hb2⟩
 simp (maxSteps:=10000000) only [go_sem,seval,reduceCtorEq,vg]
 repeat' with_reducible first |apply And.intro |apply condP<;>intro _
 all_goals first |(show ar _ _=true;kernel_rfl)|assumption |(simp only [go_sem, *]<;>rfl)|rfl |(exfalso;simp_all only [Bool.true_eq_false,Bool.false_eq_true,reduceCtorEq];done)
end
end Go.Proofs.YtpacpmmdjmnamaaGreatDoor
