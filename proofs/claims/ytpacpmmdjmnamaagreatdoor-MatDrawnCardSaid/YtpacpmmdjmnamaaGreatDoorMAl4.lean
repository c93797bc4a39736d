/- The document's boxes: right, points, same, has, in, hull, meet. -/
import Derived.Test.YtpacpmmdjmnamaaGreatDoorMAl2
import Derived.Test.YtpacpmmdjmnamaaGreatDoorMAi2
namespace Go.Proofs.YtpacpmmdjmnamaaGreatDoor
set_option linter.unusedSimpArgs false
set_option linter.unusedVariables false
open Go.RowKit Nx
attribute [local irreducible] ar
section
set_option maxRecDepth 100000
set_option maxHeartbeats 4000000
attribute [local go_sem] X.eta J.eta Q.eta cu cw aZ a5 bN eZ dU hd1 pick ax aT dQ cntF nmL o8 nmA tn tR bB pH cT bO rp Int.toNat_zero decide_eq_true_eq eH eU rf rh BEq.rfl beq_self_eq_true Int.natCast_zero ge_iff_le gt_iff_lt Int.le_refl Nat.zero_mul Nat.one_mul Nat.zero_add Nat.zero_lt_succ Nat.lt_add_one Nat.le_refl Int.toNat_natCast uc dM cV dS cW bP cp bne_self_eq_false wr2 Eo Ep Er Es Et Eu gB gP zu Eh Ei ry jC tY nw ox m7 qg g9 cU iP dz jM Lc.up AA BO pY List.replicate_succ List.replicate_zero List.flatten_cons List.flatten_nil Int.ofNat_lt Int.cast_ofNat_Int Int.ofNat_eq_natCast List.isEmpty_nil List.isEmpty_cons and_false false_and List.cons_ne_nil Nat.add_zero ite_true ite_false if_true if_false Nat.le_zero_eq eq_self
attribute [local go_sem ↓] bu fc fd gG gH gT gU dR eu gW gX gK gL gR gS gw gD gO gQ
theorem IU:Ct Tryz.prog 108 [bv []] (·=bA (rightB [])):=by
 refine ak (O:=ai aj) (by kernel_rfl) be (fun w=>aa aG _ w) [] 2000 28 [.tmp 2] Tryz.func108 rfl Tryz.ntmps108 (by rw [Tryz.results108]) (by simp) rfl (fun hsm=>?_)
 simp (maxSteps:=10000000) only [go_sem,seval,reduceCtorEq,aj]
 repeat' with_reducible first |apply And.intro |apply condP<;>intro _
 all_goals first |(show ar _ _=true;kernel_rfl)|assumption |(simp only [go_sem, *,Nat.reduceAdd,rightB,Nat.reduceLeDiff,Bool.and_comm]<;>rfl)|rfl |(exfalso;simp_all only [Bool.true_eq_false,Bool.false_eq_true,reduceCtorEq];done)
theorem IV (a:J):Ct Tryz.prog 108 [bv [a]] (·=bA (rightB [a])):=by
 refine ak (O:=ai aj) (by kernel_rfl) be (fun w=>aa aG _ w) [] 2000 28 [.tmp 2] Tryz.func108 rfl Tryz.ntmps108 (by rw [Tryz.results108]) (by simp) rfl (fun hsm=>?_)
 simp (maxSteps:=10000000) only [go_sem,seval,reduceCtorEq,aj]
 repeat' with_reducible first |apply And.intro |apply condP<;>intro _
 all_goals first |(show ar _ _=true;kernel_rfl)|assumption |(simp only [go_sem, *,Nat.reduceAdd,rightB,Nat.reduceLeDiff,Bool.and_comm]<;>rfl)|rfl |(exfalso;simp_all only [Bool.true_eq_false,Bool.false_eq_true,reduceCtorEq];done)
theorem IW (a b:J):Ct Tryz.prog 108 [bv [a,b]] (·=bA (rightB [a,b])):=by
 refine ak (O:=ai aj) (by kernel_rfl) be (fun w=>aa aG _ w) [] 2000 28 [.tmp 2] Tryz.func108 rfl Tryz.ntmps108 (by rw [Tryz.results108]) (by simp) rfl (fun hsm=>?_)
 simp (maxSteps:=10000000) only [go_sem,seval,reduceCtorEq,aj]
 repeat' with_reducible first |apply And.intro |apply condP<;>intro _
 all_goals first |(show ar _ _=true;kernel_rfl)|assumption |(simp only [go_sem, *,Nat.reduceAdd,rightB,Nat.reduceLeDiff,Bool.and_comm]<;>rfl)|rfl |(exfalso;simp_all only [Bool.true_eq_false,Bool.false_eq_true,reduceCtorEq];done)
theorem IX (a b c:J):Ct Tryz.prog 108 [bv [a,b,c]] (·=bA (rightB [a,b,c])):=by
 refine ak (O:=ai aj) (by kernel_rfl) be (fun w=>aa aG _ w) [] 2000 28 [.tmp 2] Tryz.func108 rfl Tryz.ntmps108 (by rw [Tryz.results108]) (by simp) rfl (fun hsm=>?_)
 simp (maxSteps:=10000000) only [go_sem,seval,reduceCtorEq,aj]
 repeat' with_reducible first |apply And.intro |apply condP<;>intro _
 all_goals first |(show ar _ _=true;kernel_rfl)|assumption |(simp only [go_sem, *,Nat.reduceAdd,rightB,Nat.reduceLeDiff,Bool.and_comm]<;>rfl)|rfl |(exfalso;simp_all only [Bool.true_eq_false,Bool.false_eq_true,reduceCtorEq];done)
theorem IY (a b c d:J):Ct Tryz.prog 108 [bv [a,b,c,d]] (·=bA (rightB [a,b,c,d])):=by
 refine ak (O:=ai aj) (by kernel_rfl) be (fun w=>aa aG _ w) [] 2000 28 [.tmp 2] Tryz.func108 rfl Tryz.ntmps108 (by rw [Tryz.results108]) (by simp) rfl (fun hsm=>?_)
 simp (maxSteps:=10000000) only [go_sem,seval,reduceCtorEq,aj]
 repeat' with_reducible first |apply And.intro |apply condP<;>intro _
 all_goals first |(show ar _ _=true;kernel_rfl)|assumption |(simp only [go_sem, *,Nat.reduceAdd,rightB,Nat.reduceLeDiff,Bool.and_comm]<;>rfl)|rfl |(exfalso;simp_all only [Bool.true_eq_false,Bool.false_eq_true,reduceCtorEq];done)
theorem IZ (a b c d e:J) (l:List J) (n:Nat) (h0:decide ((0:Int)<(n:Int))=true) (g0:(0<n)=True) (h1:decide ((1:Int)<(n:Int))=true) (g1:(1<n)=True) (h2:decide ((2:Int)<(n:Int))=true) (g2:(2<n)=True) (h3:decide ((3:Int)<(n:Int))=true) (g3:(3<n)=True) (h4:decide ((n:Int)≤4)=false):Ct Tryz.prog 108 [.s (.sl false 6 n (bC (a::b::c::d::e::l)))] (·=bA false):=by
 refine ak (O:=ai aj) (by kernel_rfl) be (fun w=>aa aG _ w) [] 2000 28 [.tmp 2] Tryz.func108 rfl Tryz.ntmps108 (by rw [Tryz.results108]) (by simp) rfl (fun hsm=>?_)
 simp (maxSteps:=10000000) only [go_sem,seval,reduceCtorEq,aj,h0,h1,h2,h3,h4,g0,g1,g2,g3]
 repeat' with_reducible first |apply And.intro |apply condP<;>intro _
 all_goals first |(show ar _ _=true;kernel_rfl)|assumption |(simp only [go_sem, *,Nat.reduceAdd]<;>rfl)|rfl |(exfalso;simp_all only [Bool.true_eq_false,Bool.false_eq_true,reduceCtorEq];done)
theorem LV (l:List J):Ct Tryz.prog 108 [bv l] (·=bA (rightB l)):=match l with
 |[]=>IU
 |[a]=>IV a
 |[a,b]=>IW a b
 |[a,b,c]=>IX a b c
 |[a,b,c,d]=>IY a b c d
 |a::b::c::d::e::l=>by
  have hr:rightB (a::b::c::d::e::l)=false:=by
   unfold rightB
   rw [show decide ((a::b::c::d::e::l).length≤4)=false from decide_eq_false (by simp)]
   simp
  rw [hr]
  have hn:5≤(a::b::c::d::e::l).length:=by simp
  exact IZ a b c d e l _ (decide_eq_true (by omega)) (eq_true (by omega)) (decide_eq_true (by omega)) (eq_true (by omega)) (decide_eq_true (by omega)) (eq_true (by omega)) (decide_eq_true (by omega)) (eq_true (by omega)) (decide_eq_false (by omega))
noncomputable def an:b9:=one 108 (gB fun l=>(True,bA (rightB l)))
theorem bc:TbOK Tryz.prog an:=aH (aX Tryz.func108 (by kernel_rfl) rfl) fun args e h hp=>Qw (fun l _=>LV l) h hp
def yc (l:List X):List J:=l.map fun x=>⟨x,x⟩
theorem D5:Ct Tryz.prog 54 [qi []] (·= .s (dA (yc []))):=by
 refine ak (O:=ai a9) (by kernel_rfl) be (fun w=>aa cJ _ w) [34,35] 2000 20 [.tmp 2] Tryz.func54 rfl Tryz.ntmps54 (by rw [Tryz.results54]) (by simp) rfl (fun hsm=>?_)
 simp (maxSteps:=10000000) only [go_sem,seval,reduceCtorEq,a9]
 repeat' with_reducible first |apply And.intro |apply condP<;>intro _
 all_goals first |(show ar _ _=true;kernel_rfl)|assumption |(simp only [go_sem, *,Nat.reduceAdd,yc]<;>rfl)|rfl |(exfalso;simp_all only [Bool.true_eq_false,Bool.false_eq_true,reduceCtorEq];done)
theorem D6 (a:X):Ct Tryz.prog 54 [qi [a]] (·= .s (dA (yc [a]))):=by
 refine ak (O:=ai a9) (by kernel_rfl) be (fun w=>aa cJ _ w) [34,35] 2000 20 [.tmp 2] Tryz.func54 rfl Tryz.ntmps54 (by rw [Tryz.results54]) (by simp) rfl (fun hsm=>?_)
 simp (maxSteps:=10000000) only [go_sem,seval,reduceCtorEq,a9]
 repeat' with_reducible first |apply And.intro |apply condP<;>intro _
 all_goals first |(show ar _ _=true;kernel_rfl)|assumption |(simp only [go_sem, *,Nat.reduceAdd,yc]<;>rfl)|rfl |(exfalso;simp_all only [Bool.true_eq_false,Bool.false_eq_true,reduceCtorEq];done)
theorem D7 (a b:X):Ct Tryz.prog 54 [qi [a,b]] (·= .s (dA (yc [a,b]))):=by
 refine ak (O:=ai a9) (by kernel_rfl) be (fun w=>aa cJ _ w) [34,35] 2000 20 [.tmp 2] Tryz.func54 rfl Tryz.ntmps54 (by rw [Tryz.results54]) (by simp) rfl (fun hsm=>?_)
 simp (maxSteps:=10000000) only [go_sem,seval,reduceCtorEq,a9]
 repeat' with_reducible first |apply And.intro |apply condP<;>intro _
 all_goals first |(show ar _ _=true;kernel_rfl)|assumption |(simp only [go_sem, *,Nat.reduceAdd,yc]<;>rfl)|rfl |(exfalso;simp_all only [Bool.true_eq_false,Bool.false_eq_true,reduceCtorEq];done)
theorem D8 (a b c:X):Ct Tryz.prog 54 [qi [a,b,c]] (·= .s (dA (yc [a,b,c]))):=by
 refine ak (O:=ai a9) (by kernel_rfl) be (fun w=>aa cJ _ w) [34,35] 2000 20 [.tmp 2] Tryz.func54 rfl Tryz.ntmps54 (by rw [Tryz.results54]) (by simp) rfl (fun hsm=>?_)
 simp (maxSteps:=10000000) only [go_sem,seval,reduceCtorEq,a9]
 repeat' with_reducible first |apply And.intro |apply condP<;>intro _
 all_goals first |(show ar _ _=true;kernel_rfl)|assumption |(simp only [go_sem, *,Nat.reduceAdd,yc]<;>rfl)|rfl |(exfalso;simp_all only [Bool.true_eq_false,Bool.false_eq_true,reduceCtorEq];done)
theorem D9 (a b c d:X):Ct Tryz.prog 54 [qi [a,b,c,d]] (·= .s (dA (yc [a,b,c,d]))):=by
 refine ak (O:=ai a9) (by kernel_rfl) be (fun w=>aa cJ _ w) [34,35] 2000 20 [.tmp 2] Tryz.func54 rfl Tryz.ntmps54 (by rw [Tryz.results54]) (by simp) rfl (fun hsm=>?_)
 simp (maxSteps:=10000000) only [go_sem,seval,reduceCtorEq,a9]
 repeat' with_reducible first |apply And.intro |apply condP<;>intro _
 all_goals first |(show ar _ _=true;kernel_rfl)|assumption |(simp only [go_sem, *,Nat.reduceAdd,yc]<;>rfl)|rfl |(exfalso;simp_all only [Bool.true_eq_false,Bool.false_eq_true,reduceCtorEq];done)
theorem Ea (a b c d e:X):Ct Tryz.prog 54 [qi [a,b,c,d,e]] (·= .s (dA (yc [a,b,c,d,e]))):=by
 refine ak (O:=ai a9) (by kernel_rfl) be (fun w=>aa cJ _ w) [34,35] 2000 20 [.tmp 2] Tryz.func54 rfl Tryz.ntmps54 (by rw [Tryz.results54]) (by simp) rfl (fun hsm=>?_)
 simp (maxSteps:=10000000) only [go_sem,seval,reduceCtorEq,a9]
 repeat' with_reducible first |apply And.intro |apply condP<;>intro _
 all_goals first |(show ar _ _=true;kernel_rfl)|assumption |(simp only [go_sem, *,Nat.reduceAdd,yc]<;>rfl)|rfl |(exfalso;simp_all only [Bool.true_eq_false,Bool.false_eq_true,reduceCtorEq];done)
theorem Eb (a b c d e g:X):Ct Tryz.prog 54 [qi [a,b,c,d,e,g]] (·= .s (dA (yc [a,b,c,d,e,g]))):=by
 refine ak (O:=ai a9) (by kernel_rfl) be (fun w=>aa cJ _ w) [34,35] 2000 20 [.tmp 2] Tryz.func54 rfl Tryz.ntmps54 (by rw [Tryz.results54]) (by simp) rfl (fun hsm=>?_)
 simp (maxSteps:=10000000) only [go_sem,seval,reduceCtorEq,a9]
 repeat' with_reducible first |apply And.intro |apply condP<;>intro _
 all_goals first |(show ar _ _=true;kernel_rfl)|assumption |(simp only [go_sem, *,Nat.reduceAdd,yc]<;>rfl)|rfl |(exfalso;simp_all only [Bool.true_eq_false,Bool.false_eq_true,reduceCtorEq];done)
theorem IT (l:List X) (h:l.length≤6):Ct Tryz.prog 54 [qi l] (·= .s (dA (yc l))):=match l,h with
 |[],_=>D5
 |[a],_=>D6 a
 |[a,b],_=>D7 a b
 |[a,b,c],_=>D8 a b c
 |[a,b,c,d],_=>D9 a b c d
 |[a,b,c,d,e],_=>Ea a b c d e
 |[a,b,c,d,e,g],_=>Eb a b c d e g
 |_::_::_::_::_::_::_::_,h=>absurd h (by simp)
noncomputable def i7:b9:=one 54 (gP fun l=>(l.length≤6,.s (dA (yc l))))
theorem pe:TbOK Tryz.prog i7:=aH (aX Tryz.func54 (by kernel_rfl) rfl) fun args e h hp=>Qy (fun l h=>IT l h) h hp
theorem L0:Ct Tryz.prog 50 [bv [],bv []] (·=bA (dT [] [])):=by
 refine ak (O:=ai bD) (by kernel_rfl) be (fun w=>aa cP _ w) [] 2000 27 [.tmp 4] Tryz.func50 rfl Tryz.ntmps50 (by rw [Tryz.results50]) (by simp) rfl (fun hsm=>?_)
 simp (maxSteps:=10000000) only [go_sem,seval,reduceCtorEq,bD]
 repeat' with_reducible first |apply And.intro |apply condP<;>intro _
 all_goals first |(show ar _ _=true;kernel_rfl)|assumption |(simp only [go_sem, *,Nat.reduceAdd,dT,bZ]<;>rfl)|rfl |(exfalso;simp_all only [Bool.true_eq_false,Bool.false_eq_true,reduceCtorEq];done)
theorem L1 (a:J) (s:J):Ct Tryz.prog 50 [bv [a],bv [s]] (·=bA (dT [a] [s])):=by
 refine ak (O:=ai bD) (by kernel_rfl) be (fun w=>aa cP _ w) [] 2000 27 [.tmp 4] Tryz.func50 rfl Tryz.ntmps50 (by rw [Tryz.results50]) (by simp) rfl (fun hsm=>?_)
 simp (maxSteps:=10000000) only [go_sem,seval,reduceCtorEq,bD]
 repeat' with_reducible first |apply And.intro |apply condP<;>intro _
 all_goals first |(show ar _ _=true;kernel_rfl)|assumption |(simp only [go_sem, *,Nat.reduceAdd,dT,bZ]<;>rfl)|rfl |(exfalso;simp_all only [Bool.true_eq_false,Bool.false_eq_true,reduceCtorEq];done)
theorem L3 (a b:J) (s t:J):Ct Tryz.prog 50 [bv [a,b],bv [s,t]] (·=bA (dT [a,b] [s,t])):=by
 refine ak (O:=ai bD) (by kernel_rfl) be (fun w=>aa cP _ w) [] 2000 27 [.tmp 4] Tryz.func50 rfl Tryz.ntmps50 (by rw [Tryz.results50]) (by simp) rfl (fun hsm=>?_)
 simp (maxSteps:=10000000) only [go_sem,seval,reduceCtorEq,bD]
 repeat' with_reducible first |apply And.intro |apply condP<;>intro _
 all_goals first |(show ar _ _=true;kernel_rfl)|assumption |(simp only [go_sem, *,Nat.reduceAdd,dT,bZ]<;>rfl)|rfl |(exfalso;simp_all only [Bool.true_eq_false,Bool.false_eq_true,reduceCtorEq];done)
theorem L4 (a b c:J) (s t u:J):Ct Tryz.prog 50 [bv [a,b,c],bv [s,t,u]] (·=bA (dT [a,b,c] [s,t,u])):=by
 refine ak (O:=ai bD) (by kernel_rfl) be (fun w=>aa cP _ w) [] 2000 27 [.tmp 4] Tryz.func50 rfl Tryz.ntmps50 (by rw [Tryz.results50]) (by simp) rfl (fun hsm=>?_)
 simp (maxSteps:=10000000) only [go_sem,seval,reduceCtorEq,bD]
 repeat' with_reducible first |apply And.intro |apply condP<;>intro _
 all_goals first |(show ar _ _=true;kernel_rfl)|assumption |(simp only [go_sem, *,Nat.reduceAdd,dT,bZ]<;>rfl)|rfl |(exfalso;simp_all only [Bool.true_eq_false,Bool.false_eq_true,reduceCtorEq];done)
theorem L5 (a b c d:J) (s t u v:J):Ct Tryz.prog 50 [bv [a,b,c,d],bv [s,t,u,v]] (·=bA (dT [a,b,c,d] [s,t,u,v])):=by
 refine ak (O:=ai bD) (by kernel_rfl) be (fun w=>aa cP _ w) [] 2000 27 [.tmp 4] Tryz.func50 rfl Tryz.ntmps50 (by rw [Tryz.results50]) (by simp) rfl (fun hsm=>?_)
 simp (maxSteps:=10000000) only [go_sem,seval,reduceCtorEq,bD]
 repeat' with_reducible first |apply And.intro |apply condP<;>intro _
 all_goals first |(show ar _ _=true;kernel_rfl)|assumption |(simp only [go_sem, *,Nat.reduceAdd,dT,bZ]<;>rfl)|rfl |(exfalso;simp_all only [Bool.true_eq_false,Bool.false_eq_true,reduceCtorEq];done)
theorem L6 (a b c d e:J) (s t u v x:J):Ct Tryz.prog 50 [bv [a,b,c,d,e],bv [s,t,u,v,x]] (·=bA (dT [a,b,c,d,e] [s,t,u,v,x])):=by
 refine ak (O:=ai bD) (by kernel_rfl) be (fun w=>aa cP _ w) [] 2000 27 [.tmp 4] Tryz.func50 rfl Tryz.ntmps50 (by rw [Tryz.results50]) (by simp) rfl (fun hsm=>?_)
 simp (maxSteps:=10000000) only [go_sem,seval,reduceCtorEq,bD]
 repeat' with_reducible first |apply And.intro |apply condP<;>intro _
 all_goals first |(show ar _ _=true;kernel_rfl)|assumption |(simp only [go_sem, *,Nat.reduceAdd,dT,bZ]<;>rfl)|rfl |(exfalso;simp_all only [Bool.true_eq_false,Bool.false_eq_true,reduceCtorEq];done)
theorem L7 (a b c d e g:J) (s t u v x y:J):Ct Tryz.prog 50 [bv [a,b,c,d,e,g],bv [s,t,u,v,x,y]] (·=bA (dT [a,b,c,d,e,g] [s,t,u,v,x,y])):=by
 refine ak (O:=ai bD) (by kernel_rfl) be (fun w=>aa cP _ w) [] 2000 27 [.tmp 4] Tryz.func50 rfl Tryz.ntmps50 (by rw [Tryz.results50]) (by simp) rfl (fun hsm=>?_)
 simp (maxSteps:=10000000) only [go_sem,seval,reduceCtorEq,bD]
 repeat' with_reducible first |apply And.intro |apply condP<;>intro _
 all_goals first |(show ar _ _=true;kernel_rfl)|assumption |(simp only [go_sem, *,Nat.reduceAdd,dT,bZ]<;>rfl)|rfl |(exfalso;simp_all only [Bool.true_eq_false,Bool.false_eq_true,reduceCtorEq];done)
theorem L8 (l m:List J) (h:l.length≠m.length):Ct Tryz.prog 50 [bv l,bv m] (·=bA (dT l m)):=by
 have h1:((l.length:Int)!=(m.length:Int))=true:=bne_iff_ne.2 (by omega)
 refine ak (O:=ai bD) (by kernel_rfl) be (fun w=>aa cP _ w) [] 2000 27 [.tmp 4] Tryz.func50 rfl Tryz.ntmps50 (by rw [Tryz.results50]) (by simp) rfl (fun hsm=>?_)
 simp (maxSteps:=10000000) only [go_sem,seval,reduceCtorEq,bD,h1]
 repeat' with_reducible first |apply And.intro |apply condP<;>intro _
 all_goals first |(show ar _ _=true;kernel_rfl)|assumption |(simp only [go_sem, *,Nat.reduceAdd,dT,Fd h]<;>rfl)|rfl |(exfalso;simp_all only [Bool.true_eq_false,Bool.false_eq_true,reduceCtorEq];done)
theorem PH (l m:List J) (hl:l.length≤6):Ct Tryz.prog 50 [bv l,bv m] (·=bA (dT l m)):=by
 by_cases h:l.length=m.length
 case neg=>exact L8 l m h
 match l,m,h,hl with
 |[],[],_,_=>exact L0
 |[a],[s],_,_=>exact L1 a s
 |[a,b],[s,t],_,_=>exact L3 a b s t
 |[a,b,c],[s,t,u],_,_=>exact L4 a b c s t u
 |[a,b,c,d],[s,t,u,v],_,_=>exact L5 a b c d s t u v
 |[a,b,c,d,e],[s,t,u,v,x],_,_=>exact L6 a b c d e s t u v x
 |[a,b,c,d,e,g],[s,t,u,v,x,y],_,_=>exact L7 a b c d e g s t u v x y
 |_::_::_::_::_::_::_::_,_,_,h=>simp at h
noncomputable def kh:b9:=one 50 (zu fun l m=>(l.length≤6,bA (dT l m)))
theorem oU:TbOK Tryz.prog kh:=aH (aX Tryz.func50 (by kernel_rfl) rfl) fun args e h hp=>N2 (fun l m h=>PH l m h) h hp
end
section

end
end Go.Proofs.YtpacpmmdjmnamaaGreatDoor
