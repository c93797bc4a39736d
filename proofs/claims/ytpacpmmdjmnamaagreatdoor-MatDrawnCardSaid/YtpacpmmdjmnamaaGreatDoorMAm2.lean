/- Decks: boxes, points in boxes, parts of boxes, as they are drawn. -/
import Derived.Test.YtpacpmmdjmnamaaGreatDoorMAl2
import Derived.Test.YtpacpmmdjmnamaaGreatDoorMAl4
import Derived.Test.YtpacpmmdjmnamaaGreatDoorMAi4
import Derived.Test.YtpacpmmdjmnamaaGreatDoorMAj2
import Derived.Test.YtpacpmmdjmnamaaGreatDoorCards
import Derived.Test.YtpacpmmdjmnamaaGreatDoorTie
import Derived.Test.YtpacpmmdjmnamaaGreatDoorMNat1
import Derived.WalkKit
import Derived.ProofKit
import Derived.OpenShut
import Derived.Deep.DeepHandedRow
import Derived.Lib.LaidTab
import Derived.Lib.SmallJoins
import Derived.Deep.Strs
import Derived.Test.YtpacpmmdjmnamaaGreatDoorMAkM
namespace Go.Proofs.YtpacpmmdjmnamaaGreatDoor
section
section
section
set_option linter.unusedSimpArgs false
set_option linter.unusedVariables false
open Go.RowKit Nx
section
structure K where
 (u0 u1:Value) (A:Option Addr) (n c:Nat) (u3 u4:Value) (B:Option Addr) (m d:Nat)
def K.C (k:K):List Lc:=[.lit k.u0,.lit k.u1,.lit (.slice k.A k.n k.c),.lit k.u3,.lit k.u4,.lit (.slice k.B k.m k.d)]
abbrev K.p (k:K):Nat×Nat:=(k.n,k.m)
abbrev J.p (j:J):Nat×Nat:=(j.lo.xs.length,j.hi.xs.length)
structure Kp where
 (u0 u1:Value) (A:Option Addr) (n c:Nat)
def Kp.C (k:Kp):List Lc:=[.lit k.u0,.lit k.u1,.lit (.slice k.A k.n k.c)]
section
variable {S:Nat→Prop} {w:World}
end
end
section
attribute [local irreducible] ar
end
section
attribute [local irreducible] ar
end
section
attribute [local irreducible] ar
end
section
attribute [local irreducible] ar
end
section

end
end
section
section
set_option linter.unusedSimpArgs false
set_option linter.unusedVariables false
open Go.RowKit Nx
attribute [local irreducible] ar
section
theorem x8 {A B:dI} {f:FuncId} {d:Nat} {st:St} {args:List AV} (h1:A f d st args=none) (h2:B f d st args=none):bO A B f d st args=none:=by unfold bO;rw [h1];exact h2
end
section
theorem nV (x:X):cmpx x x=0:=by
 unfold cmpx jc
 split
 ·rw [lg (E:=x.e.natAbs) (show -((x.e.natAbs:Nat):Int)≤x.e by omega) (show -((x.e.natAbs:Nat):Int)≤x.e by omega)];simp
 ·rfl
end
section

end
end
section
set_option linter.unusedSimpArgs false
set_option linter.unusedVariables false
open Go.RowKit Nx
attribute [local irreducible] ar
section
section
variable {st:St} {l:List X}
end
end
section

end
end
end
end
section
section
open Go.ChangeShapes Go.WideShapes Go.ChangeAt Go.RowKit Nx
theorem own:ownKnob Tryz.prog.godebug=none:=by kernel_rfl
theorem Kl:laidOutB Tryz.prog=true:=by kernel_rfl
theorem Qz:Tryz.prog.globalNamed "math/bits.deBruijn64tab"=some 0 :=by kernel_rfl
theorem Gt:(Tryz.prog.globals[0]?).map (·.type)=some 205 :=by kernel_rfl
theorem FV:Tryz.prog.cellsOf 205 =64:=by kernel_rfl
theorem Nu:Tryz.prog.cellsOf 5 =1:=by kernel_rfl
theorem cells64:Tryz.prog.cellsOf 50 =1:=by kernel_rfl
theorem Ps {W:World} (h:laidMetH Tryz.prog [("math/bits.deBruijn64tab",Rows.laid_math_bits_deBruijn64tab)] W):Tab W:=by
 have ht:Lib.TabIs Tryz.prog W "math/bits.deBruijn64tab" .u8 (deb.map fun (x:Nat)=>(x:Int)):=
  Lib.tabIs_of_head (rest:=[]) Qz Gt Tryz.underlying205 Tryz.underlying5 Nu FV h
 intro i hi
 have hl:i<deb.length:=hi
 have:=ht.cell Qz i (by simpa using hl)
 rw [this]
 congr 2
 simp [List.getD_eq_getElem?_getD,List.getElem?_eq_getElem hl]
theorem SZ {H:Type} {enc:TypeId×Value→H} {W:World} {fuel:Nat} {a0:Option Addr} {len cap:Nat} {d:DataW H} {p:List MemPlace}
  (hf:DataW.trod enc Tryz.prog W 0 (fun _=>true) true fuel 22 (Value.slice a0 len cap).cells.toList=some (d,p)):∃ xs:List Nat,Arg W a0 len cap xs:=by
 rcases open_ints Tryz.underlying22 Tryz.underlying50 cells64 hf with ⟨hcs,hx⟩|⟨a,len',cap',zs,hcs,_,hl,hm,hz,hx,hcell,hwz⟩
 ·simp [Value.cells] at hcs
  obtain ⟨rfl,rfl,rfl⟩:=hcs
  exact ⟨[],Rd.none_,Small.nil⟩
 ·simp [Value.cells] at hcs
  obtain ⟨rfl,rfl,rfl⟩:=hcs
  simp only [if_true] at hz
  have hb:∀ z∈zs,0≤z∧z<18446744073709551616:=fun z hzm=>by
   have:=hwz z hzm
   simp only [Lit.wf,Bool.and_eq_true,decide_eq_true_iff] at this
   have h1:IntKind.u64.min=0:=rfl
   have h2:IntKind.u64.max=18446744073709551615:=rfl
   omega
  refine ⟨(zs.take len).map Int.toNat,⟨by simp;omega,hl,fun hp=>⟨a,rfl,Nat.zero_le _,?_,fun j u hu=>?_⟩⟩,?_⟩
  ·have:=hcell 0 (by omega)
   have:=World.block_lt_of_cell? W _ this
   rwa [au] at this
  ·rw [List.getElem?_map,Option.map_eq_some_iff] at hu
   obtain ⟨z,hz1,rfl⟩:=hu
   rw [List.getElem?_take] at hz1
   split at hz1
   ·have hj:=(List.getElem?_eq_some_iff.1 hz1).1
    rw [hcell j hj,List.getD_eq_getElem?_getD,hz1]
    have:=hb z (List.mem_of_getElem? hz1)
    simp only [Option.getD_some]
    congr 2
    omega
   ·cases hz1
  ·intro x hx'
   rw [List.mem_map] at hx'
   obtain ⟨z,hz1,rfl⟩:=hx'
   have:=hb z (List.mem_of_mem_take hz1)
   unfold B64;omega
noncomputable def qz (os:Os):World:=
 {World.holding Tryz.prog os ⟨#[],#[],[]⟩ with heap:=(World.holding Tryz.prog os ⟨#[],#[],[]⟩).heap.modify 0 fun
   |.cells _ t frozen=>.cells (deb.map fun (x:Nat)=>Value.int .u8 (x:Int)).toArray t frozen
   |o=>o}
end
section
open Go.ChangeShapes Go.WideShapes Go.ChangeAt Go.RowKit Go.Joins Nx
end
section
open Go.ChangeShapes Go.WideShapes Go.ChangeAt Go.RowKit Go.Joins Nx
end
end
end
section
set_option linter.unusedSimpArgs false
set_option linter.unusedVariables false
open Go.RowKit Nx
attribute [local irreducible] ar
section
set_option maxRecDepth 100000
set_option maxHeartbeats 4000000
attribute [local go_sem] X.eta J.eta Q.eta cu cw aZ a5 bN eZ dU hd1 pick ax aT dQ cntF nmL o8 nmA tn tR bB pH cT bO rp Int.toNat_zero decide_eq_true_eq eH eU rf rh BEq.rfl beq_self_eq_true Int.natCast_zero ge_iff_le gt_iff_lt Int.le_refl Nat.zero_mul Nat.one_mul Nat.zero_add Nat.zero_lt_succ Nat.lt_add_one Nat.le_refl ib kO rK qI I7 Int.toNat_natCast F8 uc dM cV dS cW bP cp bne_self_eq_false wr2 Eo Ep Er Es Et Eu gB gP zu Eh Ei ry jC tY nw ox m7 qg g9 cU iP dz jM Lc.up AA BO pY List.replicate_succ List.replicate_zero List.flatten_cons List.flatten_nil Int.ofNat_lt Int.cast_ofNat_Int Int.ofNat_eq_natCast List.isEmpty_nil List.isEmpty_cons and_false false_and List.cons_ne_nil Nat.add_zero ite_true ite_false if_true if_false Nat.le_zero_eq eq_self
attribute [local go_sem ↓] bu fc fd gG gH gT gU dR eu gW gX gK gL gR gS gw gD gO gQ
def PU (l:List J):Prop:=∀ j∈l,fP j
theorem lr {l:List J} (h:PU l) (h1:1≤l.length) (h4:l.length≤4):rightB l=true:=by
 unfold rightB
 rw [decide_eq_true h1,decide_eq_true h4]
 exact List.all_eq_true.2 fun j hj=>(h j hj).1
def RJ (K:Nat→List J→Prop×AV×Nat):DK:=fun k rest=>match rest with
 |[x]=>(match jC x with
  |some l=>some (K k l)
  |none=>none)
 |_=>none
section
variable {l:List J} {m:List X}
theorem sw:qu (Ju l)=true:=by cases l<;>rfl
theorem sA:qu (Lk m)=true:=by cases m<;>rfl
end
theorem NG (xs:List Nat) (k:Nat) (hk:k≤900) (h:((dk xs k%4:Nat):Int)=0):kZ 8 xs [] k (iA 1) (k+1):=by
 refine eh (O:=fun A n c=>ib 38 A n c (qI fun k z=>(k≤1000∧0<z∧z≤1000,iA ((dk xs k%z.toNat:Nat):Int),k+1))) (by kernel_rfl) be (fun A n c F w hA hn=>cz (xs:=xs) (aX Tryz.func38 (by kernel_rfl) rfl) (fo fun k z hp=>je hp) hA hn) [] 1500 6 [.tmp 2] Tryz.func8 rfl Tryz.ntmps8 (by decide) (by rw [Tryz.results8]) (by simp) rfl (fun A n c hsm hs=>?_)
 simp (maxSteps:=10000000) only [go_sem,seval,reduceCtorEq,RJ,↓sw,↓sA,h]
 repeat' with_reducible first |apply And.intro |apply condP<;>intro _
 all_goals first |(show ar _ _=true;kernel_rfl)|with_reducible assumption |omega |(simp only [go_sem, *,Int.reduceToNat,h]<;>rfl)|rfl |(exfalso;simp_all only [Bool.true_eq_false,Bool.false_eq_true,reduceCtorEq];done)
theorem NH (xs:List Nat) (k:Nat) (hk:k≤900) (h:((dk xs k%4:Nat):Int)=1):kZ 8 xs [] k (iA 2) (k+1):=by
 refine eh (O:=fun A n c=>ib 38 A n c (qI fun k z=>(k≤1000∧0<z∧z≤1000,iA ((dk xs k%z.toNat:Nat):Int),k+1))) (by kernel_rfl) be (fun A n c F w hA hn=>cz (xs:=xs) (aX Tryz.func38 (by kernel_rfl) rfl) (fo fun k z hp=>je hp) hA hn) [] 1500 6 [.tmp 2] Tryz.func8 rfl Tryz.ntmps8 (by decide) (by rw [Tryz.results8]) (by simp) rfl (fun A n c hsm hs=>?_)
 simp (maxSteps:=10000000) only [go_sem,seval,reduceCtorEq,RJ,↓sw,↓sA,h]
 repeat' with_reducible first |apply And.intro |apply condP<;>intro _
 all_goals first |(show ar _ _=true;kernel_rfl)|with_reducible assumption |omega |(simp only [go_sem, *,Int.reduceToNat,h]<;>rfl)|rfl |(exfalso;simp_all only [Bool.true_eq_false,Bool.false_eq_true,reduceCtorEq];done)
theorem NI (xs:List Nat) (k:Nat) (hk:k≤900) (h:((dk xs k%4:Nat):Int)=2):kZ 8 xs [] k (iA 3) (k+1):=by
 refine eh (O:=fun A n c=>ib 38 A n c (qI fun k z=>(k≤1000∧0<z∧z≤1000,iA ((dk xs k%z.toNat:Nat):Int),k+1))) (by kernel_rfl) be (fun A n c F w hA hn=>cz (xs:=xs) (aX Tryz.func38 (by kernel_rfl) rfl) (fo fun k z hp=>je hp) hA hn) [] 1500 6 [.tmp 2] Tryz.func8 rfl Tryz.ntmps8 (by decide) (by rw [Tryz.results8]) (by simp) rfl (fun A n c hsm hs=>?_)
 simp (maxSteps:=10000000) only [go_sem,seval,reduceCtorEq,RJ,↓sw,↓sA,h]
 repeat' with_reducible first |apply And.intro |apply condP<;>intro _
 all_goals first |(show ar _ _=true;kernel_rfl)|with_reducible assumption |omega |(simp only [go_sem, *,Int.reduceToNat,h]<;>rfl)|rfl |(exfalso;simp_all only [Bool.true_eq_false,Bool.false_eq_true,reduceCtorEq];done)
theorem NJ (xs:List Nat) (k:Nat) (hk:k≤900) (h:((dk xs k%4:Nat):Int)=3):kZ 8 xs [] k (iA 4) (k+1):=by
 refine eh (O:=fun A n c=>ib 38 A n c (qI fun k z=>(k≤1000∧0<z∧z≤1000,iA ((dk xs k%z.toNat:Nat):Int),k+1))) (by kernel_rfl) be (fun A n c F w hA hn=>cz (xs:=xs) (aX Tryz.func38 (by kernel_rfl) rfl) (fo fun k z hp=>je hp) hA hn) [] 1500 6 [.tmp 2] Tryz.func8 rfl Tryz.ntmps8 (by decide) (by rw [Tryz.results8]) (by simp) rfl (fun A n c hsm hs=>?_)
 simp (maxSteps:=10000000) only [go_sem,seval,reduceCtorEq,RJ,↓sw,↓sA,h]
 repeat' with_reducible first |apply And.intro |apply condP<;>intro _
 all_goals first |(show ar _ _=true;kernel_rfl)|with_reducible assumption |omega |(simp only [go_sem, *,Int.reduceToNat,h]<;>rfl)|rfl |(exfalso;simp_all only [Bool.true_eq_false,Bool.false_eq_true,reduceCtorEq];done)
end
section
def Th (f:FuncId) (A:Option Addr) (n c:Nat) (xs:List Nat) (args:List AV):Prop:=∀ w us,Tab w→Arg w A n c xs→RA t6 (fun _=>false) w args us→
 Calls Tryz.prog f us.toArray w fun e w'=>e= .returned (.bool true)∧Below w.heap.size w w'
theorem OB {ty:TypeId→Option TI} {O:dI} (hm:Tryz.prog.follows .mixedOrders=true) (hty:∀ t i,ty t=some i→TiOK Tryz.prog t i) {f:FuncId} {fn:Func} {c0:Code} {args:List AV} {A:Option Addr} {n c:Nat} {xs:List Nat}
  (hO:∀ w,Arg w A n c xs→(∀ ad,0<n→A=some ad→¬ (fun _:Nat=>False) ad.block)→OrOK Tryz.prog O (fun _=>False) w) (fg:List Nat)
  (fuel N:Nat) (rs:List ResultVar) (hf:Tryz.prog.funcs[f]? =some fn) (hb:fn.body=some c0) (hN:fn.ntmps=N) (hr:fn.results.toList=rs) (hl:args.length≤N) (hc:args.all Cp=true)
  (h:wu args→Small B64 xs→run ty O N (fun st=>pM (·=bA true) (nG ty st rs)) fg fuel [.code c0] (ji 0 args)):Th f A n c xs args:=by
 intro w us ht hX hA
 replace h:=h hA.sm hX.2
 refine (rH (mem:=[]) (ρ:=⟨fun n=>n,w.heap.size,fun _=>undef,fun _=>0,fun _=>false⟩) hm hty (hO w hX (fun _ _ _ h=>h)) fg fuel N rs hf hb hN hr hl ht (fun k v h=>by cases h) (fun b v h=>by cases h) (fun b b' h=>by cases h) (hA.closed hc fun _ _=>⟨fun _ h=>(by cases h),fun _ h=>(by cases h)⟩) rfl rfl (by rw [List.append_nil];exact h)).mono ?_
 rintro e w' ⟨u,r,rfl,rfl,hcl,hR,hb⟩
 rw [show u= .bool true from RL.one.1 (hR t6 (fun _=>false) ⟨fun _ h=>(by cases h),fun _ _ h=>(by cases h),Nat.zero_le _⟩)]
 exact ⟨rfl,hb⟩
end
end
end Go.Proofs.YtpacpmmdjmnamaaGreatDoor
