/- From a law's walk to its statement: the arguments opened, the table, the witness's world. -/
import Derived.Test.YtpacpmmdjmnamaaGreatDoorYAi6
import Derived.Test.YtpacpmmdjmnamaaGreatDoorCards
import Derived.Test.YtpacpmmdjmnamaaGreatDoorTie
import Derived.Test.YtpacpmmdjmnamaaGreatDoorYNat1
import Derived.WalkKit
import Derived.ProofKit
import Derived.OpenShut
import Derived.Deep.DeepHandedRow
import Derived.Lib.LaidTab
import Derived.Lib.SmallJoins
import Derived.Deep.Strs
namespace Go.Proofs.YtpacpmmdjmnamaaGreatDoor
section
open Go.RowKit Nx
set_option linter.unusedVariables false
set_option linter.unusedSimpArgs false
section
variable {R:List It→St→Prop} {N:Nat} {k:List It} {st:St}
theorem bW {p:Prop} {r:List Nat} {u:St} {ops:Array Oper} {o:Oper} {l:List Oper} {rs:List (List Nat×List Nat)} {d:Bool}:Cc R N (some (p,r,u)) ops o l rs d k st=(nV N o=true∧p∧R (.ops ops l ((r,u.map (·.1))::rs) d::k) (u++st)):=rfl
theorem bX {k':List It}:Cd R (some k') st=R k' st:=rfl
theorem da {b:Bool} {x y:Code}:vT R (some (.v false [.lit (.bool b)])) x y k st=(bif b then R (.code x::k) st else R (.code y::k) st):=rfl
theorem dU {b:Bool} {g:Nat}:yM R (some (.v false [.lit (.bool b)])) g k st=(bif b then R k ((g,.s (.lit (.bool true)))::st) else R k ((g,.s (.lit (.bool false)))::st)):=rfl
theorem dV {g:Nat} {vs:Array Value}:yM R (some (.v false [.lit (.tuple vs)])) g k st=R k st:=rfl
theorem bq {Pst:AV→Prop} {ps:List (Bool×List Lf)}:qF Pst (some ps)=(jf (eO ps)=true∧Pst (eO ps)):=rfl
theorem condP {b:Bool} {A B:Prop} (h1:b=true→A) (h2:b=false→B):bif b then A else B:=by
 cases b
 ·exact h2 rfl
 ·exact h1 rfl
theorem cw {b:Bool} {A B:Prop}:(bif !b then A else B)=(bif b then B else A):=by cases b<;>rfl
theorem X.eta (x:X):X.mk x.s x.e x.xs=x:=rfl
theorem J.eta (x:J):J.mk x.lo x.hi=x:=rfl
theorem Q.eta (x:Q):Q.mk x.s x.m x.e=x:=rfl
end
def zX:X:=⟨false,0,[]⟩
def KB (j:J):Bool:=j.lo.ok&&j.hi.ok&&decide (cmpx j.lo j.hi≤0)
abbrev xA (x:X):AV:=.v true x.L
end
section
section
open Go.ChangeShapes Go.WideShapes Go.ChangeAt Go.RowKit Nx
theorem own:ownKnob Tryz.prog.godebug=none:=by kernel_rfl
theorem rA:laidOutB Tryz.prog=true:=by kernel_rfl
theorem Ia:Tryz.prog.globalNamed "math/bits.deBruijn64tab"=some 0 :=by kernel_rfl
theorem zl:(Tryz.prog.globals[0]?).map (·.type)=some 205 :=by kernel_rfl
theorem yP:Tryz.prog.cellsOf 205 =64:=by kernel_rfl
theorem EX:Tryz.prog.cellsOf 5 =1:=by kernel_rfl
theorem cells64:Tryz.prog.cellsOf 50 =1:=by kernel_rfl
theorem Bh {W:World} (h:laidMetH Tryz.prog [("math/bits.deBruijn64tab",Rows.laid_math_bits_deBruijn64tab)] W):Tab W:=by
 have ht:Lib.TabIs Tryz.prog W "math/bits.deBruijn64tab" .u8 (deb.map fun (x:Nat)=>(x:Int)):=
  Lib.tabIs_of_head (rest:=[]) Ia zl Tryz.underlying205 Tryz.underlying5 EX yP h
 intro i hi
 have hl:i<deb.length:=hi
 have:=ht.cell Ia i (by simpa using hl)
 rw [this]
 congr 2
 simp [List.getD_eq_getElem?_getD,List.getElem?_eq_getElem hl]
theorem GC {H:Type} {enc:TypeId×Value→H} {W:World} {fuel:Nat} {a0:Option Addr} {len cap:Nat} {d:DataW H} {p:List MemPlace}
  (hf:DataW.trod enc Tryz.prog W 0 (fun _=>true) true fuel 22 (Value.slice a0 len cap).cells.toList=some (d,p)):∃ xs:List Nat,Arg W a0 len cap xs:=by
 rcases open_ints Tryz.underlying22 Tryz.underlying50 cells64 hf with ⟨hcs,hx⟩|⟨a,len',cap',zs,hcs,_,hl,hm,hz,hx,hcell,hwz⟩
 ·simp [Value.cells] at hcs
  obtain ⟨rfl,rfl,rfl⟩:=hcs
  exact ⟨[],Rd.none_,Small.nil⟩
 ·simp [Value.cells] at hcs
  obtain ⟨rfl,rfl,rfl⟩:=hcs
  simp only [if_true] at hz
  have hb:∀ z∈zs,0≤z∧z<18446744073709551616:=fun z hzm=>by
   have:=hwz z hzm
   simp only [Lit.wf,Bool.and_eq_true,decide_eq_true_iff] at this
   have h1:IntKind.u64.min=0:=rfl
   have h2:IntKind.u64.max=18446744073709551615:=rfl
   omega
  refine ⟨(zs.take len).map Int.toNat,⟨by simp;omega,hl,fun hp=>⟨a,rfl,Nat.zero_le _,?_,fun j u hu=>?_⟩⟩,?_⟩
  ·have:=hcell 0 (by omega)
   have:=World.block_lt_of_cell? W _ this
   rwa [aj] at this
  ·rw [List.getElem?_map,Option.map_eq_some_iff] at hu
   obtain ⟨z,hz1,rfl⟩:=hu
   rw [List.getElem?_take] at hz1
   split at hz1
   ·have hj:=(List.getElem?_eq_some_iff.1 hz1).1
    rw [hcell j hj,List.getD_eq_getElem?_getD,hz1]
    have:=hb z (List.mem_of_getElem? hz1)
    simp only [Option.getD_some]
    congr 2
    omega
   ·cases hz1
  ·intro x hx'
   rw [List.mem_map] at hx'
   obtain ⟨z,hz1,rfl⟩:=hx'
   have:=hb z (List.mem_of_mem_take hz1)
   unfold B64;omega
noncomputable def ig (os:Os):World:=
 {World.holding Tryz.prog os ⟨#[],#[],[]⟩ with heap:=(World.holding Tryz.prog os ⟨#[],#[],[]⟩).heap.modify 0 fun
   |.cells _ t frozen=>.cells (deb.map fun (x:Nat)=>Value.int .u8 (x:Int)).toArray t frozen
   |o=>o}
end
section
open Go.ChangeShapes Go.WideShapes Go.ChangeAt Go.RowKit Go.Joins Nx
theorem yO:Tryz.prog.cellsOf 30 =3:=by kernel_rfl
theorem yg {H:Type} {enc:TypeId×Value→H} {W:World} {fuel:Nat} {v:Value} {y:DataW H×List MemPlace}
  (hf:DataW.trod enc Tryz.prog W 0 (fun _=>true) true fuel 22 [v]=some y):∃ (A:Option Addr) (n c:Nat) (xs:List Nat),v= .slice A n c∧Arg W A n c xs:=by
 obtain ⟨d,p⟩:=y
 have h2:=hf
 rcases open_ints Tryz.underlying22 Tryz.underlying50 cells64 hf with ⟨hcs,hx⟩|⟨a,len',cap',zs,hcs,_,hl,hm,hz,hx,hcell,hwz⟩
 ·simp at hcs
  subst hcs
  obtain ⟨xs,h⟩:=GC (a0:=none) (len:=0) (cap:=0) (by simpa [Value.cells] using h2)
  exact ⟨none,0,0,xs,rfl,h⟩
 ·simp at hcs
  subst hcs
  obtain ⟨xs,h⟩:=GC (a0:=some a) (len:=len') (cap:=cap') (by simpa [Value.cells] using h2)
  exact ⟨some a,len',cap',xs,rfl,h⟩
end
section
open Go.ChangeShapes Go.WideShapes Go.ChangeAt Go.RowKit Go.Joins Nx
end
end
end Go.Proofs.YtpacpmmdjmnamaaGreatDoor
