/- For any rows of numbers and every number of bits the law OrthoAny returns true, and the arguments read as before; the table of math/bits as the program's text lays it. -/
import Derived.Test.YtpacpmmdjmnamaaGreatDoorYAqW
namespace Go.Proofs.YtpacpmmdjmnamaaGreatDoor.OrthoAny
set_option maxRecDepth 100000
open Go.ChangeShapes Go.WideShapes Go.ChangeAt Go.RowKit Go.Proofs.YtpacpmmdjmnamaaGreatDoor Nx
theorem oS (H:Type) (enc:TypeId×Value→H) (W:World) (base:Nat) (args:Array Value) (ds gs:List (DataW H)) (before:List MemPlace)
  (hval:∀ (j:Nat) t v,Tryz.f4.params[j]? =some t→args[j]? =some v→Value.okWide Tryz.prog W .any base t v)
  (hW:DataW.Whole enc Tryz.prog Tryz.f4.params.toList Rows.orthoAnySpec.vars false W args.toList ds gs before) (hL:laidMetH Tryz.prog Rows.orthoAnyRow.laid W):
  Calls Tryz.prog 4 args W fun e W'=>∃ v,e= .returned v∧Rows.orthoAnySpec.post enc Tryz.prog Tryz.f4 false true false false W args v W':=by
 have hW':=hW
 obtain ⟨p,q,hA0,hV,rfl,hfz,hnd⟩:=hW
 have hA:DataW.TrodAll enc Tryz.prog W 0 (fun _=>true) true Tryz.f4.params.toList args.toList ds p:=hA0
 rw [Tryz.params4] at hA hval
 obtain ⟨v0,vs0,d0,ds0,p0,q0,hargs0,rfl,rfl,h0,r0⟩:=trodAll_cons hA
 obtain ⟨v1,vs1,d1,ds1,p1,q1,hargs1,rfl,rfl,h1,r1⟩:=trodAll_cons r0
 obtain ⟨rfl,rfl,rfl⟩:=trodAll_nil r1
 subst hargs1
 obtain rfl:args=#[v0,v1]:=by cases args;simp_all
 obtain ⟨rfl,rfl⟩:=trodVars_none hV
 have h0k:=h0
 obtain ⟨bx0,hx0⟩:=yi (hval 0 36 v0 rfl rfl) h0
 have h1k:=h1
 obtain ⟨t1,rfl,rfl,hp1,hw1⟩:=open_int Tryz.underlying3 (hval 1 3 v1 rfl rfl) h1
 clear hA0
 simp only [List.append_nil] at hW'
 have hlt:∀ x∈p0++(p1),x.block<W.heap.size:=fun x hx=>by simpa using hW'.lt x (by simpa using hx)
 refine (qc W v0 t1 hx0 (Bh hL)).mono ?_
 rintro e W' ⟨rfl,hnx⟩
 have e0:=Below.trod rA (by kernel_rfl) (of_decide_eq_true (by kernel_rfl)) h0k hnx (fun x hx=>hlt x (by simp [hx]))
 have e1:=Below.trod rA (by kernel_rfl) (of_decide_eq_true (by kernel_rfl)) h1k hnx (fun x hx=>hlt x (by simp [hx]))
 have ea:=trodAll_cons_mk e0 (trodAll_cons_mk e1 trodAll_mk0)
 exact ⟨_,rfl,_,_,_,[],_,[],hW',trodAll_cons_mk (shut_bool Tryz.underlying4 _) trodAll_mk0,ea,rfl,hnx.frame _,fun h=>by cases h⟩
theorem laid_met (os:Os):laidMet Tryz.prog Rows.orthoAnyRow.laid ((ig os).forCall (fun _ _=>0) ⟨#[],#[.slice none 0 0,.int .i64 0],[]⟩).memory:=
 laidMet_of_run' 8 (by kernel_rfl) (by kernel_rfl)
theorem AG (os:Os) {H:Type} (enc:TypeId×Value→H):∃ places,DataW.whole enc Tryz.prog ((ig os).forCall (fun _ _=>0) ⟨#[],#[.slice none 0 0,.int .i64 0],[]⟩).memory Tryz.f4.params.toList Rows.orthoAnySpec.vars false #[Value.slice none 0 0,.int .i64 0].toList 8=some ([.nil,.lit (.int .i64 0)],[],places):=
 ⟨[],by kernel_rfl⟩
theorem vd (os:Os) (started:os.Started) (H:Type) (enc:TypeId×Value→H) (F:Stop.Interp):
  ReturnsInHanded {} Tryz.checked os 4 .any ((OpenSpec.ofChange Rows.orthoAnySpec).preRow enc Tryz.prog Tryz.f4 Rows.orthoAnyRow.domain false Rows.orthoAnyRow.laid) (((OpenSpec.ofChange Rows.orthoAnySpec).at F).post enc Tryz.prog Tryz.f4 false true false false):=by
 obtain ⟨places,hx⟩:=AG os enc
 refine returnsInHanded_of_row (C:=Tryz.checked) (s:=OpenSpec.ofChange Rows.orthoAnySpec) own started (by kernel_rfl) Tryz.func4
  (witness_row_at (enc:=enc) (C:=Tryz.checked) false (ig os) #[.slice none 0 0,.int .i64 0] rfl (by kernel_rfl) (by kernel_rfl) (by kernel_rfl)
   (OpenSpec.preRow_of_cond 8 hx (by kernel_rfl) (fun k hk=>by cases hk) (by kernel_rfl) (laid_met os))) ?_
 intro W base args ds gs before hval hW _ _ _ hL _ _
 exact oS H enc W base args ds gs before hval hW hL
theorem said:Rows.OrthoAnySaid:=
 OpenClaim.holds_of_cond 4 Tryz.f4 rfl rfl rfl rfl rfl rfl rfl ⟨rfl,rfl,rfl,rfl,rfl⟩ rfl rfl rfl rfl rfl (by kernel_rfl) Tryz.func4 (by kernel_rfl)
  (of_decide_eq_true (by kernel_rfl)) (by unfold Func.isWrapper;first |(rw [if_pos (by decide+kernel)];kernel_rfl)|(rw [if_neg (by decide+kernel)];exact ⟨rfl,rfl⟩))
  (fun os started H enc _ F=>by rw [OpenClaim.pre_eq_preRow];exact vd os started H enc F)
theorem plain (f:FuncId) (fn:Func) (hf:Tryz.pinned.checked.prog.funcNamed "fathomline/fathomlinelaw9.OrthoAny"=some f) (hfn:Tryz.pinned.checked.prog.funcs[f]? =some fn):
  false=Tryz.pinned.checked.prog.looks []∧∀ (j:Nat) t,fn.params[j]? =some t→Tryz.pinned.checked.prog.wantsStandIn t=false:=by
 obtain rfl:f=4 :=Option.some.inj ((show Tryz.prog.funcNamed "fathomline/fathomlinelaw9.OrthoAny"=some 4 by kernel_rfl).symm.trans hf)|>.symm
 obtain rfl:fn=Tryz.f4 :=(Option.some.inj (Tryz.func4.symm.trans hfn)).symm
 refine ⟨by kernel_rfl,fun j t ht=>?_⟩
 rw [Tryz.params4] at ht
 have ht':t=36 ∨t=3 :=by simpa using Array.mem_of_getElem? ht
 rcases ht' with rfl |rfl
 ·exact (show Tryz.prog.wantsStandIn 36 =false by kernel_rfl)
 ·exact (show Tryz.prog.wantsStandIn 3 =false by kernel_rfl)
end Go.Proofs.YtpacpmmdjmnamaaGreatDoor.OrthoAny
namespace Go.Proofs.YtpacpmmdjmnamaaGreatDoor
theorem orthoAny_card:Rows.OrthoAnyCardSaid:=
 Claim7.holds_tied_plain_at .later [] _ _ _ _ OrthoAny.said (fun _ h=>by cases h) (by kernel_rfl) (fun _ h=>by cases h) orthoAny_row_tie rfl ⟨rfl,rfl⟩ (by kernel_rfl) rfl OrthoAny.plain (by kernel_rfl)
end Go.Proofs.YtpacpmmdjmnamaaGreatDoor
