/- The document's columns: what is right; how many there are. -/
import Derived.Test.YtpacpmmdjmnamaaGreatDoorYAqP
namespace Go.Proofs.YtpacpmmdjmnamaaGreatDoor
open Go.RowKit Nx
set_option linter.unusedVariables false
set_option linter.unusedSimpArgs false
theorem AH (m:List (List X)) (z:Int):ft m z=bif gK m then vp z else false:=by
 unfold ft gK vp
 by_cases h1:(m.length:Int)<1
 ·rw [decide_eq_true h1,decide_eq_false (show ¬ (0:Int)<(m.length:Int) by omega),cond_true,cond_false]
  cases (m.take 4).all (rowQ m.length)<;>rfl
 ·by_cases h2:(4:Int)<(m.length:Int)
  ·rw [decide_eq_false h1,decide_eq_true h2,decide_eq_true (show (0:Int)<(m.length:Int) by omega),decide_eq_false (show ¬ (m.length:Int)≤4 by omega),cond_true,cond_true,cond_false]
   cases (m.take 4).all (rowQ m.length)<;>rfl
  ·rw [List.take_of_length_le (by omega),decide_eq_false h1,decide_eq_false h2,decide_eq_true (show (0:Int)<(m.length:Int) by omega),decide_eq_true (show (m.length:Int)≤4 by omega)]
   by_cases h3:z<8
   ·rw [decide_eq_true h3,decide_eq_false (show ¬ z≥8 by omega)]
    cases m.all (rowQ m.length)<;>rfl
   ·by_cases h4:256<z
    ·rw [decide_eq_false h3,decide_eq_true h4,decide_eq_true (show z≥8 by omega),decide_eq_false (show ¬ z≤256 by omega)]
     cases m.all (rowQ m.length)<;>rfl
    ·rw [decide_eq_false h3,decide_eq_false h4,decide_eq_true (show z≥8 by omega),decide_eq_true (show z≤256 by omega)]
     cases m.all (rowQ m.length)<;>rfl
theorem oR (z:Int) {m:List (List X)} (hS:∀ r∈m,∀ x∈r,Small B64 x.xs):(colsS z m).1.length≤1000∧∀ r∈(colsS z m).1,r.length≤6:=by
 unfold colsS
 cases hr:ft m z with
 |false=>exact ⟨by simp,fun r h=>by cases h⟩
 |true=>
  obtain ⟨hsq,⟨hl1,hl4⟩,hz,hok⟩:=jD hr
  rw [cond_true]
  cases he:(colN z (trn m) m.length).2 !=0 with
  |true=>exact ⟨by simp,fun r h=>by cases h⟩
  |false=>
   rw [cond_false]
   have hg:∀ r∈trn m,r.length=m.length∧∀ x∈r,GX x:=fun r hr=>⟨kM r hr,vC (fun r hr x hx=>⟨hok r hr x hx,hS r hr x hx⟩) r hr⟩
   have:=rn hg m.length (by rw [iW];omega) (by simpa using he)
   have e:(trn (colN z (trn m) m.length).1).length=m.length:=by rw [iW,this.1]
   refine ⟨by show (trn _).length≤_;omega,fun r h=>?_⟩
   have h5:=kM r h
   rw [this.1] at h5
   omega
theorem Bp {v:List X} (hv:∀ x∈v,GX x):((dF (grN v v.length)==0)=true→(qR v v.length).2=false)∧((dF (grN v v.length)==0)=false→(qR v v.length).2=true∧IntKind.i64.wrap (0 - (qR v v.length).1)=kS v):=by
 rw [Jc hv v.length (Nat.le_refl _),IY hv]
 cases h:decide (0<(grN v v.length).v) with
 |true=>exact ⟨fun h=>(by cases h),fun _=>⟨rfl,rfl⟩⟩
 |false=>exact ⟨fun _=>rfl,fun h=>(by cases h)⟩
end Go.Proofs.YtpacpmmdjmnamaaGreatDoor
