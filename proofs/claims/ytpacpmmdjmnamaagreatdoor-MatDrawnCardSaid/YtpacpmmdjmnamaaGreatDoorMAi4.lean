/- What package iv answers against what the document says: sums and differences. -/
import Derived.Test.YtpacpmmdjmnamaaGreatDoorMAi7
namespace Go.Proofs.YtpacpmmdjmnamaaGreatDoor
set_option linter.unusedSimpArgs false
set_option linter.unusedVariables false
open Go.RowKit Nx
section
theorem jD (z:Int):prb z=kf z:=by unfold prb kf;rfl
theorem DG {z:Int} (h:kf z=true):fO z=true:=by
 unfold kf at h
 simp only [Bool.and_eq_true,decide_eq_true_eq] at h
 simp only [fO,decide_eq_true_eq];exact h
theorem aM {j:J} (h:okJ j=true):j.lo.ok=true∧j.hi.ok=true∧cmpx j.lo j.hi≤0:=by
 unfold okJ at h
 simp only [Bool.and_eq_true,decide_eq_true_eq] at h
 exact ⟨h.1.1,h.1.2,h.2⟩
theorem pU {j:J} (h:okJ j=true) (b:Bool):(qP j b).ok=true:=by
 cases b
 ·exact (aM h).1
 ·exact (aM h).2.1
theorem iS {g:Q→Q→Q×Int} {z:Int} {x y:X} (hx:x.ok=true) (hy:y.ok=true) (hp:kf z=true):dZ g z x y=g x.q y.q:=by
 unfold dZ ng
 unfold X.ok at hx hy
 rw [hx,hy,DG hp]
 rfl
theorem res_two (q:Q):(res q).2=0∨(res q).2=2:=by
 by_cases h:fm q
 ·rw [cC h];exact .inl rfl
 ·rw [fZ h];exact .inr rfl
theorem nF {c:Bool→X×Int} {a b:Q} (h0:c false=rD (res a)) (h1:c true=rD (res b)):sZ c=dr a b:=by
 unfold sZ dr
 rw [h0,h1]
 unfold rD
 rcases res_two a with ha |ha<;>rcases res_two b with hb |hb<;>simp only [ha,hb]<;>rfl
theorem lB (j j1:J) (z:Int):cH j j1 z=ft 0 j j1 z:=by
 unfold cH ft
 rw [jD]
 cases ha:okJ j<;>cases hb:okJ j1<;>cases hz:kf z<;>try rfl
 exact nF (c:=fun b=>rD (dZ (mI z b) z (qP j b) (qP j1 b))) (a:=rnd z.toNat false (plus j.lo.q j1.lo.q)) (b:=rnd z.toNat true (plus j.hi.q j1.hi.q)) (congrArg rD (iS (pU ha _) (pU hb _) hz)) (congrArg rD (iS (pU ha _) (pU hb _) hz))
theorem wI (j j1:J) (z:Int):lM j j1 z=ft 1 j j1 z:=by
 unfold lM ft
 rw [jD]
 cases ha:okJ j<;>cases hb:okJ j1<;>cases hz:kf z<;>try rfl
 exact nF (c:=fun b=>rD (dZ (rB z b) z (qP j b) (qP j1 (!b)))) (a:=rnd z.toNat false (minus j.lo.q j1.hi.q)) (b:=rnd z.toNat true (minus j.hi.q j1.lo.q)) (congrArg rD (iS (pU ha _) (pU hb _) hz)) (congrArg rD (iS (pU ha _) (pU hb _) hz))
def X.v (x:X):Int:=x.q.at 65536
theorem lI {x:X} (h:x.ok=true): -((65536:Nat):Int)≤x.q.e:=by
 show -((65536:Nat):Int)≤x.e
 unfold X.ok iE at h
 split at h
 ·simp only [Bool.and_eq_true,beq_iff_eq] at h;omega
 ·simp only [Bool.and_eq_true,decide_eq_true_eq] at h;omega
theorem sB {x y:X} (hx:x.ok=true) (hy:y.ok=true):cmpx x y=if x.v<y.v then -1 else if y.v<x.v then 1 else 0:=by
 rw [zl hx hy];exact lg (lI hx) (lI hy)
theorem xQ {x y:X} (hx:x.ok=true) (hy:y.ok=true):uD x y=qe x y:=by
 unfold uD qe
 rw [sB hx hy,sB hy hx]
 congr 1
 by_cases h1:x.v<y.v<;>by_cases h2:y.v<x.v<;>simp [h1,h2]
 omega
theorem Pw {x y:X} (hx:x.ok=true) (hy:y.ok=true):(qe x y).ok=true:=by unfold qe;cases decide (cmpx y x>0)<;>assumption
theorem iJ {x y:X} (hx:x.ok=true) (hy:y.ok=true):cmpx x y≤0↔x.v≤y.v:=by
 rw [sB hx hy]
 by_cases h1:x.v<y.v<;>by_cases h2:y.v<x.v<;>simp [h1,h2]<;>omega
theorem AR {x y:X} (hx:x.ok=true) (hy:y.ok=true):cmpx x y<0↔x.v<y.v:=by
 rw [sB hx hy]
 by_cases h1:x.v<y.v<;>by_cases h2:y.v<x.v<;>simp [h1,h2]
theorem vK {x y:X} (hx:x.ok=true) (hy:y.ok=true):cmpx x y>0↔y.v<x.v:=by
 rw [sB hx hy]
 by_cases h1:x.v<y.v<;>by_cases h2:y.v<x.v<;>simp [h1,h2]
 omega
theorem RV {x y:X} (hx:x.ok=true) (hy:y.ok=true):(qe x y).v=max x.v y.v:=by
 unfold qe
 have:=vK hy hx
 by_cases h:cmpx y x>0
 ·rw [decide_eq_true h];show y.v=_;have:=this.1 h;omega
 ·rw [decide_eq_false h];show x.v=_;have:=fun g=>h (this.2 g);omega
theorem mS (x:X):iT x x=true:=by unfold iT ix;simp
theorem Am (j:J):oQ j j=true:=by unfold oQ;rw [mS,mS];rfl
theorem si {x:X} (h:x.ok=true) (hs:Small B64 x.xs):aJ (absx x):=by
 have hv:=ey h hs
 unfold absx anssign
 unfold X.ok at h
 rw [h]
 show aJ (if nval B64 x.xs=0 then q0 else ⟨false,nval B64 x.xs,x.e⟩)
 by_cases h0:nval B64 x.xs=0
 ·rw [if_pos h0];exact mT
 ·rw [if_neg h0];exact ⟨⟨fun h=>absurd h h0,hv.1.2⟩,hv.2⟩
theorem OH {a:J} (hg:GJ a):iD a=lJ a:=by
 unfold iD lJ
 cases ha:okJ a
 ·rfl
 ·obtain ⟨a1,a2,a3⟩:=aM ha
  exact xQ (cS (si a1 hg.lo)).1 (cS (si a2 hg.hi)).1
end
section
theorem Iy {x:X}:(signq x.q<0↔x.v<0):=by
 rw [nJ (E:=65536)]
 show (if x.v<0 then (-1:Int) else if 0<x.v then 1 else 0)<0↔_
 by_cases h:x.v<0<;>by_cases h2:0<x.v<;>simp [h,h2]
theorem pV {x:X} (h:x.ok=true):uS x=signq x.q:=by unfold uS;rw [if_pos h]
end
section
theorem qQ {x:X}:(signq x.q≥0↔0≤x.v):=by
 rw [nJ (E:=65536)]
 show (if x.v<0 then (-1:Int) else if 0<x.v then 1 else 0)≥0↔_
 by_cases h:x.v<0<;>by_cases h2:0<x.v<;>simp [h,h2]<;>omega
theorem wt {x:X}:(signq x.q≤0↔x.v≤0):=by
 rw [nJ (E:=65536)]
 show (if x.v<0 then (-1:Int) else if 0<x.v then 1 else 0)≤0↔_
 by_cases h:x.v<0<;>by_cases h2:0<x.v<;>simp [h,h2]<;>omega
theorem Pn {x:X}:(signq x.q>0↔0<x.v):=by
 rw [nJ (E:=65536)]
 show (if x.v<0 then (-1:Int) else if 0<x.v then 1 else 0)>0↔_
 by_cases h:x.v<0<;>by_cases h2:0<x.v<;>simp [h,h2]
 omega
theorem tv {a b:X} (ha:a.ok=true) (hb:b.ok=true):(times a.q b.q).at (65536+65536)=a.v*b.v:=xh (lI ha) (lI hb)
theorem oR {a b:X} (ha:a.ok=true) (hb:b.ok=true): -((65536+65536:Nat):Int)≤(times a.q b.q).e:=by
 have h1:=lI ha;have h2:=lI hb
 exact oj (by omega)
theorem tH {a b c d:X} (ha:a.ok=true) (hb:b.ok=true) (hc:c.ok=true) (hd:d.ok=true) (h:a.v*b.v=c.v*d.v):times a.q b.q=times c.q d.q:=
 qo (dl _ _) (dl _ _) (oR ha hb) (oR hc hd) (by rw [tv ha hb,tv hc hd];exact h)
theorem IH {a b c d:X} (ha:a.ok=true) (hb:b.ok=true) (hc:c.ok=true) (hd:d.ok=true):cmpq (times a.q b.q) (times c.q d.q)<0↔a.v*b.v<c.v*d.v:=by
 rw [lg (oR ha hb) (oR hc hd),tv ha hb,tv hc hd]
 by_cases h1:a.v*b.v<c.v*d.v<;>by_cases h2:c.v*d.v<a.v*b.v<;>simp [h1,h2]
theorem n9 {x y u v:X} (hx:x.ok=true) (hy:y.ok=true) (hu:u.ok=true) (hv:v.ok=true) (h2:u.v≤v.v) (hn:¬ (x.v<0∧0<y.v)):
  dE x.q y.q u.q v.q=bif decide (x.v<0) then (bif decide (v.v<0) then times y.q v.q else times x.q v.q) else (bif decide (u.v<0) then times y.q u.q else times x.q u.q):=by
 unfold dE
 rw [decide_eq_decide.2 (qQ (x:=x)),decide_eq_decide.2 (qQ (x:=u)),decide_eq_decide.2 (wt (x:=y)),decide_eq_decide.2 (wt (x:=v)),decide_eq_decide.2 (IH hy hu hx hv)]
 by_cases a1:x.v<0
 ·have a2:¬ (0≤x.v):=by omega
  have a3:y.v≤0:=by omega
  rw [decide_eq_false a2,decide_eq_true a1,decide_eq_true a3]
  by_cases b1:0≤u.v
  ·have b2:¬ v.v<0:=by omega
   rw [decide_eq_true b1,decide_eq_false b2];rfl
  ·rw [decide_eq_false b1]
   by_cases c1:v.v≤0
   ·rw [decide_eq_true c1]
    show times y.q v.q=_
    by_cases c2:v.v<0
    ·rw [decide_eq_true c2];rfl
    ·rw [decide_eq_false c2]
     have c3:v.v=0:=by omega
     exact tH hy hv hx hv (by rw [c3,Int.mul_zero,Int.mul_zero])
   ·have c2:¬ v.v<0:=by omega
    have c3:¬ (y.v*u.v<x.v*v.v):=by
     have e1:0≤y.v*u.v:=Int.mul_nonneg_of_nonpos_of_nonpos a3 (by omega)
     have e2:x.v*v.v≤0:=Int.mul_nonpos_of_nonpos_of_nonneg (by omega) (by omega)
     omega
    rw [decide_eq_false c1,decide_eq_false c2,decide_eq_false c3];rfl
 ·have a2:0≤x.v:=by omega
  rw [decide_eq_true a2,decide_eq_false a1]
  by_cases b1:0≤u.v
  ·have b2:¬ u.v<0:=by omega
   rw [decide_eq_true b1,decide_eq_false b2];rfl
  ·have b2:u.v<0:=by omega
   rw [decide_eq_false b1,decide_eq_true b2];rfl
theorem dF {a b:X} (ha:a.ok=true) (hb:b.ok=true):times a.q b.q=times b.q a.q:=tH ha hb hb ha (Int.mul_comm _ _)
theorem sL {x y u v:X} (hx:x.ok=true) (hy:y.ok=true) (hu:u.ok=true) (hv:v.ok=true):dE x.q y.q u.q v.q=dE u.q v.q x.q y.q:=by
 unfold dE
 rw [decide_eq_decide.2 (IH hy hu hx hv),decide_eq_decide.2 (IH hv hx hu hy),dF hu hx,dF hv hx,dF hu hy,dF hv hy]
 cases decide (signq x.q≥0)<;>cases decide (signq u.q≥0)<;>try rfl
 cases decide (signq y.q≤0)<;>cases decide (signq v.q≤0)<;>try rfl
 all_goals
  show (bif decide (y.v*u.v<x.v*v.v) then times y.q u.q else times x.q v.q)=(bif decide (v.v*x.v<u.v*y.v) then times x.q v.q else times y.q u.q)
  rw [Int.mul_comm v.v x.v,Int.mul_comm u.v y.v]
  by_cases h1:y.v*u.v<x.v*v.v
  ·rw [decide_eq_true h1,decide_eq_false (by omega)];rfl
  ·rw [decide_eq_false h1]
   by_cases h2:x.v*v.v<y.v*u.v
   ·rw [decide_eq_true h2];rfl
   ·rw [decide_eq_false h2]
    exact tH hx hv hy hu (by omega)
end
section
theorem ro {x:X} (h:x.ok=true) (hs:Small B64 x.xs):(qx x.q.neg).ok=true∧(qx x.q.neg).q=x.q.neg∧(qx x.q.neg).v= -x.v:=by
 have hv:=ey h hs
 obtain ⟨h1,_,h3⟩:=cS (kz hv)
 refine ⟨h1,h3,?_⟩
 unfold X.v;rw [h3];exact zh hv.1
theorem tI {a b:X} (ha:a.ok=true) (hs:Small B64 a.xs) (hb:b.ok=true):(times a.q.neg b.q).neg=times a.q b.q:=by
 obtain ⟨h1,h2,h3⟩:=ro ha hs
 have hc:a8 (times a.q.neg b.q):=dl _ _
 have hl:=oR h1 hb
 rw [h2] at hl
 refine qo (og hc) (dl _ _) (by rw [pp hc];exact hl) (oR ha hb) ?_
 have e1:=tv h1 hb
 rw [h2,h3] at e1
 rw [zh hc,e1,tv ha hb,Int.neg_mul,Int.neg_neg]
theorem C0 {x y u v:X} (hx:x.ok=true) (hy:y.ok=true) (hu:u.ok=true) (hv:v.ok=true) (sx:Small B64 x.xs) (sy:Small B64 y.xs) (h2:u.v≤v.v) (hn:¬ (x.v<0∧0<y.v)):
  ii x.q y.q u.q v.q=bif decide (0<y.v) then (bif decide (v.v<0) then times x.q v.q else times y.q v.q) else (bif decide (u.v<0) then times x.q u.q else times y.q u.q):=by
 obtain ⟨a1,a2,a3⟩:=ro hx sx
 obtain ⟨b1,b2,b3⟩:=ro hy sy
 unfold ii
 have:=n9 (x:=qx y.q.neg) (y:=qx x.q.neg) b1 a1 hu hv h2 (by rw [a3,b3];omega)
 rw [a2,b2,b3] at this
 rw [this,decide_eq_decide.2 (show (-y.v<0↔0<y.v) by omega)]
 cases decide (0<y.v)<;>cases decide (v.v<0)<;>cases decide (u.v<0)<;>first |exact tI hx sx hv |exact tI hy sy hv |exact tI hx sx hu |exact tI hy sy hu
theorem wK {a b:X} (ha:a.ok=true) (hs:Small B64 a.xs) (hb:b.ok=true):(times b.q a.q.neg).neg=times b.q a.q:=by
 obtain ⟨h1,h2,_⟩:=ro ha hs
 have:=dF hb h1
 rw [h2] at this
 rw [this,tI ha hs hb,dF ha hb]
theorem C8 {x y u v:X} (hx:x.ok=true) (hy:y.ok=true) (hu:u.ok=true) (hv:v.ok=true) (sx:Small B64 x.xs) (sy:Small B64 y.xs) (h1:x.v≤y.v) (hn:¬ (u.v<0∧0<v.v)):
  ii x.q y.q u.q v.q=bif decide (u.v<0) then (bif decide (0<x.v) then times v.q x.q else times u.q x.q) else (bif decide (0<y.v) then times v.q y.q else times u.q y.q):=by
 obtain ⟨a1,a2,a3⟩:=ro hx sx
 obtain ⟨b1,b2,b3⟩:=ro hy sy
 unfold ii
 have e:=sL (x:=qx y.q.neg) (y:=qx x.q.neg) b1 a1 hu hv
 rw [n9 hu hv b1 a1 (by rw [a3,b3];omega) hn] at e
 rw [a2,b2,a3,b3] at e
 rw [e,decide_eq_decide.2 (show (-y.v<0↔0<y.v) by omega),decide_eq_decide.2 (show (-x.v<0↔0<x.v) by omega)]
 cases decide (u.v<0)<;>cases decide (0<x.v)<;>cases decide (0<y.v)<;>first |exact wK hx sx hv |exact wK hy sy hv |exact wK hx sx hu |exact wK hy sy hu
end
section
theorem um {j:J} {x:X} (hx:x.ok=true):e8 j x false=bif decide (x.v<0) then j.hi else j.lo:=by
 unfold e8 qP;rw [pV hx,decide_eq_decide.2 Iy];cases decide (x.v<0)<;>rfl
theorem un {j:J} {x:X} (hx:x.ok=true):e8 j x true=bif decide (x.v<0) then j.lo else j.hi:=by
 unfold e8 qP;rw [pV hx,decide_eq_decide.2 Iy];cases decide (x.v<0)<;>rfl
theorem tG {j:J} (h:okJ j=true):mf j=(decide (j.lo.v<0)&&decide (0<j.hi.v)):=by
 obtain ⟨h1,h2,_⟩:=aM h
 unfold mf;rw [pV h1,pV h2,decide_eq_decide.2 Iy,decide_eq_decide.2 Pn]
theorem jY {j:J} {x:X} {b:Bool} (h:okJ j=true):(e8 j x b).ok=true:=pU h _
theorem pP {z:Int} {b:Bool} {x y:X} (hx:x.ok=true) (hy:y.ok=true) (hp:kf z=true):dZ (pD z b) z x y=res (rnd z.toNat b (times x.q y.q)):=by
 rw [iS hx hy hp];rfl
theorem Dp {j j1:J} {z:Int} (ha:okJ j=true) (hb:okJ j1=true) (hz:kf z=true) (hs:mf j=false):m8 j j1 z false=res (rnd z.toNat false (dE j.lo.q j.hi.q j1.lo.q j1.hi.q)):=by
 obtain ⟨a1,a2,a3⟩:=aM ha
 obtain ⟨b1,b2,b3⟩:=aM hb
 have hn:¬ (j.lo.v<0∧0<j.hi.v):=fun ⟨c1,c2⟩=>by rw [tG ha,decide_eq_true c1,decide_eq_true c2] at hs;cases hs
 unfold m8
 rw [hs]
 show dZ (pD z false) z (e8 j (e8 j1 j.lo false) false) (e8 j1 j.lo false)=_
 rw [pP (jY ha) (jY hb) hz,n9 a1 a2 b1 b2 ((iJ b1 b2).1 b3) hn,um (jY hb),um a1]
 cases h1:decide (j.lo.v<0)
 ·show res (rnd _ _ (times (bif decide (j1.lo.v<0) then j.hi else j.lo).q j1.lo.q))=_
  cases decide (j1.lo.v<0)<;>rfl
 ·show res (rnd _ _ (times (bif decide (j1.hi.v<0) then j.hi else j.lo).q j1.hi.q))=_
  cases decide (j1.hi.v<0)<;>rfl
theorem Dq {j j1:J} {z:Int} (hg:GJ j) (ha:okJ j=true) (hb:okJ j1=true) (hz:kf z=true) (hs:mf j=false):m8 j j1 z true=res (rnd z.toNat true (ii j.lo.q j.hi.q j1.lo.q j1.hi.q)):=by
 obtain ⟨a1,a2,a3⟩:=aM ha
 obtain ⟨b1,b2,b3⟩:=aM hb
 have hle:=(iJ a1 a2).1 a3
 have hn:¬ (j.lo.v<0∧0<j.hi.v):=fun ⟨c1,c2⟩=>by rw [tG ha,decide_eq_true c1,decide_eq_true c2] at hs;cases hs
 unfold m8
 rw [hs]
 show dZ (pD z true) z (e8 j (e8 j1 j.lo true) true) (e8 j1 j.lo true)=_
 rw [pP (jY ha) (jY hb) hz,C0 a1 a2 b1 b2 hg.lo hg.hi ((iJ b1 b2).1 b3) hn,un (jY hb),un a1]
 by_cases h1:j.lo.v<0
 ·rw [decide_eq_true h1,decide_eq_false (show ¬ (0<j.hi.v) from fun h=>hn ⟨h1,h⟩)]
  show res (rnd _ _ (times (bif decide (j1.lo.v<0) then j.lo else j.hi).q j1.lo.q))=_
  cases decide (j1.lo.v<0)<;>rfl
 ·rw [decide_eq_false h1]
  show res (rnd _ _ (times (bif decide (j1.hi.v<0) then j.lo else j.hi).q j1.hi.q))=_
  by_cases h2:0<j.hi.v
  ·rw [decide_eq_true h2]
   cases decide (j1.hi.v<0)<;>rfl
  ·rw [decide_eq_false h2]
   have e0:j.lo.v=0:=by omega
   have e1:j.hi.v=0:=by omega
   congr 2
   cases decide (j1.hi.v<0)<;>cases decide (j1.lo.v<0)<;>simp only [cond_true,cond_false]<;>first
    |exact tH a1 b2 a1 b1 (by simp [e0])
    |exact tH a2 b2 a1 b1 (by simp [e0,e1])
    |exact tH a1 b2 a2 b1 (by simp [e0,e1])
    |exact tH a2 b2 a2 b1 (by simp [e1])
theorem Dr {j j1:J} {z:Int} (ha:okJ j=true) (hb:okJ j1=true) (hz:kf z=true) (hs:mf j=true) (ht:mf j1=false):m8 j j1 z false=res (rnd z.toNat false (dE j.lo.q j.hi.q j1.lo.q j1.hi.q)):=by
 obtain ⟨a1,a2,a3⟩:=aM ha
 obtain ⟨b1,b2,b3⟩:=aM hb
 have hn:¬ (j1.lo.v<0∧0<j1.hi.v):=fun ⟨c1,c2⟩=>by rw [tG hb,decide_eq_true c1,decide_eq_true c2] at ht;cases ht
 have hj:j.lo.v<0∧0<j.hi.v:=by
  have h:=hs
  rw [tG ha,Bool.and_eq_true,decide_eq_true_eq,decide_eq_true_eq] at h;exact h
 unfold m8
 rw [hs,ht]
 show dZ (pD z false) z (e8 j j1.lo false) (e8 j1 (e8 j j1.lo false) false)=_
 rw [pP (jY ha) (jY hb) hz,sL a1 a2 b1 b2,n9 b1 b2 a1 a2 ((iJ a1 a2).1 a3) hn,um (jY ha),um b1]
 cases decide (j1.lo.v<0)
 ·simp only [cond_true,cond_false,decide_eq_true hj.1,decide_eq_true hj.2,decide_eq_false (show ¬ (j.hi.v<0) by omega),decide_eq_false (show ¬ (0<j.lo.v) by omega)]
  first |rw [dF a1 b2]|rw [dF a2 b2]|rw [dF a1 b1]|rw [dF a2 b1]
 ·simp only [cond_true,cond_false,decide_eq_true hj.1,decide_eq_true hj.2,decide_eq_false (show ¬ (j.hi.v<0) by omega),decide_eq_false (show ¬ (0<j.lo.v) by omega)]
  first |rw [dF a1 b2]|rw [dF a2 b2]|rw [dF a1 b1]|rw [dF a2 b1]
theorem Ds {j j1:J} {z:Int} (hg:GJ j) (ha:okJ j=true) (hb:okJ j1=true) (hz:kf z=true) (hs:mf j=true) (ht:mf j1=false):m8 j j1 z true=res (rnd z.toNat true (ii j.lo.q j.hi.q j1.lo.q j1.hi.q)):=by
 obtain ⟨a1,a2,a3⟩:=aM ha
 obtain ⟨b1,b2,b3⟩:=aM hb
 have hn:¬ (j1.lo.v<0∧0<j1.hi.v):=fun ⟨c1,c2⟩=>by rw [tG hb,decide_eq_true c1,decide_eq_true c2] at ht;cases ht
 have hj:j.lo.v<0∧0<j.hi.v:=by
  have h:=hs
  rw [tG ha,Bool.and_eq_true,decide_eq_true_eq,decide_eq_true_eq] at h;exact h
 unfold m8
 rw [hs,ht]
 show dZ (pD z true) z (e8 j j1.lo true) (e8 j1 (e8 j j1.lo true) true)=_
 rw [pP (jY ha) (jY hb) hz,C8 a1 a2 b1 b2 hg.lo hg.hi ((iJ a1 a2).1 a3) hn,un (jY ha),un b1]
 cases decide (j1.lo.v<0)
 ·simp only [cond_true,cond_false,decide_eq_true hj.1,decide_eq_true hj.2,decide_eq_false (show ¬ (j.hi.v<0) by omega),decide_eq_false (show ¬ (0<j.lo.v) by omega)]
  first |rw [dF a1 b2]|rw [dF a2 b2]|rw [dF a1 b1]|rw [dF a2 b1]
 ·simp only [cond_true,cond_false,decide_eq_true hj.1,decide_eq_true hj.2,decide_eq_false (show ¬ (j.hi.v<0) by omega),decide_eq_false (show ¬ (0<j.lo.v) by omega)]
  first |rw [dF a1 b2]|rw [dF a2 b2]|rw [dF a1 b1]|rw [dF a2 b1]
end
section

end
end Go.Proofs.YtpacpmmdjmnamaaGreatDoor
