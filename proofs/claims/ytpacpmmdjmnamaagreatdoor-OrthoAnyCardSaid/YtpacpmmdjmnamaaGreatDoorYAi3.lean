/- Calls to which blocks are lent for reading. -/
import Derived.Test.YtpacpmmdjmnamaaGreatDoorYAi2
namespace Go.Proofs.YtpacpmmdjmnamaaGreatDoor
set_option linter.unusedSimpArgs false
set_option linter.unusedVariables false
open Go.RowKit Nx
section
def fL:Nat→List (List Lf)→St
 |_,[]=>[]
 |k,l::r=>(2*k+1,.v false l)::fL (k+1) r
def Lent (S:Nat→Prop) (w:World) (gs:List Nat) (ls:List (List Lf)):Prop:=gs.length=ls.length∧gs.Nodup∧(∀ g∈gs,¬ S g)∧∀ (t g:Nat) (l:List Lf),gs[t]? =some g→ls[t]? =some l→l.all mS=true∧l.all bu=true∧∃ T cs,Blk w g T cs∧∀ ρ D,(∀ g,S g→Sep ρ D g)→RL ρ D w l cs.toList
def cO (st:St):List Nat→Option (List (List Lf))
 |[]=>some []
 |b::bs=>(match look st (2*b+1),cO st bs with
  |some (.v _ ls),some r=>some (ls::r)
  |_,_=>none)
def qw:List Nat→Bool
 |[]=>true
 |x::xs=>!(inL xs x)&&qw xs
theorem RA.split {ρ:Env} {D:Nat→Bool} {w:World} {xs:List AV} {us:List Value} (h:RA ρ D w xs us) (n:Nat):RA ρ D w (xs.take n) (us.take n)∧RA ρ D w (xs.drop n) (us.drop n):=by
 induction n generalizing xs us with
 |zero=>simp only [List.take_zero,List.drop_zero];exact ⟨rfl,h⟩
 |succ n ih=>
  cases xs with
  |nil=>rw [show us=[] from h];exact ⟨rfl,rfl⟩
  |cons x xs=>
   obtain ⟨u,r,rfl,h1,h2⟩:=h
   obtain ⟨i1,i2⟩:=ih h2
   exact ⟨⟨u,_,rfl,h1,i1⟩,i2⟩
def fB (A B:eJ):eJ:=fun f d st args=>match A f d st args with
 |some e=>some e
 |none=>B f d st args
def BH (O:eJ) (g:FuncId):Prop:=∀ f d st args,f≠g→O f d st args=none
theorem Av {P:Program} {A B:eJ} {F:Nat→Prop} {w0:World} (hA:OrOK P A F w0) (hB:OrOK P B F w0) (hd:∀ f d st args e,B f d st args=some e→∀ st',A f d st' args=none):OrOK P (fB A B) F w0:=by
 refine ⟨fun f d st args e he=>?_,fun f d st args e he=>?_,fun f d st st' args e he hk=>?_⟩
 ·unfold fB at he
  split at he
  ·rename_i q hq;injection he with he;subst he;exact hA.enters _ _ _ _ _ hq
  ·exact hB.enters _ _ _ _ _ he
 ·unfold fB at he
  split at he
  ·rename_i q hq;injection he with he;subst he;exact hA.sound _ _ _ _ _ hq
  ·exact hB.sound _ _ _ _ _ he
 ·unfold fB at he
  split at he
  ·rename_i q hq
   injection he with he;subst he
   unfold fB;rw [hA.cong _ _ _ st' _ _ hq hk]
  ·unfold fB;rw [hd _ _ _ _ _ he st',hB.cong _ _ _ st' _ _ he hk]
end
section
def jo:Nat→Nat→List Nat
 |_,0=>[]
 |k,n+1=>k::jo (k+1) n
def lQ:List Lf→List Nat
 |[]=>[]
 |.own b _::r=>b::lQ r
 |.osl b _::r=>b::lQ r
 |.clo _ bs::r=>bs++lQ r
 |.lit _::r=>lQ r
 |.ws _::r=>lQ r
 |.dg _::r=>lQ r
 |.sl _ _ _ _::r=>lQ r
 |.im _::r=>lQ r
 |.ol _ _::r=>lQ r
 |.oe _ _ _::r=>lQ r
 |.ov _ _ _ _::r=>lQ r
def lV:Nat→List Lf→List Lf
 |_,[]=>[]
 |k,.own _ o::r=>.own k o::lV (k+1) r
 |k,.osl _ n::r=>.osl k n::lV (k+1) r
 |k,.clo f bs::r=>.clo f (jo k bs.length)::lV (k+bs.length) r
 |k,.lit v::r=>.lit v::lV k r
 |k,.ws v::r=>.ws v::lV k r
 |k,.dg v::r=>.dg v::lV k r
 |k,.sl _ a b c::r=>.sl false a b c::lV k r
 |k,.im v::r=>.im v::lV k r
 |k,.ol b v::r=>.ol b v::lV k r
 |k,.oe b v o::r=>.oe b v o::lV k r
 |k,.ov b v o n::r=>.ov b v o n::lV k r
def oq:List AV→List Nat
 |[]=>[]
 |.v _ ls::r=>lQ ls++oq r
 |.tup _::r=>oq r
 |.pre _ _ _::r=>oq r
def pR:Nat→List AV→List AV
 |_,[]=>[]
 |k,.v g ls::r=>.v g (lV k ls)::pR (k+(lQ ls).length) r
 |k,.tup vs::r=>.tup vs::pR k r
 |k,.pre a b c::r=>.pre a b c::pR k r
def rD:Lf→Bool
 |.ol _ _=>false
 |.oe _ _ _=>false
 |.ov _ _ _ _=>false
 |.lit _=>true
 |.own _ _=>true
 |.osl _ _=>true
 |.ws _=>true
 |.dg _=>true
 |.clo _ _=>true
 |.sl _ _ _ _=>true
 |.im _=>true
def qo:List AV→Bool
 |[]=>true
 |.v _ ls::r=>ls.all rD&&qo r
 |.tup _::_=>false
 |.pre _ _ _::_=>false
def Gt:List (List Lf)→Prop
 |[]=>True
 |l::r=>AZ l∧Gt r
theorem Dp {ls:List (List Lf)} (h:∀ (t:Nat) (l:List Lf),ls[t]? =some l→AZ l):Gt ls:=by
 induction ls with
 |nil=>trivial
 |cons l ls ih=>exact ⟨h 0 l rfl,ih fun t l' ht=>h (t+1) l' (by simpa using ht)⟩
theorem Lent.sm {S:Nat→Prop} {w:World} {gs:List Nat} {ls:List (List Lf)} (h:Lent S w gs ls):Gt ls:=Dp fun t l hl=>by
 have ht:t<gs.length:=by
  rw [h.1]
  rcases Nat.lt_or_ge t ls.length with h |h
  ·exact h
  ·rw [List.getElem?_eq_none h] at hl;cases hl
 obtain ⟨_,_,T,cs,_,hR⟩:=h.2.2.2 t gs[t] l (List.getElem?_eq_getElem ht) hl
 exact (hR jZ (fun _=>false) fun g hg=>⟨fun b hb=>(by cases hb),fun b hb=>(by cases hb)⟩).sm
abbrev KT:=List AV→List (List Lf)→Option (Prop×AV)
def iJ (g:FuncId) (k:KT):eJ:=fun f d st args=>if f=g then (match cO st (oq args) with
 | some ls=>if qw (oq args)=true∧(ls.all fun l=>l.all mS)=true∧qo args=true then (match k (pR 1000 args) ls with
   |some e=>some (e.1,(oq args).map (fun b=>2*b+1),[(2*d,e.2)])
   |none=>none) else none
 |none=>none) else none
def sy (A:List AV) (L:List (List Lf)) (r:AV):KT:=fun args ls=>some (args=A∧ls=L,r)
end
end Go.Proofs.YtpacpmmdjmnamaaGreatDoor
