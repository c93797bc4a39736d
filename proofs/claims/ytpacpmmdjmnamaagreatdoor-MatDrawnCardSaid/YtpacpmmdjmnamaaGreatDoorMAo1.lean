/- Matrices as cells; tables of arguments, one by one; what each and total do, turn by turn; two closures handed over. No function of the program stands in it. -/
import Derived.Test.YtpacpmmdjmnamaaGreatDoorMAn1
import Derived.Test.YtpacpmmdjmnamaaGreatDoorMAl2
namespace Go.Proofs.YtpacpmmdjmnamaaGreatDoor
set_option linter.unusedSimpArgs false
set_option linter.unusedVariables false
set_option maxHeartbeats 4000000
set_option maxRecDepth 100000
open Go.RowKit Nx
section
def rC (l:List J):Lc:=.sl 6 l.length (bC l)
def rP (l:List X):Lc:=.sl 3 l.length (pC l)
abbrev bw (m:List (List J)):AV:=.s (.sl false 1 m.length (m.map rC))
abbrev wl (m:List (List X)):AV:=.s (.sl false 1 m.length (m.map rP))
abbrev mL (m:List (List J)):Lf:=.sl true 1 m.length (m.map rC)
abbrev qL (m:List (List X)):Lf:=.sl true 1 m.length (m.map rP)
abbrev oz (r:List (List J)×Int):AV:=.tup [(false,[mL r.1]),(false,[.lit (.int .i64 r.2)])]
abbrev MG (r:List (List X)×Int):AV:=.tup [(false,[qL r.1]),(false,[.lit (.int .i64 r.2)])]
def vv:List Lc→Option (List (List J))
 |[]=>some []
 |.sl sz n ls::r=>(match ox ls,vv r with
  |some l,some m=>if sz=6∧n=l.length then some (l::m) else none
  |_,_=>none)
 |_=>none
def xg:List Lc→Option (List (List X))
 |[]=>some []
 |.sl sz n ls::r=>(match m7 ls,xg r with
  |some l,some m=>if sz=3∧n=l.length then some (l::m) else none
  |_,_=>none)
 |_=>none
section
variable {S:Nat→Prop} {w:World}
theorem vw:∀ {ls:List Lc} {m:List (List J)},vv ls=some m→ls.length=(m.map rC).length∧∀ us,LcL S w ls us→LcL S w (m.map rC) us:=by
 intro ls
 induction ls with
 |nil=>intro m h;injection h with h;subst h;exact ⟨rfl,fun _ h=>h⟩
 |cons l ls ih=>
  intro m h
  unfold vv at h
  split at h
  ·rename_i e;cases e
  ·rename_i sz n ks r e
   injection e with e1 e2;subst e1;subst e2
   split at h
   ·rename_i l' m' h1 h2
    split at h
    ·rename_i hc
     injection h with h;subst h
     obtain ⟨rfl,rfl⟩:=hc
     obtain ⟨i1,i2⟩:=ih h2
     refine ⟨by simp [i1],?_⟩
     rintro us ⟨u,r,rfl,h3,h4⟩
     exact ⟨u,r,rfl,jF (vt (S:=S) (w:=w) (us:=[]) _ (Nat.le_refl _) h1).1 (fun us=>(vt _ (Nat.le_refl _) h1).2) h3,i2 _ h4⟩
    ·cases h
   ·cases h
  ·cases h
theorem Fk:∀ {ls:List Lc} {m:List (List X)},xg ls=some m→ls.length=(m.map rP).length∧∀ us,LcL S w ls us→LcL S w (m.map rP) us:=by
 intro ls
 induction ls with
 |nil=>intro m h;injection h with h;subst h;exact ⟨rfl,fun _ h=>h⟩
 |cons l ls ih=>
  intro m h
  unfold xg at h
  split at h
  ·rename_i e;cases e
  ·rename_i sz n ks r e
   injection e with e1 e2;subst e1;subst e2
   split at h
   ·rename_i l' m' h1 h2
    split at h
    ·rename_i hc
     injection h with h;subst h
     obtain ⟨rfl,rfl⟩:=hc
     obtain ⟨i1,i2⟩:=ih h2
     refine ⟨by simp [i1],?_⟩
     rintro us ⟨u,r,rfl,h3,h4⟩
     exact ⟨u,r,rfl,jF (vC (S:=S) (w:=w) (us:=[]) _ (Nat.le_refl _) h1).1 (fun us=>(vC _ (Nat.le_refl _) h1).2) h3,i2 _ h4⟩
    ·cases h
   ·cases h
  ·cases h
end
theorem Fl:∀ (m:List (List J)),vv (m.map rC)=some m:=by
 intro m
 induction m with
 |nil=>rfl
 |cons l m ih=>
  show (match ox (bC l),vv (m.map rC) with
   |some l',some m'=>if 6=6∧l.length=l'.length then some (l'::m') else none
   |_,_=>none)=_
  rw [Fg,ih]
  simp
theorem No:∀ (m:List (List X)),xg (m.map rP)=some m:=by
 intro m
 induction m with
 |nil=>rfl
 |cons l m ih=>
  show (match m7 (pC l),xg (m.map rP) with
   |some l',some m'=>if 3=3∧l.length=l'.length then some (l'::m') else none
   |_,_=>none)=_
  rw [Fm,ih]
  simp
def kU (x:AV):Option (List (List J)):=bif nw x then some [] else (match x with
 |.v false [.sl false sz n ls]=>(match vv ls with
  |some m=>if sz=1∧n=m.length then some m else none
  |none=>none)
 |_=>none)
def Jp (x:AV):Option (List (List X)):=bif nw x then some [] else (match x with
 |.v false [.sl false sz n ls]=>(match xg ls with
  |some m=>if sz=1∧n=m.length then some m else none
  |none=>none)
 |_=>none)
theorem j8 (m:List (List J)):kU (.v false [.sl false 1 m.length (m.map rC)])=some m:=by
 cases m with
 |nil=>rfl
 |cons l m=>
  show (bif decide ((l::m).length=0)&&((l::m).map rC).isEmpty then some [] else (match vv ((l::m).map rC) with
   |some m'=>if 1=1∧(l::m).length=m'.length then some m' else none
   |none=>none))=_
  rw [Fl]
  simp
theorem j9 (m:List (List X)):Jp (.v false [.sl false 1 m.length (m.map rP)])=some m:=by
 cases m with
 |nil=>rfl
 |cons l m=>
  show (bif decide ((l::m).length=0)&&((l::m).map rP).isEmpty then some [] else (match xg ((l::m).map rP) with
   |some m'=>if 1=1∧(l::m).length=m'.length then some m' else none
   |none=>none))=_
  rw [No]
  simp
def vc {α:Type} (pa:AV→Option α) (c:α→AV):Prop:=∀ x a,pa x=some a→∀ ρ D w u,x.R ρ D w u→(c a).R ρ D w u
def gA {α:Type} (pa:AV→Option α) (k:α→List AV→Option (Prop×AV)):List AV→Option (Prop×AV)
 |[]=>none
 |x::r=>(match pa x with
  |some a=>k a r
  |none=>none)
def gE (e:Prop×AV):List AV→Option (Prop×AV)
 |[]=>some e
 |_::_=>none
def CtT (P:Program) (f:FuncId) (pre:List AV) (k:List AV→Option (Prop×AV)):Prop:=∀ args e,k args=some e→e.1→Ct P f (pre++args) (·=e.2)
theorem CtT.e {P:Program} {f:FuncId} {pre:List AV} {e:Prop×AV} (h:e.1→Ct P f pre (·=e.2)):CtT P f pre (gE e):=by
 intro args q hq hp
 cases args with
 |nil=>injection hq with hq;subst hq;rw [List.append_nil];exact h hp
 |cons _ _=>cases hq
theorem CtT.a {P:Program} {f:FuncId} {pre:List AV} {α:Type} {pa:AV→Option α} {c:α→AV} {k:α→List AV→Option (Prop×AV)} (ha:vc pa c) (h:∀ a,CtT P f (pre++[c a]) (k a)):CtT P f pre (gA pa k):=by
 intro args q hq hp
 cases args with
 |nil=>cases hq
 |cons x r=>
  have hq:(match pa x with
   |some a=>k a r
   |none=>none)=some q:=hq
  split at hq
  ·rename_i a hx
   refine (h a r q hq hp).of fun ρ D w us hR=>?_
   rw [List.append_assoc]
   have key:∀ (xs:List AV) (us:List Value),RA ρ D w (xs++x::r) us→RA ρ D w (xs++c a::r) us:=by
    intro xs
    induction xs with
    |nil=>rintro us ⟨u,r',rfl,h1,h2⟩;exact ⟨u,r',rfl,ha x a hx _ _ _ _ h1,h2⟩
    |cons y ys ih=>rintro us ⟨u,r',rfl,h1,h2⟩;exact ⟨u,r',rfl,h1,ih _ h2⟩
   exact key pre us hR
  ·cases hq
theorem bI {P:Program} {f:FuncId} {k:List AV→Option (Prop×AV)} (he:∀ (vs:Array Value) (w:World),(callFunc f vs).run P w= .ok (.enter f vs) w) (h:CtT P f [] k):TbOK P (one f k):=aH he fun args e hk hp=>h args e hk hp
def jd:AV→Option Int
 |.v false [.lit (.int .i64 z)]=>some z
 |_=>none
def yK:AV→Option Bool
 |.v false [.lit (.bool b)]=>some b
 |_=>none
def ki:AV→Option J
 |.v true ls=>k7 ls
 |_=>none
def oy:AV→Option X
 |.v true ls=>fK ls
 |_=>none
theorem bK:vc jd iA:=by
 intro x a h ρ D w u hR
 unfold jd at h
 split at h
 ·injection h with h;subst h;exact hR
 ·cases h
theorem nU:vc ki jA:=by
 intro x a h ρ D w u hR
 unfold ki at h
 split at h
 ·rw [gy h] at hR;exact hR
 ·cases h
theorem dB:vc jC bv:=fun _ _ h _ _ _ _ hR=>AI h hR
theorem vu:vc tY qi:=fun _ _ h _ _ _ _ hR=>Fj h hR
theorem bi:vc kU bw:=by
 intro x m h ρ D w u hR
 unfold kU at h
 cases hn:nw x with
 |true=>rw [hn,cond_true] at h;injection h with h;subst h;exact v7 hn hR
 |false=>
  rw [hn,cond_false] at h
  split at h
  ·split at h
   ·rename_i ls m' hl
    split at h
    ·rename_i hc
     injection h with h;subst h
     obtain ⟨rfl,rfl⟩:=hc
     exact RL.one.2 (jF (vw (S:=SepF false ρ D) (w:=w) hl).1 (vw hl).2 (RL.one.1 hR))
    ·cases h
   ·cases h
  ·cases h
theorem sn:vc Jp wl:=by
 intro x m h ρ D w u hR
 unfold Jp at h
 cases hn:nw x with
 |true=>rw [hn,cond_true] at h;injection h with h;subst h;exact v7 hn hR
 |false=>
  rw [hn,cond_false] at h
  split at h
  ·split at h
   ·rename_i ls m' hl
    split at h
    ·rename_i hc
     injection h with h;subst h
     obtain ⟨rfl,rfl⟩:=hc
     exact RL.one.2 (jF (Fk (S:=SepF false ρ D) (w:=w) hl).1 (Fk hl).2 (RL.one.1 hR))
    ·cases h
   ·cases h
  ·cases h
def Ng (r r':AV):Prop:=(∀ ρ D w u,r.R ρ D w u→r'.R ρ D w u)∧oI r'=true
theorem Ct.wk {P:Program} {f:FuncId} {args:List AV} {r r':AV} (h:Ct P f args (·=r)) (hw:Ng r r'):Ct P f args (·=r'):=fun ρ D w us ht hA=>
 (h ρ D w us ht hA).mono fun _ _ ⟨u,_,e,e1,_,hR,hb⟩=>⟨u,r',e,rfl,hw.2,fun ρ' D' ho=>hw.1 _ _ _ _ (by have:=hR ρ' D' ho;rw [e1] at this;exact this),hb⟩
theorem Hc.wk {P:Program} {w:World} {g:FuncId} {args:List AV} {r r':AV} (h:Hc P w g args r) (hw:Ng r r'):Hc P w g args r':=fun ρ D us hA=>
 (h ρ D us hA).mono fun _ _ ⟨u,e,hR,hb⟩=>⟨u,e,fun ρ' D' ho=>hw.1 _ _ _ _ (hR ρ' D' ho),hb⟩
def uN (l:List J):Lc:=bif l.isEmpty then .lit (.slice none 0 0) else rC l
def DH (l:List X):Lc:=bif l.isEmpty then .lit (.slice none 0 0) else rP l
theorem RI {S:Nat→Prop} {w:World} {l:List J} {u:Value} (h:(uN l).R S w u):(rC l).R S w u:=by
 cases l with
 |nil=>have h:u= .slice none 0 0:=h;subst h;exact ⟨rfl,none,0,rfl,Nat.le_refl _,.inl rfl⟩
 |cons _ _=>exact h
theorem RK {S:Nat→Prop} {w:World} {l:List X} {u:Value} (h:(DH l).R S w u):(rP l).R S w u:=by
 cases l with
 |nil=>have h:u= .slice none 0 0:=h;subst h;exact ⟨rfl,none,0,rfl,Nat.le_refl _,.inl rfl⟩
 |cons _ _=>exact h
theorem LcL.maps {α:Type} {S:Nat→Prop} {w:World} {f g:α→Lc} (h:∀ a u,(f a).R S w u→(g a).R S w u):∀ (m:List α) (us:List Value),LcL S w (m.map f) us→LcL S w (m.map g) us:=by
 intro m
 induction m with
 |nil=>intro us h;exact h
 |cons a m ih=>rintro us ⟨u,r,rfl,h1,h2⟩;exact ⟨u,r,rfl,h a u h1,ih r h2⟩
theorem jm {ρ:Env} {D:Nat→Bool} {w:World} {u:Value} {sz:Nat} (h:(Lf.lit (.slice none 0 0)).R ρ D w u):(Lf.sl true sz 0 []).R ρ D w u:=by
 have h:u= .slice none 0 0:=h
 subst h
 exact ⟨by simp,none,0,rfl,Nat.le_refl _,.inl rfl⟩
theorem Q9 {ρ:Env} {D:Nat→Bool} {w:World} {m:List (List J)} {u:Value} (h:(Lf.sl true 1 m.length (m.map uN)).R ρ D w u):(mL m).R ρ D w u:=jF (by simp) (LcL.maps (fun _ _=>RI) m) h
theorem SL {ρ:Env} {D:Nat→Bool} {w:World} {m:List (List X)} {u:Value} (h:(Lf.sl true 1 m.length (m.map DH)).R ρ D w u):(qL m).R ρ D w u:=jF (by simp) (LcL.maps (fun _ _=>RK) m) h
theorem iq {l l':Lf} {z:Int} (h:∀ ρ D w u,l.R ρ D w u→l'.R ρ D w u) (hc:rI l'=true):Ng (.tup [(false,[l]),(false,[.lit (.int .i64 z)])]) (.tup [(false,[l']),(false,[.lit (.int .i64 z)])]):=by
 refine ⟨?_,by simp only [oI,List.all_cons,List.all_nil,hc,Bool.and_true,Bool.true_and];rfl⟩
 rintro ρ D w u ⟨us,rfl,x,r,rfl,h1,h2⟩
 exact ⟨_,rfl,x,r,rfl,RL.one.2 (h _ _ _ _ (RL.one.1 h1)),h2⟩
theorem wS {l l':Lf} (h:∀ ρ D w u,l.R ρ D w u→l'.R ρ D w u) (hc:rI l'=true):Ng (.s l) (.s l'):=by
 refine ⟨fun ρ D w u h1=>RL.one.2 (h _ _ _ _ (RL.one.1 h1)),by simp [oI,hc]⟩
def eachN {α:Type} (F:Nat→α×Int):Nat→List α×Int
 |0=>([],0)
 |j+1=>bif (eachN F j).2 !=0 then eachN F j else bif (F j).2 !=0 then ([],(F j).2) else ((eachN F j).1++[(F j).1],0)
section
variable {α:Type} {F G:Nat→α×Int}
theorem bh {j:Nat} (h:(eachN F j).2=0) (hF:(F j).2=0):eachN F (j+1)=((eachN F j).1++[(F j).1],0):=by
 show (bif (eachN F j).2 !=0 then eachN F j else bif (F j).2 !=0 then ([],(F j).2) else ((eachN F j).1++[(F j).1],0))=_
 rw [h,hF];rfl
theorem jg {j:Nat} (h:(eachN F j).2=0) (hF:((F j).2 !=0)=true):eachN F (j+1)=([],(F j).2):=by
 show (bif (eachN F j).2 !=0 then eachN F j else bif (F j).2 !=0 then ([],(F j).2) else ((eachN F j).1++[(F j).1],0))=_
 rw [h,hF];rfl
theorem ig {j n:Nat} (h:((eachN F j).2 !=0)=true) (hn:j≤n):eachN F n=eachN F j:=by
 induction n with
 |zero=>
     have:j=0:=by omega
     subst this;rfl
 |succ n ih=>
  by_cases e:j=n+1
  ·rw [e]
  ·have:=ih (by omega)
   show (bif (eachN F n).2 !=0 then eachN F n else bif (F n).2 !=0 then ([],(F n).2) else ((eachN F n).1++[(F n).1],0))=_
   rw [this,h];rfl
theorem cQ {j n:Nat} (h:(eachN F j).2=0) (hF:((F j).2 !=0)=true) (hn:j<n):eachN F n=([],(F j).2):=by
 have h1:=jg h hF
 rw [ig (j:=j+1) (by rw [h1];exact hF) hn,h1]
theorem bq {n:Nat} (h:(eachN F n).2=0):(eachN F n).1.length=n:=by
 induction n with
 |zero=>rfl
 |succ n ih=>
  cases h1:(eachN F n).2 !=0 with
  |true=>
   have h2:=ig (n:=n+1) h1 (Nat.le_succ n)
   rw [h2] at h
   rw [h] at h1;cases h1
  |false=>
   have h1:(eachN F n).2=0:=by simpa using h1
   cases hF:(F n).2 !=0 with
   |true=>rw [jg h1 hF] at h;have h:(F n).2=0:=h;rw [h] at hF;cases hF
   |false=>
    rw [bh h1 (by simpa using hF)]
    simp [ih h1]
theorem di {n:Nat} (h:∀ j,j<n→F j=G j):eachN F n=eachN G n:=by
 induction n with
 |zero=>rfl
 |succ n ih=>
  show (bif (eachN F n).2 !=0 then eachN F n else bif (F n).2 !=0 then ([],(F n).2) else ((eachN F n).1++[(F n).1],0))=(bif (eachN G n).2 !=0 then eachN G n else bif (G n).2 !=0 then ([],(G n).2) else ((eachN G n).1++[(G n).1],0))
  rw [ih fun j hj=>h j (by omega),h n (Nat.lt_succ_self n)]
theorem CI {n:Nat} (h:(eachN F n).2=0):∀ j,j<n→(F j).2=0∧(eachN F n).1[j]? =some (F j).1:=by
 induction n with
 |zero=>intro j hj;omega
 |succ n ih=>
  intro j hj
  cases h1:(eachN F n).2 !=0 with
  |true=>
   have h2:=ig (n:=n+1) h1 (Nat.le_succ n)
   rw [h2] at h
   rw [h] at h1;cases h1
  |false=>
   have h1:(eachN F n).2=0:=by simpa using h1
   cases hF:(F n).2 !=0 with
   |true=>rw [jg h1 hF] at h;have h:(F n).2=0:=h;rw [h] at hF;cases hF
   |false=>
    have hF:(F n).2=0:=by simpa using hF
    rw [bh h1 hF]
    have hl:=bq h1
    by_cases e:j=n
    ·subst e;exact ⟨hF,by rw [List.getElem?_append_right (by omega),hl];simp⟩
    ·obtain ⟨i1,i2⟩:=ih h1 j (by omega)
     exact ⟨i1,by rw [List.getElem?_append_left (by omega)];exact i2⟩
theorem CG {n:Nat} (h:∀ j,j<n→(F j).2=0):(eachN F n).2=0:=by
 induction n with
 |zero=>rfl
 |succ n ih=>rw [bh (ih fun j hj=>h j (by omega)) (h n (Nat.lt_succ_self n))]
end
def aC {α:Type} (z:α) (F:Nat→α×Int) (add:α→α→α×Int):Nat→α×Int
 |0=>(z,0)
 |j+1=>bif (aC z F add j).2 !=0 then aC z F add j else bif (F j).2 !=0 then (z,(F j).2) else bif decide (0<j) then (bif (add (aC z F add j).1 (F j).1).2 !=0 then (z,(add (aC z F add j).1 (F j).1).2) else ((add (aC z F add j).1 (F j).1).1,0)) else ((F j).1,0)
section
variable {α:Type} {z:α} {F G:Nat→α×Int} {add:α→α→α×Int}
theorem pc {j:Nat} (h:(aC z F add j).2=0):aC z F add (j+1)=bif (F j).2 !=0 then (z,(F j).2) else bif decide (0<j) then (bif (add (aC z F add j).1 (F j).1).2 !=0 then (z,(add (aC z F add j).1 (F j).1).2) else ((add (aC z F add j).1 (F j).1).1,0)) else ((F j).1,0):=by
 show (bif (aC z F add j).2 !=0 then aC z F add j else _)=_
 rw [h];rfl
theorem iB {j n:Nat} (h:((aC z F add j).2 !=0)=true) (hn:j≤n):aC z F add n=aC z F add j:=by
 induction n with
 |zero=>
     have:j=0:=by omega
     subst this;rfl
 |succ n ih=>
  by_cases e:j=n+1
  ·rw [e]
  ·have:=ih (by omega)
   show (bif (aC z F add n).2 !=0 then aC z F add n else _)=_
   rw [this,h];rfl
theorem tL {n:Nat} (h:∀ j,j<n→F j=G j):aC z F add n=aC z G add n:=by
 induction n with
 |zero=>rfl
 |succ n ih=>
  unfold aC
  rw [ih fun j hj=>h j (by omega),h n (Nat.lt_succ_self n)]
end
def cA {α:Type} (cf:α→List Lf) (zf:List Lf) (n:Nat) (l:List α):List Lf:=l.flatMap cf++(List.replicate (n - l.length) zf).flatten
section
variable {α:Type} {cf:α→List Lf} {zf:List Lf} {s n:Nat}
theorem bj (hc:∀ a,(cf a).length=s):∀ (l:List α),(l.flatMap cf).length=l.length*s:=by
 intro l
 induction l with
 |nil=>simp
 |cons a l ih=>rw [List.flatMap_cons,List.length_append,hc,ih,List.length_cons,Nat.succ_mul];omega
theorem wm (hz:zf.length=s):∀ (k:Nat),(List.replicate k zf).flatten.length=k*s:=by
 intro k
 induction k with
 |zero=>simp
 |succ k ih=>rw [List.replicate_succ,List.flatten_cons,List.length_append,hz,ih,Nat.succ_mul];omega
theorem ss (hc:∀ a,(cf a).length=s) (hz:zf.length=s) {l:List α} (hl:l.length≤n):(cA cf zf n l).length=n*s:=by
 unfold cA
 rw [List.length_append,bj hc,wm hz,←Nat.add_mul]
 congr 1;omega
theorem ni (hc:∀ a,(cf a).length=s) (hz:zf.length=s) {l:List α} {j:Nat} (a:α) (hl:l.length=j) (hj:j<n):(cA cf zf n l).take (j*s)++cf a++(cA cf zf n l).drop (j*s+s)=cA cf zf n (l++[a]):=by
 have h1:=bj hc l
 rw [hl] at h1
 obtain ⟨k,hk⟩:∃ k,n - l.length=k+1:=⟨n - l.length - 1,by omega⟩
 have hk2:n - (l++[a]).length=k:=by simp;omega
 unfold cA
 rw [hk,hk2,List.replicate_succ,List.flatten_cons,List.flatMap_append]
 rw [List.take_append_of_le_length (by omega),List.take_of_length_le (by omega)]
 rw [List.drop_append,List.drop_of_length_le (by omega),h1,List.nil_append,show j*s+s - j*s=s by omega,List.drop_append_of_le_length (by omega),List.drop_of_length_le (by omega),List.nil_append]
 simp
theorem qr {p:Lf→Bool} (hc:∀ a,(cf a).all p=true) (hz:zf.all p=true) {l:List α}:(cA cf zf n l).all p=true:=by
 have h2:∀ k,(List.replicate k zf).flatten.all p=true:=by
  intro k
  induction k with
  |zero=>rfl
  |succ k ih=>rw [List.replicate_succ,List.flatten_cons,List.all_append,hz,ih];rfl
 unfold cA
 rw [List.all_append,h2,Bool.and_true]
 induction l with
 |nil=>rfl
 |cons a l ih=>rw [List.flatMap_cons,List.all_append,hc,ih];rfl
theorem mB:cA cf zf n []=(List.replicate n zf).flatten:=by unfold cA;simp
end
theorem JT:∀ {ls ms:List Lf} {ks js:List Lc},fD ls=some ks→fD ms=some js→fD (ls++ms)=some (ks++js):=by
 intro ls
 induction ls with
 |nil=>intro ms ks js h1 h2;injection h1 with h1;subst h1;exact h2
 |cons l ls ih=>
  intro ms ks js h1 h2
  cases l with
  |lit v=>
   unfold fD at h1
   split at h1
   ·rename_i k hk;injection h1 with h1;subst h1;rw [List.cons_append];unfold fD;rw [ih hk h2];rfl
   ·cases h1
  |ws v=>
   unfold fD at h1
   split at h1
   ·rename_i k hk;injection h1 with h1;subst h1;rw [List.cons_append];unfold fD;rw [ih hk h2];rfl
   ·cases h1
  |dg v=>
   unfold fD at h1
   split at h1
   ·rename_i k hk;injection h1 with h1;subst h1;rw [List.cons_append];unfold fD;rw [ih hk h2];rfl
   ·cases h1
  |sl f a b c=>
   cases f with
   |false=>cases h1
   |true=>
    unfold fD at h1
    split at h1
    ·rename_i k hk;injection h1 with h1;subst h1;rw [List.cons_append];unfold fD;rw [ih hk h2];rfl
    ·cases h1
  |_=>cases h1
theorem dd {α:Type} {cf:α→List Lf} {cc:α→List Lc} (h:∀ a,fD (cf a)=some (cc a)):∀ (l:List α),fD (l.flatMap cf)=some (l.flatMap cc):=by
 intro l
 induction l with
 |nil=>rfl
 |cons a l ih=>rw [List.flatMap_cons,List.flatMap_cons];exact JT (h a) ih
theorem lf {α:Type} {cf:α→List Lf} {zf:List Lf} {n:Nat} {l:List α} (hl:l.length=n):cA cf zf n l=l.flatMap cf:=by unfold cA;rw [hl,Nat.sub_self];simp
theorem oK (j:J):fD j.L=some j.C:=rfl
theorem AW (x:X):fD x.L=some x.C:=rfl
theorem rL (l:List J):fD [dA l]=some [uN l]:=by cases l<;>rfl
theorem AY (l:List X):fD [jp l]=some [DH l]:=by cases l<;>rfl
theorem lD {α β:Type} (f:α→β) (l:List α):(l.flatMap fun a=>[f a])=l.map f:=by
 induction l with
 |nil=>rfl
 |cons a l ih=>rw [List.flatMap_cons,ih];rfl
abbrev PV:=List (List Lf)→FuncId→List (List Lf)→FuncId→List AV→Option (Prop×AV)
def lF (kk:PV) (d n:Nat) (st:St) (args:List AV):List AV→Option Ef
 |[.v false [.clo c bs],.v false [.clo c2 bs2]]=>(match bB st bs,bB st bs2 with
  |some ls,some ls2=>if (pH bs=true∧(ls.all fun l=>l.all qu)=true)∧(pH bs2=true∧(ls2.all fun l=>l.all qu)=true)∧((args.take n).map (mn st)).all Bt=true then (match kk ls c ls2 c2 ((args.take n).map (mn st)) with
   |some e=>some (e.1,(args.take n).flatMap olA++bs.map (fun b=>2*b+1)++bs2.map (fun b=>2*b+1),[(2*d,e.2)])
   |none=>none) else none
  |_,_=>none)
 |_=>none
def jh (g:FuncId) (n:Nat) (kk:PV):dI:=fun f d st args=>if f=g then lF kk d n st args (args.drop n) else none
theorem Bj {P:Program} {g:FuncId} {n:Nat} {kk:PV} {w0:World} (hen:∀ (vs:Array Value) (w:World),(callFunc g vs).run P w= .ok (.enter g vs) w)
  (hk:∀ ls c ls2 c2 xs e,kk ls c ls2 c2 xs=some e→e.1→∀ (S:Nat→Prop) w gs gs2,Below w0.heap.size w0 w→Tab w→Lent S w gs ls→Lent S w gs2 ls2→Hc P w g (xs++[jL c (fu gs),jL c2 (fu gs2)]) e.2):OrOK P (jh g n kk) (fun _=>False) w0:=by
 have inv:∀ f d st args e,jh g n kk f d st args=some e→f=g∧∃ c bs ls c2 bs2 ls2 q,args.drop n=[.v false [.clo c bs],.v false [.clo c2 bs2]]∧bB st bs=some ls∧bB st bs2=some ls2∧((pH bs=true∧(ls.all fun l=>l.all qu)=true)∧(pH bs2=true∧(ls2.all fun l=>l.all qu)=true)∧((args.take n).map (mn st)).all Bt=true)∧kk ls c ls2 c2 ((args.take n).map (mn st))=some q∧e=(q.1,(args.take n).flatMap olA++bs.map (fun b=>2*b+1)++bs2.map (fun b=>2*b+1),[(2*d,q.2)]):=by
  intro f d st args e he
  unfold jh at he
  split at he
  case isFalse=>cases he
  rename_i hf
  refine ⟨hf,?_⟩
  generalize hx:args.drop n=x at he
  unfold lF at he
  split at he
  case h_2=>cases he
  rename_i c bs c2 bs2
  split at he
  case h_2=>cases he
  rename_i ls ls2 hls hls2
  split at he
  case isFalse=>cases he
  rename_i hc
  split at he
  case h_2=>cases he
  rename_i q hq
  injection he with he
  exact ⟨c,bs,ls,c2,bs2,ls2,q,rfl,hls,hls2,hc,hq,he.symm⟩
 refine ⟨fun f d st args e he=>?_,fun f d st args e he hp N ρ a w us hz hd hA=>?_,fun f d st st' args e he hkk=>?_⟩
 ·obtain ⟨rfl,_⟩:=inv _ _ _ _ _ he;exact hen
 ·obtain ⟨rfl,c,bs,ls,c2,bs2,ls2,q,hx,hls,hls2,hc,hq,rfl⟩:=inv _ _ _ _ _ he
  obtain ⟨c1,c2'⟩:=hA.cut n
  rw [hx] at c2'
  have hL:=mF hz hls hc.1.1 hc.1.2
  have hL2:=mF hz hls2 hc.2.1.1 hc.2.1.2
  obtain ⟨v,_,e2,hv,v2,r,rfl,hv2,hr⟩:=c2'
  have hr:r=[]:=hr
  subst hr
  obtain ⟨_,hv⟩:=RL.one.1 hv
  obtain ⟨_,hv2⟩:=RL.one.1 hv2
  have hv:v= .func (.func c) #[] (fu (bs.map ρ.r)).toArray:=by rw [hv];unfold fu;rw [List.map_map];rfl
  have hv2:v2= .func (.func c2) #[] (fu (bs2.map ρ.r)).toArray:=by rw [hv2];unfold fu;rw [List.map_map];rfl
  have hA2:RA ρ.no (fun _=>false) w ((args.take n).map (mn st)++[jL c (fu (bs.map ρ.r)),jL c2 (fu (bs2.map ρ.r))]) us:=by
   have:us=us.take n++[v,v2]:=by rw [←e2,List.take_append_drop]
   rw [this]
   exact (AT hz c1 hc.2.2).append ⟨v,[v2],rfl,RL.one.2 hv,v2,[],rfl,RL.one.2 hv2,rfl⟩
  refine (hk _ _ _ _ _ _ hq hp _ w _ _ hz.bel.to (hz.tb.tab hz.bel) hL hL2 _ _ us hA2).mono ?_
  rintro en w' ⟨u,rfl,hR,hb⟩
  exact ⟨u,ρ,rfl,hz.val hb hd (hR _ _ hz.old)⟩
 ·obtain ⟨rfl,c,bs,ls,c2,bs2,ls2,q,hx,hls,hls2,hc,hq,rfl⟩:=inv _ _ _ _ _ he
  have hm:(args.take n).map (mn st')=(args.take n).map (mn st):=List.map_congr_left fun x hx=>lV fun k hk'=>hkk k (List.mem_append.2 (.inl (List.mem_append.2 (.inl (List.mem_flatMap.2 ⟨x,hx,hk'⟩)))))
  have hm2:=lh (st:=st) (st':=st') (bs:=bs) fun k hk'=>hkk k (List.mem_append.2 (.inl (List.mem_append.2 (.inr hk'))))
  have hm3:=lh (st:=st) (st':=st') (bs:=bs2) fun k hk'=>hkk k (List.mem_append.2 (.inr hk'))
  rw [←he]
  unfold jh
  rw [if_pos rfl,if_pos rfl,hx]
  unfold lF
  simp only [hm,hm2,hm3]
theorem Bk {P:Program} {g:FuncId} {n:Nat} {kk:PV} {B:dI} {w0:World} (hA:OrOK P (jh g n kk) (fun _=>False) w0) (hB:OrOK P B (fun _=>False) w0) (hn:∀ d st args,B g d st args=none):OrOK P (bO (jh g n kk) B) (fun _=>False) w0:=
 mO hA hB fun f d st args e he st'=>by
  unfold jh
  split
  ·rename_i h;subst h;rw [hn] at he;cases he
  ·rfl
theorem J0 {P:Program} {f:FuncId} {caps:List Value} {k:Int→Prop×AV} {T:b9} {w0:World} (hA:OrOK P (jM 1 f caps (gI k)) (fun _=>False) w0) (hB:OrOK P (ai T) (fun _=>False) w0) (hT:∀ g args e,T g args=some e→∃ ls r,args= .v true ls::r):OrOK P (bO (jM 1 f caps (gI k)) (ai T)) (fun _=>False) w0:=
 mO hA hB fun g d st args e he st'=>by
  unfold ai at he
  split at he
  case h_2=>cases he
  rename_i q hq
  obtain ⟨ls,r,hx⟩:=hT _ _ _ hq
  match args,hx with
  |.v true l::r',_=>
   unfold jM
   split
   ·split
    ·rfl
    ·rfl
   ·rfl
  |.v false l::r',hx=>rw [List.map_cons] at hx;injection hx with hx;cases hx
  |.tup _::r',hx=>rw [List.map_cons] at hx;injection hx with hx;cases hx
  |.pre _ _ _::r',hx=>rw [List.map_cons] at hx;injection hx with hx;cases hx
end
section
attribute [go_sem] X.eta J.eta Q.eta cu cw aZ a5 bN aT dQ cntF nmL o8 nmA tn tR bB pH cT bO rp Int.toNat_zero decide_eq_true_eq eH eU rf rh BEq.rfl beq_self_eq_true Int.natCast_zero ge_iff_le gt_iff_lt Int.le_refl Nat.zero_mul Nat.one_mul Nat.zero_add Nat.zero_lt_succ Nat.lt_add_one Nat.le_refl List.append_eq Int.toNat_natCast uc dM cV dS cW bne_self_eq_false wr2 Eo Ep Er Es Et Eu gB gP zu Eh Ei ry g9 cU iP dz jM Lc.up AA BO pY List.replicate_succ List.replicate_zero List.flatten_cons List.flatten_nil Int.ofNat_lt Int.cast_ofNat_Int Int.ofNat_eq_natCast List.isEmpty_nil List.isEmpty_cons and_false false_and List.cons_ne_nil Nat.add_zero ite_true ite_false if_true if_false Nat.le_zero_eq eq_self
attribute [go_sem ↓] bu fc fd gG gH gT gU dR eu gW gX gK gL gR gS gw gD gO gQ
attribute [local irreducible] ar
def fJ:TI:=⟨false,1,[.lit (.slice none 0 0)],[.slice none 0 0],[],some (27,false)⟩
def ou:TI:=⟨false,1,[.lit (.slice none 0 0)],[.slice none 0 0],[],some (51,false)⟩
def nN (t:TypeId):Option TI:=if t=129 then some fJ else if t=36 then some ou else if t=89 then some yN else AA t
theorem Rs:TiOK Tryz.prog 129 fJ:=d8 (by kernel_rfl) (by kernel_rfl) (by kernel_rfl) (by kernel_rfl) (fun _ _ _=>rfl) rfl (fun b h=>by cases h) (fun k z h=>by cases h) (sl_of' (by kernel_rfl))
theorem SI:TiOK Tryz.prog 36 ou:=d8 (by kernel_rfl) (by kernel_rfl) (by kernel_rfl) (by kernel_rfl) (fun _ _ _=>rfl) rfl (fun b h=>by cases h) (fun k z h=>by cases h) (sl_of' (by kernel_rfl))
theorem Rr:TiOK Tryz.prog 89 yN:=d8 (by kernel_rfl) (by kernel_rfl) (by kernel_rfl) (by kernel_rfl) (fun _ _ _=>rfl) rfl (fun b h=>by cases h) (fun k z h=>by cases h) (fun e b h=>by cases h)
theorem ah (t:TypeId) (i:TI) (h:nN t=some i):TiOK Tryz.prog t i:=by
 unfold nN at h
 by_cases h0:t=129
 ·rw [if_pos h0] at h;injection h with h;subst h;subst h0;exact Rs
 rw [if_neg h0] at h
 by_cases h1:t=36
 ·rw [if_pos h1] at h;injection h with h;subst h;subst h1;exact SI
 rw [if_neg h1] at h
 by_cases h2:t=89
 ·rw [if_pos h2] at h;injection h with h;subst h;subst h2;exact Rr
 rw [if_neg h2] at h
 exact be t i h
def cg {α:Type} (r:List α→Lc) (x:List (List α)×Int):AV:=.tup [(false,[bif x.1.isEmpty then .lit (.slice none 0 0) else .sl true 1 x.1.length (x.1.map r)]),(false,[.lit (.int .i64 x.2)])]
theorem rn (st:St) (j:J):j.L.all (bx st)=true:=rfl
theorem Hp (st:St) (x:X):x.L.all (bx st)=true:=rfl
theorem Hq (st:St) (l:List J): [dA l].all (bx st)=true:=by rw [List.all_cons,dR];rfl
theorem Mx (st:St) (l:List X): [jp l].all (bx st)=true:=by rw [List.all_cons,eu];rfl
def re (n:Nat) (l:List J):List Lf:=cA J.L zJ.L n l
theorem qt {n:Nat} {l:List J} (hl:l.length≤n):(re n l).length=n*6:=ss (cf:=J.L) (zf:=zJ.L) (s:=6) (fun _=>rfl) rfl hl
theorem FP {st:St} {n:Nat} {l:List J}:(re n l).all (bx st)=true:=qr (p:=bx st) (rn st) rfl
theorem NV {w:World} {f:FuncId} {caps:List Value} {n:Nat} {F:Nat→J×Int} (ht:Tab w) (hf:Fv Tryz.prog w f caps (gI fun z=>(0≤z∧z<(n:Int),iY (F z.toNat)))) (h1:1≤n) (h2:n≤1000):Hc Tryz.prog w 70 [iA n,jL f caps] (bP (eachN F n)):=by
 have c1:(0≤(n:Int))=True:=eq_true (by omega)
 have c2:((n:Int)≤1000)=True:=eq_true (by omega)
 have e0:(List.replicate n [.lit (.bool false),.lit (.int .i64 0),.ws [],.lit (.bool false),.lit (.int .i64 0),.ws []]).flatten=re n ([]:List J):=(mB (cf:=J.L) (zf:=zJ.L)).symm
 refine fM (O:=bO (jM 1 f caps (gI fun z=>(0≤z∧z<(n:Int),iY (F z.toNat)))) (ai eJ)) (by kernel_rfl) ah (kP (fE hf) (aa bk _ w) (fun g d st args h=>LK)) ht [9999999,0,2,12,23,24,26] ((n+1)*200+100) 31 [.tmp 4,.tmp 5] Tryz.func70 rfl Tryz.ntmps70 (by rw [Tryz.results70]) (by simp) rfl (fun hsm=>?_)
 simp (maxSteps:=10000000) only [go_sem,seval,reduceCtorEq,nN,ou,fJ,c1,c2,e0]
 refine aL 200 (fun j=>[(0,iA n),(2,jL f caps),(12,.s (.osl 11 n)),(23,.v true (re n (eachN F j).1)),(24,iA n),(26,iA j)]) n (fun j=>(eachN F j).2=0) 0 (fun j _=>by simp only [List.all_cons,List.all_nil,bH,bx,FP,Bool.and_true];rfl) (fun j mm _ hj hI ih=>?_) (by omega) rfl rfl
 have hlen:=bq hI
 rcases Nat.lt_or_ge j n with hlt |hge
 ·have d:=decide_eq_true (show (j:Int)<(n:Int) by omega)
  have d0:((j:Int)<(n:Int))=True:=eq_true (by omega)
  have g1:(j<n)=True:=eq_true hlt
  have g0:(0≤(j:Int))=True:=eq_true (by omega)
  have hw:=aN (j:=j) (by omega)
  have hl:=qt (n:=n) (l:=(eachN F j).1) (by omega)
  have g3:(j*6+6≤n*6)=True:=eq_true (by omega)
  cases hF:(F j).2 !=0 with
  |true=>
   have hr:=cQ hI hF hlt
   simp (maxSteps:=10000000) only [go_sem,seval,reduceCtorEq,nN,ou,fJ,d,d0,g0,g1,hw,hF,hr,cg]
   repeat' with_reducible first |apply And.intro |apply condP<;>intro _
   all_goals first |(show ar _ _=true;kernel_rfl)|assumption |rfl |(simp only [*];done)
  |false=>
   have hF0:(F j).2=0:=by simpa using hF
   have hk:=bh hI hF0
   have es:=ni (cf:=J.L) (zf:=zJ.L) (s:=6) (fun _=>rfl) rfl (F j).1 hlen hlt
   have es:List.take (j*6) (re n (eachN F j).1)++[.lit (.bool (F j).1.lo.s),.lit (.int .i64 (F j).1.lo.e),.ws (F j).1.lo.xs,.lit (.bool (F j).1.hi.s),.lit (.int .i64 (F j).1.hi.e),.ws (F j).1.hi.xs]++List.drop (j*6+6) (re n (eachN F j).1)=re n (eachN F (j+1)).1:=by rw [hk];exact es
   have es':List.take (j*6) (re n (eachN F j).1)++([.lit (.bool (F j).1.lo.s),.lit (.int .i64 (F j).1.lo.e),.ws (F j).1.lo.xs,.lit (.bool (F j).1.hi.s),.lit (.int .i64 (F j).1.hi.e),.ws (F j).1.hi.xs]++List.drop (j*6+6) (re n (eachN F j).1))=re n (eachN F (j+1)).1:=by rw [←List.append_assoc];exact es
   have hk2:(eachN F (j+1)).2=0:=by rw [hk]
   replace ih:=ih hlt hk2
   simp (maxSteps:=10000000) only [go_sem,seval,reduceCtorEq,nN,ou,fJ,d,d0,g0,g1,g3,hw,hF,hl,es]
   repeat' with_reducible first |apply And.intro |apply condP<;>intro _
   all_goals first |(show ar _ _=true;kernel_rfl)|(exact ih _ _ rfl)|assumption |rfl
 ·have hn:j=n:=by omega
  subst hn
  have d:=decide_eq_false (show ¬ (j:Int)<(j:Int) by omega)
  have hl:=qt (n:=j) (l:=(eachN F j).1) (by omega)
  have hq:j*6 / j=6:=Nat.mul_div_cancel_left _ (by omega)
  have hdn:fD (re j (eachN F j).1)=some (bC (eachN F j).1):=by unfold re;rw [lf hlen];exact dd oK _
  have hfin:bP (eachN F j)= .tup [(false,[.sl true 6 j (bC (eachN F j).1)]),(false,[.lit (.int .i64 0)])]:=by
   cases hx:eachN F j with
   |mk l e=>
    rw [hx] at hI hlen
    have hI:e=0:=hI
    have hlen:l.length=j:=hlen
    subst hI;subst hlen
    cases l with
    |nil=>simp at h1
    |cons a l=>rfl
  simp (maxSteps:=10000000) only [go_sem,seval,reduceCtorEq,nN,ou,fJ,d,hl,hq,hdn,hfin]
  repeat' with_reducible first |apply And.intro |apply condP<;>intro _
  all_goals first |(show ar _ _=true;kernel_rfl)|assumption |rfl |(simp only [*];done)
theorem Mk {w:World} {f:FuncId} {caps:List Value} {n:Nat} {F:Nat→J×Int} (ht:Tab w) (hf:Fv Tryz.prog w f caps (gI fun z=>(0≤z∧z<(n:Int),iY (F z.toNat)))) (h1:1≤n) (h2:n≤1000):Hc Tryz.prog w 70 [iA n,jL f caps] (bP (eachN F n)):=NV ht hf h1 h2
def vH (n:Nat) (l:List X):List Lf:=cA X.L zX.L n l
theorem vI {n:Nat} {l:List X} (hl:l.length≤n):(vH n l).length=n*3:=ss (cf:=X.L) (zf:=zX.L) (s:=3) (fun _=>rfl) rfl hl
theorem Mi {st:St} {n:Nat} {l:List X}:(vH n l).all (bx st)=true:=qr (p:=bx st) (Hp st) rfl
theorem NX {w:World} {f:FuncId} {caps:List Value} {n:Nat} {F:Nat→X×Int} (ht:Tab w) (hf:Fv Tryz.prog w f caps (gI fun z=>(0≤z∧z<(n:Int),kY (F z.toNat)))) (h1:1≤n) (h2:n≤1000):Hc Tryz.prog w 74 [iA n,jL f caps] (cp (eachN F n)):=by
 have c1:(0≤(n:Int))=True:=eq_true (by omega)
 have c2:((n:Int)≤1000)=True:=eq_true (by omega)
 have e0:(List.replicate n [.lit (.bool false),.lit (.int .i64 0),.ws []]).flatten=vH n ([]:List X):=(mB (cf:=X.L) (zf:=zX.L)).symm
 refine fM (O:=bO (jM 1 f caps (gI fun z=>(0≤z∧z<(n:Int),kY (F z.toNat)))) (ai eJ)) (by kernel_rfl) ah (kP (fE hf) (aa bk _ w) (fun g d st args h=>LK)) ht [9999999,0,2,12,23,24,26] ((n+1)*200+100) 31 [.tmp 4,.tmp 5] Tryz.func74 rfl Tryz.ntmps74 (by rw [Tryz.results74]) (by simp) rfl (fun hsm=>?_)
 simp (maxSteps:=10000000) only [go_sem,seval,reduceCtorEq,nN,ou,fJ,c1,c2,e0]
 refine aL 200 (fun j=>[(0,iA n),(2,jL f caps),(12,.s (.osl 11 n)),(23,.v true (vH n (eachN F j).1)),(24,iA n),(26,iA j)]) n (fun j=>(eachN F j).2=0) 0 (fun j _=>by simp only [List.all_cons,List.all_nil,bH,bx,Mi,Bool.and_true];rfl) (fun j mm _ hj hI ih=>?_) (by omega) rfl rfl
 have hlen:=bq hI
 rcases Nat.lt_or_ge j n with hlt |hge
 ·have d:=decide_eq_true (show (j:Int)<(n:Int) by omega)
  have d0:((j:Int)<(n:Int))=True:=eq_true (by omega)
  have g1:(j<n)=True:=eq_true hlt
  have g0:(0≤(j:Int))=True:=eq_true (by omega)
  have hw:=aN (j:=j) (by omega)
  have hl:=vI (n:=n) (l:=(eachN F j).1) (by omega)
  have g3:(j*3+3≤n*3)=True:=eq_true (by omega)
  cases hF:(F j).2 !=0 with
  |true=>
   have hr:=cQ hI hF hlt
   simp (maxSteps:=10000000) only [go_sem,seval,reduceCtorEq,nN,ou,fJ,d,d0,g0,g1,hw,hF,hr,cg]
   repeat' with_reducible first |apply And.intro |apply condP<;>intro _
   all_goals first |(show ar _ _=true;kernel_rfl)|assumption |rfl |(simp only [*];done)
  |false=>
   have hF0:(F j).2=0:=by simpa using hF
   have hk:=bh hI hF0
   have es:=ni (cf:=X.L) (zf:=zX.L) (s:=3) (fun _=>rfl) rfl (F j).1 hlen hlt
   have es:List.take (j*3) (vH n (eachN F j).1)++[.lit (.bool (F j).1.s),.lit (.int .i64 (F j).1.e),.ws (F j).1.xs]++List.drop (j*3+3) (vH n (eachN F j).1)=vH n (eachN F (j+1)).1:=by rw [hk];exact es
   have es':List.take (j*3) (vH n (eachN F j).1)++([.lit (.bool (F j).1.s),.lit (.int .i64 (F j).1.e),.ws (F j).1.xs]++List.drop (j*3+3) (vH n (eachN F j).1))=vH n (eachN F (j+1)).1:=by rw [←List.append_assoc];exact es
   have hk2:(eachN F (j+1)).2=0:=by rw [hk]
   replace ih:=ih hlt hk2
   simp (maxSteps:=10000000) only [go_sem,seval,reduceCtorEq,nN,ou,fJ,d,d0,g0,g1,g3,hw,hF,hl,es]
   repeat' with_reducible first |apply And.intro |apply condP<;>intro _
   all_goals first |(show ar _ _=true;kernel_rfl)|(exact ih _ _ rfl)|assumption |rfl
 ·have hn:j=n:=by omega
  subst hn
  have d:=decide_eq_false (show ¬ (j:Int)<(j:Int) by omega)
  have hl:=vI (n:=j) (l:=(eachN F j).1) (by omega)
  have hq:j*3 / j=3:=Nat.mul_div_cancel_left _ (by omega)
  have hdn:fD (vH j (eachN F j).1)=some (pC (eachN F j).1):=by unfold vH;rw [lf hlen];exact dd AW _
  have hfin:cp (eachN F j)= .tup [(false,[.sl true 3 j (pC (eachN F j).1)]),(false,[.lit (.int .i64 0)])]:=by
   cases hx:eachN F j with
   |mk l e=>
    rw [hx] at hI hlen
    have hI:e=0:=hI
    have hlen:l.length=j:=hlen
    subst hI;subst hlen
    cases l with
    |nil=>simp at h1
    |cons a l=>rfl
  simp (maxSteps:=10000000) only [go_sem,seval,reduceCtorEq,nN,ou,fJ,d,hl,hq,hdn,hfin]
  repeat' with_reducible first |apply And.intro |apply condP<;>intro _
  all_goals first |(show ar _ _=true;kernel_rfl)|assumption |rfl |(simp only [*];done)
theorem Ml {w:World} {f:FuncId} {caps:List Value} {n:Nat} {F:Nat→X×Int} (ht:Tab w) (hf:Fv Tryz.prog w f caps (gI fun z=>(0≤z∧z<(n:Int),kY (F z.toNat)))) (h1:1≤n) (h2:n≤1000):Hc Tryz.prog w 74 [iA n,jL f caps] (cp (eachN F n)):=NX ht hf h1 h2
def Ed (n:Nat) (l:List (List J)):List Lf:=cA (fun l=>[dA l]) [.lit (.slice none 0 0)] n l
theorem FO {n:Nat} {l:List (List J)} (hl:l.length≤n):(Ed n l).length=n*1:=ss (cf:=(fun l=>[dA l])) (zf:=[.lit (.slice none 0 0)]) (s:=1) (fun _=>rfl) rfl hl
theorem Qa {st:St} {n:Nat} {l:List (List J)}:(Ed n l).all (bx st)=true:=qr (p:=bx st) (Hq st) rfl
theorem NU {w:World} {f:FuncId} {caps:List Value} {n:Nat} {F:Nat→(List J)×Int} (ht:Tab w) (hf:Fv Tryz.prog w f caps (gI fun z=>(0≤z∧z<(n:Int),bP (F z.toNat)))) (h1:1≤n) (h2:n≤1000):Hc Tryz.prog w 68 [iA n,jL f caps] (cg uN (eachN F n)):=by
 have c1:(0≤(n:Int))=True:=eq_true (by omega)
 have c2:((n:Int)≤1000)=True:=eq_true (by omega)
 have e0:(List.replicate n [.lit (.slice none 0 0)]).flatten=Ed n ([]:List (List J)):=(mB (cf:=(fun l=>[dA l])) (zf:=[.lit (.slice none 0 0)])).symm
 refine fM (O:=bO (jM 1 f caps (gI fun z=>(0≤z∧z<(n:Int),bP (F z.toNat)))) (ai eJ)) (by kernel_rfl) ah (kP (fE hf) (aa bk _ w) (fun g d st args h=>LK)) ht [9999999,0,2,12,23,24,26] ((n+1)*200+100) 31 [.tmp 4,.tmp 5] Tryz.func68 rfl Tryz.ntmps68 (by rw [Tryz.results68]) (by simp) rfl (fun hsm=>?_)
 simp (maxSteps:=10000000) only [go_sem,seval,reduceCtorEq,nN,ou,fJ,c1,c2,e0]
 refine aL 200 (fun j=>[(0,iA n),(2,jL f caps),(12,.s (.osl 11 n)),(23,.v true (Ed n (eachN F j).1)),(24,iA n),(26,iA j)]) n (fun j=>(eachN F j).2=0) 0 (fun j _=>by simp only [List.all_cons,List.all_nil,bH,bx,Qa,Bool.and_true];rfl) (fun j mm _ hj hI ih=>?_) (by omega) rfl rfl
 have hlen:=bq hI
 rcases Nat.lt_or_ge j n with hlt |hge
 ·have d:=decide_eq_true (show (j:Int)<(n:Int) by omega)
  have d0:((j:Int)<(n:Int))=True:=eq_true (by omega)
  have g1:(j<n)=True:=eq_true hlt
  have g0:(0≤(j:Int))=True:=eq_true (by omega)
  have hw:=aN (j:=j) (by omega)
  have hl:=FO (n:=n) (l:=(eachN F j).1) (by omega)
  have g3:(j*1+1≤n*1)=True:=eq_true (by omega)
  cases hF:(F j).2 !=0 with
  |true=>
   have hr:=cQ hI hF hlt
   simp (maxSteps:=10000000) only [go_sem,seval,reduceCtorEq,nN,ou,fJ,d,d0,g0,g1,hw,hF,hr,cg,bP,cp]
   repeat' with_reducible first |apply And.intro |apply condP<;>intro _
   all_goals first |(show ar _ _=true;kernel_rfl)|assumption |rfl |(simp only [*];done)
  |false=>
   have hF0:(F j).2=0:=by simpa using hF
   have hk:=bh hI hF0
   have es:=ni (cf:=(fun l=>[dA l])) (zf:=[.lit (.slice none 0 0)]) (s:=1) (fun _=>rfl) rfl (F j).1 hlen hlt
   have es:List.take (j*1) (Ed n (eachN F j).1)++[dA (F j).1]++List.drop (j*1+1) (Ed n (eachN F j).1)=Ed n (eachN F (j+1)).1:=by rw [hk];exact es
   have es':List.take (j*1) (Ed n (eachN F j).1)++([dA (F j).1]++List.drop (j*1+1) (Ed n (eachN F j).1))=Ed n (eachN F (j+1)).1:=by rw [←List.append_assoc];exact es
   have hk2:(eachN F (j+1)).2=0:=by rw [hk]
   replace ih:=ih hlt hk2
   simp (maxSteps:=10000000) only [go_sem,seval,reduceCtorEq,nN,ou,fJ,d,d0,g0,g1,g3,hw,hF,hl,es,bP,cp]
   repeat' with_reducible first |apply And.intro |apply condP<;>intro _
   all_goals first |(show ar _ _=true;kernel_rfl)|(exact ih _ _ rfl)|assumption |rfl
 ·have hn:j=n:=by omega
  subst hn
  have d:=decide_eq_false (show ¬ (j:Int)<(j:Int) by omega)
  have hl:=FO (n:=j) (l:=(eachN F j).1) (by omega)
  have hq:j*1 / j=1:=Nat.mul_div_cancel_left _ (by omega)
  have hdn:fD (Ed j (eachN F j).1)=some ((eachN F j).1.map uN):=by unfold Ed;rw [lf hlen,←lD];exact dd rL _
  have hfin:cg uN (eachN F j)= .tup [(false,[.sl true 1 j ((eachN F j).1.map uN)]),(false,[.lit (.int .i64 0)])]:=by
   cases hx:eachN F j with
   |mk l e=>
    rw [hx] at hI hlen
    have hI:e=0:=hI
    have hlen:l.length=j:=hlen
    subst hI;subst hlen
    cases l with
    |nil=>simp at h1
    |cons a l=>rfl
  simp (maxSteps:=10000000) only [go_sem,seval,reduceCtorEq,nN,ou,fJ,d,hl,hq,hdn,hfin]
  repeat' with_reducible first |apply And.intro |apply condP<;>intro _
  all_goals first |(show ar _ _=true;kernel_rfl)|assumption |rfl |(simp only [*];done)
theorem vO (x:List (List J)×Int):Ng (cg uN x) (oz x):=by
 obtain ⟨l,e⟩:=x
 cases l with
 |nil=>exact iq (fun _ _ _ _ h=>jm h) rfl
 |cons a l=>exact iq (fun _ _ _ _ h=>Q9 h) rfl
theorem Ba (x:List (List X)×Int):Ng (cg DH x) (MG x):=by
 obtain ⟨l,e⟩:=x
 cases l with
 |nil=>exact iq (fun _ _ _ _ h=>jm h) rfl
 |cons a l=>exact iq (fun _ _ _ _ h=>SL h) rfl
theorem A9 {w:World} {f:FuncId} {caps:List Value} {n:Nat} {F:Nat→(List J)×Int} (ht:Tab w) (hf:Fv Tryz.prog w f caps (gI fun z=>(0≤z∧z<(n:Int),bP (F z.toNat)))) (h1:1≤n) (h2:n≤1000):Hc Tryz.prog w 68 [iA n,jL f caps] (oz (eachN F n)):=(NU ht hf h1 h2).wk (vO _)
def Ee (n:Nat) (l:List (List X)):List Lf:=cA (fun l=>[jp l]) [.lit (.slice none 0 0)] n l
theorem FQ {n:Nat} {l:List (List X)} (hl:l.length≤n):(Ee n l).length=n*1:=ss (cf:=(fun l=>[jp l])) (zf:=[.lit (.slice none 0 0)]) (s:=1) (fun _=>rfl) rfl hl
theorem Qb {st:St} {n:Nat} {l:List (List X)}:(Ee n l).all (bx st)=true:=qr (p:=bx st) (Mx st) rfl
theorem NW {w:World} {f:FuncId} {caps:List Value} {n:Nat} {F:Nat→(List X)×Int} (ht:Tab w) (hf:Fv Tryz.prog w f caps (gI fun z=>(0≤z∧z<(n:Int),cp (F z.toNat)))) (h1:1≤n) (h2:n≤1000):Hc Tryz.prog w 94 [iA n,jL f caps] (cg DH (eachN F n)):=by
 have c1:(0≤(n:Int))=True:=eq_true (by omega)
 have c2:((n:Int)≤1000)=True:=eq_true (by omega)
 have e0:(List.replicate n [.lit (.slice none 0 0)]).flatten=Ee n ([]:List (List X)):=(mB (cf:=(fun l=>[jp l])) (zf:=[.lit (.slice none 0 0)])).symm
 refine fM (O:=bO (jM 1 f caps (gI fun z=>(0≤z∧z<(n:Int),cp (F z.toNat)))) (ai eJ)) (by kernel_rfl) ah (kP (fE hf) (aa bk _ w) (fun g d st args h=>LK)) ht [9999999,0,2,12,23,24,26] ((n+1)*200+100) 31 [.tmp 4,.tmp 5] Tryz.func94 rfl Tryz.ntmps94 (by rw [Tryz.results94]) (by simp) rfl (fun hsm=>?_)
 simp (maxSteps:=10000000) only [go_sem,seval,reduceCtorEq,nN,ou,fJ,c1,c2,e0]
 refine aL 200 (fun j=>[(0,iA n),(2,jL f caps),(12,.s (.osl 11 n)),(23,.v true (Ee n (eachN F j).1)),(24,iA n),(26,iA j)]) n (fun j=>(eachN F j).2=0) 0 (fun j _=>by simp only [List.all_cons,List.all_nil,bH,bx,Qb,Bool.and_true];rfl) (fun j mm _ hj hI ih=>?_) (by omega) rfl rfl
 have hlen:=bq hI
 rcases Nat.lt_or_ge j n with hlt |hge
 ·have d:=decide_eq_true (show (j:Int)<(n:Int) by omega)
  have d0:((j:Int)<(n:Int))=True:=eq_true (by omega)
  have g1:(j<n)=True:=eq_true hlt
  have g0:(0≤(j:Int))=True:=eq_true (by omega)
  have hw:=aN (j:=j) (by omega)
  have hl:=FQ (n:=n) (l:=(eachN F j).1) (by omega)
  have g3:(j*1+1≤n*1)=True:=eq_true (by omega)
  cases hF:(F j).2 !=0 with
  |true=>
   have hr:=cQ hI hF hlt
   simp (maxSteps:=10000000) only [go_sem,seval,reduceCtorEq,nN,ou,fJ,d,d0,g0,g1,hw,hF,hr,cg,bP,cp]
   repeat' with_reducible first |apply And.intro |apply condP<;>intro _
   all_goals first |(show ar _ _=true;kernel_rfl)|assumption |rfl |(simp only [*];done)
  |false=>
   have hF0:(F j).2=0:=by simpa using hF
   have hk:=bh hI hF0
   have es:=ni (cf:=(fun l=>[jp l])) (zf:=[.lit (.slice none 0 0)]) (s:=1) (fun _=>rfl) rfl (F j).1 hlen hlt
   have es:List.take (j*1) (Ee n (eachN F j).1)++[jp (F j).1]++List.drop (j*1+1) (Ee n (eachN F j).1)=Ee n (eachN F (j+1)).1:=by rw [hk];exact es
   have es':List.take (j*1) (Ee n (eachN F j).1)++([jp (F j).1]++List.drop (j*1+1) (Ee n (eachN F j).1))=Ee n (eachN F (j+1)).1:=by rw [←List.append_assoc];exact es
   have hk2:(eachN F (j+1)).2=0:=by rw [hk]
   replace ih:=ih hlt hk2
   simp (maxSteps:=10000000) only [go_sem,seval,reduceCtorEq,nN,ou,fJ,d,d0,g0,g1,g3,hw,hF,hl,es,bP,cp]
   repeat' with_reducible first |apply And.intro |apply condP<;>intro _
   all_goals first |(show ar _ _=true;kernel_rfl)|(exact ih _ _ rfl)|assumption |rfl
 ·have hn:j=n:=by omega
  subst hn
  have d:=decide_eq_false (show ¬ (j:Int)<(j:Int) by omega)
  have hl:=FQ (n:=j) (l:=(eachN F j).1) (by omega)
  have hq:j*1 / j=1:=Nat.mul_div_cancel_left _ (by omega)
  have hdn:fD (Ee j (eachN F j).1)=some ((eachN F j).1.map DH):=by unfold Ee;rw [lf hlen,←lD];exact dd AY _
  have hfin:cg DH (eachN F j)= .tup [(false,[.sl true 1 j ((eachN F j).1.map DH)]),(false,[.lit (.int .i64 0)])]:=by
   cases hx:eachN F j with
   |mk l e=>
    rw [hx] at hI hlen
    have hI:e=0:=hI
    have hlen:l.length=j:=hlen
    subst hI;subst hlen
    cases l with
    |nil=>simp at h1
    |cons a l=>rfl
  simp (maxSteps:=10000000) only [go_sem,seval,reduceCtorEq,nN,ou,fJ,d,hl,hq,hdn,hfin]
  repeat' with_reducible first |apply And.intro |apply condP<;>intro _
  all_goals first |(show ar _ _=true;kernel_rfl)|assumption |rfl |(simp only [*];done)
theorem Qq {w:World} {f:FuncId} {caps:List Value} {n:Nat} {F:Nat→(List X)×Int} (ht:Tab w) (hf:Fv Tryz.prog w f caps (gI fun z=>(0≤z∧z<(n:Int),cp (F z.toNat)))) (h1:1≤n) (h2:n≤1000):Hc Tryz.prog w 94 [iA n,jL f caps] (MG (eachN F n)):=(NW ht hf h1 h2).wk (Ba _)
end
section
attribute [local go_sem] nN
attribute [local irreducible] ar
theorem Bh {P:Program} {f f2:FuncId} {caps caps2:List Value} {k:Int→Prop×AV} {k2:List AV→Option (Prop×AV)} {w0:World} (hA:OrOK P (jM 1 f caps (gI k)) (fun _=>False) w0) (hB:OrOK P (jM 2 f2 caps2 k2) (fun _=>False) w0) (hT:∀ args e,k2 args=some e→∃ ls r,args= .v true ls::r):OrOK P (bO (jM 1 f caps (gI k)) (jM 2 f2 caps2 k2)) (fun _=>False) w0:=
 mO hA hB fun g d st args e he st'=>by
  unfold jM at he
  split at he
  case isFalse=>cases he
  split at he
  case isFalse=>cases he
  split at he
  case h_2=>cases he
  rename_i q hq
  obtain ⟨ls,r,hx⟩:=hT _ _ hq
  match args,hx with
  |[],hx=>cases hx
  |.v true l::r',_=>
   unfold jM
   split
   ·split
    ·rfl
    ·rfl
   ·rfl
  |.v false l::r',hx=>rw [List.take_succ_cons,List.map_cons] at hx;injection hx with hx;cases hx
  |.tup _::r',hx=>rw [List.take_succ_cons,List.map_cons] at hx;injection hx with hx;cases hx
  |.pre _ _ _::r',hx=>rw [List.take_succ_cons,List.map_cons] at hx;injection hx with hx;cases hx
theorem SV {w:World} {f f2:FuncId} {caps caps2:List Value} {n:Nat} {F:Nat→J×Int} {add:J→J→J×Int} (ht:Tab w) (hf:Fv Tryz.prog w f caps (gI fun z=>(0≤z∧z<(n:Int),iY (F z.toNat)))) (hf2:Fv Tryz.prog w f2 caps2 (l5 fun a b=>(True,iY (add a b)))) (h2:n≤1000):Hc Tryz.prog w 132 [iA n,jL f caps,jL f2 caps2] (iY (aC zJ F add n)):=by
 refine fM (O:=bO (jM 1 f caps (gI fun z=>(0≤z∧z<(n:Int),iY (F z.toNat)))) (jM 2 f2 caps2 (l5 fun a b=>(True,iY (add a b))))) (by kernel_rfl) ah (Bh (fE hf) (fE hf2) (fun args e h=>by obtain ⟨a,b,rfl,_⟩:=iL h;exact ⟨_,_,rfl⟩)) ht [9999999,0,2,4,12,13,16,17,18,19,26,28] ((n+1)*300+200) 43 [.cell 6 32,.tmp 7] Tryz.func132 rfl Tryz.ntmps132 (by rw [Tryz.results132]) (by simp) rfl (fun hsm=>?_)
 simp (maxSteps:=10000000) only [go_sem,seval,reduceCtorEq]
 refine aL 300 (fun j=>[(0,iA n),(2,jL f caps),(4,jL f2 caps2),(12,.s (.own 6 0)),(13,.v true [.lit (.bool false),.lit (.int .i64 0),.ws [],.lit (.bool false),.lit (.int .i64 0),.ws []]),(16,.s (.own 8 0)),(17,.v true [.lit (.bool (aC zJ F add j).1.lo.s),.lit (.int .i64 (aC zJ F add j).1.lo.e),.ws (aC zJ F add j).1.lo.xs,.lit (.bool (aC zJ F add j).1.hi.s),.lit (.int .i64 (aC zJ F add j).1.hi.e),.ws (aC zJ F add j).1.hi.xs]),(18,.s (.own 9 0)),(19,.v true [.lit (.bool false),.lit (.int .i64 0),.ws [],.lit (.bool false),.lit (.int .i64 0),.ws []]),(26,iA n),(28,iA j)]) n (fun j=>(aC zJ F add j).2=0) 0 (fun j _=>rfl) (fun j mm _ hj hI ih=>?_) (by omega) rfl rfl
 have hs:=pc (z:=zJ) (F:=F) (add:=add) hI
 rcases Nat.lt_or_ge j n with hlt |hge
 ·have d:=decide_eq_true (show (j:Int)<(n:Int) by omega)
  have d0:((j:Int)<(n:Int))=True:=eq_true (by omega)
  have g1:(j<n)=True:=eq_true hlt
  have g0:(0≤(j:Int))=True:=eq_true (by omega)
  have hw:=aN (j:=j) (by omega)
  cases hF:(F j).2 !=0 with
  |true=>
   have hF2:((F j).2==0)=false:=by simpa using hF
   rw [hF,cond_true] at hs
   have hr:aC zJ F add n=(zJ,(F j).2):=by rw [iB (j:=j+1) (by rw [hs];exact hF) hlt,hs]
   simp (maxSteps:=10000000) only [go_sem,seval,reduceCtorEq,ite_self,d,d0,g0,g1,hw,hF,hF2,hr]
   repeat' with_reducible first |apply And.intro |apply condP<;>intro _
   all_goals first |(show ar _ _=true;kernel_rfl)|assumption |rfl |(simp only [*];done)
  |false=>
   have hF0:(F j).2=0:=by simpa using hF
   have hF2:((F j).2==0)=true:=by rw [hF0];rfl
   rw [hF,cond_false] at hs
   rcases Nat.eq_zero_or_pos j with h0 |h0
   ·have e:decide ((0:Int)<(j:Int))=false:=decide_eq_false (by omega)
    have hs:aC zJ F add (j+1)=((F j).1,0):=by rw [hs,decide_eq_false (by omega)];rfl
    have hk2:(aC zJ F add (j+1)).2=0:=by rw [hs]
    replace ih:=ih hlt hk2
    rw [hs] at ih
    simp (maxSteps:=10000000) only [go_sem,seval,reduceCtorEq,ite_self,d,d0,g0,g1,hw,hF,hF2,e,hF0]
    repeat' with_reducible first |apply And.intro |apply condP<;>intro _
    all_goals first |(show ar _ _=true;kernel_rfl)|(exact ih _ _ rfl)|assumption |rfl
   ·have e:decide ((0:Int)<(j:Int))=true:=decide_eq_true (by omega)
    rw [decide_eq_true h0,cond_true] at hs
    cases hA:(add (aC zJ F add j).1 (F j).1).2 !=0 with
    |true=>
     rw [hA,cond_true] at hs
     have hr:aC zJ F add n=(zJ,(add (aC zJ F add j).1 (F j).1).2):=by rw [iB (j:=j+1) (by rw [hs];exact hA) hlt,hs]
     simp (maxSteps:=10000000) only [go_sem,seval,reduceCtorEq,ite_self,d,d0,g0,g1,hw,hF,hF2,e,hA,hr]
     repeat' with_reducible first |apply And.intro |apply condP<;>intro _
     all_goals first |(show ar _ _=true;kernel_rfl)|assumption |rfl |(simp only [*];done)
    |false=>
     rw [hA,cond_false] at hs
     have hk2:(aC zJ F add (j+1)).2=0:=by rw [hs]
     replace ih:=ih hlt hk2
     rw [hs] at ih
     simp (maxSteps:=10000000) only [go_sem,seval,reduceCtorEq,ite_self,d,d0,g0,g1,hw,hF,hF2,e,hA]
     repeat' with_reducible first |apply And.intro |apply condP<;>intro _
     all_goals first |(show ar _ _=true;kernel_rfl)|(exact ih _ _ rfl)|assumption |rfl
 ·have hn:j=n:=by omega
  subst hn
  have d:=decide_eq_false (show ¬ (j:Int)<(j:Int) by omega)
  have hr:aC zJ F add j=((aC zJ F add j).1,0):=by rw [←hI]
  simp (maxSteps:=10000000) only [go_sem,seval,reduceCtorEq,d]
  rw [hr]
  repeat' with_reducible first |apply And.intro |apply condP<;>intro _
  all_goals first |(show ar _ _=true;kernel_rfl)|assumption |rfl |(simp only [*];done)
theorem SW {w:World} {f f2:FuncId} {caps caps2:List Value} {n:Nat} {F:Nat→X×Int} {add:X→X→X×Int} (ht:Tab w) (hf:Fv Tryz.prog w f caps (gI fun z=>(0≤z∧z<(n:Int),kY (F z.toNat)))) (hf2:Fv Tryz.prog w f2 caps2 (ur fun a b=>(True,kY (add a b)))) (h2:n≤1000):Hc Tryz.prog w 78 [iA n,jL f caps,jL f2 caps2] (kY (aC zX F add n)):=by
 refine fM (O:=bO (jM 1 f caps (gI fun z=>(0≤z∧z<(n:Int),kY (F z.toNat)))) (jM 2 f2 caps2 (ur fun a b=>(True,kY (add a b))))) (by kernel_rfl) ah (Bh (fE hf) (fE hf2) (fun args e h=>by obtain ⟨a,b,rfl,_⟩:=lE h;exact ⟨_,_,rfl⟩)) ht [9999999,0,2,4,12,13,16,17,18,19,26,28] ((n+1)*300+200) 43 [.cell 6 30,.tmp 7] Tryz.func78 rfl Tryz.ntmps78 (by rw [Tryz.results78]) (by simp) rfl (fun hsm=>?_)
 simp (maxSteps:=10000000) only [go_sem,seval,reduceCtorEq]
 refine aL 300 (fun j=>[(0,iA n),(2,jL f caps),(4,jL f2 caps2),(12,.s (.own 6 0)),(13,.v true [.lit (.bool false),.lit (.int .i64 0),.ws []]),(16,.s (.own 8 0)),(17,.v true [.lit (.bool (aC zX F add j).1.s),.lit (.int .i64 (aC zX F add j).1.e),.ws (aC zX F add j).1.xs]),(18,.s (.own 9 0)),(19,.v true [.lit (.bool false),.lit (.int .i64 0),.ws []]),(26,iA n),(28,iA j)]) n (fun j=>(aC zX F add j).2=0) 0 (fun j _=>rfl) (fun j mm _ hj hI ih=>?_) (by omega) rfl rfl
 have hs:=pc (z:=zX) (F:=F) (add:=add) hI
 rcases Nat.lt_or_ge j n with hlt |hge
 ·have d:=decide_eq_true (show (j:Int)<(n:Int) by omega)
  have d0:((j:Int)<(n:Int))=True:=eq_true (by omega)
  have g1:(j<n)=True:=eq_true hlt
  have g0:(0≤(j:Int))=True:=eq_true (by omega)
  have hw:=aN (j:=j) (by omega)
  cases hF:(F j).2 !=0 with
  |true=>
   have hF2:((F j).2==0)=false:=by simpa using hF
   rw [hF,cond_true] at hs
   have hr:aC zX F add n=(zX,(F j).2):=by rw [iB (j:=j+1) (by rw [hs];exact hF) hlt,hs]
   simp (maxSteps:=10000000) only [go_sem,seval,reduceCtorEq,ite_self,d,d0,g0,g1,hw,hF,hF2,hr]
   repeat' with_reducible first |apply And.intro |apply condP<;>intro _
   all_goals first |(show ar _ _=true;kernel_rfl)|assumption |rfl |(simp only [*];done)
  |false=>
   have hF0:(F j).2=0:=by simpa using hF
   have hF2:((F j).2==0)=true:=by rw [hF0];rfl
   rw [hF,cond_false] at hs
   rcases Nat.eq_zero_or_pos j with h0 |h0
   ·have e:decide ((0:Int)<(j:Int))=false:=decide_eq_false (by omega)
    have hs:aC zX F add (j+1)=((F j).1,0):=by rw [hs,decide_eq_false (by omega)];rfl
    have hk2:(aC zX F add (j+1)).2=0:=by rw [hs]
    replace ih:=ih hlt hk2
    rw [hs] at ih
    simp (maxSteps:=10000000) only [go_sem,seval,reduceCtorEq,ite_self,d,d0,g0,g1,hw,hF,hF2,e,hF0]
    repeat' with_reducible first |apply And.intro |apply condP<;>intro _
    all_goals first |(show ar _ _=true;kernel_rfl)|(exact ih _ _ rfl)|assumption |rfl
   ·have e:decide ((0:Int)<(j:Int))=true:=decide_eq_true (by omega)
    rw [decide_eq_true h0,cond_true] at hs
    cases hA:(add (aC zX F add j).1 (F j).1).2 !=0 with
    |true=>
     rw [hA,cond_true] at hs
     have hr:aC zX F add n=(zX,(add (aC zX F add j).1 (F j).1).2):=by rw [iB (j:=j+1) (by rw [hs];exact hA) hlt,hs]
     simp (maxSteps:=10000000) only [go_sem,seval,reduceCtorEq,ite_self,d,d0,g0,g1,hw,hF,hF2,e,hA,hr]
     repeat' with_reducible first |apply And.intro |apply condP<;>intro _
     all_goals first |(show ar _ _=true;kernel_rfl)|assumption |rfl |(simp only [*];done)
    |false=>
     rw [hA,cond_false] at hs
     have hk2:(aC zX F add (j+1)).2=0:=by rw [hs]
     replace ih:=ih hlt hk2
     rw [hs] at ih
     simp (maxSteps:=10000000) only [go_sem,seval,reduceCtorEq,ite_self,d,d0,g0,g1,hw,hF,hF2,e,hA]
     repeat' with_reducible first |apply And.intro |apply condP<;>intro _
     all_goals first |(show ar _ _=true;kernel_rfl)|(exact ih _ _ rfl)|assumption |rfl
 ·have hn:j=n:=by omega
  subst hn
  have d:=decide_eq_false (show ¬ (j:Int)<(j:Int) by omega)
  have hr:aC zX F add j=((aC zX F add j).1,0):=by rw [←hI]
  simp (maxSteps:=10000000) only [go_sem,seval,reduceCtorEq,d]
  rw [hr]
  repeat' with_reducible first |apply And.intro |apply condP<;>intro _
  all_goals first |(show ar _ _=true;kernel_rfl)|assumption |rfl |(simp only [*];done)
end
end Go.Proofs.YtpacpmmdjmnamaaGreatDoor
