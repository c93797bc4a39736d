/- Matrices as cells; tables of arguments, one by one; what each and total do, turn by turn; two closures handed over. No function of the program stands in it. -/
import Derived.Test.YtpacpmmdjmnamaaGreatDoorYAn1
import Derived.Test.YtpacpmmdjmnamaaGreatDoorYAl5
namespace Go.Proofs.YtpacpmmdjmnamaaGreatDoor
set_option linter.unusedSimpArgs false
set_option linter.unusedVariables false
open Go.RowKit Nx
section
def rC (l:List J):Lc:=.sl 6 l.length (bC l)
def rP (l:List X):Lc:=.sl 3 l.length (pC l)
abbrev ji (m:List (List X)):AV:=.s (.sl false 1 m.length (m.map rP))
abbrev qL (m:List (List X)):Lf:=.sl true 1 m.length (m.map rP)
abbrev Ge (r:List (List X)×Int):AV:=.tup [(false,[qL r.1]),(false,[.lit (.int .i64 r.2)])]
def yH:List Lc→Option (List (List J))
 |[]=>some []
 |.sl sz n ls::r=>(match re ls,yH r with
  |some l,some m=>if sz=6∧n=l.length then some (l::m) else none
  |_,_=>none)
 |_=>none
def uG:List Lc→Option (List (List X))
 |[]=>some []
 |.sl sz n ls::r=>(match nS ls,uG r with
  |some l,some m=>if sz=3∧n=l.length then some (l::m) else none
  |_,_=>none)
 |_=>none
section
variable {S:Nat→Prop} {w:World}
theorem yG:∀ {ls:List Lc} {m:List (List X)},uG ls=some m→ls.length=(m.map rP).length∧∀ us,LcL S w ls us→LcL S w (m.map rP) us:=by
 intro ls
 induction ls with
 |nil=>intro m h;injection h with h;subst h;exact ⟨rfl,fun _ h=>h⟩
 |cons l ls ih=>
  intro m h
  unfold uG at h
  split at h
  ·rename_i e;cases e
  ·rename_i sz n ks r e
   injection e with e1 e2;subst e1;subst e2
   split at h
   ·rename_i l' m' h1 h2
    split at h
    ·rename_i hc
     injection h with h;subst h
     obtain ⟨rfl,rfl⟩:=hc
     obtain ⟨i1,i2⟩:=ih h2
     refine ⟨by simp [i1],?_⟩
     rintro us ⟨u,r,rfl,h3,h4⟩
     exact ⟨u,r,rfl,rQ (rf (S:=S) (w:=w) (us:=[]) _ (Nat.le_refl _) h1).1 (fun us=>(rf _ (Nat.le_refl _) h1).2) h3,i2 _ h4⟩
    ·cases h
   ·cases h
  ·cases h
end
theorem EK:∀ (m:List (List J)),yH (m.map rC)=some m:=by
 intro m
 induction m with
 |nil=>rfl
 |cons l m ih=>
  show (match re (bC l),yH (m.map rC) with
   |some l',some m'=>if 6=6∧l.length=l'.length then some (l'::m') else none
   |_,_=>none)=_
  rw [yF,ih]
  simp
theorem EJ:∀ (m:List (List X)),uG (m.map rP)=some m:=by
 intro m
 induction m with
 |nil=>rfl
 |cons l m ih=>
  show (match nS (pC l),uG (m.map rP) with
   |some l',some m'=>if 3=3∧l.length=l'.length then some (l'::m') else none
   |_,_=>none)=_
  rw [yI,ih]
  simp
def Kx (x:AV):Option (List (List J)):=bif qb x then some [] else (match x with
 |.v false [.sl false sz n ls]=>(match yH ls with
  |some m=>if sz=1∧n=m.length then some m else none
  |none=>none)
 |_=>none)
def vN (x:AV):Option (List (List X)):=bif qb x then some [] else (match x with
 |.v false [.sl false sz n ls]=>(match uG ls with
  |some m=>if sz=1∧n=m.length then some m else none
  |none=>none)
 |_=>none)
theorem eA (m:List (List J)):Kx (.v false [.sl false 1 m.length (m.map rC)])=some m:=by
 cases m with
 |nil=>rfl
 |cons l m=>
  show (bif decide ((l::m).length=0)&&((l::m).map rC).isEmpty then some [] else (match yH ((l::m).map rC) with
   |some m'=>if 1=1∧(l::m).length=m'.length then some m' else none
   |none=>none))=_
  rw [EK]
  simp
theorem eg (m:List (List X)):vN (.v false [.sl false 1 m.length (m.map rP)])=some m:=by
 cases m with
 |nil=>rfl
 |cons l m=>
  show (bif decide ((l::m).length=0)&&((l::m).map rP).isEmpty then some [] else (match uG ((l::m).map rP) with
   |some m'=>if 1=1∧(l::m).length=m'.length then some m' else none
   |none=>none))=_
  rw [EJ]
  simp
def sA {α:Type} (pa:AV→Option α) (c:α→AV):Prop:=∀ x a,pa x=some a→∀ ρ D w u,x.R ρ D w u→(c a).R ρ D w u
def gA {α:Type} (pa:AV→Option α) (k:α→List AV→Option (Prop×AV)):List AV→Option (Prop×AV)
 |[]=>none
 |x::r=>(match pa x with
  |some a=>k a r
  |none=>none)
def gE (e:Prop×AV):List AV→Option (Prop×AV)
 |[]=>some e
 |_::_=>none
def CtT (P:Program) (f:FuncId) (pre:List AV) (k:List AV→Option (Prop×AV)):Prop:=∀ args e,k args=some e→e.1→Ct P f (pre++args) (·=e.2)
theorem CtT.e {P:Program} {f:FuncId} {pre:List AV} {e:Prop×AV} (h:e.1→Ct P f pre (·=e.2)):CtT P f pre (gE e):=by
 intro args q hq hp
 cases args with
 |nil=>injection hq with hq;subst hq;rw [List.append_nil];exact h hp
 |cons _ _=>cases hq
theorem CtT.a {P:Program} {f:FuncId} {pre:List AV} {α:Type} {pa:AV→Option α} {c:α→AV} {k:α→List AV→Option (Prop×AV)} (ha:sA pa c) (h:∀ a,CtT P f (pre++[c a]) (k a)):CtT P f pre (gA pa k):=by
 intro args q hq hp
 cases args with
 |nil=>cases hq
 |cons x r=>
  have hq:(match pa x with
   |some a=>k a r
   |none=>none)=some q:=hq
  split at hq
  ·rename_i a hx
   refine (h a r q hq hp).of fun ρ D w us hR=>?_
   rw [List.append_assoc]
   have key:∀ (xs:List AV) (us:List Value),RA ρ D w (xs++x::r) us→RA ρ D w (xs++c a::r) us:=by
    intro xs
    induction xs with
    |nil=>rintro us ⟨u,r',rfl,h1,h2⟩;exact ⟨u,r',rfl,ha x a hx _ _ _ _ h1,h2⟩
    |cons y ys ih=>rintro us ⟨u,r',rfl,h1,h2⟩;exact ⟨u,r',rfl,h1,ih _ h2⟩
   exact key pre us hR
  ·cases hq
theorem fM {P:Program} {f:FuncId} {k:List AV→Option (Prop×AV)} (he:∀ (vs:Array Value) (w:World),(callFunc f vs).run P w= .ok (.enter f vs) w) (h:CtT P f [] k):TbOK P (one f k):=cC he fun args e hk hp=>h args e hk hp
def kg:AV→Option Int
 |.v false [.lit (.int .i64 z)]=>some z
 |_=>none
def oO:AV→Option Bool
 |.v false [.lit (.bool b)]=>some b
 |_=>none
def ip:AV→Option J
 |.v true ls=>fi ls
 |_=>none
def fF:AV→Option X
 |.v true ls=>cT ls
 |_=>none
theorem iq:sA kg iA:=by
 intro x a h ρ D w u hR
 unfold kg at h
 split at h
 ·injection h with h;subst h;exact hR
 ·cases h
theorem oc:sA fF fun x=>.v true x.L:=by
 intro x a h ρ D w u hR
 unfold fF at h
 split at h
 ·rw [fG h] at hR;exact hR
 ·cases h
theorem fj:sA ny eM:=fun _ _ h _ _ _ _ hR=>DI h hR
theorem kq:sA vN ji:=by
 intro x m h ρ D w u hR
 unfold vN at h
 cases hn:qb x with
 |true=>rw [hn,cond_true] at h;injection h with h;subst h;exact zM hn hR
 |false=>
  rw [hn,cond_false] at h
  split at h
  ·split at h
   ·rename_i ls m' hl
    split at h
    ·rename_i hc
     injection h with h;subst h
     obtain ⟨rfl,rfl⟩:=hc
     exact RL.one.2 (rQ (yG (S:=SepF false ρ D) (w:=w) hl).1 (yG hl).2 (RL.one.1 hR))
    ·cases h
   ·cases h
  ·cases h
def Hm (r r':AV):Prop:=(∀ ρ D w u,r.R ρ D w u→r'.R ρ D w u)∧jf r'=true
theorem Ct.wk {P:Program} {f:FuncId} {args:List AV} {r r':AV} (h:Ct P f args (·=r)) (hw:Hm r r'):Ct P f args (·=r'):=fun ρ D w us ht hA=>
 (h ρ D w us ht hA).mono fun _ _ ⟨u,_,e,e1,_,hR,hb⟩=>⟨u,r',e,rfl,hw.2,fun ρ' D' ho=>hw.1 _ _ _ _ (by have:=hR ρ' D' ho;rw [e1] at this;exact this),hb⟩
theorem Hc.wk {P:Program} {w:World} {g:FuncId} {args:List AV} {r r':AV} (h:Hc P w g args r) (hw:Hm r r'):Hc P w g args r':=fun ρ D us hA=>
 (h ρ D us hA).mono fun _ _ ⟨u,e,hR,hb⟩=>⟨u,e,fun ρ' D' ho=>hw.1 _ _ _ _ (hR ρ' D' ho),hb⟩
theorem zN {ρ:Env} {D:Nat→Bool} {w:World} {u:Value} {sz:Nat} (h:(Lf.lit (.slice none 0 0)).R ρ D w u):(Lf.sl true sz 0 []).R ρ D w u:=by
 have h:u= .slice none 0 0:=h
 subst h
 exact ⟨by simp,none,0,rfl,Nat.le_refl _,.inl rfl⟩
theorem sj {l l':Lf} {z:Int} (h:∀ ρ D w u,l.R ρ D w u→l'.R ρ D w u) (hc:iO l'=true):Hm (.tup [(false,[l]),(false,[.lit (.int .i64 z)])]) (.tup [(false,[l']),(false,[.lit (.int .i64 z)])]):=by
 refine ⟨?_,by simp only [jf,List.all_cons,List.all_nil,hc,Bool.and_true,Bool.true_and];rfl⟩
 rintro ρ D w u ⟨us,rfl,x,r,rfl,h1,h2⟩
 exact ⟨_,rfl,x,r,rfl,RL.one.2 (h _ _ _ _ (RL.one.1 h1)),h2⟩
def eachN {α:Type} (F:Nat→α×Int):Nat→List α×Int
 |0=>([],0)
 |j+1=>bif (eachN F j).2 !=0 then eachN F j else bif (F j).2 !=0 then ([],(F j).2) else ((eachN F j).1++[(F j).1],0)
section
variable {α:Type} {F G:Nat→α×Int}
theorem iu {j:Nat} (h:(eachN F j).2=0) (hF:(F j).2=0):eachN F (j+1)=((eachN F j).1++[(F j).1],0):=by
 show (bif (eachN F j).2 !=0 then eachN F j else bif (F j).2 !=0 then ([],(F j).2) else ((eachN F j).1++[(F j).1],0))=_
 rw [h,hF];rfl
theorem mV {j:Nat} (h:(eachN F j).2=0) (hF:((F j).2 !=0)=true):eachN F (j+1)=([],(F j).2):=by
 show (bif (eachN F j).2 !=0 then eachN F j else bif (F j).2 !=0 then ([],(F j).2) else ((eachN F j).1++[(F j).1],0))=_
 rw [h,hF];rfl
theorem lL {j n:Nat} (h:((eachN F j).2 !=0)=true) (hn:j≤n):eachN F n=eachN F j:=by
 induction n with
 |zero=>
     have:j=0:=by omega
     subst this;rfl
 |succ n ih=>
  by_cases e:j=n+1
  ·rw [e]
  ·have:=ih (by omega)
   show (bif (eachN F n).2 !=0 then eachN F n else bif (F n).2 !=0 then ([],(F n).2) else ((eachN F n).1++[(F n).1],0))=_
   rw [this,h];rfl
theorem jt {j n:Nat} (h:(eachN F j).2=0) (hF:((F j).2 !=0)=true) (hn:j<n):eachN F n=([],(F j).2):=by
 have h1:=mV h hF
 rw [lL (j:=j+1) (by rw [h1];exact hF) hn,h1]
theorem eK {n:Nat} (h:(eachN F n).2=0):(eachN F n).1.length=n:=by
 induction n with
 |zero=>rfl
 |succ n ih=>
  cases h1:(eachN F n).2 !=0 with
  |true=>
   have h2:=lL (n:=n+1) h1 (Nat.le_succ n)
   rw [h2] at h
   rw [h] at h1;cases h1
  |false=>
   have h1:(eachN F n).2=0:=by simpa using h1
   cases hF:(F n).2 !=0 with
   |true=>rw [mV h1 hF] at h;have h:(F n).2=0:=h;rw [h] at hF;cases hF
   |false=>
    rw [iu h1 (by simpa using hF)]
    simp [ih h1]
theorem xd {n:Nat} (h:(eachN F n).2=0):∀ j,j<n→(F j).2=0∧(eachN F n).1[j]? =some (F j).1:=by
 induction n with
 |zero=>intro j hj;omega
 |succ n ih=>
  intro j hj
  cases h1:(eachN F n).2 !=0 with
  |true=>
   have h2:=lL (n:=n+1) h1 (Nat.le_succ n)
   rw [h2] at h
   rw [h] at h1;cases h1
  |false=>
   have h1:(eachN F n).2=0:=by simpa using h1
   cases hF:(F n).2 !=0 with
   |true=>rw [mV h1 hF] at h;have h:(F n).2=0:=h;rw [h] at hF;cases hF
   |false=>
    have hF:(F n).2=0:=by simpa using hF
    rw [iu h1 hF]
    have hl:=eK h1
    by_cases e:j=n
    ·subst e;exact ⟨hF,by rw [List.getElem?_append_right (by omega),hl];simp⟩
    ·obtain ⟨i1,i2⟩:=ih h1 j (by omega)
     exact ⟨i1,by rw [List.getElem?_append_left (by omega)];exact i2⟩
end
section
variable {α:Type} {z:α} {F G:Nat→α×Int} {add:α→α→α×Int}
end
section
variable {α:Type} {cf:α→List Lf} {zf:List Lf} {s n:Nat}
theorem zg (hc:∀ a,(cf a).length=s):∀ (l:List α),(l.flatMap cf).length=l.length*s:=by
 intro l
 induction l with
 |nil=>simp
 |cons a l ih=>rw [List.flatMap_cons,List.length_append,hc,ih,List.length_cons,Nat.succ_mul];omega
end
theorem BZ:∀ {ls ms:List Lf} {ks js:List Lc},fT ls=some ks→fT ms=some js→fT (ls++ms)=some (ks++js):=by
 intro ls
 induction ls with
 |nil=>intro ms ks js h1 h2;injection h1 with h1;subst h1;exact h2
 |cons l ls ih=>
  intro ms ks js h1 h2
  cases l with
  |lit v=>
   unfold fT at h1
   split at h1
   ·rename_i k hk;injection h1 with h1;subst h1;rw [List.cons_append];unfold fT;rw [ih hk h2];rfl
   ·cases h1
  |ws v=>
   unfold fT at h1
   split at h1
   ·rename_i k hk;injection h1 with h1;subst h1;rw [List.cons_append];unfold fT;rw [ih hk h2];rfl
   ·cases h1
  |dg v=>
   unfold fT at h1
   split at h1
   ·rename_i k hk;injection h1 with h1;subst h1;rw [List.cons_append];unfold fT;rw [ih hk h2];rfl
   ·cases h1
  |sl f a b c=>
   cases f with
   |false=>cases h1
   |true=>
    unfold fT at h1
    split at h1
    ·rename_i k hk;injection h1 with h1;subst h1;rw [List.cons_append];unfold fT;rw [ih hk h2];rfl
    ·cases h1
  |_=>cases h1
theorem yY {α:Type} {cf:α→List Lf} {cc:α→List Lc} (h:∀ a,fT (cf a)=some (cc a)):∀ (l:List α),fT (l.flatMap cf)=some (l.flatMap cc):=by
 intro l
 induction l with
 |nil=>rfl
 |cons a l ih=>rw [List.flatMap_cons,List.flatMap_cons];exact BZ (h a) ih
theorem Hv (x:X):fT x.L=some x.C:=rfl
theorem zh {α β:Type} (f:α→β) (l:List α):(l.flatMap fun a=>[f a])=l.map f:=by
 induction l with
 |nil=>rfl
 |cons a l ih=>rw [List.flatMap_cons,ih];rfl
end
section
attribute [local irreducible] be
def nY:TI:=⟨false,1,[.lit (.slice none 0 0)],[.slice none 0 0],[],some (51,false)⟩
def bB {α:Type} (r:List α→Lc) (x:List (List α)×Int):AV:=.tup [(false,[bif x.1.isEmpty then .lit (.slice none 0 0) else .sl true 1 x.1.length (x.1.map r)]),(false,[.lit (.int .i64 x.2)])]
theorem In (st:St) (x:X):x.L.all (bE st)=true:=rfl
end
section
attribute [local irreducible] be
end
end Go.Proofs.YtpacpmmdjmnamaaGreatDoor
