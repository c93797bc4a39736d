/- Functions handed over as values; boxes and points as cells. No function of the program stands in it. -/
import Derived.Test.YtpacpmmdjmnamaaGreatDoorYAi4
namespace Go.Proofs.YtpacpmmdjmnamaaGreatDoor
set_option linter.unusedSimpArgs false
set_option linter.unusedVariables false
open Go.RowKit Nx
section
def Fv (P:Program) (w:World) (f:FuncId) (caps:List Value) (k:List AV→Option (Prop×AV)):Prop:=
 (∀ (vs:Array Value) (w:World),(callFunc f vs).run P w= .ok (.enter f vs) w)∧
 ∀ args e,k args=some e→e.1→∀ ρ D w' us,Below w.heap.size w w'→Tab w'→RA ρ D w' args us→
  Calls P f (us++caps).toArray w' fun en w''=>∃ u,en= .returned u∧(∀ ρ' D',Old ρ' D' w'→e.2.R ρ' D' w'' u)∧Below w'.heap.size w' w''
abbrev JU (u:Value):AV:=.s (.lit u)
open Classical in
noncomputable def nE (n:Nat) (f:FuncId) (caps:List Value) (k:List AV→Option (Prop×AV)):eJ:=fun g d st args=>
 if n≤args.length then (if g=f∧args.drop n=caps.map JU then (match k ((args.take n).map (ir st)) with
  |some e=>if ((args.take n).map (ir st)).all nU=true then some (e.1,(args.take n).flatMap olA,[(2*d,e.2)]) else none
  |none=>none) else none) else none
theorem Fv.mono {P:Program} {w w':World} {f:FuncId} {caps:List Value} {k:List AV→Option (Prop×AV)} (h:Fv P w f caps k) (hb:Below w.heap.size w w'):Fv P w' f caps k:=
 ⟨h.1,fun args e he hp ρ D w2 us hb2=>h.2 args e he hp ρ D w2 us (aa hb hb2)⟩
def Ku:Lf→Bool
 |.lit _=>true
 |.ws _=>true
 |.dg _=>true
 |_=>false
def KC:AV→Bool
 |.v _ ls=>ls.all Ku
 |_=>false
theorem RL.plain {ρ ρ':Env} {D D':Nat→Bool} {w:World}:∀ {ls:List Lf} {us:List Value},ls.all Ku=true→RL ρ D w ls us→RL ρ' D' w ls us:=by
 intro ls
 induction ls with
 |nil=>intro us _ h;exact h
 |cons l ls ih=>
  intro us hp h
  rw [List.all_cons,Bool.and_eq_true] at hp
  obtain ⟨u,r,e,h1,h2⟩:=h
  refine ⟨u,r,e,?_,ih hp.2 h2⟩
  cases l with
  |lit _=>exact h1
  |ws _=>exact h1
  |dg _=>exact h1
  |_=>cases hp.1
theorem RA.plain {ρ ρ':Env} {D D':Nat→Bool} {w:World}:∀ {xs:List AV} {us:List Value},xs.all KC=true→RA ρ D w xs us→RA ρ' D' w xs us:=by
 intro xs
 induction xs with
 |nil=>intro us _ h;exact h
 |cons x xs ih=>
  intro us hp h
  rw [List.all_cons,Bool.and_eq_true] at hp
  obtain ⟨u,r,e,h1,h2⟩:=h
  refine ⟨u,r,e,?_,ih hp.2 h2⟩
  cases x with
  |v g ls=>
   cases g with
   |true=>obtain ⟨us,e,h3⟩:=h1;exact ⟨us,e,RL.plain hp.1 h3⟩
   |false=>exact RL.plain (us:=[u]) hp.1 h1
  |_=>cases hp.1
theorem Lent.mono {S:Nat→Prop} {w w':World} {gs:List Nat} {ls:List (List Lf)} (h:Lent S w gs ls) (hb:Below w.heap.size w w'):Lent S w' gs ls:=
 ⟨h.1,h.2.1,h.2.2.1,fun t g l h1 h2=>by
  obtain ⟨a1,a2,T,cs,hB,hR⟩:=h.2.2.2 t g l h1 h2
  exact ⟨a1,a2,T,cs,hB.below hb hB.lt,fun ρ D hS=>(hR ρ D hS).mono (Ext.refl _ _) (Keeps.below hb)⟩⟩
def Hc (P:Program) (w:World) (g:FuncId) (args:List AV) (r:AV):Prop:=∀ ρ D us,RA ρ D w args us→
 Calls P g us.toArray w fun e w'=>∃ u,e= .returned u∧(∀ ρ' D',Old ρ' D' w→r.R ρ' D' w' u)∧Below w.heap.size w w'
abbrev HK:=List (List Lf)→FuncId→List AV→Option (Prop×AV)
theorem wr2:IntKind.i64.wrap 2=2:=by rw [IntKind.wrap_i64];decide
theorem nM:IntKind.i64.wrap 3=3:=by rw [IntKind.wrap_i64];decide
theorem nN:IntKind.i64.wrap 4=4:=by rw [IntKind.wrap_i64];decide
theorem nO:IntKind.i64.wrap 5=5:=by rw [IntKind.wrap_i64];decide
theorem nP:IntKind.i64.wrap 6=6:=by rw [IntKind.wrap_i64];decide
theorem nQ:IntKind.i64.wrap 7=7:=by rw [IntKind.wrap_i64];decide
theorem nR:IntKind.i64.wrap 8=8:=by rw [IntKind.wrap_i64];decide
def X.C (x:X):List Lc:=[.lit (.bool x.s),.lit (.int .i64 x.e),.ws x.xs]
def J.C (j:J):List Lc:=[.lit (.bool j.lo.s),.lit (.int .i64 j.lo.e),.ws j.lo.xs,.lit (.bool j.hi.s),.lit (.int .i64 j.hi.e),.ws j.hi.xs]
def bC (l:List J):List Lc:=l.flatMap J.C
def pC (l:List X):List Lc:=l.flatMap X.C
theorem cG:bC []=[]:=rfl
theorem bw {j:J} {l:List J}:bC (j::l)= .lit (.bool j.lo.s)::.lit (.int .i64 j.lo.e)::.ws j.lo.xs::.lit (.bool j.hi.s)::.lit (.int .i64 j.hi.e)::.ws j.hi.xs::bC l:=rfl
theorem cJ:pC []=[]:=rfl
theorem aN {x:X} {l:List X}:pC (x::l)= .lit (.bool x.s)::.lit (.int .i64 x.e)::.ws x.xs::pC l:=rfl
theorem EP:∀ (l:List J),(bC l).length=l.length*6:=by
 intro l
 induction l with
 |nil=>rfl
 |cons j l ih=>rw [bw];simp only [List.length_cons,ih];omega
theorem AB:∀ (l:List X),(pC l).length=l.length*3:=by
 intro l
 induction l with
 |nil=>rfl
 |cons j l ih=>rw [aN];simp only [List.length_cons,ih];omega
def sn:Lc→Option (List Nat)
 |.ws xs=>some xs
 |.lit (.slice none m n)=>bif decide (m=0)&&decide (n=0) then some [] else none
 |_=>none
theorem GG {S:Nat→Prop} {w:World} {c:Lc} {xs:List Nat} {u:Value} (h:sn c=some xs) (hR:c.R S w u):(Lc.ws xs).R S w u:=by
 unfold sn at h
 split at h
 ·injection h with h;subst h;exact hR
 ·rename_i m n
  cases hc:decide (m=0)&&decide (n=0) with
  |false=>rw [hc] at h;cases h
  |true=>
   rw [hc] at h;injection h with h;subst h
   rw [Bool.and_eq_true,decide_eq_true_eq,decide_eq_true_eq] at hc
   obtain ⟨rfl,rfl⟩:=hc
   have hR:u= .slice none 0 0:=hR
   exact ⟨none,0,0,hR,⟨Rd.none_,Small.nil⟩,Nat.zero_le _⟩
 ·cases h
def re:List Lc→Option (List J)
 |[]=>some []
 |.lit (.bool s)::.lit (.int .i64 e)::a::.lit (.bool t)::.lit (.int .i64 f)::b::r=>(match sn a,sn b,re r with
  |some xs,some ys,some l=>some (⟨⟨s,e,xs⟩,⟨t,f,ys⟩⟩::l)
  |_,_,_=>none)
 |_=>none
def nS:List Lc→Option (List X)
 |[]=>some []
 |.lit (.bool s)::.lit (.int .i64 e)::a::r=>(match sn a,nS r with
  |some xs,some l=>some (⟨s,e,xs⟩::l)
  |_,_=>none)
 |_=>none
section
variable {S:Nat→Prop} {w:World}
theorem rf:∀ (n:Nat) {ls:List Lc} {l:List X} {us:List Value},ls.length≤n→nS ls=some l→ls.length=(pC l).length∧(LcL S w ls us→LcL S w (pC l) us):=by
 intro n
 induction n with
 |zero=>
  intro ls l us h0 h
  have:ls=[]:=List.eq_nil_of_length_eq_zero (by omega)
  subst this
  injection h with h;subst h;exact ⟨rfl,fun h=>h⟩
 |succ n ih=>
  intro ls l us h0 h
  unfold nS at h
  split at h
  ·injection h with h;subst h;exact ⟨rfl,fun h=>h⟩
  ·split at h
   ·rename_i xs l' h1 hl
    injection h with h;subst h
    rw [aN]
    refine ⟨by simp only [List.length_cons];rw [(ih (us:=[]) (by simp at h0;omega) hl).1],?_⟩
    rintro ⟨u0,_,rfl,r0,u1,_,rfl,r1,u2,vs,rfl,r2,hr⟩
    exact ⟨u0,_,rfl,r0,u1,_,rfl,r1,u2,vs,rfl,GG h1 r2,(ih (by simp at h0;omega) hl).2 hr⟩
   ·cases h
  ·cases h
theorem rQ {sz n:Nat} {ls ls':List Lc} {v:Value} (hl:ls.length=ls'.length) (h:∀ us,LcL S w ls us→LcL S w ls' us) (hR:(Lc.sl sz n ls).R S w v):(Lc.sl sz n ls').R S w v:=by
 obtain ⟨h1,A,c,e,hc,h2⟩:=hR
 refine ⟨by rw [←hl];exact h1,A,c,e,hc,?_⟩
 rcases h2 with h2 |⟨ad,T,cs,e1,e2,hS,hB,h3,h4⟩
 ·exact .inl (List.eq_nil_of_length_eq_zero (by rw [←hl,h2];rfl))
 ·exact .inr ⟨ad,T,cs,e1,e2,hS,hB,by rw [←hl];exact h3,by rw [←hl];exact h _ h4⟩
end
theorem yF:∀ (l:List J),re (bC l)=some l:=by
 intro l
 induction l with
 |nil=>rfl
 |cons j l ih=>rw [bw];simp only [re,sn,ih]
theorem yI:∀ (l:List X),nS (pC l)=some l:=by
 intro l
 induction l with
 |nil=>rfl
 |cons j l ih=>rw [aN];simp only [nS,sn,ih]
abbrev Ky (l:List J):AV:=.s (.sl false 6 l.length (bC l))
abbrev eM (l:List X):AV:=.s (.sl false 3 l.length (pC l))
def qb (x:AV):Bool:=match x with
 |.v false [.lit (.slice none m n)]=>decide (m=0)&&decide (n=0)
 |.v false [.sl false _ n ls]=>decide (n=0)&&ls.isEmpty
 |_=>false
def yE (x:AV):Option (List J):=bif qb x then some [] else (match x with
 |.v false [.sl false sz n ls]=>(match re ls with
  |some l=>if sz=6∧n=l.length then some l else none
  |none=>none)
 |_=>none)
def ny (x:AV):Option (List X):=bif qb x then some [] else (match x with
 |.v false [.sl false sz n ls]=>(match nS ls with
  |some l=>if sz=3∧n=l.length then some l else none
  |none=>none)
 |_=>none)
section
variable {ρ:Env} {D:Nat→Bool} {w:World} {u:Value}
theorem zM {x:AV} {sz:Nat} (h:qb x=true) (hR:x.R ρ D w u):(AV.s (.sl false sz 0 [])).R ρ D w u:=by
 unfold qb at h
 split at h
 ·rw [Bool.and_eq_true] at h
  have h1:=of_decide_eq_true h.1;have h2:=of_decide_eq_true h.2
  subst h1;subst h2
  have hR:u= .slice none 0 0:=RL.one.1 hR
  exact RL.one.2 ⟨by simp,none,0,hR,Nat.le_refl _,.inl rfl⟩
 ·rename_i sz' n ls
  rw [Bool.and_eq_true] at h
  have h1:=of_decide_eq_true h.1
  have h2:ls=[]:=by cases ls with
   |nil=>rfl
   |cons _ _=>cases h.2
  subst h1;subst h2
  obtain ⟨_,A,c,e,hc,_⟩:(Lc.sl sz' 0 []).R (SepF false ρ D) w u:=RL.one.1 hR
  exact RL.one.2 ⟨by simp,A,c,e,hc,.inl rfl⟩
 ·cases h
theorem DI {x:AV} {l:List X} (h:ny x=some l) (hR:x.R ρ D w u):(eM l).R ρ D w u:=by
 unfold ny at h
 cases hn:qb x with
 |true=>rw [hn,cond_true] at h;injection h with h;subst h;exact zM hn hR
 |false=>
  rw [hn,cond_false] at h
  split at h
  ·split at h
   ·rename_i ls l' hl
    split at h
    ·rename_i hc
     injection h with h;subst h
     obtain ⟨rfl,rfl⟩:=hc
     exact RL.one.2 (rQ (rf (S:=SepF false ρ D) (w:=w) (us:=[]) _ (Nat.le_refl _) hl).1 (fun us=>(rf _ (Nat.le_refl _) hl).2) (RL.one.1 hR))
    ·cases h
   ·cases h
  ·cases h
end
theorem ed (l:List J):yE (.v false [.sl false 6 l.length (bC l)])=some l:=by
 cases l with
 |nil=>rfl
 |cons j l=>
  show (bif decide ((j::l).length=0)&&(bC (j::l)).isEmpty then some [] else (match re (bC (j::l)) with
   |some m=>if 6=6∧(j::l).length=m.length then some m else none
   |none=>none))=_
  rw [yF]
  simp
theorem ef (l:List X):ny (.v false [.sl false 3 l.length (pC l)])=some l:=by
 cases l with
 |nil=>rfl
 |cons j l=>
  show (bif decide ((j::l).length=0)&&(pC (j::l)).isEmpty then some [] else (match nS (pC (j::l)) with
   |some m=>if 3=3∧(j::l).length=m.length then some m else none
   |none=>none))=_
  rw [yI]
  simp
theorem Ct.of {P:Program} {f:FuncId} {args args':List AV} {Pst:AV→Prop} (h:Ct P f args' Pst) (hR:∀ ρ D w us,RA ρ D w args us→RA ρ D w args' us):Ct P f args Pst:=fun ρ D w us ht hA=>h ρ D w us ht (hR ρ D w us hA)
theorem RA.c {ρ:Env} {D:Nat→Bool} {w:World} {x y:AV} {xs ys:List AV} (h1:∀ u,x.R ρ D w u→y.R ρ D w u) (h2:∀ us,RA ρ D w xs us→RA ρ D w ys us):∀ us,RA ρ D w (x::xs) us→RA ρ D w (y::ys) us:=fun us h=>by
 obtain ⟨u,r,rfl,h3,h4⟩:=h
 exact ⟨u,r,rfl,h1 u h3,h2 r h4⟩
def gB (k:List J→Prop×AV):List AV→Option (Prop×AV)
 |[x]=>(match yE x with
  |some l=>some (k l)
  |none=>none)
 |_=>none
def gP (k:List X→Prop×AV):List AV→Option (Prop×AV)
 |[x]=>(match ny x with
  |some l=>some (k l)
  |none=>none)
 |_=>none
def nF (k:List J→List J→Prop×AV):List AV→Option (Prop×AV)
 |[x,y]=>(match yE x,yE y with
  |some l,some m=>some (k l m)
  |_,_=>none)
 |_=>none
def nG (k:List J→List X→Prop×AV):List AV→Option (Prop×AV)
 |[x,y]=>(match yE x,ny y with
  |some l,some m=>some (k l m)
  |_,_=>none)
 |_=>none
def nH (k:List J→Int→Prop×AV):List AV→Option (Prop×AV)
 |[x,.v false [.lit (.int .i64 z)]]=>(match yE x with
  |some l=>some (k l z)
  |none=>none)
 |_=>none
def gu (k:List J→List J→Int→Prop×AV):List AV→Option (Prop×AV)
 |[x,y,.v false [.lit (.int .i64 z)]]=>(match yE x,yE y with
  |some l,some m=>some (k l m z)
  |_,_=>none)
 |_=>none
def oP (l:List J):Lf:=bif l.isEmpty then .lit (.slice none 0 0) else .sl true 6 l.length (bC l)
def pr (l:List X):Lf:=bif l.isEmpty then .lit (.slice none 0 0) else .sl true 3 l.length (pC l)
def EU (l:List J):Lf:=bif l.isEmpty then .lit (.slice none 0 0) else .sl false 6 l.length (bC l)
def Gb (l:List X):Lf:=bif l.isEmpty then .lit (.slice none 0 0) else .sl false 3 l.length (pC l)
section
variable {st:St} {l:List J} {m:List X} {a:J} {x:X}
theorem aT:oP []= .lit (.slice none 0 0):=rfl
theorem aE:oP (a::l)= .sl true 6 (a::l).length (bC (a::l)):=rfl
theorem aY:pr []= .lit (.slice none 0 0):=rfl
theorem aF:pr (x::m)= .sl true 3 (x::m).length (pC (x::m)):=rfl
theorem aW:outL st (oP l)=oP l:=by cases l<;>rfl
theorem aX:outL st (pr m)=pr m:=by cases m<;>rfl
theorem bI:iO (oP l)=true:=by cases l<;>rfl
theorem bJ:iO (pr m)=true:=by cases m<;>rfl
theorem bR:bu (oP l)=true:=by cases l<;>rfl
theorem bS:bu (pr m)=true:=by cases m<;>rfl
theorem aU:bE st (oP l)=true:=by cases l<;>rfl
theorem aV:bE st (pr m)=true:=by cases m<;>rfl
theorem bT:olL (oP l)=[]:=by cases l<;>rfl
theorem bU:olL (pr m)=[]:=by cases m<;>rfl
theorem bK:jp st (oP l)=EU l:=by cases l<;>rfl
theorem bL:jp st (pr m)=Gb m:=by cases m<;>rfl
theorem bP:ot (EU l)=true:=by cases l<;>rfl
theorem bQ:ot (Gb m)=true:=by cases m<;>rfl
theorem bG:yE (.v false [EU l])=some l:=by
 cases l with
 |nil=>rfl
 |cons a l=>exact ed (a::l)
theorem bH:ny (.v false [Gb m])=some m:=by
 cases m with
 |nil=>rfl
 |cons a l=>exact ef (a::l)
theorem bM:lenOf (.v false [oP l])=some l.length:=by cases l<;>rfl
theorem bN:lenOf (.v false [pr m])=some m.length:=by cases m<;>rfl
end
def jY (r:List J×Int):AV:=.tup [(false,[oP r.1]),(false,[.lit (.int .i64 r.2)])]
def iU (r:List X×Int):AV:=.tup [(false,[pr r.1]),(false,[.lit (.int .i64 r.2)])]
def fU {α β:Type} (φ:α→β→Bool):List α→List β→Bool
 |a::s,b::t=>φ a b&&fU φ s t
 |[],[]=>true
 |_,_=>false
end
section
attribute [local irreducible] be
def pU:TI:=⟨false,1,[.lit (.slice none 0 0)],[.slice none 0 0],[],some (30,false)⟩
def Bi:TI:=⟨false,1,[.lit (.slice none 0 0)],[.slice none 0 0],[],some (34,false)⟩
def Jb (t:TypeId):Option TI:=if t=51 then some pU else if t=27 then some Bi else if t=143 then some nL else if t=146 then some nL else He t
theorem JW:TiOK Tryz.prog 51 pU:=dI (by kernel_rfl) (by kernel_rfl) (by kernel_rfl) (by kernel_rfl) (fun _ _ _=>rfl) rfl (fun b h=>by cases h) (fun k z h=>by cases h) (sl_of' (by kernel_rfl))
theorem IC:TiOK Tryz.prog 27 Bi:=dI (by kernel_rfl) (by kernel_rfl) (by kernel_rfl) (by kernel_rfl) (fun _ _ _=>rfl) rfl (fun b h=>by cases h) (fun k z h=>by cases h) (sl_of' (by kernel_rfl))
theorem ID:TiOK Tryz.prog 143 nL:=dI (by kernel_rfl) (by kernel_rfl) (by kernel_rfl) (by kernel_rfl) (fun _ _ _=>rfl) rfl (fun b h=>by cases h) (fun k z h=>by cases h) (fun e b h=>by cases h)
theorem IE:TiOK Tryz.prog 146 nL:=dI (by kernel_rfl) (by kernel_rfl) (by kernel_rfl) (by kernel_rfl) (fun _ _ _=>rfl) rfl (fun b h=>by cases h) (fun k z h=>by cases h) (fun e b h=>by cases h)
theorem fQ (t:TypeId) (i:TI) (h:Jb t=some i):TiOK Tryz.prog t i:=by
 unfold Jb at h
 by_cases h0:t=51
 ·rw [if_pos h0] at h;injection h with h;subst h;subst h0;exact JW
 rw [if_neg h0] at h
 by_cases h1:t=27
 ·rw [if_pos h1] at h;injection h with h;subst h;subst h1;exact IC
 rw [if_neg h1] at h
 by_cases h2:t=143
 ·rw [if_pos h2] at h;injection h with h;subst h;subst h2;exact ID
 rw [if_neg h2] at h
 by_cases h3:t=146
 ·rw [if_pos h3] at h;injection h with h;subst h;subst h3;exact IE
 rw [if_neg h3] at h
 exact Gy t i h
end
end Go.Proofs.YtpacpmmdjmnamaaGreatDoor
