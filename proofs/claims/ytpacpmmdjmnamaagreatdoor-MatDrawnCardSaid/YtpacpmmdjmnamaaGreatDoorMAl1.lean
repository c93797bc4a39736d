/- Functions handed over as values; boxes and points as cells. No function of the program stands in it. -/
import Derived.Test.YtpacpmmdjmnamaaGreatDoorMAi7
namespace Go.Proofs.YtpacpmmdjmnamaaGreatDoor
set_option linter.unusedSimpArgs false
set_option linter.unusedVariables false
open Go.RowKit Nx
section
def Fv (P:Program) (w:World) (f:FuncId) (caps:List Value) (k:List AV→Option (Prop×AV)):Prop:=
 (∀ (vs:Array Value) (w:World),(callFunc f vs).run P w= .ok (.enter f vs) w)∧
 ∀ args e,k args=some e→e.1→∀ ρ D w' us,Below w.heap.size w w'→Tab w'→RA ρ D w' args us→
  Calls P f (us++caps).toArray w' fun en w''=>∃ u,en= .returned u∧(∀ ρ' D',Old ρ' D' w'→e.2.R ρ' D' w'' u)∧Below w'.heap.size w' w''
abbrev OE (u:Value):AV:=.s (.lit u)
abbrev jL (f:FuncId) (caps:List Value):AV:=.s (.lit (.func (.func f) #[] caps.toArray))
open Classical in
noncomputable def jM (n:Nat) (f:FuncId) (caps:List Value) (k:List AV→Option (Prop×AV)):dI:=fun g d st args=>
 if n≤args.length then (if g=f∧args.drop n=caps.map OE then (match k ((args.take n).map (mn st)) with
  |some e=>if ((args.take n).map (mn st)).all Bt=true then some (e.1,(args.take n).flatMap olA,[(2*d,e.2)]) else none
  |none=>none) else none) else none
theorem RA.cut {ρ:Env} {D:Nat→Bool} {w:World}:∀ (n:Nat) {xs:List AV} {us:List Value},RA ρ D w xs us→RA ρ D w (xs.take n) (us.take n)∧RA ρ D w (xs.drop n) (us.drop n):=by
 intro n
 induction n with
 |zero=>intro xs us h;exact ⟨rfl,h⟩
 |succ n ih=>
  intro xs us h
  cases xs with
  |nil=>rw [show us=[] from h];exact ⟨rfl,rfl⟩
  |cons x xs=>
   obtain ⟨u,r,rfl,h1,h2⟩:=h
   obtain ⟨i1,i2⟩:=ih h2
   exact ⟨⟨u,r.take n,rfl,h1,i1⟩,i2⟩
theorem RA.lits_eq {ρ:Env} {D:Nat→Bool} {w:World}:∀ {caps us:List Value},RA ρ D w (caps.map OE) us→us=caps:=by
 intro caps
 induction caps with
 |nil=>intro us h;exact h
 |cons c cs ih=>
  intro us h
  obtain ⟨u,r,rfl,h1,h2⟩:=h
  have h1:u=c:=RL.one.1 h1
  rw [h1,ih h2]
theorem fE {P:Program} {n:Nat} {f:FuncId} {caps:List Value} {k:List AV→Option (Prop×AV)} {w0:World} (h:Fv P w0 f caps k):OrOK P (jM n f caps k) (fun _=>False) w0:=by
 have inv:∀ g d st args e,jM n f caps k g d st args=some e→g=f∧args.drop n=caps.map OE∧∃ q,k ((args.take n).map (mn st))=some q∧((args.take n).map (mn st)).all Bt=true∧e=(q.1,(args.take n).flatMap olA,[(2*d,q.2)]):=by
  intro g d st args e he
  unfold jM at he
  split at he
  case isFalse=>cases he
  split at he
  case isFalse=>cases he
  rename_i hc
  split at he
  case h_2=>cases he
  rename_i q hq
  split at he
  case isFalse=>cases he
  rename_i hn
  injection he with he
  exact ⟨hc.1,hc.2,q,hq,hn,he.symm⟩
 refine ⟨fun g d st args e he=>?_,fun g d st args e he hp N ρ a w us hz hd hA=>?_,fun g d st st' args e he hk=>?_⟩
 ·obtain ⟨rfl,_⟩:=inv _ _ _ _ _ he;exact h.1
 ·obtain ⟨rfl,h1,q,hq,hn,rfl⟩:=inv _ _ _ _ _ he
  obtain ⟨c1,c2⟩:=hA.cut n
  rw [h1] at c2
  have c2:=RA.lits_eq c2
  have:=h.2 _ q hq hp ρ.no (fun _=>false) w (us.take n) hz.bel.to (hz.tb.tab hz.bel) (AT hz c1 hn)
  rw [←c2,List.take_append_drop] at this
  refine this.mono ?_
  rintro en w' ⟨u,rfl,hR,hb⟩
  exact ⟨u,ρ,rfl,hz.val hb hd (hR _ _ hz.old)⟩
 ·obtain ⟨rfl,h1,q,hq,hn,rfl⟩:=inv _ _ _ _ _ he
  have hm:(args.take n).map (mn st')=(args.take n).map (mn st):=List.map_congr_left fun x hx=>lV fun k hk'=>hk k (List.mem_flatMap.2 ⟨x,hx,hk'⟩)
  rw [←he]
  unfold jM
  rw [hm]
theorem kP {P:Program} {n:Nat} {f:FuncId} {caps:List Value} {k:List AV→Option (Prop×AV)} {B:dI} {w0:World} (hA:OrOK P (jM n f caps k) (fun _=>False) w0) (hB:OrOK P B (fun _=>False) w0) (hn:∀ g d st args,n≤args.length→B g d st args=none):OrOK P (bO (jM n f caps k) B) (fun _=>False) w0:=
 mO hA hB fun g d st args e he st'=>by
  unfold jM
  split
  ·rename_i h;rw [hn _ _ _ _ h] at he;cases he
  ·rfl
theorem Qv {P:Program} {w:World} {f:FuncId} {k:List AV→Option (Prop×AV)} (he:∀ (vs:Array Value) (w:World),(callFunc f vs).run P w= .ok (.enter f vs) w) (hc:∀ args e,k args=some e→e.1→Ct P f args (·=e.2)):Fv P w f [] k:=by
 refine ⟨he,fun args e hk hp ρ D w' us _ ht hA=>?_⟩
 rw [List.append_nil]
 refine (hc args e hk hp ρ D w' us ht hA).mono ?_
 rintro en w'' ⟨u,r,rfl,rfl,_,hR,hb⟩
 exact ⟨u,rfl,hR,hb⟩
theorem Fv.mono {P:Program} {w w':World} {f:FuncId} {caps:List Value} {k:List AV→Option (Prop×AV)} (h:Fv P w f caps k) (hb:Below w.heap.size w w'):Fv P w' f caps k:=
 ⟨h.1,fun args e he hp ρ D w2 us hb2=>h.2 args e he hp ρ D w2 us (ac hb hb2)⟩
def Tm:Lf→Bool
 |.lit _=>true
 |.ws _=>true
 |.dg _=>true
 |_=>false
def Tl:AV→Bool
 |.v _ ls=>ls.all Tm
 |_=>false
theorem RL.plain {ρ ρ':Env} {D D':Nat→Bool} {w:World}:∀ {ls:List Lf} {us:List Value},ls.all Tm=true→RL ρ D w ls us→RL ρ' D' w ls us:=by
 intro ls
 induction ls with
 |nil=>intro us _ h;exact h
 |cons l ls ih=>
  intro us hp h
  rw [List.all_cons,Bool.and_eq_true] at hp
  obtain ⟨u,r,e,h1,h2⟩:=h
  refine ⟨u,r,e,?_,ih hp.2 h2⟩
  cases l with
  |lit _=>exact h1
  |ws _=>exact h1
  |dg _=>exact h1
  |_=>cases hp.1
theorem RA.plain {ρ ρ':Env} {D D':Nat→Bool} {w:World}:∀ {xs:List AV} {us:List Value},xs.all Tl=true→RA ρ D w xs us→RA ρ' D' w xs us:=by
 intro xs
 induction xs with
 |nil=>intro us _ h;exact h
 |cons x xs ih=>
  intro us hp h
  rw [List.all_cons,Bool.and_eq_true] at hp
  obtain ⟨u,r,e,h1,h2⟩:=h
  refine ⟨u,r,e,?_,ih hp.2 h2⟩
  cases x with
  |v g ls=>
   cases g with
   |true=>obtain ⟨us,e,h3⟩:=h1;exact ⟨us,e,RL.plain hp.1 h3⟩
   |false=>exact RL.plain (us:=[u]) hp.1 h1
  |_=>cases hp.1
theorem Lent.mono {S:Nat→Prop} {w w':World} {gs:List Nat} {ls:List (List Lf)} (h:Lent S w gs ls) (hb:Below w.heap.size w w'):Lent S w' gs ls:=
 ⟨h.1,h.2.1,h.2.2.1,fun t g l h1 h2=>by
  obtain ⟨a1,a2,T,cs,hB,hR⟩:=h.2.2.2 t g l h1 h2
  exact ⟨a1,a2,T,cs,hB.below hb hB.lt,fun ρ D hS=>(hR ρ D hS).mono (Ext.refl _ _) (Keeps.below hb)⟩⟩
abbrev fu (gs:List Nat):List Value:=gs.map fun g=>Value.pointer (some ⟨g,0,none⟩)
theorem ep {P:Program} {S:Nat→Prop} {w:World} {c:FuncId} {gs:List Nat} {ls:List (List Lf)} {k:List AV→Option (Prop×AV)} (hL:Lent S w gs ls) (he:∀ (vs:Array Value) (w:World),(callFunc c vs).run P w= .ok (.enter c vs) w) (hpl:∀ args e,k args=some e→args.all Tl=true)
  (h:∀ args e,k args=some e→e.1→∀ w' us,Below w.heap.size w w'→Tab w'→Lent S w' gs ls→(∀ ρ D,(∀ t g,gs[t]? =some g→ρ.r (1000+t)=g)→(∀ t,t<ls.length→D (1000+t)=true)→(∀ g,S g→Sep ρ D g)→RA ρ D w' (args++Ab 1000 ls.length) us)→
   Calls P c us.toArray w' fun en w''=>∃ u,en= .returned u∧(∀ ρ' D',Old ρ' D' w'→e.2.R ρ' D' w'' u)∧Below w'.heap.size w' w''):Fv P w c (fu gs) k:=by
 refine ⟨he,fun args e hk hp ρ D w' us hb ht hA=>?_⟩
 refine h args e hk hp w' (us++fu gs) hb ht (hL.mono hb) fun ρ' D' h1 h2 _=>?_
 exact (RA.plain (hpl args e hk) hA).append (Le ls.length 1000 gs hL.1 h2 h1)
def Hc (P:Program) (w:World) (g:FuncId) (args:List AV) (r:AV):Prop:=∀ ρ D us,RA ρ D w args us→
 Calls P g us.toArray w fun e w'=>∃ u,e= .returned u∧(∀ ρ' D',Old ρ' D' w→r.R ρ' D' w' u)∧Below w.heap.size w w'
theorem fM {P:Program} {ty:TypeId→Option TI} {O:dI} {w:World} (hm:P.follows .mixedOrders=true) (hty:∀ t i,ty t=some i→TiOK P t i) (hO:OrOK P O (fun _=>False) w) (ht:Tab w) {f:FuncId} {fn:Func} {c:Code} {args:List AV} (fg:List Nat) {r:AV}
  (fuel N:Nat) (rs:List ResultVar) (hf:P.funcs[f]? =some fn) (hb:fn.body=some c) (hN:fn.ntmps=N) (hr:fn.results.toList=rs) (hl:args.length≤N) (hc:args.all Cp=true)
  (h:wu args→run ty O N (fun st=>pM (·=r) (nG ty st rs)) fg fuel [.code c] (ji 0 args)):Hc P w f args r:=by
 intro ρ D us hA
 replace h:=h hA.sm
 refine (rH (mem:=[]) (ρ:=⟨fun n=>n,w.heap.size,fun _=>undef,fun _=>0,fun _=>false⟩) hm hty hO fg fuel N rs hf hb hN hr hl ht (fun k v h=>by cases h) (fun b v h=>by cases h) (fun b b' h=>by cases h) (hA.closed hc fun g h=>⟨fun b hb=>(by cases hb),fun b hb=>(by cases hb)⟩) rfl rfl (by rw [List.append_nil];exact h)).mono ?_
 rintro e w' ⟨u,r',he,rfl,hcl,hR,hb⟩
 exact ⟨u,he,hR,hb⟩
abbrev HK:=List (List Lf)→FuncId→List AV→Option (Prop×AV)
def mo (kk:HK) (d n:Nat) (st:St) (args:List AV):List AV→Option Ef
 |[.v false [.clo c bs]]=>(match bB st bs with
  |some ls=>if pH bs=true∧(ls.all fun l=>l.all qu)=true∧((args.take n).map (mn st)).all Bt=true then (match kk ls c ((args.take n).map (mn st)) with
   |some e=>some (e.1,(args.take n).flatMap olA++bs.map (fun b=>2*b+1),[(2*d,e.2)])
   |none=>none) else none
  |none=>none)
 |_=>none
def fN (g:FuncId) (n:Nat) (kk:HK):dI:=fun f d st args=>if f=g then mo kk d n st args (args.drop n) else none
theorem dC {P:Program} {g:FuncId} {n:Nat} {kk:HK} {w0:World} (hen:∀ (vs:Array Value) (w:World),(callFunc g vs).run P w= .ok (.enter g vs) w)
  (hk:∀ ls c xs e,kk ls c xs=some e→e.1→∀ (S:Nat→Prop) w gs,Below w0.heap.size w0 w→Tab w→Lent S w gs ls→Hc P w g (xs++[jL c (fu gs)]) e.2):OrOK P (fN g n kk) (fun _=>False) w0:=by
 have inv:∀ f d st args e,fN g n kk f d st args=some e→f=g∧∃ c bs ls q,args.drop n=[.v false [.clo c bs]]∧bB st bs=some ls∧(pH bs=true∧(ls.all fun l=>l.all qu)=true∧((args.take n).map (mn st)).all Bt=true)∧kk ls c ((args.take n).map (mn st))=some q∧e=(q.1,(args.take n).flatMap olA++bs.map (fun b=>2*b+1),[(2*d,q.2)]):=by
  intro f d st args e he
  unfold fN at he
  split at he
  case isFalse=>cases he
  rename_i hf
  refine ⟨hf,?_⟩
  generalize hx:args.drop n=x at he
  unfold mo at he
  split at he
  case h_2=>cases he
  rename_i c bs
  split at he
  case h_2=>cases he
  rename_i ls hls
  split at he
  case isFalse=>cases he
  rename_i hc
  split at he
  case h_2=>cases he
  rename_i q hq
  injection he with he
  exact ⟨c,bs,ls,q,rfl,hls,hc,hq,he.symm⟩
 refine ⟨fun f d st args e he=>?_,fun f d st args e he hp N ρ a w us hz hd hA=>?_,fun f d st st' args e he hkk=>?_⟩
 ·obtain ⟨rfl,_⟩:=inv _ _ _ _ _ he;exact hen
 ·obtain ⟨rfl,c,bs,ls,q,hx,hls,hc,hq,rfl⟩:=inv _ _ _ _ _ he
  obtain ⟨c1,c2⟩:=hA.cut n
  rw [hx] at c2
  have hL:=mF hz hls hc.1 hc.2.1
  obtain ⟨v,r,e2,hv,hr⟩:=c2
  have hr:r=[]:=hr
  subst hr
  obtain ⟨_,hv⟩:=RL.one.1 hv
  have hv:v= .func (.func c) #[] (fu (bs.map ρ.r)).toArray:=by rw [hv];unfold fu;rw [List.map_map];rfl
  have hA2:RA ρ.no (fun _=>false) w ((args.take n).map (mn st)++[jL c (fu (bs.map ρ.r))]) us:=by
   have:us=us.take n++[v]:=by rw [←e2,List.take_append_drop]
   rw [this]
   exact (AT hz c1 hc.2.2).append ⟨v,[],rfl,RL.one.2 hv,rfl⟩
  refine (hk _ _ _ _ hq hp _ w _ hz.bel.to (hz.tb.tab hz.bel) hL _ _ us hA2).mono ?_
  rintro en w' ⟨u,rfl,hR,hb⟩
  exact ⟨u,ρ,rfl,hz.val hb hd (hR _ _ hz.old)⟩
 ·obtain ⟨rfl,c,bs,ls,q,hx,hls,hc,hq,rfl⟩:=inv _ _ _ _ _ he
  have hm:(args.take n).map (mn st')=(args.take n).map (mn st):=List.map_congr_left fun x hx=>lV fun k hk'=>hkk k (List.mem_append.2 (.inl (List.mem_flatMap.2 ⟨x,hx,hk'⟩)))
  have hm2:=lh (st:=st) (st':=st') (bs:=bs) fun k hk'=>hkk k (List.mem_append.2 (.inr hk'))
  rw [←he]
  unfold fN
  rw [if_pos rfl,if_pos rfl,hx]
  unfold mo
  simp only [hm,hm2]
theorem dD {P:Program} {g:FuncId} {n:Nat} {kk:HK} {B:dI} {w0:World} (hA:OrOK P (fN g n kk) (fun _=>False) w0) (hB:OrOK P B (fun _=>False) w0) (hn:∀ d st args,B g d st args=none):OrOK P (bO (fN g n kk) B) (fun _=>False) w0:=
 mO hA hB fun f d st args e he st'=>by
  unfold fN
  split
  ·rename_i h;subst h;rw [hn] at he;cases he
  ·rfl
theorem wr2:IntKind.i64.wrap 2=2:=by rw [IntKind.wrap_i64];decide
theorem Eo:IntKind.i64.wrap 3=3:=by rw [IntKind.wrap_i64];decide
theorem Ep:IntKind.i64.wrap 4=4:=by rw [IntKind.wrap_i64];decide
theorem Er:IntKind.i64.wrap 5=5:=by rw [IntKind.wrap_i64];decide
theorem Es:IntKind.i64.wrap 6=6:=by rw [IntKind.wrap_i64];decide
theorem Et:IntKind.i64.wrap 7=7:=by rw [IntKind.wrap_i64];decide
theorem Eu:IntKind.i64.wrap 8=8:=by rw [IntKind.wrap_i64];decide
def X.C (x:X):List Lc:=[.lit (.bool x.s),.lit (.int .i64 x.e),.ws x.xs]
def J.C (j:J):List Lc:=[.lit (.bool j.lo.s),.lit (.int .i64 j.lo.e),.ws j.lo.xs,.lit (.bool j.hi.s),.lit (.int .i64 j.hi.e),.ws j.hi.xs]
def bC (l:List J):List Lc:=l.flatMap J.C
def pC (l:List X):List Lc:=l.flatMap X.C
theorem g9:bC []=[]:=rfl
theorem cU {j:J} {l:List J}:bC (j::l)= .lit (.bool j.lo.s)::.lit (.int .i64 j.lo.e)::.ws j.lo.xs::.lit (.bool j.hi.s)::.lit (.int .i64 j.hi.e)::.ws j.hi.xs::bC l:=rfl
theorem iP:pC []=[]:=rfl
theorem dz {x:X} {l:List X}:pC (x::l)= .lit (.bool x.s)::.lit (.int .i64 x.e)::.ws x.xs::pC l:=rfl
theorem FH:∀ (l:List J),(bC l).length=l.length*6:=by
 intro l
 induction l with
 |nil=>rfl
 |cons j l ih=>rw [cU];simp only [List.length_cons,ih];omega
theorem OZ:∀ (l:List X),(pC l).length=l.length*3:=by
 intro l
 induction l with
 |nil=>rfl
 |cons j l ih=>rw [dz];simp only [List.length_cons,ih];omega
def qg:Lc→Option (List Nat)
 |.ws xs=>some xs
 |.lit (.slice none m n)=>bif decide (m=0)&&decide (n=0) then some [] else none
 |_=>none
theorem AD {S:Nat→Prop} {w:World} {c:Lc} {xs:List Nat} {u:Value} (h:qg c=some xs) (hR:c.R S w u):(Lc.ws xs).R S w u:=by
 unfold qg at h
 split at h
 ·injection h with h;subst h;exact hR
 ·rename_i m n
  cases hc:decide (m=0)&&decide (n=0) with
  |false=>rw [hc] at h;cases h
  |true=>
   rw [hc] at h;injection h with h;subst h
   rw [Bool.and_eq_true,decide_eq_true_eq,decide_eq_true_eq] at hc
   obtain ⟨rfl,rfl⟩:=hc
   have hR:u= .slice none 0 0:=hR
   exact ⟨none,0,0,hR,⟨Rd.none_,Small.nil⟩,Nat.zero_le _⟩
 ·cases h
def ox:List Lc→Option (List J)
 |[]=>some []
 |.lit (.bool s)::.lit (.int .i64 e)::a::.lit (.bool t)::.lit (.int .i64 f)::b::r=>(match qg a,qg b,ox r with
  |some xs,some ys,some l=>some (⟨⟨s,e,xs⟩,⟨t,f,ys⟩⟩::l)
  |_,_,_=>none)
 |_=>none
def m7:List Lc→Option (List X)
 |[]=>some []
 |.lit (.bool s)::.lit (.int .i64 e)::a::r=>(match qg a,m7 r with
  |some xs,some l=>some (⟨s,e,xs⟩::l)
  |_,_=>none)
 |_=>none
section
variable {S:Nat→Prop} {w:World}
theorem vt:∀ (n:Nat) {ls:List Lc} {l:List J} {us:List Value},ls.length≤n→ox ls=some l→ls.length=(bC l).length∧(LcL S w ls us→LcL S w (bC l) us):=by
 intro n
 induction n with
 |zero=>
  intro ls l us h0 h
  have:ls=[]:=List.eq_nil_of_length_eq_zero (by omega)
  subst this
  injection h with h;subst h;exact ⟨rfl,fun h=>h⟩
 |succ n ih=>
  intro ls l us h0 h
  unfold ox at h
  split at h
  ·injection h with h;subst h;exact ⟨rfl,fun h=>h⟩
  ·split at h
   ·rename_i xs ys l' h1 h2 hl
    injection h with h;subst h
    rw [cU]
    refine ⟨by simp only [List.length_cons];rw [(ih (us:=[]) (by simp at h0;omega) hl).1],?_⟩
    rintro ⟨u0,_,rfl,r0,u1,_,rfl,r1,u2,_,rfl,r2,u3,_,rfl,r3,u4,_,rfl,r4,u5,vs,rfl,r5,hr⟩
    exact ⟨u0,_,rfl,r0,u1,_,rfl,r1,u2,_,rfl,AD h1 r2,u3,_,rfl,r3,u4,_,rfl,r4,u5,vs,rfl,AD h2 r5,(ih (by simp at h0;omega) hl).2 hr⟩
   ·cases h
  ·cases h
theorem vC:∀ (n:Nat) {ls:List Lc} {l:List X} {us:List Value},ls.length≤n→m7 ls=some l→ls.length=(pC l).length∧(LcL S w ls us→LcL S w (pC l) us):=by
 intro n
 induction n with
 |zero=>
  intro ls l us h0 h
  have:ls=[]:=List.eq_nil_of_length_eq_zero (by omega)
  subst this
  injection h with h;subst h;exact ⟨rfl,fun h=>h⟩
 |succ n ih=>
  intro ls l us h0 h
  unfold m7 at h
  split at h
  ·injection h with h;subst h;exact ⟨rfl,fun h=>h⟩
  ·split at h
   ·rename_i xs l' h1 hl
    injection h with h;subst h
    rw [dz]
    refine ⟨by simp only [List.length_cons];rw [(ih (us:=[]) (by simp at h0;omega) hl).1],?_⟩
    rintro ⟨u0,_,rfl,r0,u1,_,rfl,r1,u2,vs,rfl,r2,hr⟩
    exact ⟨u0,_,rfl,r0,u1,_,rfl,r1,u2,vs,rfl,AD h1 r2,(ih (by simp at h0;omega) hl).2 hr⟩
   ·cases h
  ·cases h
theorem jF {sz n:Nat} {ls ls':List Lc} {v:Value} (hl:ls.length=ls'.length) (h:∀ us,LcL S w ls us→LcL S w ls' us) (hR:(Lc.sl sz n ls).R S w v):(Lc.sl sz n ls').R S w v:=by
 obtain ⟨h1,A,c,e,hc,h2⟩:=hR
 refine ⟨by rw [←hl];exact h1,A,c,e,hc,?_⟩
 rcases h2 with h2 |⟨ad,T,cs,e1,e2,hS,hB,h3,h4⟩
 ·exact .inl (List.eq_nil_of_length_eq_zero (by rw [←hl,h2];rfl))
 ·exact .inr ⟨ad,T,cs,e1,e2,hS,hB,by rw [←hl];exact h3,by rw [←hl];exact h _ h4⟩
end
theorem Fg:∀ (l:List J),ox (bC l)=some l:=by
 intro l
 induction l with
 |nil=>rfl
 |cons j l ih=>rw [cU];simp only [ox,qg,ih]
theorem Fm:∀ (l:List X),m7 (pC l)=some l:=by
 intro l
 induction l with
 |nil=>rfl
 |cons j l ih=>rw [dz];simp only [m7,qg,ih]
abbrev bv (l:List J):AV:=.s (.sl false 6 l.length (bC l))
abbrev qi (l:List X):AV:=.s (.sl false 3 l.length (pC l))
def nw (x:AV):Bool:=match x with
 |.v false [.lit (.slice none m n)]=>decide (m=0)&&decide (n=0)
 |.v false [.sl false _ n ls]=>decide (n=0)&&ls.isEmpty
 |_=>false
def jC (x:AV):Option (List J):=bif nw x then some [] else (match x with
 |.v false [.sl false sz n ls]=>(match ox ls with
  |some l=>if sz=6∧n=l.length then some l else none
  |none=>none)
 |_=>none)
def tY (x:AV):Option (List X):=bif nw x then some [] else (match x with
 |.v false [.sl false sz n ls]=>(match m7 ls with
  |some l=>if sz=3∧n=l.length then some l else none
  |none=>none)
 |_=>none)
section
variable {ρ:Env} {D:Nat→Bool} {w:World} {u:Value}
theorem v7 {x:AV} {sz:Nat} (h:nw x=true) (hR:x.R ρ D w u):(AV.s (.sl false sz 0 [])).R ρ D w u:=by
 unfold nw at h
 split at h
 ·rw [Bool.and_eq_true] at h
  have h1:=of_decide_eq_true h.1;have h2:=of_decide_eq_true h.2
  subst h1;subst h2
  have hR:u= .slice none 0 0:=RL.one.1 hR
  exact RL.one.2 ⟨by simp,none,0,hR,Nat.le_refl _,.inl rfl⟩
 ·rename_i sz' n ls
  rw [Bool.and_eq_true] at h
  have h1:=of_decide_eq_true h.1
  have h2:ls=[]:=by cases ls with
   |nil=>rfl
   |cons _ _=>cases h.2
  subst h1;subst h2
  obtain ⟨_,A,c,e,hc,_⟩:(Lc.sl sz' 0 []).R (SepF false ρ D) w u:=RL.one.1 hR
  exact RL.one.2 ⟨by simp,A,c,e,hc,.inl rfl⟩
 ·cases h
theorem AI {x:AV} {l:List J} (h:jC x=some l) (hR:x.R ρ D w u):(bv l).R ρ D w u:=by
 unfold jC at h
 cases hn:nw x with
 |true=>rw [hn,cond_true] at h;injection h with h;subst h;exact v7 hn hR
 |false=>
  rw [hn,cond_false] at h
  split at h
  ·split at h
   ·rename_i ls l' hl
    split at h
    ·rename_i hc
     injection h with h;subst h
     obtain ⟨rfl,rfl⟩:=hc
     exact RL.one.2 (jF (vt (S:=SepF false ρ D) (w:=w) (us:=[]) _ (Nat.le_refl _) hl).1 (fun us=>(vt _ (Nat.le_refl _) hl).2) (RL.one.1 hR))
    ·cases h
   ·cases h
  ·cases h
theorem Fj {x:AV} {l:List X} (h:tY x=some l) (hR:x.R ρ D w u):(qi l).R ρ D w u:=by
 unfold tY at h
 cases hn:nw x with
 |true=>rw [hn,cond_true] at h;injection h with h;subst h;exact v7 hn hR
 |false=>
  rw [hn,cond_false] at h
  split at h
  ·split at h
   ·rename_i ls l' hl
    split at h
    ·rename_i hc
     injection h with h;subst h
     obtain ⟨rfl,rfl⟩:=hc
     exact RL.one.2 (jF (vC (S:=SepF false ρ D) (w:=w) (us:=[]) _ (Nat.le_refl _) hl).1 (fun us=>(vC _ (Nat.le_refl _) hl).2) (RL.one.1 hR))
    ·cases h
   ·cases h
  ·cases h
end
theorem jH (l:List J):jC (.v false [.sl false 6 l.length (bC l)])=some l:=by
 cases l with
 |nil=>rfl
 |cons j l=>
  show (bif decide ((j::l).length=0)&&(bC (j::l)).isEmpty then some [] else (match ox (bC (j::l)) with
   |some m=>if 6=6∧(j::l).length=m.length then some m else none
   |none=>none))=_
  rw [Fg]
  simp
theorem jI (l:List X):tY (.v false [.sl false 3 l.length (pC l)])=some l:=by
 cases l with
 |nil=>rfl
 |cons j l=>
  show (bif decide ((j::l).length=0)&&(pC (j::l)).isEmpty then some [] else (match m7 (pC (j::l)) with
   |some m=>if 3=3∧(j::l).length=m.length then some m else none
   |none=>none))=_
  rw [Fm]
  simp
theorem Ct.of {P:Program} {f:FuncId} {args args':List AV} {Pst:AV→Prop} (h:Ct P f args' Pst) (hR:∀ ρ D w us,RA ρ D w args us→RA ρ D w args' us):Ct P f args Pst:=fun ρ D w us ht hA=>h ρ D w us ht (hR ρ D w us hA)
theorem RA.c {ρ:Env} {D:Nat→Bool} {w:World} {x y:AV} {xs ys:List AV} (h1:∀ u,x.R ρ D w u→y.R ρ D w u) (h2:∀ us,RA ρ D w xs us→RA ρ D w ys us):∀ us,RA ρ D w (x::xs) us→RA ρ D w (y::ys) us:=fun us h=>by
 obtain ⟨u,r,rfl,h3,h4⟩:=h
 exact ⟨u,r,rfl,h1 u h3,h2 r h4⟩
def gB (k:List J→Prop×AV):List AV→Option (Prop×AV)
 |[x]=>(match jC x with
  |some l=>some (k l)
  |none=>none)
 |_=>none
theorem Qw {P:Program} {f:FuncId} {k:List J→Prop×AV} (h:∀ l,(k l).1→Ct P f [bv l] (·=(k l).2)) {args:List AV} {e:Prop×AV} (he:gB k args=some e) (hp:e.1):Ct P f args (·=e.2):=by
 unfold gB at he
 split at he
 ·split at he
  ·rename_i l hl
   injection he with he;subst he
   exact (h l hp).of fun ρ D w=>RA.c (fun u=>AI hl) fun us h=>h
  ·cases he
 ·cases he
def gP (k:List X→Prop×AV):List AV→Option (Prop×AV)
 |[x]=>(match tY x with
  |some l=>some (k l)
  |none=>none)
 |_=>none
theorem Qy {P:Program} {f:FuncId} {k:List X→Prop×AV} (h:∀ l,(k l).1→Ct P f [qi l] (·=(k l).2)) {args:List AV} {e:Prop×AV} (he:gP k args=some e) (hp:e.1):Ct P f args (·=e.2):=by
 unfold gP at he
 split at he
 ·split at he
  ·rename_i l hl
   injection he with he;subst he
   exact (h l hp).of fun ρ D w=>RA.c (fun u=>Fj hl) fun us h=>h
  ·cases he
 ·cases he
def zu (k:List J→List J→Prop×AV):List AV→Option (Prop×AV)
 |[x,y]=>(match jC x,jC y with
  |some l,some m=>some (k l m)
  |_,_=>none)
 |_=>none
theorem N2 {P:Program} {f:FuncId} {k:List J→List J→Prop×AV} (h:∀ l m,(k l m).1→Ct P f [bv l,bv m] (·=(k l m).2)) {args:List AV} {e:Prop×AV} (he:zu k args=some e) (hp:e.1):Ct P f args (·=e.2):=by
 unfold zu at he
 split at he
 ·split at he
  ·rename_i l m hl hm
   injection he with he;subst he
   exact (h l m hp).of fun ρ D w=>RA.c (fun u=>AI hl) (RA.c (fun u=>AI hm) fun us h=>h)
  ·cases he
 ·cases he
def Eh (k:List J→List X→Prop×AV):List AV→Option (Prop×AV)
 |[x,y]=>(match jC x,tY y with
  |some l,some m=>some (k l m)
  |_,_=>none)
 |_=>none
def Ei (k:List J→Int→Prop×AV):List AV→Option (Prop×AV)
 |[x,.v false [.lit (.int .i64 z)]]=>(match jC x with
  |some l=>some (k l z)
  |none=>none)
 |_=>none
def ry (k:List J→List J→Int→Prop×AV):List AV→Option (Prop×AV)
 |[x,y,.v false [.lit (.int .i64 z)]]=>(match jC x,jC y with
  |some l,some m=>some (k l m z)
  |_,_=>none)
 |_=>none
def dA (l:List J):Lf:=bif l.isEmpty then .lit (.slice none 0 0) else .sl true 6 l.length (bC l)
def jp (l:List X):Lf:=bif l.isEmpty then .lit (.slice none 0 0) else .sl true 3 l.length (pC l)
def Ju (l:List J):Lf:=bif l.isEmpty then .lit (.slice none 0 0) else .sl false 6 l.length (bC l)
def Lk (l:List X):Lf:=bif l.isEmpty then .lit (.slice none 0 0) else .sl false 3 l.length (pC l)
section
variable {st:St} {l:List J} {m:List X} {a:J} {x:X}
theorem dM:dA []= .lit (.slice none 0 0):=rfl
theorem cV:dA (a::l)= .sl true 6 (a::l).length (bC (a::l)):=rfl
theorem dS:jp []= .lit (.slice none 0 0):=rfl
theorem cW:jp (x::m)= .sl true 3 (x::m).length (pC (x::m)):=rfl
theorem fc:outL st (dA l)=dA l:=by cases l<;>rfl
theorem fd:outL st (jp m)=jp m:=by cases m<;>rfl
theorem gG:rI (dA l)=true:=by cases l<;>rfl
theorem gH:rI (jp m)=true:=by cases m<;>rfl
theorem gT:cZ (dA l)=true:=by cases l<;>rfl
theorem gU:cZ (jp m)=true:=by cases m<;>rfl
theorem dR:bx st (dA l)=true:=by cases l<;>rfl
theorem eu:bx st (jp m)=true:=by cases m<;>rfl
theorem gW:olL (dA l)=[]:=by cases l<;>rfl
theorem gX:olL (jp m)=[]:=by cases m<;>rfl
theorem gK:po st (dA l)=Ju l:=by cases l<;>rfl
theorem gL:po st (jp m)=Lk m:=by cases m<;>rfl
theorem gR:Ej (Ju l)=true:=by cases l<;>rfl
theorem gS:Ej (Lk m)=true:=by cases m<;>rfl
theorem gw:jC (.v false [Ju l])=some l:=by
 cases l with
 |nil=>rfl
 |cons a l=>exact jH (a::l)
theorem gD:tY (.v false [Lk m])=some m:=by
 cases m with
 |nil=>rfl
 |cons a l=>exact jI (a::l)
theorem gO:lenOf (.v false [dA l])=some l.length:=by cases l<;>rfl
theorem gQ:lenOf (.v false [jp m])=some m.length:=by cases m<;>rfl
end
def bP (r:List J×Int):AV:=.tup [(false,[dA r.1]),(false,[.lit (.int .i64 r.2)])]
def cp (r:List X×Int):AV:=.tup [(false,[jp r.1]),(false,[.lit (.int .i64 r.2)])]
def rightB (l:List J):Bool:=decide (1≤l.length)&&decide (l.length≤4)&&l.all okJ
def bZ {α β:Type} (φ:α→β→Bool):List α→List β→Bool
 |a::s,b::t=>φ a b&&bZ φ s t
 |[],[]=>true
 |_,_=>false
def dT:List J→List J→Bool:=bZ oQ
def Ol (a b:List J):Bool:=rightB a&&rightB b&&bZ Kc a b
end
section
attribute [local irreducible] ar
def BO:TI:=⟨false,1,[.lit (.slice none 0 0)],[.slice none 0 0],[],some (30,false)⟩
def pY:TI:=⟨false,1,[.lit (.slice none 0 0)],[.slice none 0 0],[],some (34,false)⟩
def AA (t:TypeId):Option TI:=if t=51 then some BO else if t=27 then some pY else if t=143 then some yN else if t=146 then some yN else LO t
theorem SJ:TiOK Tryz.prog 51 BO:=d8 (by kernel_rfl) (by kernel_rfl) (by kernel_rfl) (by kernel_rfl) (fun _ _ _=>rfl) rfl (fun b h=>by cases h) (fun k z h=>by cases h) (sl_of' (by kernel_rfl))
theorem Rn:TiOK Tryz.prog 27 pY:=d8 (by kernel_rfl) (by kernel_rfl) (by kernel_rfl) (by kernel_rfl) (fun _ _ _=>rfl) rfl (fun b h=>by cases h) (fun k z h=>by cases h) (sl_of' (by kernel_rfl))
theorem Ro:TiOK Tryz.prog 143 yN:=d8 (by kernel_rfl) (by kernel_rfl) (by kernel_rfl) (by kernel_rfl) (fun _ _ _=>rfl) rfl (fun b h=>by cases h) (fun k z h=>by cases h) (fun e b h=>by cases h)
theorem Rq:TiOK Tryz.prog 146 yN:=d8 (by kernel_rfl) (by kernel_rfl) (by kernel_rfl) (by kernel_rfl) (fun _ _ _=>rfl) rfl (fun b h=>by cases h) (fun k z h=>by cases h) (fun e b h=>by cases h)
theorem be (t:TypeId) (i:TI) (h:AA t=some i):TiOK Tryz.prog t i:=by
 unfold AA at h
 by_cases h0:t=51
 ·rw [if_pos h0] at h;injection h with h;subst h;subst h0;exact SJ
 rw [if_neg h0] at h
 by_cases h1:t=27
 ·rw [if_pos h1] at h;injection h with h;subst h;subst h1;exact Rn
 rw [if_neg h1] at h
 by_cases h2:t=143
 ·rw [if_pos h2] at h;injection h with h;subst h;subst h2;exact Ro
 rw [if_neg h2] at h
 by_cases h3:t=146
 ·rw [if_pos h3] at h;injection h with h;subst h;subst h3;exact Rq
 rw [if_neg h3] at h
 exact a7 t i h
end
end Go.Proofs.YtpacpmmdjmnamaaGreatDoor
