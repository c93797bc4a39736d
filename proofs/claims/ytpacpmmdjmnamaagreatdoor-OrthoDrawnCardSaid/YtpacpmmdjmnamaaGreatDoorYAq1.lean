/- Calls that answer a list which is then the caller's own: alone, or beside an error. -/
import Derived.Test.YtpacpmmdjmnamaaGreatDoorYAo1
import Derived.Test.YtpacpmmdjmnamaaGreatDoorYAk7
namespace Go.Proofs.YtpacpmmdjmnamaaGreatDoor
set_option linter.unusedSimpArgs false
set_option linter.unusedVariables false
set_option maxHeartbeats 4000000
set_option maxRecDepth 100000
open Go.RowKit Nx
section
structure GL where
 n:Nat
 e:TypeId
 sz:Nat
 ls:List Lf
inductive GR where
 |one (g:GL)
 |ok (g:GL)
 |err (z:Int)
structure Oldu (ρ:Env) (D:Nat→Bool) (w:World) (u:Value):Prop where
 own:∀ b,D b=true→ρ b<w.heap.size
 gro:∀ b g,ρ.al b=true→(ρ.gh b).ownBlock=some g→g<w.heap.size∨u.ownBlock=some g
 z:ρ.z≤w.heap.size
section
variable {P:Program} {ρ ρ':Env} {D D':Nat→Bool} {w w0:World} {x:Value}
theorem Lf.R.outu {l:Lf} {u:Value} (h:l.R ρ D w u) (hc:iO l=true) (hz:w0.heap.size≤ρ.z) (hs:∀ g,Sep ρ D g→x.ownBlock≠some g) (ho:Oldu ρ' D' w0 x):l.R ρ' D' w u:=by
 cases l with
 |own _ _=>cases hc
 |osl _ _=>cases hc
 |im _=>cases hc
 |ol _ _=>cases hc
 |oe _ _ _=>cases hc
 |ov _ _ _ _=>cases hc
 |clo f cs=>cases cs with
  |nil=>exact ⟨(fun b hb=>by cases hb),h.2⟩
  |cons _ _=>cases hc
 |sl f sz n ls=>
  have hc:f=true:=hc
  subst hc
  refine Lc.R.mono (Keeps.refl _ _) (fun g _ _ _ h=>⟨⟨fun b hb e=>?_,fun b hb e=>?_⟩,fun _=>?_⟩) _ _ h
  ·have:=ho.own b hb;have:=h.2 rfl;omega
  ·rcases ho.gro b g hb e with h1 |h1
   ·have:=h.2 rfl;omega
   ·exact hs g h.1 h1
  ·have:=h.2 rfl;have:=ho.z;omega
 |_=>exact h
theorem RL.outu (hz:w0.heap.size≤ρ.z) (hs:∀ g,Sep ρ D g→x.ownBlock≠some g) (ho:Oldu ρ' D' w0 x):∀ {ls:List Lf} {us:List Value},ls.all iO=true→RL ρ D w ls us→RL ρ' D' w ls us:=by
 intro ls
 induction ls with
 |nil=>intro us _ h;exact h
 |cons l ls ih=>
  intro us hc h
  rw [List.all_cons,Bool.and_eq_true] at hc
  obtain ⟨u,r,e,h1,h2⟩:=h
  exact ⟨u,r,e,h1.outu hc.1 hz hs ho,ih hc.2 h2⟩
end
def Hi (w0 w':World) (g:GL) (v:Value):Prop:=∃ vs,(0<g.n∧0<g.sz∧g.ls.all bu=true)∧Gr w' w0.heap.size g.e g.sz v g.n vs∧∀ ρ' D',Oldu ρ' D' w0 v→RL ρ' D' w' g.ls vs
def Kw (w0 w':World):GR→Value→Prop
 |.one g,u=>Hi w0 w' g u
 |.ok g,u=>∃ v,u= .tuple #[v,.int .i64 0]∧Hi w0 w' g v
 |.err z,u=>u= .tuple #[.slice none 0 0,.int .i64 z]
def Gd (P:Program) (f:FuncId) (args:List AV) (r:GR):Prop:=∀ ρ D w us,Tab w→RA ρ D w args us→
 Calls P f us.toArray w fun en w'=>∃ u,en= .returned u∧Kw w w' r u∧Below w.heap.size w w'
def Ft (g:GL) (st:St):Lf→Prop
 |.ol b k=>(match look st (2*b+1) with
  |some (.pre _ s1 l1)=>k=g.n∧s1=g.sz∧l1=g.ls∧g.ls.all iO=true∧g.ls.length=g.n*g.sz
  |_=>False)
 |.osl b k=>(match look st (2*b+1) with
  |some (.v true l1)=>(k=g.n∧b<1000∧0<g.n∧0<g.sz∧g.n≤100000)∧l1=g.ls∧g.ls.all iO=true∧g.ls.length=g.n*g.sz
  |_=>False)
 |_=>False
def Ic:GR→St→Option (List (Bool×List Lf))→Prop
 |.one g,st,some [(false,[l])]=>Ft g st l
 |.ok g,st,some [(false,[l]),(false,[.lit v])]=>Ft g st l∧v= .int .i64 0
 |.err z,_,some [(false,[.lit v]),(false,[.lit v'])]=>v= .slice none 0 0∧v'= .int .i64 z
 |_,_,_=>False
section
variable {g:GL} {st:St} {b k:Nat} {l:Lf} {z:Int} {v v':Value}
theorem uU:Ft g st (.ol b k)=(match look st (2*b+1) with
  |some (.pre _ s1 l1)=>k=g.n∧s1=g.sz∧l1=g.ls∧g.ls.all iO=true∧g.ls.length=g.n*g.sz
  |_=>False):=rfl
theorem mi:Ft g st (.osl b k)=(match look st (2*b+1) with
  |some (.v true l1)=>(k=g.n∧b<1000∧0<g.n∧0<g.sz∧g.n≤100000)∧l1=g.ls∧g.ls.all iO=true∧g.ls.length=g.n*g.sz
  |_=>False):=rfl
theorem ml:Ic (.one g) st (some [(false,[l])])=Ft g st l:=by cases l<;>rfl
theorem Fy:Ic (.ok g) st (some [(false,[l]),(false,[.lit v])])=(Ft g st l∧v= .int .i64 0):=by cases l<;>rfl
theorem gX:Ic (.err z) st (some [(false,[.lit v]),(false,[.lit v'])])=(v= .slice none 0 0∧v'= .int .i64 z):=rfl
end
section
variable {P:Program} {N:Nat} {ρ:Env} {st:St} {a:Act} {w w':World}
theorem DO (h:Cz (fun _=>False) w N ρ st a w') {g:GL} {l:Lf} {u:Value} (hp:Ft g st l) (hR:l.R ρ (dom st) w' u):Hi w w' g u:=by
 have hzz:w.heap.size≤ρ.z:=by rw [h.zz];exact Nat.le_refl _
 cases l with
 |ol b k=>
  rw [uU] at hp
  split at hp
  ·rename_i e1 s1 l1 hl
   obtain ⟨rfl,rfl,rfl,hcl,hlen⟩:=hp
   obtain ⟨hal,hgv,hn,hsz,_⟩:=h.cur hl hlen
   obtain ⟨_,_,_,hok,vs,hG,hRL⟩:=h.gc b _ _ _ hl
   have hu:u=ρ.gh b:=hR.2.2.1 hgv.symm
   refine ⟨vs,⟨hn,hsz,hok⟩,by rw [hu];rw [hgv] at hG;exact hG,fun ρ' D' ho=>hRL.outu hzz (fun g hg e=>hg.2 b hal (by rw [←hu];exact e)) ho hcl⟩
  ·exact hp.elim
 |osl b k=>
  rw [mi] at hp
  split at hp
  ·rename_i l1 hl
   obtain ⟨⟨rfl,hb,hn,hsz,hm⟩,rfl,hcl,hlen⟩:=hp
   obtain ⟨hdb,hu⟩:=hR
   obtain ⟨g0,ls0,T,cs,e0,hB,hr0,ho0,hg⟩:=h.mv hl
   injection e0 with e1 e0;subst e0
   have hge:w.heap.size≤ρ b:=by
    rcases hg e1.symm with h1 |h1
    ·exact h1.2
    ·exact h1.2.elim
   have hl2:=hr0.len
   rw [Array.length_toList] at hl2
   refine ⟨cs.toList,⟨hn,hsz,ho0⟩,⟨ρ b,g.n,cs,hu,hge,⟨T,hB⟩,Nat.le_refl _,by simp only [maxLen];omega,by rw [hl2,hlen],List.take_of_length_le (by rw [Array.length_toList,hl2,hlen];exact Nat.le_refl _),hr0.okAll ho0⟩,fun ρ' D' ho=>hr0.outu hzz (fun g' hg' e=>?_) ho hcl⟩
   rw [hu] at e
   injection e with e
   exact hg'.1 b hdb e
  ·exact hp.elim
 |_=>exact hp.elim
end
theorem mh {P:Program} {ty:TypeId→Option TI} {O:eJ} (hm:P.follows .mixedOrders=true) (hty:∀ t i,ty t=some i→TiOK P t i) (hO:∀ w,OrOK P O (fun _=>False) w) {f:FuncId} {fn:Func} {c:Code} {args:List AV} (fg:List Nat) {r:GR}
  (fuel N:Nat) (rs:List ResultVar) (hf:P.funcs[f]? =some fn) (hb:fn.body=some c) (hN:fn.ntmps=N) (hr:fn.results.toList=rs) (hl:args.length≤N) (hc:args.all nT=true)
  (h:tS args→run ty O N (fun st=>Ic r st (gH ty st rs)) fg fuel [.code c] (dX 0 args)):Gd P f args r:=by
 intro ρ D w us ht hA
 replace h:=h hA.sm
 refine sK (mem:=[]) (ρ:=⟨fun n=>n,w.heap.size,fun _=>undef,fun _=>0,fun _=>false⟩) hm hty (hO w) fg fuel N hf hb hN hl ht (fun k v h=>by cases h) (fun b v h=>by cases h) (fun b b' h=>by cases h) (hA.closed hc fun g h=>⟨fun b hb=>(by cases hb),fun b hb=>(by cases hb)⟩) rfl rfl (fun ρ' st a w' hp hz=>?_) (by rw [List.append_nil];exact h)
 rw [←hr] at hp
 have hrun:∀ vs:List Value,(fn.results.toList.mapM (resOne a.tmps)).run P w'= .ok vs w'→(results fn a.tmps).run P w'= .ok (if h:vs.toArray.size=1 then vs.toArray[0] else .tuple vs.toArray) w':=fun vs hu=>by
  show Sem.run P (do let vs ←fn.results.mapM (resOne a.tmps);pure (if h:vs.size=1 then vs[0] else .tuple vs)) w'=_
  rw [Sem.run_bind,Array.mapM_eq_mapM_toList]
  simp [hu]
 unfold Ic at hp
 split at hp
 ·rename_i st0 g l hq
  obtain ⟨us,hu,hR⟩:=mF hty hz _ _ hq
  obtain ⟨u,r,rfl,h1,h2⟩:=hR
  have h2:r=[]:=h2
  subst h2
  refine bodyPost_ret (hrun _ hu) hz.df ⟨u,rfl,DO hz hp (RL.one.1 h1),hz.bel.to⟩
 ·rename_i st0 g l v hq
  obtain ⟨hp,rfl⟩:=hp
  obtain ⟨us,hu,hR⟩:=mF hty hz _ _ hq
  obtain ⟨u,r,rfl,h1,u2,r2,rfl,h2,h3⟩:=hR
  have h3:r2=[]:=h3
  subst h3
  have h2:u2= .int .i64 0:=RL.one.1 h2
  subst h2
  exact bodyPost_ret (hrun _ hu) hz.df ⟨_,rfl,⟨u,rfl,DO hz hp (RL.one.1 h1)⟩,hz.bel.to⟩
 ·rename_i st0 z v v' hq
  obtain ⟨rfl,rfl⟩:=hp
  obtain ⟨us,hu,hR⟩:=mF hty hz _ _ hq
  obtain ⟨u,r,rfl,h1,u2,r2,rfl,h2,h3⟩:=hR
  have h3:r2=[]:=h3
  subst h3
  have h1:u= .slice none 0 0:=RL.one.1 h1
  have h2:u2= .int .i64 z:=RL.one.1 h2
  subst h1;subst h2
  exact bodyPost_ret (hrun _ hu) hz.df ⟨_,rfl,rfl,hz.bel.to⟩
 ·exact hp.elim
def fV (d:Nat):GR→List (Nat×AV)
 |.one g=>[(2*d,.s (.ol d g.n)),(2*d+1,.pre g.e g.sz g.ls)]
 |.ok g=>[(2*d,.tup [(false,[.ol d g.n]),(false,[.lit (.int .i64 0)])]),(2*d+1,.pre g.e g.sz g.ls)]
 |.err z=>[(2*d,.tup [(false,[.lit (.slice none 0 0)]),(false,[.lit (.int .i64 z)])])]
def eo (g:FuncId) (k:List AV→Option (Prop×GR)):eJ:=fun f d st args=>if f=g then (match k (args.map (ir st)) with
 |some e=>if (args.map (ir st)).all nU=true then (match look st (2*d+1) with
  |none=>some (e.1,args.flatMap olA++[2*d+1],fV d e.2)
  |some _=>none) else none
 |none=>none) else none
theorem Fp {P:Program} {g:FuncId} {k:List AV→Option (Prop×GR)} {w0:World} (hen:∀ (vs:Array Value) (w:World),(callFunc g vs).run P w= .ok (.enter g vs) w)
  (hk:∀ args e,k args=some e→e.1→Gd P g args e.2):OrOK P (eo g k) (fun _=>False) w0:=by
 have inv:∀ f d st args q,eo g k f d st args=some q→f=g∧∃ e,k (args.map (ir st))=some e∧(args.map (ir st)).all nU=true∧look st (2*d+1)=none∧q=(e.1,args.flatMap olA++[2*d+1],fV d e.2):=by
  intro f d st args q he
  unfold eo at he
  split at he
  case isFalse=>cases he
  rename_i hf
  split at he
  case h_2=>cases he
  rename_i e hq
  split at he
  case isFalse=>cases he
  rename_i hn
  split at he
  case h_2=>cases he
  rename_i hlk
  injection he with he
  exact ⟨hf,e,hq,hn,hlk,he.symm⟩
 refine ⟨fun f d st args e he=>?_,fun f d st args q he hp N ρ a w us hz hd hA=>?_,fun f d st st' args q he hkk=>?_⟩
 ·obtain ⟨rfl,_⟩:=inv _ _ _ _ _ he;exact hen
 ·obtain ⟨rfl,e,hq,hn,hlk,rfl⟩:=inv _ _ _ _ _ he
  refine (hk _ _ hq hp ρ.no (fun _=>false) w us (hz.tb.tab hz.bel) (yW hz hA hn)).mono ?_
  rintro en w' ⟨u,rfl,hr,hb⟩
  have hdm:dom st d=false:=by unfold dom;rw [hlk]
  have hnal:ρ.al d=true→False:=fun hal=>by
   obtain ⟨e',s',l',hl⟩:=hz.gm d hal
   rw [hlk] at hl;cases hl
  have fin:∀ (g:GL) (v:Value),Hi w w' g v→Cz (fun _=>False) w0 N (ρ.up d v g.n) ((2*d+1,.pre g.e g.sz g.ls)::st) a w':=fun g v hg=>by
   obtain ⟨vs,⟨h1,h2,h3⟩,hG,hR⟩:=hg
   have hG':Gr w' w0.heap.size g.e g.sz v g.n vs:=by
    obtain ⟨b,cap,cur,e1,hbg,h4⟩:=hG
    exact ⟨b,cap,cur,e1,Nat.le_trans hz.bel.size hbg,h4⟩
   refine hz.apF hdm h2 h1 (fun hal=>(hnal hal).elim) (eC hb) (fun g hg=>by cases hg) (Keeps.below hb) (fun b hb'=>.inr (hG.lt b hb').1) h3 hG' fun he=>hR _ _ ⟨fun b hb'=>?_,fun b x hb' hx=>?_,?_⟩
   ·have hx:dom st b=true:=by
     by_cases e1:b=d
     ·subst e1;unfold dom at hb';rw [aB] at hb';cases hb'
     ·unfold dom at hb' ⊢;rw [ai (by omega)] at hb';exact hb'
    exact hz.lt hx
   ·by_cases e1:b=d
    ·subst e1
     right
     have hx:(if b=b then v else ρ.gh b).ownBlock=some x:=hx
     rwa [if_pos rfl] at hx
    ·left
     have hb':(if b=d then true else ρ.al b)=true:=hb'
     have hx:(if b=d then v else ρ.gh b).ownBlock=some x:=hx
     rw [if_neg e1] at hb' hx
     exact (hz.glt hb' hx).2
   ·show ρ.z≤_
    rw [hz.zz];exact hz.bel.size
  have hol:∀ (g:GL) (v:Value),Hi w w' g v→(Lf.ol d g.n).R (ρ.up d v g.n) (dom ((2*d+1,.pre g.e g.sz g.ls)::st)) w' v:=fun g v hg=>by
   obtain ⟨vs,_,⟨b,cap,cur,e1,_⟩,_⟩:=hg
   exact ⟨by simp,by simp,fun _=>by simp,_,_,e1⟩
  cases he:e.2 with
  |one g=>
   rw [he] at hr
   exact ⟨u,_,rfl,(fin g u hr).val (Below.refl _ _) hd (RL.one.2 (hol g u hr))⟩
  |ok g=>
   rw [he] at hr
   obtain ⟨v,rfl,hg⟩:=hr
   exact ⟨_,_,rfl,(fin g v hg).val (v:=.tup [(false,[.ol d g.n]),(false,[.lit (.int .i64 0)])]) (Below.refl _ _) hd ⟨[v,.int .i64 0],rfl,v,_,rfl,RL.one.2 (hol g v hg),_,_,rfl,RL.one.2 rfl,rfl⟩⟩
  |err z=>
   rw [he] at hr
   have hr:u= .tuple #[.slice none 0 0,.int .i64 z]:=hr
   subst hr
   exact ⟨_,_,rfl,hz.val (v:=.tup [(false,[.lit (.slice none 0 0)]),(false,[.lit (.int .i64 z)])]) hb hd ⟨[.slice none 0 0,.int .i64 z],rfl,_,_,rfl,RL.one.2 rfl,_,_,rfl,RL.one.2 rfl,rfl⟩⟩
 ·obtain ⟨rfl,e,hq,hn,hlk,rfl⟩:=inv _ _ _ _ _ he
  have hm:args.map (ir st')=args.map (ir st):=List.map_congr_left fun x hx=>kT fun k hk'=>hkk k (List.mem_append.2 (.inl (List.mem_flatMap.2 ⟨x,hx,hk'⟩)))
  have hl2:look st' (2*d+1)=none:=by rw [hkk _ (List.mem_append.2 (.inr (List.mem_singleton.2 rfl)))];exact hlk
  unfold eo
  rw [if_pos rfl,hm,hq]
  simp only [hn,if_true,hl2]
theorem kx {P:Program} {g:FuncId} {k:List AV→Option (Prop×GR)} {B:eJ} {w0:World} (hA:OrOK P (eo g k) (fun _=>False) w0) (hB:OrOK P B (fun _=>False) w0) (hn:∀ d st args,B g d st args=none):OrOK P (fB (eo g k) B) (fun _=>False) w0:=
 Av hA hB fun f d st args e he st'=>by
  unfold eo
  split
  ·rename_i h;subst h;rw [hn] at he;cases he
  ·rfl
def uA {α β:Type} (pa:AV→Option α) (k:α→List AV→Option (Prop×β)):List AV→Option (Prop×β)
 |x::xs=>(match pa x with
  |some a=>k a xs
  |none=>none)
 |[]=>none
def uE {β:Type} (e:Prop×β):List AV→Option (Prop×β)
 |[]=>some e
 |_::_=>none
def GdT (P:Program) (f:FuncId) (pre:List AV) (k:List AV→Option (Prop×GR)):Prop:=∀ args e,k args=some e→e.1→Gd P f (pre++args) e.2
theorem GdT.e {P:Program} {f:FuncId} {pre:List AV} {e:Prop×GR} (h:e.1→Gd P f pre e.2):GdT P f pre (uE e):=by
 intro args e' he hp
 cases args with
 |nil=>injection he with he;subst he;rw [List.append_nil];exact h hp
 |cons _ _=>cases he
theorem GdT.a {P:Program} {f:FuncId} {pre:List AV} {α:Type} {pa:AV→Option α} {c:α→AV} {k:α→List AV→Option (Prop×GR)} (ha:sA pa c) (h:∀ a,GdT P f (pre++[c a]) (k a)):GdT P f pre (uA pa k):=by
 intro args e he hp
 cases args with
 |nil=>cases he
 |cons x xs=>
  have he:(match pa x with
   |some a=>k a xs
   |none=>none)=some e:=he
  split at he
  ·rename_i a hx
   have h1:=h a xs e he hp
   rw [List.append_assoc] at h1
   intro ρ D w us ht hR
   refine h1 ρ D w us ht ?_
   obtain ⟨us1,us2,rfl,h2,h3⟩:∃ us1 us2,us=us1++us2∧RA ρ D w pre us1∧RA ρ D w (x::xs) us2:=by
    refine ⟨us.take pre.length,us.drop pre.length,(List.take_append_drop _ _).symm,?_⟩
    have:=RA.split hR pre.length
    rwa [List.take_left,List.drop_left] at this
   obtain ⟨u,r,rfl,h4,h5⟩:=h3
   exact h2.append ⟨u,r,rfl,ha x a hx ρ D w u h4,h5⟩
  ·cases he
theorem zn {P:Program} {g:FuncId} {k:List AV→Option (Prop×GR)} {w0:World} (hen:∀ (vs:Array Value) (w:World),(callFunc g vs).run P w= .ok (.enter g vs) w) (h:GdT P g [] k):OrOK P (eo g k) (fun _=>False) w0:=Fp hen fun args e hk hp=>h args e hk hp
end
section
attribute [local go_sem] run dX X.L J.L vL X.eta J.eta Q.eta List.cons_append List.nil_append iH dU dV bW bX da nc dA iE eq aG bj aL aR bi cL cQ cR cM inL aS bE dom fH kU nD evd okeys look dN di co cV lenOf fw jb qK jw qQ fv qf np qh qg nL pF eX jF eY jG bu nV keysOf aD ir jp jg olA olL ot nU mS nT dh jx one cT fi cu bq gG eO jf iO cH decide_true decide_false List.all_cons List.all_nil Bool.and_true Bool.and_self true_and and_true and_self List.length_cons List.length_nil List.drop_succ_cons List.drop_zero List.take_succ_cons List.take_zero List.getElem?_cons_zero List.getElem?_cons_succ List.map_cons List.map_nil false_implies true_implies Option.bind_some List.getElem?_toArray Bool.false_eq_true List.append_nil List.flatMap_cons List.flatMap_nil true_or or_true forall_const List.reverse_cons List.reverse_nil Option.isSome_some Option.any_some Nat.lt_irrefl not_true_eq_false Bool.not_true Bool.not_false imp_self implies_true Bool.not_eq_true' Bool.not_eq_false' Bool.true_eq_false fL jo lQ lV oq pR qo cO qw iJ fB sy Int.toNat_zero decide_eq_true_eq fW fX so sr BEq.rfl beq_self_eq_true Int.natCast_zero ge_iff_le gt_iff_lt Int.le_refl Nat.zero_mul Nat.one_mul Nat.zero_add Nat.zero_lt_succ Nat.lt_add_one Nat.le_refl List.append_eq Int.toNat_natCast gN pP pO gI ek kc gJ su sv ka ss cK cS cN cD pN fN okO je pT gH outPs ep outL fT rD aT aE aY aF bne_self_eq_false wr2 nM nN nO nP nQ nR gB gP nF nG nH gu cG bw cJ aN nE Lc.up pU List.replicate_succ List.replicate_zero List.flatten_cons List.flatten_nil Int.ofNat_lt Int.cast_ofNat_Int Int.ofNat_eq_natCast List.isEmpty_nil List.isEmpty_cons and_false false_and List.cons_ne_nil Nat.add_zero ite_true ite_false if_true if_false Nat.le_zero_eq eq_self Bool.and_false Bool.false_and Bool.true_and nY gA gE kg oO ip fF ed ef eA eg ite_self AV.s cond_true cond_false Bool.or_true Bool.true_or Bool.or_false Bool.false_or
attribute [local go_sem ↓] cond_true cond_false cw aW aX bI bJ bR bS aU aV bT bU bK bL bP bQ bG bH bM bN
attribute [local irreducible] be
theorem IL:TiOK Tryz.prog 51 pU:=dI (by kernel_rfl) (by kernel_rfl) (by kernel_rfl) (by kernel_rfl) (fun _ _ _=>rfl) rfl (fun b h=>by cases h) (fun k z h=>by cases h) (sl_of' (by kernel_rfl))
theorem IK:TiOK Tryz.prog 36 nY:=dI (by kernel_rfl) (by kernel_rfl) (by kernel_rfl) (by kernel_rfl) (fun _ _ _=>rfl) rfl (fun b h=>by cases h) (fun k z h=>by cases h) (sl_of' (by kernel_rfl))
def bv (t:TypeId):Option TI:=
 if t=30 then some eX else if t=4 then some qf else if t=3 then some np else if t=2 then some np else if t=44 then some np else if t=22 then some qh else if t=50 then some pF else if t=51 then some pU else if t=36 then some nY else if t=127 then some eY else if t=124 then some qg else none
theorem az (t:TypeId) (i:TI) (h:bv t=some i):TiOK Tryz.prog t i:=by
 unfold bv at h
 by_cases h0:t=30
 ·rw [if_pos h0] at h;injection h with h;subst h;subst h0;exact As
 rw [if_neg h0] at h
 by_cases h1:t=4
 ·rw [if_pos h1] at h;injection h with h;subst h;subst h1;exact DY
 rw [if_neg h1] at h
 by_cases h2:t=3
 ·rw [if_pos h2] at h;injection h with h;subst h;subst h2;exact DZ
 rw [if_neg h2] at h
 by_cases h3:t=2
 ·rw [if_pos h3] at h;injection h with h;subst h;subst h3;exact Ea
 rw [if_neg h3] at h
 by_cases h4:t=44
 ·rw [if_pos h4] at h;injection h with h;subst h;subst h4;exact Eb
 rw [if_neg h4] at h
 by_cases h5:t=22
 ·rw [if_pos h5] at h;injection h with h;subst h;subst h5;exact Ec
 rw [if_neg h5] at h
 by_cases h6:t=50
 ·rw [if_pos h6] at h;injection h with h;subst h;subst h6;exact Ap
 rw [if_neg h6] at h
 by_cases h7:t=51
 ·rw [if_pos h7] at h;injection h with h;subst h;subst h7;exact IL
 rw [if_neg h7] at h
 by_cases h8:t=36
 ·rw [if_pos h8] at h;injection h with h;subst h;subst h8;exact IK
 rw [if_neg h8] at h
 by_cases h9:t=127
 ·rw [if_pos h9] at h;injection h with h;subst h;subst h9;exact At
 rw [if_neg h9] at h
 by_cases h10:t=124
 ·rw [if_pos h10] at h;injection h with h;subst h;subst h10;exact Ed
 rw [if_neg h10] at h
 cases h
theorem fI {α:Type} {cf:α→List Lf} {p:Lf→Bool} (h:∀ a,(cf a).all p=true):∀ (l:List α),(l.flatMap cf).all p=true:=by
 intro l
 induction l with
 |nil=>rfl
 |cons a l ih=>rw [List.flatMap_cons,List.all_append,h,ih];rfl
theorem wj:∀ {l:List X} {j:Nat} {x:X},l[j]? =some x→List.take 3 (List.drop (j*3) (l.flatMap X.L))=[.lit (.bool x.s),.lit (.int .i64 x.e),.ws x.xs]:=by
 intro l
 induction l with
 |nil=>intro j x h;simp at h
 |cons a l ih=>
  intro j x h
  cases j with
  |zero=>injection h with h;subst h;rfl
  |succ j=>
   have h:l[j]? =some x:=by simpa using h
   rw [List.flatMap_cons,show (j+1)*3=a.L.length+j*3 by show _=3+_;omega,←List.drop_drop,List.drop_left]
   exact ih h
theorem dJ (l:List X):(l.flatMap X.L).length=l.length*3:=zg (s:=3) (fun _=>rfl) l
theorem mw (l:List X):(l.flatMap X.L).all bu=true:=fI (fun _=>rfl) l
theorem zH (l:List X):(l.flatMap X.L).all iO=true:=fI (fun _=>rfl) l
theorem gL (st:St) (l:List X):(l.flatMap X.L).all (bE st)=true:=fI (p:=bE st) (fun _=>rfl) l
theorem mu (l:List X):fT (l.flatMap X.L)=some (pC l):=yY Hv l
theorem DT:∀ (l:List X),jg (l.flatMap X.L)=some (pC l):=by
 intro l
 induction l with
 |nil=>rfl
 | cons a l ih=>rw [List.flatMap_cons];show (match (match (match jg (l.flatMap X.L) with
   |some k=>some (Lc.ws a.xs::k)
   |none=>none) with
   |some k=>some (Lc.lit (.int .i64 a.e)::k)
   |none=>none) with
   |some k=>some (Lc.lit (.bool a.s)::k)
   |none=>none)=_;rw [ih];rfl
theorem Io:∀ (l:List X),(pC l).map Lc.up=l.flatMap X.L:=by
 intro l
 induction l with
 |nil=>rfl
 |cons a l ih=>rw [aN,List.map_cons,List.map_cons,List.map_cons,ih];rfl
def de {α:Type} (A v:List α):List α:=A++v.drop A.length
theorem mt {α:Type} {A v:List α} (h:A.length≤v.length):(de A v).length=v.length:=by unfold de;rw [List.length_append,List.length_drop];omega
theorem kE {α:Type} {A v:List α} (h:A.length=v.length):de A v=A:=by unfold de;rw [h,List.drop_length,List.append_nil]
theorem pd {α:Type} {A v:List α} {j:Nat} (h:A.length=j):(de A v)[j]? =v[j]?:=by
 subst h
 unfold de
 rw [List.getElem?_append_right (Nat.le_refl _),Nat.sub_self,List.getElem?_drop,Nat.add_zero]
theorem oo {A v:List X} {j:Nat} (y:X) (h:A.length=j) (hj:j<v.length):List.take (j*3) ((de A v).flatMap X.L)++[.lit (.bool y.s),.lit (.int .i64 y.e),.ws y.xs]++List.drop (j*3+3) ((de A v).flatMap X.L)=(de (A++[y]) v).flatMap X.L:=by
 subst h
 have e1:(A.flatMap X.L).length=A.length*3:=dJ A
 unfold de
 rw [List.length_append,List.length_singleton,List.flatMap_append,←e1,List.take_left,List.drop_append,List.drop_eq_nil_of_le (by omega),List.nil_append,List.drop_eq_getElem_cons hj,List.flatMap_cons,List.flatMap_append,List.flatMap_append,List.flatMap_cons,List.flatMap_nil,List.append_nil]
 congr 1
 rw [show (A.flatMap X.L).length+3 - (A.flatMap X.L).length=3 by omega]
 rfl
noncomputable def dM (z:Int) (u v:List X):Nat→X×Int
 |0=>(zX,0)
 |j+1=>bif (dM z u v j).2 !=0 then (zX,(dM z u v j).2) else
  bif (an (bf z false) z (u.getD j zX) (v.getD j zX)).2 !=0 then (zX,(an (bf z false) z (u.getD j zX) (v.getD j zX)).2) else
  bif (an (eB z false) z (dM z u v j).1 (qx (an (bf z false) z (u.getD j zX) (v.getD j zX)).1)).2 !=0 then (zX,(an (eB z false) z (dM z u v j).1 (qx (an (bf z false) z (u.getD j zX) (v.getD j zX)).1)).2) else
  (qx (an (eB z false) z (dM z u v j).1 (qx (an (bf z false) z (u.getD j zX) (v.getD j zX)).1)).1,0)
theorem xc {z:Int} {u v:List X} {j n:Nat} (h:((dM z u v j).2 !=0)=true) (hn:j≤n):(dM z u v n).2=(dM z u v j).2∧(j<n→(dM z u v n).1=zX):=by
 induction n with
 |zero=>
  obtain rfl:j=0:=by omega
  exact ⟨rfl,fun h=>by omega⟩
 |succ n ih=>
  rcases Nat.lt_or_ge n j with h1 |h1
  ·obtain rfl:j=n+1:=by omega
   exact ⟨rfl,fun h=>by omega⟩
  ·have h2:=(ih h1).1
   have h3:((dM z u v n).2 !=0)=true:=by rw [h2];exact h
   have e:dM z u v (n+1)=(zX,(dM z u v n).2):=by show (bif _ then _ else _)=_;rw [h3];rfl
   rw [e];exact ⟨h2,fun _=>rfl⟩
theorem sR {z:Int} {u v:List X} {j n:Nat} {e:Int} (h:dM z u v (j+1)=(zX,e)) (he:(e !=0)=true) (hn:j<n):dM z u v n=(zX,e):=by
 obtain ⟨h1,h2⟩:=xc (n:=n) (show ((dM z u v (j+1)).2 !=0)=true by rw [h];exact he) hn
 rcases Nat.lt_or_ge (j+1) n with h3 |h3
 ·exact Prod.ext (h2 h3) (by rw [h1,h])
 ·obtain rfl:n=j+1:=by omega
  exact h
noncomputable def aJ (z:Int) (u v:List X):X×Int:=dM z u v u.length
noncomputable def facS (z:Int) (v u:List X):X×Int:=bif (aJ z u v).2 !=0 then (zX,(aJ z u v).2) else bif (aJ z u u).2 !=0 then (zX,(aJ z u u).2) else
 (qx (an (dq z false) z (aJ z u v).1 (aJ z u u).1).1,(an (dq z false) z (aJ z u v).1 (aJ z u u).1).2)
noncomputable def gy (z:Int) (c x y:X):X×Int:=bif (an (bf z false) z c x).2 !=0 then (zX,(an (bf z false) z c x).2) else
 (qx (an (jQ z false) z y (qx (an (bf z false) z c x).1)).1,(an (jQ z false) z y (qx (an (bf z false) z c x).1)).2)
noncomputable def witS (z:Int) (v u:List X):List X×Int:=bif (facS z v u).2 !=0 then ([],(facS z v u).2) else eachN (fun i=>gy z (facS z v u).1 (u.getD i zX) (v.getD i zX)) u.length
theorem Cu (a:X) (l:List X) (h2:(a::l).length≤1000):Gd Tryz.prog 117 [eM (a::l)] (.one ⟨(a::l).length,30,3,(a::l).flatMap X.L⟩):=by
 have e0:=Io (a::l)
 obtain ⟨r,hr⟩:∃ r,pC (a::l)= .lit (.bool a.s)::r:=⟨_,rfl⟩
 have e1:=dJ (a::l)
 have e2:=mw (a::l)
 have e3:=zH (a::l)
 unfold eM
 rw [hr] at e0 ⊢
 rw [←e0] at e1 e2 e3 ⊢
 have hn:0<(a::l).length:=by simp
 generalize (a::l).length=n at*
 have f0:(0<n)=True:=eq_true hn
 have f1:(n≤100000)=True:=eq_true (by omega)
 simp only [List.map_cons,Lc.up,List.length_cons,List.all_cons,List.length_map,bu,iO,Bool.true_and] at e1 e2 e3 ⊢
 refine mh (O:=aD jx) (by kernel_rfl) az (fun w=>ao fZ _ w) [] 300 8 [.tmp 2] Tryz.func117 rfl Tryz.ntmps117 (by rw [Tryz.results117]) (by simp) rfl (fun hsm=>?_)
 simp (maxSteps:=10000000) only [go_sem,seval,reduceCtorEq,bv,f0,f1,e1,e2,e3,ml,uU,List.length_map,jY,iU,kZ,jh,hd1,pick,bD,go,iI,dE,gW,fx]
 repeat' with_reducible first |apply And.intro |apply condP<;>intro _
 all_goals first |(show be _ _=true;kernel_rfl)|assumption |rfl |(simp only [go_sem, *]<;>rfl)
theorem zT (v:List X) (h:1≤v.length∧v.length≤1000):Gd Tryz.prog 117 [eM v] (.one ⟨v.length,30,3,v.flatMap X.L⟩):=by
 cases v with
 |nil=>exact absurd h.1 (by simp)
 |cons a l=>exact Cu a l h.2
def kf:List AV→Option (Prop×GR):=uA ny fun v=>uE (1≤v.length∧v.length≤1000,.one ⟨v.length,30,3,v.flatMap X.L⟩)
theorem uK (w:World):OrOK Tryz.prog (eo 117 kf) (fun _=>False) w:=zn (ew Tryz.func117 (by kernel_rfl) rfl) (GdT.a fj fun v=>GdT.e fun h=>zT v h)
theorem Iv (u v:List X) (z:Int) (hl:v.length=u.length) (h2:u.length≤1000):Ct Tryz.prog 169 [eM u,eM v,iA z] (·=yk (dM z u v u.length)):=by
 refine bF (O:=aD (dh ca fe)) (by kernel_rfl) az (fun w=>ao (av ja pX) _ w) [9999999,0,2,4,12,13,16,17,26,28,30] ((u.length+1)*600+300) 47 [.cell 6 30,.tmp 7] Tryz.func169 rfl Tryz.ntmps169 (by rw [Tryz.results169]) (by simp) rfl (fun hsm=>?_)
 simp (maxSteps:=10000000) only [go_sem,seval,reduceCtorEq,bv,ca,fe]
 generalize hD:dM z u v=D
 refine aP 600 (fun j=>[(0,eM u),(2,eM v),(4,iA z),(12,.s (.own 6 0)),(13,.v true zX.L),(16,.s (.own 8 0)),(17,.v true (D j).1.L),(26,eM u),(28,iA (u.length:Int)),(30,iA (j:Int))]) u.length (fun j=>(D j).2=0) 0 (fun j _=>rfl) (fun j mm _ hj hI ih=>?_) (by omega) (by rw [←hD];rfl) (by rw [←hD];rfl)
 rcases Nat.lt_or_ge j u.length with hlt |hge
 ·have hxj:=ba zX hlt
  have hyj:=ba zX (show j<v.length by omega)
  have hs:D (j+1)=bif (D j).2 !=0 then (zX,(D j).2) else
   bif (an (bf z false) z (u.getD j zX) (v.getD j zX)).2 !=0 then (zX,(an (bf z false) z (u.getD j zX) (v.getD j zX)).2) else
   bif (an (eB z false) z (D j).1 (qx (an (bf z false) z (u.getD j zX) (v.getD j zX)).1)).2 !=0 then (zX,(an (eB z false) z (D j).1 (qx (an (bf z false) z (u.getD j zX) (v.getD j zX)).1)).2) else
   (qx (an (eB z false) z (D j).1 (qx (an (bf z false) z (u.getD j zX) (v.getD j zX)).1)).1,0):=by rw [←hD];rfl
  have hbad:∀ e,D (j+1)=(zX,e)→(e !=0)=true→D u.length=(zX,e):=fun e h1 h2=>by rw [←hD] at h1 ⊢;exact sR h1 h2 hlt
  have hI0:((D j).2 !=0)=false:=by rw [hI];rfl
  rw [hI0,cond_false] at hs
  generalize u.getD j zX=x at*
  generalize v.getD j zX=y at*
  have hx:=fq hxj
  have hy:=fq hyj
  have d:=decide_eq_true (show (j:Int)<(u.length:Int) by omega)
  have g0:(0≤(j:Int))=True:=eq_true (by omega)
  have g1:(j<u.length)=True:=eq_true hlt
  have g2:(j<v.length)=True:=eq_true (by omega)
  have hw:=aZ (j:=j) (by omega)
  cases hM:(an (bf z false) z x y).2 !=0 with
  |true=>
   rw [hM,cond_true] at hs
   rw [hbad _ hs hM]
   simp (maxSteps:=10000000) only [go_sem,seval,reduceCtorEq,bv,ca,fe,d,g0,g1,g2,hw,hx,hy,hM]
   repeat' with_reducible first |apply And.intro |apply condP<;>intro _
   all_goals first |(show be _ _=true;kernel_rfl)|assumption |rfl |(simp only [go_sem, *]<;>rfl)
  |false=>
   rw [hM,cond_false] at hs
   cases hA:(an (eB z false) z (D j).1 (qx (an (bf z false) z x y).1)).2 !=0 with
   |true=>
    rw [hA,cond_true] at hs
    rw [hbad _ hs hA]
    simp (maxSteps:=10000000) only [go_sem,seval,reduceCtorEq,bv,ca,fe,d,g0,g1,g2,hw,hx,hy,hM,hA]
    repeat' with_reducible first |apply And.intro |apply condP<;>intro _
    all_goals first |(show be _ _=true;kernel_rfl)|assumption |rfl |(simp only [go_sem, *]<;>rfl)
   |false=>
    rw [hA,cond_false] at hs
    replace ih:=ih hlt (by rw [hs])
    simp (maxSteps:=10000000) only [go_sem,seval,reduceCtorEq,bv,ca,fe,d,g0,g1,g2,hw,hx,hy,hM,hA]
    repeat' with_reducible first |apply And.intro |apply condP<;>intro _
    all_goals first |(show be _ _=true;kernel_rfl)|(exact ih _ _ (by rw [hs];rfl))|assumption |rfl
 ·obtain rfl:j=u.length:=by omega
  have hfin:D u.length=((D u.length).1,0):=Prod.ext rfl hI
  rw [hfin]
  have d:decide ((u.length:Int)<(u.length:Int))=false:=decide_eq_false (by omega)
  simp (maxSteps:=10000000) only [go_sem,seval,reduceCtorEq,bv,ca,fe,d]
  repeat' with_reducible first |apply And.intro |apply condP<;>intro _
  all_goals first |(show be _ _=true;kernel_rfl)|assumption |rfl |(simp only [go_sem, *]<;>rfl)
noncomputable def jN:fR:=one 169 (gA ny fun u=>gA ny fun v=>gA kg fun z=>gE (v.length=u.length∧u.length≤1000,yk (aJ z u v)))
theorem lH:TbOK Tryz.prog jN:=fM (ew Tryz.func169 (by kernel_rfl) rfl) (.a fj fun u=>.a fj fun v=>.a iq fun z=>.e fun h=>Iv u v z h.1 h.2)
theorem zW (v u:List X) (z:Int) (hl:v.length=u.length) (h2:u.length≤1000) (h1:((aJ z u v).2 !=0)=true):Ct Tryz.prog 116 [eM v,eM u,iA z] (·=yk (zX,(aJ z u v).2)):=by
 have hl0:=eq_true hl
 have h20:=eq_true h2
 refine bF (O:=aD (dh jN ff)) (by kernel_rfl) az (fun w=>ao (av lH iZ) _ w) [] 600 39 [.cell 6 30,.tmp 7] Tryz.func116 rfl Tryz.ntmps116 (by rw [Tryz.results116]) (by simp) rfl (fun hsm=>?_)
 simp (maxSteps:=10000000) only [go_sem,seval,reduceCtorEq,bv,jN,ff,h1,hl0,h20,jY,iU,kZ,jh,hd1,pick,bD,go,iI,dE,gW,fx]
 repeat' with_reducible first |apply And.intro |apply condP<;>intro _
 all_goals first |(show be _ _=true;kernel_rfl)|assumption |rfl |(simp only [go_sem, *]<;>rfl)
theorem zY (v u:List X) (z:Int) (hl:v.length=u.length) (h2:u.length≤1000) (h1:((aJ z u v).2 !=0)=false) (h3:((aJ z u u).2 !=0)=true):Ct Tryz.prog 116 [eM v,eM u,iA z] (·=yk (zX,(aJ z u u).2)):=by
 have hl0:=eq_true hl
 have h20:=eq_true h2
 refine bF (O:=aD (dh jN ff)) (by kernel_rfl) az (fun w=>ao (av lH iZ) _ w) [] 600 39 [.cell 6 30,.tmp 7] Tryz.func116 rfl Tryz.ntmps116 (by rw [Tryz.results116]) (by simp) rfl (fun hsm=>?_)
 simp (maxSteps:=10000000) only [go_sem,seval,reduceCtorEq,bv,jN,ff,h1,h3,hl0,h20,jY,iU,kZ,jh,hd1,pick,bD,go,iI,dE,gW,fx]
 repeat' with_reducible first |apply And.intro |apply condP<;>intro _
 all_goals first |(show be _ _=true;kernel_rfl)|assumption |rfl |(simp only [go_sem, *]<;>rfl)
theorem zZ (v u:List X) (z:Int) (hl:v.length=u.length) (h2:u.length≤1000) (h1:((aJ z u v).2 !=0)=false) (h3:((aJ z u u).2 !=0)=false):Ct Tryz.prog 116 [eM v,eM u,iA z] (·=yk (qx (an (dq z false) z (aJ z u v).1 (aJ z u u).1).1,(an (dq z false) z (aJ z u v).1 (aJ z u u).1).2)):=by
 have hl0:=eq_true hl
 have h20:=eq_true h2
 refine bF (O:=aD (dh jN ff)) (by kernel_rfl) az (fun w=>ao (av lH iZ) _ w) [] 600 39 [.cell 6 30,.tmp 7] Tryz.func116 rfl Tryz.ntmps116 (by rw [Tryz.results116]) (by simp) rfl (fun hsm=>?_)
 simp (maxSteps:=10000000) only [go_sem,seval,reduceCtorEq,bv,jN,ff,h1,h3,hl0,h20,jY,iU,kZ,jh,hd1,pick,bD,go,iI,dE,gW,fx]
 repeat' with_reducible first |apply And.intro |apply condP<;>intro _
 all_goals first |(show be _ _=true;kernel_rfl)|assumption |rfl |(simp only [go_sem, *]<;>rfl)
theorem Iw (v u:List X) (z:Int) (hl:v.length=u.length) (h2:u.length≤1000):Ct Tryz.prog 116 [eM v,eM u,iA z] (·=yk (facS z v u)):=by
 unfold facS
 cases h1:(aJ z u v).2 !=0 with
 |true=>exact zW v u z hl h2 h1
 |false=>cases h3:(aJ z u u).2 !=0 with
  |true=>exact zY v u z hl h2 h1 h3
  |false=>exact zZ v u z hl h2 h1 h3
noncomputable def gS:fR:=one 116 (gA ny fun v=>gA ny fun u=>gA kg fun z=>gE (v.length=u.length∧u.length≤1000,yk (facS z v u)))
theorem oJ:TbOK Tryz.prog gS:=fM (ew Tryz.func116 (by kernel_rfl) rfl) (.a fj fun v=>.a fj fun u=>.a iq fun z=>.e fun h=>Iw v u z h.1 h.2)
end
section
attribute [local go_sem] run dX X.L J.L vL X.eta J.eta Q.eta List.cons_append List.nil_append iH dU dV bW bX da nc dA iE eq aG bj aL aR bi cL cQ cR cM inL aS bE dom fH kU nD evd okeys look dN di co cV lenOf fw jb qK jw qQ fv qf np qh qg nL pF eX jF eY jG bu nV keysOf aD ir jp jg olA olL ot nU mS nT dh jx one cT fi cu bq gG eO jf iO cH decide_true decide_false List.all_cons List.all_nil Bool.and_true Bool.and_self true_and and_true and_self List.length_cons List.length_nil List.drop_succ_cons List.drop_zero List.take_succ_cons List.take_zero List.getElem?_cons_zero List.getElem?_cons_succ List.map_cons List.map_nil false_implies true_implies Option.bind_some List.getElem?_toArray Bool.false_eq_true List.append_nil List.flatMap_cons List.flatMap_nil true_or or_true forall_const List.reverse_cons List.reverse_nil Option.isSome_some Option.any_some Nat.lt_irrefl not_true_eq_false Bool.not_true Bool.not_false imp_self implies_true Bool.not_eq_true' Bool.not_eq_false' Bool.true_eq_false fL jo lQ lV oq pR qo cO qw iJ fB sy Int.toNat_zero decide_eq_true_eq fW fX so sr BEq.rfl beq_self_eq_true Int.natCast_zero ge_iff_le gt_iff_lt Int.le_refl Nat.zero_mul Nat.one_mul Nat.zero_add Nat.zero_lt_succ Nat.lt_add_one Nat.le_refl List.append_eq Int.toNat_natCast gN pP pO gI ek kc gJ su sv ka ss cK cS cN cD pN fN okO je pT gH outPs ep outL fT rD aT aE aY aF bne_self_eq_false wr2 nM nN nO nP nQ nR gB gP nF nG nH gu cG bw cJ aN nE Lc.up pU List.replicate_succ List.replicate_zero List.flatten_cons List.flatten_nil Int.ofNat_lt Int.cast_ofNat_Int Int.ofNat_eq_natCast List.isEmpty_nil List.isEmpty_cons and_false false_and List.cons_ne_nil Nat.add_zero ite_true ite_false if_true if_false Nat.le_zero_eq eq_self Bool.and_false Bool.false_and Bool.true_and nY gA gE kg oO ip fF ed ef eA eg ite_self AV.s cond_true cond_false Bool.or_true Bool.true_or Bool.or_false Bool.false_or
attribute [local go_sem ↓] cond_true cond_false cw aW aX bI bJ bR bS aU aV bT bU bK bL bP bQ bG bH bM bN
attribute [local irreducible] be
abbrev Hf (x:List X×Int):AV:=.tup [(false,[.sl true 3 x.1.length (pC x.1)]),(false,[.lit (.int .i64 x.2)])]
theorem Eg (x:List X×Int):Hm (iU x) (Hf x):=by
 obtain ⟨l,e⟩:=x
 cases l with
 |nil=>exact sj (fun _ _ _ _ h=>zN h) rfl
 |cons a l=>exact sj (fun _ _ _ _ h=>h) rfl
theorem AE {l:List X} (h:1≤l.length):iU (l,0)=Hf (l,0):=by
 cases l with
 |nil=>exact absurd h (by simp)
 |cons a l=>rfl
theorem Cx (v u:List X) (z:Int) (hl:v.length=u.length) (h2:u.length≤1000) (he:((facS z v u).2 !=0)=true):Ct Tryz.prog 59 [eM v,eM u,iA z] (·=iU ([],(facS z v u).2)):=by
 have hl0:=eq_true hl
 have h20:=eq_true h2
 refine bF (O:=fB (eo 117 kf) (aD (dh gS (dh ca dH)))) (by kernel_rfl) az (fun w=>kx (uK w) (ao (av oJ (av ja lv)) _ w) (fun _ _ _=>fy fun _=>bZ (aK (by decide)) (bZ (aK (by decide)) (aK (by decide))))) [] 600 64 [.tmp 6,.tmp 7] Tryz.func59 rfl Tryz.ntmps59 (by rw [Tryz.results59]) (by simp) rfl (fun hsm=>?_)
 simp (maxSteps:=10000000) only [go_sem,seval,reduceCtorEq,bv,gS,ca,dH,he,hl0,h20,eo,kf,uA,uE,fV,jY,iU,kZ,jh,hd1,pick,bD,go,iI,dE,gW,fx]
 repeat' with_reducible first |apply And.intro |apply condP<;>intro _
 all_goals first |(show be _ _=true;kernel_rfl)|assumption |rfl |(simp only [go_sem, *]<;>rfl)
theorem Aa (v u:List X) (z:Int) (hl:v.length=u.length) (h1:1≤u.length) (h2:u.length≤1000) (he:((facS z v u).2 !=0)=false):Ct Tryz.prog 59 [eM v,eM u,iA z] (·=iU (eachN (fun i=>gy z (facS z v u).1 (u.getD i zX) (v.getD i zX)) u.length)):=by
 refine bF (O:=fB (eo 117 kf) (aD (dh gS (dh ca dH)))) (by kernel_rfl) az (fun w=>kx (uK w) (ao (av oJ (av ja lv)) _ w) (fun _ _ _=>fy fun _=>bZ (aK (by decide)) (bZ (aK (by decide)) (aK (by decide))))) [9999999,0,2,4,16,17,20,55,56,58,60] ((u.length+1)*700+400) 64 [.tmp 6,.tmp 7] Tryz.func59 rfl Tryz.ntmps59 (by rw [Tryz.results59]) (by simp) rfl (fun hsm=>?_)
 have hl0:(v.length=u.length)=True:=eq_true hl
 have h20:(u.length≤1000)=True:=eq_true h2
 have h10:(1≤v.length)=True:=eq_true (by omega)
 have h21:(v.length≤1000)=True:=eq_true (by omega)
 simp (maxSteps:=10000000) only [go_sem,seval,reduceCtorEq,bv,gS,ca,dH,eo,kf,uA,uE,fV,he,hl0,h20,h10,h21]
 generalize (facS z v u).1=c
 generalize hF0:(fun i=>gy z c (u.getD i zX) (v.getD i zX))=F
 have hFj:∀ j,F j=gy z c (u.getD j zX) (v.getD j zX):=fun j=>by rw [←hF0]
 generalize hE:eachN F=E
 refine aP 700 (fun j=>[(0,eM v),(2,eM u),(4,iA z),(16,.s (.own 8 0)),(17,.v true c.L),(20,.s (.ol 27 v.length)),(55,.pre 30 3 ((de (E j).1 v).flatMap X.L)),(56,eM u),(58,iA (u.length:Int)),(60,iA (j:Int))]) u.length (fun j=>(E j).2=0) 0 (fun j _=>by simp only [List.all_cons,List.all_nil,aS,bE,X.L,gL,Bool.and_true];rfl) (fun j mm _ hj hI ih=>?_) (by omega) (by rw [←hE];rfl) (by rw [←hE];rfl)
 have hI':(eachN F j).2=0:=by rw [hE];exact hI
 have hlen:(E j).1.length=j:=by rw [←hE];exact eK hI'
 have hml:((de (E j).1 v).flatMap X.L).length=v.length*3:=by rw [dJ,mt (by omega)]
 rcases Nat.lt_or_ge j u.length with hlt |hge
 ·have hxj:=ba zX hlt
  have hyj:=ba zX (show j<v.length by omega)
  have hFj:=hFj j
  generalize u.getD j zX=x at*
  generalize v.getD j zX=y at*
  have hx:=fq hxj
  have hm:=wj ((pd hlen).trans hyj)
  have hmo:=mw (de (E j).1 v)
  have hset:∀ y,List.take (j*3) ((de (E j).1 v).flatMap X.L)++[.lit (.bool y.s),.lit (.int .i64 y.e),.ws y.xs]++List.drop (j*3+3) ((de (E j).1 v).flatMap X.L)=(de ((E j).1++[y]) v).flatMap X.L:=fun y=>oo y hlen (by omega)
  have d:=decide_eq_true (show (j:Int)<(u.length:Int) by omega)
  have g0:(0≤(j:Int))=True:=eq_true (by omega)
  have g1:(j<u.length)=True:=eq_true hlt
  have g2:(j*3+3≤v.length*3)=True:=eq_true (by omega)
  have g4:(j<v.length)=True:=eq_true (by omega)
  have g3:((de (E j).1 v).flatMap X.L).all bu=true:=hmo
  have hw:=aZ (j:=j) (by omega)
  unfold gy at hFj
  cases hM:(an (bf z false) z c x).2 !=0 with
  |true=>
   rw [hM,cond_true] at hFj
   have hr:E u.length=([],(an (bf z false) z c x).2):=by
    rw [←hE,jt hI' (by rw [hFj];exact hM) hlt,hFj]
   rw [hr]
   simp (maxSteps:=10000000) only [go_sem,seval,reduceCtorEq,bv,gS,ca,dH,eo,kf,uA,uE,fV,d,g0,g1,g2,g4,hw,hx,hm,hml,hmo,g3,hM]
   repeat' with_reducible first |apply And.intro |apply condP<;>intro _
   all_goals first |(show be _ _=true;kernel_rfl)|assumption |rfl |(simp only [go_sem, *]<;>rfl)
  |false=>
   rw [hM,cond_false] at hFj
   cases hA:(an (jQ z false) z y (qx (an (bf z false) z c x).1)).2 !=0 with
   |true=>
    have hr:E u.length=([],(an (jQ z false) z y (qx (an (bf z false) z c x).1)).2):=by
     rw [←hE,jt hI' (by rw [hFj];exact hA) hlt,hFj]
    rw [hr]
    simp (maxSteps:=10000000) only [go_sem,seval,reduceCtorEq,bv,gS,ca,dH,eo,kf,uA,uE,fV,d,g0,g1,g2,g4,hw,hx,hm,hml,hmo,g3,hM,hA]
    repeat' with_reducible first |apply And.intro |apply condP<;>intro _
    all_goals first |(show be _ _=true;kernel_rfl)|assumption |rfl |(simp only [go_sem, *]<;>rfl)
   |false=>
    have hs:E (j+1)=((E j).1++[qx (an (jQ z false) z y (qx (an (bf z false) z c x).1)).1],0):=by
     rw [←hE,iu hI' (by rw [hFj];simpa using hA),hFj]
    replace ih:=ih hlt (by rw [hs])
    simp (maxSteps:=10000000) only [go_sem,seval,reduceCtorEq,bv,gS,ca,dH,eo,kf,uA,uE,fV,d,g0,g1,g2,g4,hw,hx,hm,hml,hmo,g3,hM,hA,hset]
    repeat' with_reducible first |apply And.intro |apply condP<;>intro _
    all_goals first |(show be _ _=true;kernel_rfl)|(exact ih _ _ (by rw [hs];rfl))|assumption |rfl
 ·obtain rfl:j=u.length:=by omega
  have hfin:iU (E u.length)= .tup [(false,[.sl true 3 v.length (pC (E u.length).1)]),(false,[.lit (.int .i64 0)])]:=by
   rw [show E u.length=((E u.length).1,0) from Prod.ext rfl hI,AE (by omega)]
   show AV.tup [(false,[.sl true 3 (E u.length).1.length (pC (E u.length).1)]),_]=_
   rw [hlen,hl]
  have hmf:de (E u.length).1 v=(E u.length).1:=kE (by omega)
  rw [hfin]
  rw [hmf] at hml
  have hd:=mu (E u.length).1
  have d:decide ((u.length:Int)<(u.length:Int))=false:=decide_eq_false (by omega)
  simp (maxSteps:=10000000) only [go_sem,seval,reduceCtorEq,bv,gS,ca,dH,eo,kf,uA,uE,fV,d,hmf,hml,hd]
  repeat' with_reducible first |apply And.intro |apply condP<;>intro _
  all_goals first |(show be _ _=true;kernel_rfl)|assumption |rfl |(simp only [go_sem, *]<;>rfl)
theorem IA (v u:List X) (z:Int) (hl:v.length=u.length) (h1:1≤u.length) (h2:u.length≤1000):Ct Tryz.prog 59 [eM v,eM u,iA z] (·=Hf (witS z v u)):=by
 refine Ct.wk ?_ (Eg _)
 unfold witS
 cases he:(facS z v u).2 !=0 with
 |true=>exact Cx v u z hl h2 he
 |false=>exact Aa v u z hl h1 h2 he
noncomputable def fD:fR:=one 59 (gA ny fun v=>gA ny fun u=>gA kg fun z=>gE (v.length=u.length∧1≤u.length∧u.length≤1000,Hf (witS z v u)))
theorem oL:TbOK Tryz.prog fD:=fM (ew Tryz.func59 (by kernel_rfl) rfl) (.a fj fun v=>.a fj fun u=>.a iq fun z=>.e fun h=>IA v u z h.1 h.2.1 h.2.2)
theorem Aw (w:World) (s:Bool) (e:Int) (A:Option Addr) (n c:Nat) (xs:List Nat) (hA:Arg w A n c xs) (hb:eP s e n xs=true) (h0:0<n):
  Calls Tryz.prog 122 #[.agg #[.bool s,.int .i64 e,.slice A n c]] w (oD w ((nbits (nval B64 xs):Int)+e)):=by
 have hlen:xs.length=n:=hA.1.1
 have hS:Small B64 xs:=hA.2
 obtain ⟨hl,hn64,h1,h2⟩:xs.getD (n - 1) 0≠0∧n≤64∧ -65536≤e∧e≤65536:=by
  unfold eP at hb
  rw [if_neg (by omega)] at hb
  simp only [Bool.and_eq_true,decide_eq_true_eq] at hb
  exact ⟨hb.1.1.1.1,hb.1.1.1.2,hb.1.2,hb.2⟩
 obtain ⟨k1,b1⟩:=ri w s e A n c
 have d1:=lw b1
 obtain ⟨ad,x,rfl,_,_,hx,hcx⟩:=(hA.step b1).1.get_ (j:=n - 1) (by omega)
 have hx:=hx.out
 have hxB:x<B64:=hS.get hx
 have hxl:xs.getD (n - 1) 0=x:=by rw [List.getD_eq_getElem?_getD,hx];rfl
 rw [hxl] at hl
 have hbx:nbits x≤64:=bh (show x<2^64 from hxB)
 have hN:nbits (nval B64 xs)=64*(n - 1)+nbits x:=by
  have hxs:digs B64 (nval B64 xs)=xs:=mU B64_two hS (fun u hu=>by rw [List.getLast?_eq_getElem?,hlen,hx] at hu;injection hu with hu;subst hu;exact hl)
  have:=lO B64_two dC (N:=nval B64 xs) (by rw [hxs];exact hlen) h0 (by rw [hxs];exact hx)
  omega
 rw [hN]
 have S0:(w.alloc (.cells #[.bool s,.int .i64 e,.slice (some ad) n c] 30)).cell? ⟨w.heap.size,1,none⟩=some (.int .i64 e)∧(w.alloc (.cells #[.bool s,.int .i64 e,.slice (some ad) n c] 30)).cell? ⟨w.heap.size,2,none⟩=some (.slice (some ad) n c)∧(w.alloc (.cells #[.bool s,.int .i64 e,.slice (some ad) n c] 30)).cell? (ad.add (n - 1))=some (.int .u64 (x:Int)):=⟨k1.c1,k1.c2,hcx⟩
 have D1:=Lib.hid d1
 have hn1:=db (n:Int) 1 (by omega) (by omega)
 have g0:((n:Int) - 1)=((n - 1:Nat):Int):=by omega
 have i3:((n:Int) - 1).toNat=n - 1:=by omega
 clear k1 b1 d1 hA hS hb hx hxl hl hN hlen hcx
 go_enter Tryz.func122,Tryz.ntmps122
 go_wp2_with fail
 have hm:n - 1<n:=by omega
 generalize n - 1=m at*
 have m1:IntKind.i64.wrap ((m:Int)*64)=(m:Int)*64:=by rw [IntKind.wrap_i64];omega
 have m2:=eL ((m:Int)*64) (nbits x:Int) (by omega) (by omega)
 have m3:=eL ((m:Int)*64+(nbits x:Int)) e (by omega) (by omega)
 go_region_held3 (fun w'=>w'.cell? ⟨w.heap.size,1,none⟩=some (.int .i64 e)∧w'.cell? ⟨w.heap.size,2,none⟩=some (.slice (some ad) n c)∧w'.cell? (ad.add m)=some (.int .u64 (x:Int)))
  (first |exact S0 |assumption |go_keep)
  (first |(go_at_call 173;refine (mX _ _ hxB).mono ?_;rintro _ w2 ⟨rfl,rfl⟩))
 all_goals
  go_wp2
  go_ret
  refine ⟨congrArg (fun z=>Ending.returned (Value.int IntKind.i64 z)) ?_,D1.out⟩
  omega
theorem Iy (x:X) (h:x.ok=true) (h0:0<x.xs.length):Ct Tryz.prog 122 [.v true x.L] (·=iA (cd x.q)):=GY rfl (fun w Ax cx _ hx _=>(Aw w x.s x.e Ax _ cx x.xs hx h h0).mono fun _ _ h=>vo h)
noncomputable def gl:fR:=one 122 (gA fF fun x=>gE (x.ok=true∧0<x.xs.length,iA (cd x.q)))
theorem uv:TbOK Tryz.prog gl:=fM (ew Tryz.func122 (by kernel_rfl) rfl) (.a oc fun x=>.e fun h=>Iy x h.1 h.2)
noncomputable def grN (v:List X):Nat→X
 |0=>zX
 |j+1=>bif decide (0<cmpx (qx (absx (v.getD j zX))) (grN v j)) then qx (absx (v.getD j zX)) else grN v j
noncomputable def kS (v:List X):Int:=IntKind.i64.wrap (0 - cd (grN v v.length).q)
noncomputable def scaS (v:List X):List X×Int:=bif dF (grN v v.length)==0 then ([],3) else
 eachN (fun i=>(qx (ar (v.getD i zX) (kS v)).1,(ar (v.getD i zX) (kS v)).2)) v.length
theorem FM (v:List X) (h1:1≤v.length) (h2:v.length≤1000) (hg:(dF (grN v v.length)==0)=false→(grN v v.length).ok=true∧0<(grN v v.length).xs.length):Ct Tryz.prog 60 [eM v] (·=iU (scaS v)):=by
 refine bF (O:=fB (eo 117 kf) (aD (dh eR (dh eS (dh dQ (dh gl dx)))))) (by kernel_rfl) az (fun w=>kx (uK w) (ao (av sE (av sF (av qY (av uv pV)))) _ w) (fun _ _ _=>fy fun _=>bZ (aK (by decide)) (bZ (aK (by decide)) (bZ (aK (by decide)) (bZ (aK (by decide)) (aK (by decide))))))) [9999999,0,8,9,28,30,32,16,18,71,72,74,76] ((v.length+1)*600+((v.length+1)*700+700)+300) 58 [.tmp 2,.tmp 3] Tryz.func60 rfl Tryz.ntmps60 (by rw [Tryz.results60]) (by simp) rfl (fun hsm=>?_)
 simp (maxSteps:=10000000) only [go_sem,seval,reduceCtorEq,bv,eR,eS,dQ,gl,dx,eo,kf,uA,uE,fV]
 generalize hG:grN v=G
 refine aP 600 (fun j=>[(0,eM v),(8,.s (.own 4 0)),(9,.v true (G j).L),(28,eM v),(30,iA (v.length:Int)),(32,iA (j:Int))]) v.length (fun _=>True) ((v.length+1)*700+700) (fun j _=>rfl) (fun j mm hmm hj _ ih=>?_) (by omega) trivial (by rw [←hG];rfl)
 rcases Nat.lt_or_ge j v.length with hlt |hge
 ·have hyj:=ba zX hlt
  have hs:G (j+1)=bif decide (0<cmpx (qx (absx (v.getD j zX))) (G j)) then qx (absx (v.getD j zX)) else G j:=by rw [←hG];rfl
  replace ih:=ih hlt trivial
  generalize v.getD j zX=y at*
  have hx:=fq hyj
  have d:=decide_eq_true (show (j:Int)<(v.length:Int) by omega)
  have g0:(0≤(j:Int))=True:=eq_true (by omega)
  have g1:(j<v.length)=True:=eq_true hlt
  have hw:=aZ (j:=j) (by omega)
  cases hC:decide (0<cmpx (qx (absx y)) (G j)) with
  |true=>
   rw [hC,cond_true] at hs
   simp (maxSteps:=10000000) only [go_sem,seval,reduceCtorEq,bv,eR,eS,dQ,gl,dx,eo,kf,uA,uE,fV,d,g0,g1,hw,hx,hC]
   repeat' with_reducible first |apply And.intro |apply condP<;>intro _
   all_goals first |(show be _ _=true;kernel_rfl)|(exact ih _ _ (by rw [hs];rfl))|assumption |rfl
  |false=>
   rw [hC,cond_false] at hs
   simp (maxSteps:=10000000) only [go_sem,seval,reduceCtorEq,bv,eR,eS,dQ,gl,dx,eo,kf,uA,uE,fV,d,g0,g1,hw,hx,hC]
   repeat' with_reducible first |apply And.intro |apply condP<;>intro _
   all_goals first |(show be _ _=true;kernel_rfl)|(exact ih _ _ (by rw [hs];rfl))|assumption |rfl
 ·obtain rfl:j=v.length:=by omega
  clear ih
  have hsc:scaS v=bif dF (G v.length)==0 then ([],3) else eachN (fun i=>(qx (ar (v.getD i zX) (kS v)).1,(ar (v.getD i zX) (kS v)).2)) v.length:=by rw [←hG];rfl
  rw [hsc]
  have hS0:dF (grN v v.length)=dF (G v.length):=by rw [hG]
  cases hS:dF (G v.length)==0 with
  |true=>
   have d:decide ((v.length:Int)<(v.length:Int))=false:=decide_eq_false (by omega)
   rw [cond_true]
   simp (maxSteps:=10000000) only [go_sem,seval,reduceCtorEq,bv,eR,eS,dQ,gl,dx,eo,kf,uA,uE,fV,d,hS]
   repeat' with_reducible first |apply And.intro |apply condP<;>intro _
   all_goals first |(show be _ _=true;kernel_rfl)|assumption |rfl |(simp only [go_sem, *]<;>rfl)
  |false=>
   rw [hS0] at hg
   rw [cond_false]
   generalize hk:kS v=k
   generalize hF0:(fun i=>(qx (ar (v.getD i zX) k).1,(ar (v.getD i zX) k).2))=F
   have hFj:∀ j,F j=(qx (ar (v.getD j zX) k).1,(ar (v.getD j zX) k).2):=fun j=>by rw [←hF0]
   have hkw:IntKind.i64.wrap (0 - cd (G v.length).q)=k:=by rw [←hk,←hG];rfl
   generalize hE:eachN F=E
   have d:decide ((v.length:Int)<(v.length:Int))=false:=decide_eq_false (by omega)
   have hk1:(G v.length).ok=true:=by rw [←hG];exact (hg hS).1
   have hk2:(0<(G v.length).xs.length)=True:=eq_true (by rw [←hG];exact (hg hS).2)
   have h10:(1≤v.length)=True:=eq_true h1
   have h20:(v.length≤1000)=True:=eq_true h2
   simp (maxSteps:=10000000) only [go_sem,seval,reduceCtorEq,bv,eR,eS,dQ,gl,dx,eo,kf,uA,uE,fV,d,hS,hk1,hk2,hkw,h10,h20]
   generalize G v.length=g
   refine aP 700 (fun j=>[(0,eM v),(8,.s (.own 4 0)),(9,.v true g.L),(28,eM v),(30,iA (v.length:Int)),(32,iA (v.length:Int)),(16,iA k),(18,.s (.ol 35 v.length)),(71,.pre 30 3 ((de (E j).1 v).flatMap X.L)),(72,.s (.ol 35 v.length)),(74,iA (v.length:Int)),(76,iA (j:Int))]) v.length (fun j=>(E j).2=0) 0 (fun j _=>by simp only [List.all_cons,List.all_nil,aS,bE,X.L,gL,Bool.and_true];rfl) (fun j m2 _ hj hI ih=>?_) (by omega) (by rw [←hE];rfl) (by rw [←hE];rfl)
   have hI':(eachN F j).2=0:=by rw [hE];exact hI
   have hlen:(E j).1.length=j:=by rw [←hE];exact eK hI'
   have hml:((de (E j).1 v).flatMap X.L).length=v.length*3:=by rw [dJ,mt (by omega)]
   rcases Nat.lt_or_ge j v.length with hlt |hge
   ·have hyj:=ba zX hlt
    have hFj:=hFj j
    generalize v.getD j zX=y at*
    have hm:=wj ((pd hlen).trans hyj)
    have g3:=mw (de (E j).1 v)
    have hset:∀ y,List.take (j*3) ((de (E j).1 v).flatMap X.L)++[.lit (.bool y.s),.lit (.int .i64 y.e),.ws y.xs]++List.drop (j*3+3) ((de (E j).1 v).flatMap X.L)=(de ((E j).1++[y]) v).flatMap X.L:=fun y=>oo y hlen hlt
    have d:=decide_eq_true (show (j:Int)<(v.length:Int) by omega)
    have g0:(0≤(j:Int))=True:=eq_true (by omega)
    have g1:(j<v.length)=True:=eq_true hlt
    have g2:(j*3+3≤v.length*3)=True:=eq_true (by omega)
    have hw:=aZ (j:=j) (by omega)
    cases hM:(ar y k).2 !=0 with
    |true=>
     have hr:E v.length=([],(ar y k).2):=by
      rw [←hE,jt hI' (by rw [hFj];exact hM) hlt,hFj]
     rw [hr]
     simp (maxSteps:=10000000) only [go_sem,seval,reduceCtorEq,bv,eR,eS,dQ,gl,dx,eo,kf,uA,uE,fV,d,g0,g1,g2,hw,hm,hml,g3,hM]
     repeat' with_reducible first |apply And.intro |apply condP<;>intro _
     all_goals first |(show be _ _=true;kernel_rfl)|assumption |rfl |(simp only [go_sem, *]<;>rfl)
    |false=>
     have hs:E (j+1)=((E j).1++[qx (ar y k).1],0):=by
      rw [←hE,iu hI' (by rw [hFj];simpa using hM),hFj]
     replace ih:=ih hlt (by rw [hs])
     simp (maxSteps:=10000000) only [go_sem,seval,reduceCtorEq,bv,eR,eS,dQ,gl,dx,eo,kf,uA,uE,fV,d,g0,g1,g2,hw,hm,hml,g3,hM,hset]
     repeat' with_reducible first |apply And.intro |apply condP<;>intro _
     all_goals first |(show be _ _=true;kernel_rfl)|(exact ih _ _ (by rw [hs];rfl))|assumption |rfl
   ·obtain rfl:j=v.length:=by omega
    have hfin:iU (E v.length)= .tup [(false,[.sl true 3 v.length (pC (E v.length).1)]),(false,[.lit (.int .i64 0)])]:=by
     rw [show E v.length=((E v.length).1,0) from Prod.ext rfl hI,AE (by omega)]
     show AV.tup [(false,[.sl true 3 (E v.length).1.length (pC (E v.length).1)]),_]=_
     rw [hlen]
    have hmf:de (E v.length).1 v=(E v.length).1:=kE (by omega)
    rw [hfin]
    rw [hmf] at hml
    have hd:=mu (E v.length).1
    have d:decide ((v.length:Int)<(v.length:Int))=false:=decide_eq_false (by omega)
    simp (maxSteps:=10000000) only [go_sem,seval,reduceCtorEq,bv,eR,eS,dQ,gl,dx,eo,kf,uA,uE,fV,d,hmf,hml,hd]
    repeat' with_reducible first |apply And.intro |apply condP<;>intro _
    all_goals first |(show be _ _=true;kernel_rfl)|assumption |rfl |(simp only [go_sem, *]<;>rfl)
theorem Ix (v:List X) (h1:1≤v.length) (h2:v.length≤1000) (hg:(dF (grN v v.length)==0)=false→(grN v v.length).ok=true∧0<(grN v v.length).xs.length):Ct Tryz.prog 60 [eM v] (·=Hf (scaS v)):=(FM v h1 h2 hg).wk (Eg _)
noncomputable def fC:fR:=one 60 (gA ny fun v=>gE (1≤v.length∧v.length≤1000∧((dF (grN v v.length)==0)=false→(grN v v.length).ok=true∧0<(grN v v.length).xs.length),Hf (scaS v)))
theorem oK:TbOK Tryz.prog fC:=fM (ew Tryz.func60 (by kernel_rfl) rfl) (.a fj fun v=>.e fun h=>Ix v h.1 h.2.1 h.2.2)
end
end Go.Proofs.YtpacpmmdjmnamaaGreatDoor
