/- Code on states, and a function's contract out of it. -/
import Derived.Test.YtpacpmmdjmnamaaGreatDoorYAiF
import Derived.Scope
namespace Go.Proofs.YtpacpmmdjmnamaaGreatDoor
open Go.RowKit Nx
set_option linter.unusedVariables false
set_option linter.unusedSimpArgs false
inductive It where
 |code (c:Code)
 |blk (id:Nat)
 |ops (ops:Array Oper) (l:List Oper) (rs:List (List Nat×List Nat)) (d:Bool)
 |brk (g:Nat)
 |lp (c:Code)
 |scp
 |exe (ops:Array Oper) (o:Oper) (l:List Oper) (rs:List (List Nat×List Nat)) (d:Bool)
def cH (id:Nat):List It→Option (List It)
 |[]=>none
 |.blk i::k=>if i=id then some k else cH id k
 |.code _::k=>cH id k
 |.lp _::k=>cH id k
 |.scp::k=>cH id k
 |_=>none
def iH (ops:Array Oper) (o:Oper) (k:List It):List It:=
 match o.guard,o.op with
 |some (j,_),.pick (.tmp t) _ _=>(match (ops[j]?).bind (·.dst) with
  |some g=>.brk (2*g)::.brk (2*t)::k
  |none=>.brk (2*t)::k)
 |some (j,_),_=>(match (ops[j]?).bind (·.dst) with
  |some g=>.brk (2*g)::k
  |none=>k)
 |none,.pick (.tmp t) _ _=>.brk (2*t)::k
 |none,_=>k
def vT (R:List It→St→Prop) (v:Option AV) (x y:Code) (k:List It) (st:St):Prop:=match v with
 |some (.v false [.lit (.bool b)])=>bif b then R (.code x::k) st else R (.code y::k) st
 |_=>False
def yM (R:List It→St→Prop) (v:Option AV) (g:Nat) (k:List It) (st:St):Prop:=match v with
 |some (.v false [.lit (.bool b)])=>bif b then R k ((g,.s (.lit (.bool true)))::st) else R k ((g,.s (.lit (.bool false)))::st)
 |_=>R k st
def Cc (R:List It→St→Prop) (N:Nat) (oe:Option Ef) (ops:Array Oper) (o:Oper) (l:List Oper) (rs:List (List Nat×List Nat)) (d:Bool) (k:List It) (st:St):Prop:=match oe with
 |some e=>nV N o=true∧e.1∧R (.ops ops l (keysOf e::rs) d::k) (e.2.2++st)
 |none=>False
def Cd (R:List It→St→Prop) (k:Option (List It)) (st:St):Prop:=match k with
 |some k=>R k st
 |none=>False
def bE (st:St):Lf→Bool
 |.own b _=>dom st b
 |.osl b _=>dom st b
 |.clo _ cs=>cs.all (dom st)
 |.ol b _=>(match look st (2*b+1) with
  |some (.pre _ _ _)=>true
  |_=>false)
 |.oe b _ _=>(match look st (2*b+1) with
  |some (.pre _ _ _)=>true
  |_=>false)
 |.ov b _ _ _=>(match look st (2*b+1) with
  |some (.pre _ _ _)=>true
  |_=>false)
 |_=>true
def aS (st:St):AV→Bool
 |.v _ ls=>ls.all (bE st)
 |.tup ps=>ps.all fun p=>p.2.all (bE st)
 |.pre _ _ ls=>ls.all (bE st)
def inL (ks:List Nat) (k:Nat):Bool:=match ks with
 |[]=>false
 |x::xs=>bif x==k then true else inL xs k
def bD (ks:List Nat):St→St
 |[]=>[]
 |(k,a)::st=>bif inL ks k then bD ks st else (k,a)::bD ks st
def pick:List Nat→St→St
 |[],_=>[]
 |k::ks,st=>match look st k with
  |some v=>(k,v)::pick ks st
  |none=>pick ks st
def fT:List Lf→Option (List Lc)
 |[]=>some []
 |.lit v::r=>(match fT r with
  |some k=>some (.lit v::k)
  |none=>none)
 |.ws v::r=>(match fT r with
  |some k=>some (.ws v::k)
  |none=>none)
 |.dg v::r=>(match fT r with
  |some k=>some (.dg v::k)
  |none=>none)
 |.sl true a b c::r=>(match fT r with
  |some k=>some (.sl a b c::k)
  |none=>none)
 |_::_=>none
def outL (st:St):Lf→Lf
 |.osl b n=>(match look st (2*b+1) with
  |some (.v true ls)=>(match fT ls with
   |some ls'=>if b<1000∧ls.length=n*(ls.length / n) then .sl true (ls.length / n) n ls' else .osl b n
   |none=>.osl b n)
  |_=>.osl b n)
 |.ol b k=>(match look st (2*b+1) with
  |some (.pre _ sz ls)=>(match fT ls with
   |some ls'=>if ls.length=k*sz then .sl true sz k ls' else .ol b k
   |none=>.ol b k)
  |_=>.ol b k)
 |.lit v=>.lit v
 |.own b o=>.own b o
 |.ws xs=>.ws xs
 |.dg N=>.dg N
 |.clo f cs=>.clo f cs
 |.sl f sz n ls=>.sl f sz n ls
 |.im ls=>.im ls
 |.oe b k o=>.oe b k o
 |.ov b k o n=>.ov b k o n
def iO:Lf→Bool
 |.own _ _=>false
 |.osl _ _=>false
 |.clo _ cs=>cs.isEmpty
 |.sl f _ _ _=>f
 |.im _=>false
 |.ol _ _=>false
 |.oe _ _ _=>false
 |.ov _ _ _ _=>false
 |_=>true
def fx (b:Nat) (st:St):Lf→Lf
 |.osl b' n=>bif b'==b then outL st (.osl b' n) else .osl b' n
 |.ol b' k=>bif b'==b then outL st (.ol b' k) else .ol b' k
 |.lit v=>.lit v
 |.own b o=>.own b o
 |.ws xs=>.ws xs
 |.dg N=>.dg N
 |.clo f cs=>.clo f cs
 |.sl f sz n ls=>.sl f sz n ls
 |.im ls=>.im ls
 |.oe b k o=>.oe b k o
 |.ov b k o n=>.ov b k o n
theorem eh {b b' n:Nat} {st:St}:fx b st (.osl b' n)=bif b'==b then outL st (.osl b' n) else .osl b' n:=rfl
theorem jc {b b' n:Nat} {st:St}:fx b st (.ol b' n)=bif b'==b then outL st (.ol b' n) else .ol b' n:=rfl
def gW (b:Nat) (st:St):AV→AV
 |.v g ls=>.v g (ls.map (fx b st))
 |.tup ps=>.tup (ps.map fun p=>(p.1,p.2.map (fx b st)))
 |.pre e sz ls=>.pre e sz (ls.map (fx b st))
def dE (b:Nat) (s0:St):St→St
 |[]=>[]
 |(k,a)::st=>bif k==2*b+1 then dE b s0 st else (k,gW b s0 a)::dE b s0 st
def iI (b:Nat) (st:St):St:=match look st (2*b+1) with
 |some (.v true ls)=>(match fT ls with
  |some _=>dE b st st
  |none=>st)
 |some (.pre _ _ ls)=>(match fT ls with
  |some _=>dE b st st
  |none=>st)
 |_=>st
def go:List Nat→St→St
 |[],st=>st
 |b::ks,st=>bif b==9999999 then pick ks st else iI b (go ks st)
def swp (d d' b:Nat):Nat:=bif b==d then d' else bif b==d' then d else b
def BD (d d' k:Nat):Nat:=bif k==2*d+1 then 2*d'+1 else bif k==2*d'+1 then 2*d+1 else k
def qO (d d':Nat):Lf→Lf
 |.ol b k=>.ol (swp d d' b) k
 |.oe b k o=>.oe (swp d d' b) k o
 |.ov b k o n=>.ov (swp d d' b) k o n
 |.osl b n=>.osl b n
 |.lit v=>.lit v
 |.own b o=>.own b o
 |.ws xs=>.ws xs
 |.dg N=>.dg N
 |.clo f cs=>.clo f cs
 |.sl f sz n ls=>.sl f sz n ls
 |.im ls=>.im ls
def Hd (d d':Nat):AV→AV
 |.v g ls=>.v g (ls.map (qO d d'))
 |.tup ps=>.tup (ps.map fun p=>(p.1,p.2.map (qO d d')))
 |.pre e sz ls=>.pre e sz (ls.map (qO d d'))
def tW (d d':Nat):St→St
 |[]=>[]
 |(k,a)::st=>(BD d d' k,Hd d d' a)::tW d d' st
def JE (d d':Nat) (st:St):St:=bif dom st d then st else bif dom st d' then st else tW d d' st
def Hb:List Nat→St→St
 |d::d'::ks,st=>JE d d' (go ks st)
 |_,st=>st
def hd1:List Nat→St→St
 |[],st=>st
 |x::ks,st=>bif x==9999999 then pick ks st else bif x==9999998 then go ks st else bif x==9999995 then Hb ks st else bD (x::ks) st
def ey:List Nat→St→St
 |g::n::ks,st=>bif (look st g).isSome then hd1 (ks.take n) st else hd1 (ks.drop n) st
 |_,st=>st
def Ig:List Nat→St→St
 |g::n::g'::n'::ks,st=>bif (look st g).isSome then hd1 (ks.take n) st else bif (look st g').isSome then hd1 ((ks.drop n).take n') st else hd1 ((ks.drop n).drop n') st
 |_,st=>st
def ke:Nat→List Nat→St→St
 |0,ks,st=>hd1 ks st
 |m+1,g::n::ks,st=>bif (look st g).isSome then hd1 (ks.take n) st else ke m (ks.drop n) st
 |_+1,_,st=>st
def kA:List Nat→St→St
 |m::ks,st=>ke m ks st
 |[],st=>st
def jh:List Nat→St→St
 |[],st=>st
 |x::ks,st=>bif x==9999997 then ey ks st else bif x==9999996 then Ig ks st else bif x==9999994 then kA ks st else hd1 (x::ks) st
def kZ (R:List It→St→Prop) (k:List It) (st:St):Prop:=(st.all fun p=>aS st p.2)=true∧R k st
section
variable (ty:TypeId→Option TI) (O:eJ) (N:Nat) (Post:St→Prop) (fg:List Nat)
def run:Nat→List It→St→Prop
 |0,_,_=>False
 |_+1,[],st=>Post st
 |n+1,.blk _::k,st=>run n k st
 |n+1,.scp::k,st=>run n k st
 |n+1,.code (.scope c)::k,st=>run n (.code c::.scp::k) st
 |n+1,.code (.label _)::k,st=>run n k st
 |n+1,.brk g::k,st=>yM (run n) (look st g) g k st
 |n+1,.exe ops o l rs d::k,st=>Cc (run n) N (nc ty O ops o st) ops o l rs d k st
 |n+1,.ops ops [] rs d::k,st=>(d=true→be ops rs.reverse=true)∧run n k st
 |n+1,.ops ops (o::l) rs d::k,st=>run n (iH ops o (.exe ops o l rs d::k)) st
 |n+1,.lp c::k,st=>kZ (run n) (.code c::.lp c::k) (jh fg st)
 |n+1,.code (.loop c)::k,st=>kZ (run n) (.code c::.lp c::k) (jh fg st)
 |n+1,.code .skip::k,st=>run n k st
 |n+1,.code (.seq a b)::k,st=>run n (.code a::.code b::k) st
 |n+1,.code (.region _ ops d)::k,st=>run n (.ops ops ops.toList [] d::k) st
 |n+1,.code (.cond c x y)::k,st=>vT (run n) (fH st c) x y k st
 |n+1,.code (.block id b)::k,st=>run n (.code b::.blk id::k) st
 |n+1,.code (.exit id)::k,st=>Cd (run n) (cH id k) st
 |_+1,.code .ret::_,st=>Post st
 |_+1,.code _::_,_=>False
end
section
variable {P:Program} {ty:TypeId→Option TI} {O:eJ} {N:Nat} {Post:St→Prop} {fg:List Nat}
theorem oQ {n g:Nat} {k:List It} {st:St} (h:run ty O N Post fg n (.brk g::k) st):∃ n' st',n'<n∧(∀ k,look st' k=look st k)∧run ty O N Post fg n' k st':=by
 cases n with
 |zero=>exact h.elim
 |succ n=>
  have h:yM (run ty O N Post fg n) (look st g) g k st:=h
  unfold yM at h
  split at h
  ·rename_i b hb
   have key:∀ b',b=b'→∀ k,look ((g,AV.s (.lit (.bool b')))::st) k=look st k:=fun b' e k=>by
    subst e
    by_cases e:k=g
    ·subst e;rw [aB,hb]
    ·rw [ai e]
   cases b with
   |true=>exact ⟨n,_,by omega,key true rfl,h⟩
   |false=>exact ⟨n,_,by omega,key false rfl,h⟩
  ·exact ⟨n,st,by omega,fun _=>rfl,h⟩
theorem BV {n:Nat} {ops:Array Oper} {o:Oper} {k:List It} {st:St} (h:run ty O N Post fg n (iH ops o k) st):∃ n' st',n'≤n∧(∀ k,look st' k=look st k)∧run ty O N Post fg n' k st':=by
 unfold iH at h
 split at h
 ·split at h
  ·obtain ⟨n1,s1,l1,e1,r1⟩:=oQ h
   obtain ⟨n2,s2,l2,e2,r2⟩:=oQ r1
   exact ⟨n2,s2,by omega,fun k=>(e2 k).trans (e1 k),r2⟩
  ·obtain ⟨n1,s1,l1,e1,r1⟩:=oQ h
   exact ⟨n1,s1,by omega,e1,r1⟩
 ·split at h
  ·obtain ⟨n1,s1,l1,e1,r1⟩:=oQ h
   exact ⟨n1,s1,by omega,e1,r1⟩
  ·exact ⟨n,st,Nat.le_refl _,fun _=>rfl,h⟩
 ·obtain ⟨n1,s1,l1,e1,r1⟩:=oQ h
  exact ⟨n1,s1,by omega,e1,r1⟩
 ·exact ⟨n,st,Nat.le_refl _,fun _=>rfl,h⟩
theorem AN {ops:Array Oper} {d:Bool}:∀ (l:List Oper) (n:Nat) (rs:List (List Nat×List Nat)) (k:List It) (st:St),run ty O N Post fg n (.ops ops l rs d::k) st→
  ∃ es st' n',n'<n∧Pth ty O ops l st es st'∧l.all (nV N)=true∧(d=true→be ops (rs.reverse++es.map keysOf)=true)∧run ty O N Post fg n' k st':=by
 intro l
 induction l with
 |nil=>
  intro n rs k st h
  cases n with
  |zero=>exact h.elim
  |succ n=>
   obtain ⟨h1,h2⟩:(d=true→be ops rs.reverse=true)∧run ty O N Post fg n k st:=h
   exact ⟨[],st,n,by omega,.nil (fun _=>rfl),rfl,by simpa using h1,h2⟩
 |cons o l ih=>
  intro n rs k st h
  cases n with
  |zero=>exact h.elim
  |succ n=>
   have h:run ty O N Post fg n (iH ops o (.exe ops o l rs d::k)) st:=h
   obtain ⟨n1,s1,l1,e1,r1⟩:=BV h
   cases n1 with
   |zero=>exact r1.elim
   |succ n1=>
    have r1:Cc (run ty O N Post fg n1) N (nc ty O ops o s1) ops o l rs d k s1:=r1
    unfold Cc at r1
    split at r1
    ·rename_i e he
     obtain ⟨c1,c2,c3⟩:=r1
     obtain ⟨es,st',n',l',hp,hD,hc,hr⟩:=ih n1 _ k _ c3
     refine ⟨e::es,st',n',by omega,.cons e1 he c2 hp,by rw [List.all_cons,c1,hD];rfl,fun hd=>?_,hr⟩
     have:=hc hd
     simpa using this
    ·exact r1.elim
theorem tk (ks:List Nat):∀ (st:St) (k:Nat),look (bD ks st) k=bif inL ks k then none else look st k:=by
 intro st k
 induction st with
 |nil=>unfold bD;cases inL ks k<;>rfl
 |cons p st ih=>
  obtain ⟨j,a⟩:=p
  unfold bD
  cases hj:inL ks j with
  |true=>
   rw [cond_true,ih]
   cases hk:inL ks k with
   |true=>rfl
   |false=>
    have:k≠j:=fun e=>by subst e;rw [hj] at hk;cases hk
    rw [cond_false,cond_false,ai this]
  |false=>
   rw [cond_false]
   by_cases e:k=j
   ·subst e;rw [aB,hj,cond_false,aB]
   ·rw [ai e,ih,ai e]
section
variable {ρ:Env} {D D':Nat→Bool} {w:World}
structure Fewer (ρ ρ':Env) (D:Nat→Bool) (st:St):Prop where
 r:ρ'.r=ρ.r
 z:ρ'.z=ρ.z
 gh:ρ'.gh=ρ.gh
 gv:ρ'.gv=ρ.gv
 dm:∀ b,dom st b=true→D b=true
 al:∀ b,ρ'.al b=true→ρ.al b=true
 pre:∀ b e sz ls,look st (2*b+1)=some (.pre e sz ls)→ρ'.al b=true
theorem Fewer.sep {ρ':Env} {st:St} (h:Fewer ρ ρ' D st) {g:Nat} (hg:Sep ρ D g):Sep ρ' (dom st) g:=⟨fun b hb=>by rw [h.r];exact hg.1 b (h.dm b hb),fun b hb=>by rw [h.gh];exact hg.2 b (h.al b hb)⟩
theorem Lf.R.dom {ρ':Env} {st:St} {l:Lf} {u:Value} (h:l.R ρ D w u) (hm:bE st l=true) (hs:Fewer ρ ρ' D st):l.R ρ' (dom st) w u:=by
 cases l with
 |own b o=>exact ⟨hm,by rw [hs.r];exact h.2⟩
 |osl b n=>exact ⟨hm,by rw [hs.r];exact h.2⟩
 |clo f cs=>exact ⟨fun b hb=>List.all_eq_true.1 hm b hb,by rw [hs.r];exact h.2⟩
 |sl f sz n ls=>exact Lc.R.mono (Keeps.refl _ _) (fun _ _ _ _ h=>⟨hs.sep h.1,fun e=>by rw [hs.z];exact h.2 e⟩) _ _ h
 |im ls=>exact ImR.mono h (Keeps.refl _ _) fun _ _ _ _ h=>hs.sep h
 |ol b k=>
  have hm:(match look st (2*b+1) with
   |some (.pre _ _ _)=>true
   |_=>false)=true:=hm
  split at hm
  ·rename_i e sz ls hl
   exact ⟨hs.pre b e sz ls hl,by rw [hs.gv];exact h.2.1,by rw [hs.gv,hs.gh];exact h.2.2.1,h.2.2.2⟩
  ·cases hm
 |oe b k o=>
  have hm:(match look st (2*b+1) with
   |some (.pre _ _ _)=>true
   |_=>false)=true:=hm
  split at hm
  ·rename_i e sz ls hl
   exact ⟨hs.pre b e sz ls hl,by rw [hs.gv];exact h.2.1,by rw [hs.gv,hs.gh];exact h.2.2.1,h.2.2.2⟩
  ·cases hm
 |ov b k o n=>
  have hm:(match look st (2*b+1) with
   |some (.pre _ _ _)=>true
   |_=>false)=true:=hm
  split at hm
  ·rename_i e sz ls hl
   exact ⟨hs.pre b e sz ls hl,by rw [hs.gv];exact h.2.1,by rw [hs.gv,hs.gh];exact h.2.2.1,h.2.2.2⟩
  ·cases hm
 |_=>exact h
theorem RL.dom {ρ':Env} {st:St} {ls:List Lf} {us:List Value} (h:RL ρ D w ls us) (hm:ls.all (bE st)=true) (hs:Fewer ρ ρ' D st):RL ρ' (dom st) w ls us:=by
 induction ls generalizing us with
 |nil=>exact h
 |cons l ls ih=>
  rw [List.all_cons,Bool.and_eq_true] at hm
  obtain ⟨u,r,e,h1,h2⟩:=h
  exact ⟨u,r,e,h1.dom hm.1 hs,ih h2 hm.2⟩
theorem VR.dom {ρ':Env} {st:St} {g:Bool} {ls:List Lf} {u:Value} (h:VR ρ D w g ls u) (hm:ls.all (bE st)=true) (hs:Fewer ρ ρ' D st):VR ρ' (dom st) w g ls u:=by
 cases g with
 |true=>obtain ⟨us,e,h1⟩:=h;exact ⟨us,e,h1.dom hm hs⟩
 |false=>exact RL.dom h hm hs
theorem RT.dom {ρ':Env} {st:St} {ps:List (Bool×List Lf)} {us:List Value} (h:RT ρ D w ps us) (hm:(ps.all fun p=>p.2.all (bE st))=true) (hs:Fewer ρ ρ' D st):RT ρ' (dom st) w ps us:=by
 induction ps generalizing us with
 |nil=>exact h
 |cons p ps ih=>
  rw [List.all_cons,Bool.and_eq_true] at hm
  obtain ⟨u,r,e,h1,h2⟩:=h;exact ⟨u,r,e,h1.dom hm.1 hs,ih h2 hm.2⟩
theorem AV.R.dom {ρ':Env} {st:St} {a:AV} {u:Value} (h:a.R ρ D w u) (hm:aS st a=true) (hs:Fewer ρ ρ' D st):a.R ρ' (dom st) w u:=by
 cases a with
 |v g ls=>exact VR.dom h hm hs
 |tup ps=>obtain ⟨us,e,h1⟩:=h;exact ⟨us,e,h1.dom hm hs⟩
 |pre _ _ _=>exact h
end
theorem tn:∀ {st:St} {k:Nat} {v:AV},look st k=some v→(k,v)∈st:=by
 intro st
 induction st with
 |nil=>intro k v h;cases h
 |cons p st ih=>
  intro k v h
  obtain ⟨j,a⟩:=p
  by_cases e:k=j
  ·subst e;rw [aB] at h;injection h with h;subst h;simp
  ·rw [ai e] at h;exact List.mem_cons_of_mem _ (ih h)
def nw (st:St) (b:Nat):Bool:=match look st (2*b+1) with
 |some (.pre _ _ _)=>true
 |_=>false
theorem Cz.sub {F:Nat→Prop} {w0 w:World} {N:Nat} {ρ:Env} {st st':St} {a:Act} (h:Cz F w0 N ρ st a w) (hl:∀ k v,look st' k=some v→look st k=some v) (hmm:∀ k v,look st' k=some v→aS st' v=true):Cz F w0 N {ρ with al:=nw st'} st' a w:=by
 have hd:∀ b,dom st' b=true→dom st b=true:=fun b hb=>by
  obtain ⟨g,ls,hv⟩:=kw hb
  unfold dom;rw [hl _ _ hv]
 have hp:∀ b,nw st' b=true→∃ e sz ls,look st' (2*b+1)=some (.pre e sz ls):=fun b hb=>by
  unfold nw at hb
  split at hb
  ·rename_i e sz ls hv;exact ⟨e,sz,ls,hv⟩
  ·cases hb
 have ha:∀ b,nw st' b=true→ρ.al b=true:=fun b hb=>by
  obtain ⟨e,sz,ls,hv⟩:=hp b hb
  exact (h.gc b e sz ls (hl _ _ hv)).1
 have hs:Fewer ρ {ρ with al:=nw st'} (dom st) st':=⟨rfl,rfl,rfl,rfl,hd,ha,fun b e sz ls hv=>by show nw st' b=true;unfold nw;rw [hv]⟩
 refine ⟨h.tb,h.bel,h.sz,h.df,fun t v hv=>?_,fun b v hv hne=>?_,fun b b' h1 h2=>h.inj b b' (hd b h1) (hd b' h2),h.zz,hp,fun b e sz ls hv=>?_,fun b b' g h1 h2=>h.gi b b' g (ha b h1) (ha b' h2),fun b b' h1 h2=>h.gd b b' (ha b h1) (hd b' h2)⟩
 ·obtain ⟨u,hu,hr⟩:=h.sl t v (hl _ _ hv)
  exact ⟨u,hu,hr.dom (hmm _ _ hv) hs⟩
 ·obtain ⟨g,ls,T,cs,e,hB,hr,ho,hg⟩:=h.mm b v (hl _ _ hv) hne
  subst e
  exact ⟨g,ls,T,cs,rfl,hB,hr.dom (hmm _ _ hv) hs,ho,hg⟩
 ·obtain ⟨h1,h2,h3,h4,us,h5,h6⟩:=h.gc b e sz ls (hl _ _ hv)
  exact ⟨by show nw st' b=true;unfold nw;rw [hv],h2,h3,h4,us,h5,h6.dom (hmm _ _ hv) hs⟩
section
variable {ρ:Env} {D:Nat→Bool} {w:World}
theorem vV:∀ {ls:List Lf} {ks:List Lc},fT ls=some ks→ks.length=ls.length:=by
 intro ls
 induction ls with
 |nil=>intro ks h;injection h with h;subst h;rfl
 |cons l ls ih=>
  intro ks h
  have key:∀ (c:Lc),(match fT ls with
   |some k=>some (c::k)
   |none=>none)=some ks→ks.length=(l::ls).length:=fun c h=>by
   split at h
   ·rename_i k hk;injection h with h;subst h;simp [ih hk]
   ·cases h
  cases l with
  |lit v=>exact key (.lit v) h
  |ws v=>exact key (.ws v) h
  |dg v=>exact key (.dg v) h
  |sl f a b c=>
   cases f with
   |false=>cases h
   |true=>exact key (.sl a b c) h
  |_=>cases h
theorem DM {S:Nat→Prop} (hS:∀ g,Sep ρ D g→ρ.z≤g→S g):∀ {ls:List Lf} {ks:List Lc} {us:List Value},fT ls=some ks→RL ρ D w ls us→LcL S w ks us:=by
 intro ls
 induction ls with
 |nil=>intro ks us h hR;injection h with h;subst h;exact hR
 |cons l ls ih=>
  intro ks us h hR
  obtain ⟨u,r,e,h1,h2⟩:=hR
  cases l with
  |lit v=>
   unfold fT at h
   split at h
   ·rename_i k hk;injection h with h;subst h;exact ⟨u,r,e,h1,ih hk h2⟩
   ·cases h
  |ws v=>
   unfold fT at h
   split at h
   ·rename_i k hk;injection h with h;subst h;exact ⟨u,r,e,h1,ih hk h2⟩
   ·cases h
  |dg v=>
   unfold fT at h
   split at h
   ·rename_i k hk;injection h with h;subst h;exact ⟨u,r,e,h1,ih hk h2⟩
   ·cases h
  |sl f a b c=>
   cases f with
   |false=>cases h
   |true=>
    unfold fT at h
    split at h
    ·rename_i k hk;injection h with h;subst h
     exact ⟨u,r,e,Lc.R.mono (Keeps.refl _ _) (fun g _ _ _ h=>hS g h.1 (h.2 rfl)) _ _ h1,ih hk h2⟩
    ·cases h
  |_=>cases h
end
section
variable {F:Nat→Prop} {w0 w:World} {N:Nat} {ρ ρ':Env} {D':Nat→Bool} {st:St} {a:Act}
theorem Az (h:Cz F w0 N ρ st a w) (hS:∀ g,Sep ρ (dom st) g→ρ.z≤g→SepF true ρ' D' g) {b n:Nat} {u:Value} (hb:w0.heap.size≤ρ b→dom st b=true→SepF true ρ' D' (ρ b)) (hR:(Lf.osl b n).R ρ (dom st) w u) (hc:iO (outL st (.osl b n))=true):(outL st (.osl b n)).R ρ' D' w u:=by
 have hq:(∃ ls ks,look st (2*b+1)=some (.v true ls)∧fT ls=some ks∧(b<1000∧ls.length=n*(ls.length / n))∧outL st (.osl b n)= .sl true (ls.length / n) n ks)∨outL st (.osl b n)= .osl b n:=by
  simp only [outL]
  split
  ·rename_i ls hl
   split
   ·rename_i ks hk
    split
    ·rename_i hn;exact .inl ⟨ls,ks,hl,hk,hn,rfl⟩
    ·exact .inr rfl
   ·exact .inr rfl
  ·exact .inr rfl
 rcases hq with ⟨ls,ks,hl,hk,hn,e⟩|e
 case inr=>rw [e] at hc;cases hc
 rw [e]
 obtain ⟨hdb,hu⟩:=hR
 obtain ⟨g0,ls0,T,cs,e0,hB,hr0,ho0,hg⟩:=h.mv hl
 injection e0 with e1 e0;subst e0
 have hlen:=hr0.len
 rw [Array.length_toList] at hlen
 have hkl:=vV hk
 have hge:w0.heap.size≤ρ b:=by
  rcases hg e1.symm with h1 |h1
  ·exact h1.2
  ·omega
 refine ⟨by rw [hkl];exact hn.2,_,n,hu,Nat.le_refl _,.inr ⟨⟨ρ b,0,none⟩,T,cs,rfl,rfl,hb hge hdb,hB.wb,?_,?_⟩⟩
 ·show 0+ks.length≤cs.size;omega
 ·show LcL _ w ks ((cs.toList.drop 0).take ks.length)
  rw [List.drop_zero,List.take_of_length_le (by rw [Array.length_toList];omega)]
  exact DM hS hk hr0
theorem Ay (h:Cz F w0 N ρ st a w) (hS:∀ g,Sep ρ (dom st) g→ρ.z≤g→SepF true ρ' D' g) {b k:Nat} {u:Value} (hb:∀ g,(ρ.gh b).ownBlock=some g→ρ.al b=true→w0.heap.size≤g→SepF true ρ' D' g) (hR:(Lf.ol b k).R ρ (dom st) w u) (hc:iO (outL st (.ol b k))=true):(outL st (.ol b k)).R ρ' D' w u:=by
 have hq:(∃ e sz ls ks,look st (2*b+1)=some (.pre e sz ls)∧fT ls=some ks∧ls.length=k*sz∧outL st (.ol b k)= .sl true sz k ks)∨outL st (.ol b k)= .ol b k:=by
  simp only [outL]
  split
  ·rename_i e sz ls hl
   split
   ·rename_i ks hk
    split
    ·rename_i hn;exact .inl ⟨e,sz,ls,ks,hl,hk,hn,rfl⟩
    ·exact .inr rfl
   ·exact .inr rfl
  ·exact .inr rfl
 rcases hq with ⟨e,sz,ls,ks,hl,hk,hn,e'⟩|e
 case inr=>rw [e] at hc;cases hc
 rw [e']
 obtain ⟨hal,hgk,hk0,hsz,hok,hdm,g,cap,cur,us,hgh,hob,hbg,⟨T0,hB⟩,hkc,hcm,hcs,htk,hul,hcok,hRl⟩:=h.cur hl hn
 obtain ⟨_,_,hu,_⟩:=hR
 have hu:=(hu hgk.symm).trans hgh
 have hkl:=vV hk
 have hcl:k*sz≤cur.size:=by rw [hcs];exact Nat.mul_le_mul_right _ hkc
 refine ⟨by rw [hkl];exact hn,_,cap,hu,hkc,.inr ⟨⟨g,0,none⟩,T0,cur,rfl,rfl,hb g hob hal hbg,hB.wb,?_,?_⟩⟩
 ·show 0+ks.length≤cur.size;omega
 ·show LcL _ w ks ((cur.toList.drop 0).take ks.length)
  rw [List.drop_zero,hkl,hn,htk]
  exact DM hS hk hRl
end
theorem look_pick:∀ (ks:List Nat) (st:St) (k:Nat) (v:AV),look (pick ks st) k=some v→look st k=some v:=by
 intro ks
 induction ks with
 |nil=>intro st k v h;cases h
 |cons x ks ih=>
  intro st k v h
  unfold pick at h
  split at h
  ·rename_i y hy
   by_cases e:k=x
   ·subst e;rw [aB] at h;rw [hy];exact h
   ·rw [ai e] at h;exact ih st k v h
  ·exact ih st k v h
section
variable {F:Nat→Prop} {w0 w:World} {N:Nat} {ρ:Env} {st:St} {a:Act}
theorem outO_or (st:St) (b n:Nat):(∃ sz ks,outL st (.osl b n)= .sl true sz n ks)∨outL st (.osl b n)= .osl b n:=by
 simp only [outL]
 repeat' split
 all_goals first |exact .inr rfl |exact .inl ⟨_,_,rfl⟩
theorem outA_or (st:St) (b k:Nat):(∃ sz ks,outL st (.ol b k)= .sl true sz k ks)∨outL st (.ol b k)= .ol b k:=by
 simp only [outL]
 repeat' split
 all_goals first |exact .inr rfl |exact .inl ⟨_,_,rfl⟩
theorem Fl {b:Nat} {st:St} {l:Lf} (h:bu l=true):bu (fx b st l)=true:=by
 cases l with
 |osl b' n=>
  rw [eh]
  cases b'==b with
  |false=>rfl
  |true=>rw [cond_true];rcases outO_or st b' n with ⟨_,_,e⟩|e<;>rw [e]<;>rfl
 |ol b' n=>
  rw [jc]
  cases b'==b with
  |false=>rfl
  |true=>rw [cond_true];rcases outA_or st b' n with ⟨_,_,e⟩|e<;>rw [e]<;>rfl
 |_=>exact h
theorem vZ {b:Nat} {st:St} {ls:List Lf} (h:ls.all bu=true):(ls.map (fx b st)).all bu=true:=by
 rw [List.all_map]
 exact List.all_eq_true.2 fun l hl=>Fl (List.all_eq_true.1 h l hl)
theorem tl (b:Nat) (s0:St):∀ (st:St) (k:Nat),look (dE b s0 st) k=bif k==2*b+1 then none else (look st k).map (gW b s0):=by
 intro st k
 induction st with
 |nil=>unfold dE;cases k==2*b+1<;>rfl
 |cons p st ih=>
  obtain ⟨j,a⟩:=p
  unfold dE
  cases hj:j==2*b+1 with
  |true=>
   rw [cond_true,ih]
   cases hk:k==2*b+1 with
   |true=>rfl
   |false=>
    have:k≠j:=fun e=>by subst e;rw [hj] at hk;cases hk
    rw [cond_false,cond_false,ai this]
  |false=>
   rw [cond_false]
   by_cases e:k=j
   ·subst e;rw [aB,aB,hj];rfl
   ·rw [ai e,ai e,ih]
theorem mf {b:Nat} {st:St} {k:Nat} {v':AV} (hv:look (dE b st st) k=some v'):k≠2*b+1∧∃ v,look st k=some v∧v'=gW b st v:=by
 rw [tl] at hv
 cases hk:k==2*b+1 with
 |true=>rw [hk] at hv;cases hv
 |false=>
  rw [hk,cond_false] at hv
  cases hl:look st k with
  |none=>rw [hl] at hv;cases hv
  |some v=>rw [hl] at hv;injection hv with hv;exact ⟨by simpa using hk,v,rfl,hv.symm⟩
theorem fb {b x:Nat} {st:St} (hx:dom (dE b st st) x=true):dom st x=true∧x≠b:=by
 obtain ⟨g,ls,hv⟩:=kw hx
 obtain ⟨h1,v,h2,h3⟩:=mf hv
 refine ⟨?_,fun e=>h1 (by rw [e])⟩
 cases v with
 |v g' ls'=>unfold dom;rw [h2]
 |tup _=>cases h3
 |pre _ _ _=>cases h3
theorem oj {b x:Nat} {st:St} {e:TypeId} {sz:Nat} {ls:List Lf} (hv:look (dE b st st) (2*x+1)=some (.pre e sz ls)):x≠b∧∃ ls',look st (2*x+1)=some (.pre e sz ls')∧ls=ls'.map (fx b st):=by
 obtain ⟨h1,v,h2,h3⟩:=mf hv
 refine ⟨fun e=>h1 (by rw [e]),?_⟩
 cases v with
 |pre e' sz' ls'=>injection h3 with e1 e2 e3;subst e1;subst e2;exact ⟨ls',h2,e3⟩
 |tup _=>cases h3
 |v _ _=>cases h3
theorem Cz.fS (h:Cz F w0 N ρ st a w) (b:Nat) (hmm:∀ k v,look (dE b st st) k=some v→aS (dE b st st) v=true):Cz F w0 N {ρ with al:=nw (dE b st st)} (dE b st st) a w:=by
 have hp:∀ x,nw (dE b st st) x=true→∃ e sz ls,look (dE b st st) (2*x+1)=some (.pre e sz ls):=fun x hx=>by
  unfold nw at hx
  split at hx
  ·rename_i e sz ls hv;exact ⟨e,sz,ls,hv⟩
  ·cases hx
 have ha:∀ x,nw (dE b st st) x=true→ρ.al x=true∧x≠b:=fun x hx=>by
  obtain ⟨e,sz,ls,hv⟩:=hp x hx
  obtain ⟨h1,ls',h2,_⟩:=oj hv
  exact ⟨(h.gc x e sz ls' h2).1,h1⟩
 have hs:Fewer ρ {ρ with al:=nw (dE b st st)} (dom st) (dE b st st):=⟨rfl,rfl,rfl,rfl,fun x hx=>(fb hx).1,fun x hx=>(ha x hx).1,fun x e sz ls hv=>by show nw _ x=true;unfold nw;rw [hv]⟩
 have hS:∀ g,Sep ρ (dom st) g→ρ.z≤g→SepF true {ρ with al:=nw (dE b st st)} (dom (dE b st st)) g:=fun g hg hz=>⟨hs.sep hg,fun _=>hz⟩
 have leaf:∀ l u,l.R ρ (dom st) w u→bE (dE b st st) (fx b st l)=true→(fx b st l).R {ρ with al:=nw (dE b st st)} (dom (dE b st st)) w u:=fun l u hR hm=>by
  cases l with
  |osl b' n=>
   rw [eh] at hm ⊢
   cases hb:b'==b with
   |false=>rw [hb,cond_false] at hm;rw [cond_false];exact hR.dom hm hs
   |true=>
    rw [hb,cond_true] at hm
    rw [cond_true]
    have e:b'=b:=by simpa using hb
    subst e
    rcases outO_or st b' n with ⟨sz,ks,e⟩|e
    ·refine Az h hS (fun hg hdb=>⟨⟨fun x hx e'=>(fb hx).2 (h.inj x b' (fb hx).1 hdb e'),fun x hx e'=>h.gd x b' (ha x hx).1 hdb e'⟩,fun _=>?_⟩) hR (by rw [e];rfl)
     show ρ.z≤ρ b';rw [h.zz];exact hg
    ·rw [e] at hm;exact absurd rfl (fb hm).2
  |ol b' n=>
   rw [jc] at hm ⊢
   cases hb:b'==b with
   |false=>rw [hb,cond_false] at hm;rw [cond_false];exact hR.dom hm hs
   |true=>
    rw [hb,cond_true] at hm
    rw [cond_true]
    have e:b'=b:=by simpa using hb
    subst e
    rcases outA_or st b' n with ⟨sz,ks,e⟩|e
    ·refine Ay h hS (fun g hg hal hge=>⟨⟨fun x hx e'=>h.gd b' x hal (fb hx).1 (by rw [hg,←e']),fun x hx e'=>(ha x hx).2 (h.gi x b' g (ha x hx).1 hal e' hg)⟩,fun _=>?_⟩) hR (by rw [e];rfl)
     show ρ.z≤g;rw [h.zz];exact hge
    ·rw [e] at hm
     have hm:(match look (dE b' st st) (2*b'+1) with
      |some (.pre _ _ _)=>true
      |_=>false)=true:=hm
     split at hm
     ·rename_i hl;exact absurd rfl (oj hl).1
     ·cases hm
  |_=>exact hR.dom hm hs
 have rl:∀ (ls:List Lf) (us:List Value),RL ρ (dom st) w ls us→(ls.map (fx b st)).all (bE (dE b st st))=true→RL {ρ with al:=nw (dE b st st)} (dom (dE b st st)) w (ls.map (fx b st)) us:=fun ls=>by
  induction ls with
  |nil=>intro us h _;exact h
  |cons l ls ih=>
   intro us h hm
   obtain ⟨u,r,e,h1,h2⟩:=h
   rw [List.map_cons,List.all_cons,Bool.and_eq_true] at hm
   exact ⟨u,r,e,leaf l u h1 hm.1,ih r h2 hm.2⟩
 have vr:∀ (g:Bool) (ls:List Lf) (u:Value),VR ρ (dom st) w g ls u→(ls.map (fx b st)).all (bE (dE b st st))=true→VR {ρ with al:=nw (dE b st st)} (dom (dE b st st)) w g (ls.map (fx b st)) u:=fun g ls u h hm=>by
  cases g with
  |true=>obtain ⟨us,e,h1⟩:=h;exact ⟨us,e,rl ls us h1 hm⟩
  |false=>exact rl ls [u] h hm
 have rt:∀ (ps:List (Bool×List Lf)) (us:List Value),RT ρ (dom st) w ps us→((ps.map fun p=>(p.1,p.2.map (fx b st))).all fun p=>p.2.all (bE (dE b st st)))=true→RT {ρ with al:=nw (dE b st st)} (dom (dE b st st)) w (ps.map fun p=>(p.1,p.2.map (fx b st))) us:=fun ps=>by
  induction ps with
  |nil=>intro us h _;exact h
  |cons p ps ih=>
   intro us h hm
   obtain ⟨u,r,e,h1,h2⟩:=h
   rw [List.map_cons,List.all_cons,Bool.and_eq_true] at hm
   exact ⟨u,r,e,vr p.1 p.2 u h1 hm.1,ih r h2 hm.2⟩
 have va:∀ (v:AV) (u:Value),v.R ρ (dom st) w u→aS (dE b st st) (gW b st v)=true→(gW b st v).R {ρ with al:=nw (dE b st st)} (dom (dE b st st)) w u:=fun v u h hm=>by
  cases v with
  |v g ls=>exact vr g ls u h hm
  |tup ps=>obtain ⟨us,e,h1⟩:=h;exact ⟨us,e,rt ps us h1 hm⟩
  |pre _ _ _=>exact h
 refine ⟨h.tb,h.bel,h.sz,h.df,fun t v hv=>?_,fun x v hv hne=>?_,fun x x' h1 h2=>h.inj x x' (fb h1).1 (fb h2).1,h.zz,hp,fun x e sz ls hv=>?_,fun x x' g h1 h2=>h.gi x x' g (ha x h1).1 (ha x' h2).1,fun x x' h1 h2=>h.gd x x' (ha x h1).1 (fb h2).1⟩
 ·obtain ⟨_,v0,h2,rfl⟩:=mf hv
  obtain ⟨u,hu,hr⟩:=h.sl t v0 h2
  exact ⟨u,hu,va v0 u hr (hmm _ _ hv)⟩
 ·obtain ⟨_,v0,h2,rfl⟩:=mf hv
  obtain ⟨g,ls,T,cs,e,hB,hr,ho,hg⟩:=h.mm x v0 h2 (fun e sz ls e'=>by subst e';exact hne _ _ _ rfl)
  subst e
  exact ⟨g,_,T,cs,rfl,hB,rl ls _ hr (hmm _ _ hv),vZ ho,hg⟩
 ·obtain ⟨_,ls',h2,rfl⟩:=oj hv
  obtain ⟨h1,h2',h3,h4,us,h5,h6⟩:=h.gc x _ _ ls' h2
  exact ⟨by show nw _ x=true;unfold nw;rw [hv],h2',h3,vZ h4,us,h5,rl ls' us h6 (hmm _ _ hv)⟩
theorem xt {b:Nat} {st:St} {l:Lf} (h:bE (dE b st st) (fx b st l)=true):bE st l=true:=by
 have hpre:∀ x,(match look (dE b st st) (2*x+1) with
   |some (.pre _ _ _)=>true
   |_=>false)=true→(match look st (2*x+1) with
   |some (.pre _ _ _)=>true
   |_=>false)=true:=fun x hx=>by
  split at hx
  ·rename_i hl
   obtain ⟨_,ls',h2,_⟩:=oj hl
   rw [h2]
  ·cases hx
 cases l with
 |own b' o=>exact (fb h).1
 |clo f cs=>exact List.all_eq_true.2 fun x hx=>(fb (List.all_eq_true.1 h x hx)).1
 |oe b' k o=>exact hpre b' h
 |ov b' k o n=>exact hpre b' h
 |osl b' n=>
  rw [eh] at h
  cases hb:b'==b with
  |false=>rw [hb,cond_false] at h;exact (fb h).1
  |true=>
   rw [hb,cond_true] at h
   rcases outO_or st b' n with ⟨sz,ks,e⟩|e
   ·simp only [outL] at e
    split at e
    ·rename_i ls hl;show dom st b'=true;unfold dom;rw [hl]
    ·cases e
   ·rw [e] at h;exact (fb h).1
 |ol b' n=>
  rw [jc] at h
  cases hb:b'==b with
  |false=>rw [hb,cond_false] at h;exact hpre b' h
  |true=>
   rw [hb,cond_true] at h
   rcases outA_or st b' n with ⟨sz,ks,e⟩|e
   ·simp only [outL] at e
    split at e
    ·rename_i hl
     show (match look st (2*b'+1) with
      |some (.pre _ _ _)=>true
      |_=>false)=true
     rw [hl]
    ·cases e
   ·rw [e] at h;exact hpre b' h
 |_=>rfl
theorem sQ {st:St}:∀ {ls:List Lf} {ks:List Lc},fT ls=some ks→ls.all (bE st)=true:=by
 intro ls
 induction ls with
 |nil=>intro ks _;rfl
 |cons l ls ih=>
  intro ks h
  cases l with
  |sl f a b c=>
   cases f with
   |false=>cases h
   |true=>
    unfold fT at h
    split at h
    ·rename_i k hk;rw [List.all_cons,ih hk];rfl
    ·cases h
  |lit v=>
   unfold fT at h
   split at h
   ·rename_i k hk;rw [List.all_cons,ih hk];rfl
   ·cases h
  |ws v=>
   unfold fT at h
   split at h
   ·rename_i k hk;rw [List.all_cons,ih hk];rfl
   ·cases h
  |dg v=>
   unfold fT at h
   split at h
   ·rename_i k hk;rw [List.all_cons,ih hk];rfl
   ·cases h
  |_=>cases h
theorem pc {b:Nat} {st:St} {v0:AV} (hc:look st (2*b+1)=some v0) (h0:aS st v0=true) (hmm:∀ k v,look (dE b st st) k=some v→aS (dE b st st) v=true) (k:Nat) (v:AV) (hv:look st k=some v):aS st v=true:=by
 by_cases e:k=2*b+1
 ·subst e;rw [hc] at hv;injection hv with hv;subst hv;exact h0
 ·have h1:look (dE b st st) k=some (gW b st v):=by
   rw [tl,hv,beq_false_of_ne e];rfl
  have h2:=hmm _ _ h1
  have back:∀ ls:List Lf,(ls.map (fx b st)).all (bE (dE b st st))=true→ls.all (bE st)=true:=fun ls h=>by
   rw [List.all_map] at h
   exact List.all_eq_true.2 fun l hl=>xt (List.all_eq_true.1 h l hl)
  cases v with
  |v g ls=>exact back ls h2
  |pre e sz ls=>exact back ls h2
  |tup ps=>
   have h2:((ps.map fun p=>(p.1,p.2.map (fx b st))).all fun p=>p.2.all (bE (dE b st st)))=true:=h2
   rw [List.all_map] at h2
   exact List.all_eq_true.2 fun p hp=>back p.2 (List.all_eq_true.1 h2 p hp)
theorem Cz.fh (h:Cz F w0 N ρ st a w):∀ ks,(∀ k v,look (go ks st) k=some v→aS (go ks st) v=true)→Cz F w0 N {ρ with al:=nw (go ks st)} (go ks st) a w:=by
 intro ks
 induction ks with
 |nil=>intro hmm;exact h.sub (fun k v hv=>hv) hmm
 |cons b ks ih=>
  intro hmm
  cases hb:b==9999999 with
  |true=>
   have e:go (b::ks) st=pick ks st:=by
    show (bif b==9999999 then _ else _)=_
    rw [hb];rfl
   rw [e] at hmm ⊢
   exact h.sub (look_pick ks st) hmm
  |false=>
   have e:go (b::ks) st=iI b (go ks st):=by
    show (bif b==9999999 then _ else _)=_
    rw [hb];rfl
   rw [e] at hmm ⊢
   generalize hs:go ks st=s1 at hmm ih ⊢
   unfold iI at hmm ⊢
   split at hmm
   ·rename_i ls hl
    split at hmm
    ·rename_i q hq;exact (ih (pc hl (sQ (st:=s1) hq) hmm)).fS b hmm
    ·rename_i hq;exact ih hmm
   ·rename_i e1 sz ls hl
    split at hmm
    ·rename_i q hq;exact (ih (pc hl (sQ (st:=s1) hq) hmm)).fS b hmm
    ·rename_i hq;exact ih hmm
   ·exact ih hmm
theorem ll (d d' b:Nat):swp d d' (swp d d' b)=b:=by
 unfold swp
 by_cases h1:b=d
 ·subst h1
  rw [beq_self_eq_true,cond_true]
  by_cases h2:d'=b
  ·subst h2;rw [beq_self_eq_true,cond_true]
  ·rw [beq_false_of_ne h2,cond_false,beq_self_eq_true,cond_true]
 ·rw [beq_false_of_ne h1,cond_false]
  by_cases h2:b=d'
  ·subst h2;rw [beq_self_eq_true,cond_true,beq_self_eq_true,cond_true]
  ·rw [beq_false_of_ne h2,cond_false,beq_false_of_ne h1,cond_false,beq_false_of_ne h2,cond_false]
theorem Dt {d d' b b':Nat} (h:swp d d' b=swp d d' b'):b=b':=by rw [←ll d d' b,h,ll]
theorem lk (d d' b:Nat):BD d d' (2*b+1)=2*swp d d' b+1:=by
 unfold BD swp
 by_cases h1:b=d
 ·subst h1;simp only [beq_self_eq_true,cond_true]
 ·rw [beq_false_of_ne h1,beq_false_of_ne (show 2*b+1≠2*d+1 by omega),cond_false,cond_false]
  by_cases h2:b=d'
  ·subst h2;simp only [beq_self_eq_true,cond_true]
  ·rw [beq_false_of_ne h2,beq_false_of_ne (show 2*b+1≠2*d'+1 by omega),cond_false,cond_false]
theorem pE (d d' t:Nat):BD d d' (2*t)=2*t:=by
 unfold BD
 rw [beq_false_of_ne (show 2*t≠2*d+1 by omega),beq_false_of_ne (show 2*t≠2*d'+1 by omega),cond_false,cond_false]
theorem ow (d d' k:Nat):BD d d' (BD d d' k)=k:=by
 rcases Nat.mod_two_eq_zero_or_one k with h |h
 ·obtain ⟨t,rfl⟩:∃ t,k=2*t:=⟨k / 2,by omega⟩
  rw [pE,pE]
 ·obtain ⟨b,rfl⟩:∃ b,k=2*b+1:=⟨k / 2,by omega⟩
  rw [lk,lk,ll]
theorem kY (d d':Nat):∀ (st:St) (k:Nat),look (tW d d' st) k=(look st (BD d d' k)).map (Hd d d'):=by
 intro st k
 induction st with
 |nil=>rfl
 |cons p st ih=>
  obtain ⟨j,a⟩:=p
  unfold tW
  by_cases e:k=BD d d' j
  ·subst e;rw [aB,ow,aB];rfl
  ·rw [ai e,ai (fun h=>e (by rw [←h,ow])),ih]
theorem Gv {d d':Nat} {l:Lf}:bu (qO d d' l)=bu l:=by cases l<;>rfl
theorem wJ {d d':Nat} (ls:List Lf):(ls.map (qO d d')).all bu=ls.all bu:=by
 rw [List.all_map];congr 1;exact funext fun l=>Gv
theorem Be {d d':Nat} {st:St} (h1:dom st d=false) (h2:dom st d'=false):dom (tW d d' st)=dom st:=funext fun b=>by
 have e:dom (tW d d' st) b=dom st (swp d d' b):=by
  unfold dom
  rw [kY,lk]
  cases look st (2*swp d d' b+1) with
  |none=>rfl
  |some v=>cases v<;>rfl
 rw [e]
 unfold swp
 by_cases e1:b=d
 ·subst e1;rw [beq_self_eq_true,cond_true,h1,h2]
 ·rw [beq_false_of_ne e1,cond_false]
  by_cases e2:b=d'
  ·subst e2;rw [beq_self_eq_true,cond_true,h1,h2]
  ·rw [beq_false_of_ne e2,cond_false]
theorem Ds {d d':Nat} {st:St} (h1:dom st d=false) (h2:dom st d'=false) (l:Lf):bE (tW d d' st) (qO d d' l)=bE st l:=by
 have hpre:∀ b,(match look (tW d d' st) (2*swp d d' b+1) with
   |some (.pre _ _ _)=>true
   |_=>false)=(match look st (2*b+1) with
   |some (.pre _ _ _)=>true
   |_=>false):=fun b=>by
  rw [kY,←lk,ow]
  cases look st (2*b+1) with
  |none=>rfl
  |some v=>cases v<;>rfl
 have hd:=Be h1 h2
 cases l with
 |own b o=>show dom (tW d d' st) b=dom st b;rw [hd]
 |osl b n=>show dom (tW d d' st) b=dom st b;rw [hd]
 |clo f cs=>show cs.all (dom (tW d d' st))=cs.all (dom st);rw [hd]
 |ol b k=>exact hpre b
 |oe b k o=>exact hpre b
 |ov b k o n=>exact hpre b
 |_=>rfl
theorem Bf {d d':Nat} {st:St} (h1:dom st d=false) (h2:dom st d'=false) (v:AV):aS (tW d d' st) (Hd d d' v)=aS st v:=by
 have key:∀ ls:List Lf,(ls.map (qO d d')).all (bE (tW d d' st))=ls.all (bE st):=fun ls=>by
  rw [List.all_map];congr 1;exact funext fun l=>Ds h1 h2 l
 cases v with
 |v g ls=>exact key ls
 |pre e sz ls=>exact key ls
 |tup ps=>
  show ((ps.map fun p=>(p.1,p.2.map (qO d d'))).all fun p=>p.2.all (bE (tW d d' st)))=ps.all fun p=>p.2.all (bE st)
  rw [List.all_map];congr 1;exact funext fun p=>key p.2
abbrev Env.sw (ρ:Env) (d d':Nat):Env:={ρ with gh:=fun x=>ρ.gh (swp d d' x),gv:=fun x=>ρ.gv (swp d d' x),al:=fun x=>ρ.al (swp d d' x)}
theorem Bg {ρ:Env} {D:Nat→Bool} {d d' g:Nat} (h:Sep ρ D g):Sep (ρ.sw d d') D g:=⟨h.1,fun b hb=>h.2 (swp d d' b) hb⟩
theorem Lf.R.sw {ρ:Env} {D:Nat→Bool} {d d':Nat} {l:Lf} {u:Value} (h:l.R ρ D w u):(qO d d' l).R (ρ.sw d d') D w u:=by
 cases l with
 |sl f sz n ls=>exact Lc.R.mono (Keeps.refl _ _) (fun _ _ _ _ h=>⟨Bg h.1,h.2⟩) _ _ h
 |im ls=>exact ImR.mono h (Keeps.refl _ _) fun _ _ _ _ h=>Bg h
 |ol b k=>
  show ρ.al (swp d d' (swp d d' b))=true∧k≤ρ.gv (swp d d' (swp d d' b))∧(k=ρ.gv (swp d d' (swp d d' b))→u=ρ.gh (swp d d' (swp d d' b)))∧_
  rw [ll];exact h
 |oe b k o=>
  show ρ.al (swp d d' (swp d d' b))=true∧k≤ρ.gv (swp d d' (swp d d' b))∧(k=ρ.gv (swp d d' (swp d d' b))→∃ g,(ρ.gh (swp d d' (swp d d' b))).ownBlock=some g∧_)∧_
  rw [ll];exact h
 |ov b k o n=>
  show ρ.al (swp d d' (swp d d' b))=true∧k≤ρ.gv (swp d d' (swp d d' b))∧(k=ρ.gv (swp d d' (swp d d' b))→0<n→∃ g c,(ρ.gh (swp d d' (swp d d' b))).ownBlock=some g∧_)∧_
  rw [ll];exact h
 |_=>exact h
theorem RL.sw {ρ:Env} {D:Nat→Bool} {d d':Nat}:∀ {ls:List Lf} {us:List Value},RL ρ D w ls us→RL (ρ.sw d d') D w (ls.map (qO d d')) us:=by
 intro ls
 induction ls with
 |nil=>intro us h;exact h
 |cons l ls ih=>intro us h;obtain ⟨u,r,e,h1,h2⟩:=h;exact ⟨u,r,e,h1.sw,ih h2⟩
theorem AV.R.sw {ρ:Env} {D:Nat→Bool} {d d':Nat} {v:AV} {u:Value} (h:v.R ρ D w u):(Hd d d' v).R (ρ.sw d d') D w u:=by
 have vr:∀ (g:Bool) (ls:List Lf) (u:Value),VR ρ D w g ls u→VR (ρ.sw d d') D w g (ls.map (qO d d')) u:=fun g ls u h=>by
  cases g with
  |true=>obtain ⟨us,e,h1⟩:=h;exact ⟨us,e,h1.sw⟩
  |false=>exact RL.sw (us:=[u]) h
 have rt:∀ (ps:List (Bool×List Lf)) (us:List Value),RT ρ D w ps us→RT (ρ.sw d d') D w (ps.map fun p=>(p.1,p.2.map (qO d d'))) us:=fun ps=>by
  induction ps with
  |nil=>intro us h;exact h
  |cons p ps ih=>intro us h;obtain ⟨u,r,e,h1,h2⟩:=h;exact ⟨u,r,e,vr p.1 p.2 u h1,ih r h2⟩
 cases v with
 |v g ls=>exact vr g ls u h
 |tup ps=>obtain ⟨us,e,h1⟩:=h;exact ⟨us,e,rt ps us h1⟩
 |pre _ _ _=>exact h
theorem Cz.sw (h:Cz F w0 N ρ st a w) {d d':Nat} (h1:dom st d=false) (h2:dom st d'=false):Cz F w0 N (ρ.sw d d') (tW d d' st) a w:=by
 have hd:=Be h1 h2
 have back:∀ b v,look (tW d d' st) (2*b+1)=some v→∃ v0,look st (2*swp d d' b+1)=some v0∧v=Hd d d' v0:=fun b v hv=>by
  rw [kY,lk] at hv
  cases hl:look st (2*swp d d' b+1) with
  |none=>rw [hl] at hv;cases hv
  |some v0=>rw [hl] at hv;injection hv with hv;exact ⟨v0,rfl,hv.symm⟩
 have pback:∀ b e sz ls,look (tW d d' st) (2*b+1)=some (.pre e sz ls)→∃ ls',look st (2*swp d d' b+1)=some (.pre e sz ls')∧ls=ls'.map (qO d d'):=fun b e sz ls hv=>by
  obtain ⟨v0,hl,e1⟩:=back b _ hv
  cases v0 with
  |pre e' sz' ls'=>injection e1 with e1 e2 e3;subst e1;subst e2;exact ⟨ls',hl,e3⟩
  |v _ _=>cases e1
  |tup _=>cases e1
 refine ⟨h.tb,h.bel,h.sz,h.df,fun t v hv=>?_,fun b v hv hne=>?_,fun b b' hb hb'=>?_,h.zz,fun b hb=>?_,fun b e sz ls hv=>?_,fun b b' g hb hb' e1 e2=>Dt (h.gi _ _ g hb hb' e1 e2),fun b b' hb hb'=>?_⟩
 ·rw [kY,pE] at hv
  cases hl:look st (2*t) with
  |none=>rw [hl] at hv;cases hv
  |some v0=>
   rw [hl] at hv;injection hv with hv;subst hv
   obtain ⟨u,hu,hr⟩:=h.sl t v0 hl
   exact ⟨u,hu,by rw [hd];exact hr.sw⟩
 ·obtain ⟨v0,hl,rfl⟩:=back b v hv
  obtain ⟨g,ls,T,cs,e,hB,hr,ho,hg⟩:=h.mm _ v0 hl (fun e sz ls e'=>by subst e';exact hne _ _ _ rfl)
  subst e
  have hb:swp d d' b=b:=by
   have hx:dom st (swp d d' b)=true:=by unfold dom;rw [hl]
   unfold swp at hx ⊢
   by_cases e1:b=d
   ·subst e1;rw [beq_self_eq_true,cond_true,h2] at hx;cases hx
   ·rw [beq_false_of_ne e1,cond_false] at hx ⊢
    by_cases e2:b=d'
    ·subst e2;rw [beq_self_eq_true,cond_true,h1] at hx;cases hx
    ·rw [beq_false_of_ne e2,cond_false]
  rw [hb] at hB hg
  exact ⟨g,ls.map (qO d d'),T,cs,rfl,hB,by rw [hd];exact hr.sw,by rw [wJ];exact ho,hg⟩
 ·rw [hd] at hb hb';exact h.inj b b' hb hb'
 ·obtain ⟨e,sz,ls,hl⟩:=h.gm (swp d d' b) hb
  exact ⟨e,sz,ls.map (qO d d'),by rw [kY,lk,hl];rfl⟩
 ·obtain ⟨ls',hl,rfl⟩:=pback b e sz ls hv
  obtain ⟨g1,g2,g3,g4,us,g5,g6⟩:=h.gc _ e sz ls' hl
  exact ⟨g1,g2,g3,by rw [wJ];exact g4,us,g5,by rw [hd];exact g6.sw⟩
 ·rw [hd] at hb';exact h.gd _ b' hb hb'
theorem Cz.rk (h:Cz F w0 N ρ st a w) (ks:List Nat) (hmm:∀ k v,look (Hb ks st) k=some v→aS (Hb ks st) v=true):∃ ρ',Cz F w0 N ρ' (Hb ks st) a w:=by
 match ks,hmm with
 |[],_=>exact ⟨ρ,h⟩
 |[_],_=>exact ⟨ρ,h⟩
 |d::d'::ks,hmm=>
  have e:Hb (d::d'::ks) st=JE d d' (go ks st):=rfl
  rw [e] at hmm ⊢
  generalize hs:go ks st=s1 at hmm ⊢
  unfold JE at hmm ⊢
  cases h1:dom s1 d with
  |true=>
   rw [h1,cond_true] at hmm
   rw [cond_true,←hs];rw [←hs] at hmm
   exact ⟨_,h.fh ks hmm⟩
  |false=>
   rw [h1,cond_false] at hmm
   rw [cond_false]
   cases h2:dom s1 d' with
   |true=>
    rw [h2,cond_true] at hmm
    rw [cond_true,←hs];rw [←hs] at hmm
    exact ⟨_,h.fh ks hmm⟩
   |false=>
    rw [h2,cond_false] at hmm
    rw [cond_false]
    have h3:Cz F w0 N {ρ with al:=nw (go ks st)} (go ks st) a w:=h.fh ks (by
     rw [hs]
     intro k v hv
     have:=hmm (BD d d' k) (Hd d d' v) (by rw [kY,ow,hv];rfl)
     rwa [Bf h1 h2] at this)
    rw [hs] at h3
    exact ⟨_,h3.sw h1 h2⟩
theorem Cz.hone (ks:List Nat) (h:Cz F w0 N ρ st a w) (hm:((hd1 ks st).all fun p=>aS (hd1 ks st) p.2)=true):∃ ρ',Cz F w0 N ρ' (hd1 ks st) a w:=by
 have hmm:∀ k v,look (hd1 ks st) k=some v→aS (hd1 ks st) v=true:=fun k v hv=>List.all_eq_true.1 hm (k,v) (tn hv)
 clear hm
 cases ks with
 |nil=>exact ⟨_,h.sub (fun k v hv=>hv) hmm⟩
 |cons x ks=>
  have e0:hd1 (x::ks) st=bif x==9999999 then pick ks st else bif x==9999998 then go ks st else bif x==9999995 then Hb ks st else bD (x::ks) st:=rfl
  cases hx:x==9999999 with
  |true=>
   rw [hx,cond_true] at e0
   rw [e0] at hmm ⊢
   exact ⟨_,h.sub (look_pick ks st) hmm⟩
  |false=>
   rw [hx,cond_false] at e0
   cases hy:x==9999998 with
   |true=>
    rw [hy,cond_true] at e0
    rw [e0] at hmm ⊢
    exact ⟨_,h.fh ks hmm⟩
   |false=>
    rw [hy,cond_false] at e0
    cases hz:x==9999995 with
    |true=>
     rw [hz,cond_true] at e0
     rw [e0] at hmm ⊢
     exact h.rk ks hmm
    |false=>
     rw [hz,cond_false] at e0
     rw [e0] at hmm ⊢
     refine ⟨_,h.sub (fun k v hv=>?_) hmm⟩
     rw [tk] at hv
     cases hk:inL (x::ks) k with
     |true=>rw [hk] at hv;cases hv
     |false=>rw [hk] at hv;exact hv
theorem If (ks:List Nat) (st:St):ey ks st=st∨∃ ks',ey ks st=hd1 ks' st:=by
 unfold ey
 split
 ·cases (look st _).isSome with
  |true=>exact .inr ⟨_,rfl⟩
  |false=>exact .inr ⟨_,rfl⟩
 ·exact .inl rfl
theorem Ih (ks:List Nat) (st:St):Ig ks st=st∨∃ ks',Ig ks st=hd1 ks' st:=by
 unfold Ig
 split
 ·rename_i g n g' n' r
  cases (look st g).isSome with
  |true=>exact .inr ⟨_,rfl⟩
  |false=>cases (look st g').isSome with
   |true=>exact .inr ⟨_,rfl⟩
   |false=>exact .inr ⟨_,rfl⟩
 ·exact .inl rfl
theorem Ii:∀ (m:Nat) (ks:List Nat) (st:St),ke m ks st=st∨∃ ks',ke m ks st=hd1 ks' st:=by
 intro m
 induction m with
 |zero=>exact fun ks st=>.inr ⟨ks,rfl⟩
 |succ m ih=>
  intro ks st
  cases ks with
  |nil=>exact .inl rfl
  |cons g ks=>cases ks with
   |nil=>exact .inl rfl
   |cons n ks=>
    have e:ke (m+1) (g::n::ks) st=bif (look st g).isSome then hd1 (ks.take n) st else ke m (ks.drop n) st:=rfl
    rw [e]
    cases (look st g).isSome with
    |true=>exact .inr ⟨_,rfl⟩
    |false=>exact ih _ st
theorem Ij (ks:List Nat) (st:St):kA ks st=st∨∃ ks',kA ks st=hd1 ks' st:=by
 cases ks with
 |nil=>exact .inl rfl
 |cons m ks=>exact Ii m ks st
theorem hdS_1 (ks:List Nat) (st:St):jh ks st=st∨∃ ks',jh ks st=hd1 ks' st:=by
 cases ks with
 |nil=>exact .inl rfl
 |cons x ks=>
  have e0:jh (x::ks) st=bif x==9999997 then ey ks st else bif x==9999996 then Ig ks st else bif x==9999994 then kA ks st else hd1 (x::ks) st:=rfl
  cases hx:x==9999997 with
  |true=>rw [e0,hx];exact If ks st
  |false=>
   cases hy:x==9999996 with
   |true=>rw [e0,hx,hy];exact Ih ks st
   |false=>
    cases hz:x==9999994 with
    |true=>rw [e0,hx,hy,hz];exact Ij ks st
    |false=>rw [e0,hx,hy,hz];exact .inr ⟨x::ks,rfl⟩
theorem Cz.hd (ks:List Nat) (h:Cz F w0 N ρ st a w) (hm:((jh ks st).all fun p=>aS (jh ks st) p.2)=true):∃ ρ',Cz F w0 N ρ' (jh ks st) a w:=by
 rcases hdS_1 ks st with e |⟨ks',e⟩
 ·rw [e] at hm ⊢
  exact ⟨_,h.sub (fun k v hv=>hv) fun k v hv=>List.all_eq_true.1 hm (k,v) (tn hv)⟩
 ·rw [e] at hm ⊢
  exact h.hone ks' hm
end
def Wk (P:Program) (Fin:Act→World→Prop) (B:Nat→List It→Act→World→Prop) (n:Nat):List It→Exit→Act→World→Prop
 |[],.normal,a,w=>Fin a w
 |[],.ret,a,w=>Fin a w
 |[],_,_,_=>False
 |.code c::k,e,a,w=>Exit.then (c.wp P (Wk P Fin B n k)) (Wk P Fin B n k) e a w
 |.blk id::k,e,a,w=>Exit.inBlock id (Wk P Fin B n k) e a w
 |.lp c::k,e,a,w=>Exit.then (fun a w=>∃ m,m<n∧B m (.lp c::k) a w) (Wk P Fin B n k) e a w
 |.scp::k,e,a,w=>Exit.noGoto (Wk P Fin B n k) e a w
 |_::_,_,_,_=>True
section
variable {Fin:Act→World→Prop} {B:Nat→List It→Act→World→Prop}
theorem wO {n m:Nat} (hnm:n≤m):∀ k e a w,Wk P Fin B n k e a w→Wk P Fin B m k e a w:=by
 intro k
 induction k with
 |nil=>intro e a w h;cases e<;>exact h
 |cons i k ih=>
  intro e a w h
  cases i with
  |code c=>
   cases e with
   |normal=>exact wp_mono h (fun e a w=>ih e a w)
   |_=>exact ih _ a w h
  |blk id=>
   cases e with
   |exit id'=>
    show Exit.inBlock id (Wk P Fin B m k) (.exit id') a w
    have h:Exit.inBlock id (Wk P Fin B n k) (.exit id') a w:=h
    unfold Exit.inBlock at h ⊢
    simp only at h ⊢
    split
    ·rename_i e;rw [if_pos e] at h;exact ih _ a w h
    ·rename_i e;rw [if_neg e] at h;exact ih _ a w h
   |_=>exact ih _ a w h
  |lp c=>
   cases e with
   |normal=>obtain ⟨x,hx,hb⟩:=h;exact ⟨x,by omega,hb⟩
   |_=>exact ih _ a w h
  |scp=>
   cases e with
   |goto _=>exact h
   |_=>exact ih _ a w h
  |_=>trivial
theorem GF {n:Nat} {a:Act} {w:World} (h:Fin a w):∀ k,Wk P Fin B n k .ret a w:=by
 intro k
 induction k with
 |nil=>exact h
 |cons i k ih=>
  cases i with
  |code c=>exact ih
  |blk id=>exact ih
  |lp c=>exact ih
  |scp=>exact ih
  |_=>trivial
theorem Dz {n:Nat} {a:Act} {w:World} {id:Nat}:∀ k k',cH id k=some k'→Wk P Fin B n k' .normal a w→Wk P Fin B n k (.exit id) a w:=by
 intro k
 induction k with
 |nil=>intro k' h;cases h
 |cons i k ih=>
  intro k' h hw
  cases i with
  |code c=>exact ih k' h hw
  |lp c=>exact ih k' h hw
  |scp=>exact ih k' h hw
  |blk j=>
   show Exit.inBlock j (Wk P Fin B n k) (.exit id) a w
   unfold Exit.inBlock
   simp only
   unfold cH at h
   split at h
   ·rename_i e
    injection h with h;subst h;subst e
    rw [if_pos rfl];exact hw
   ·rename_i e
    rw [if_neg (fun h=>e h.symm)];exact ih k' h hw
  |_=>trivial
end
theorem mo {p:Nat→Prop} (h:∃ m,p m):∃ m,p m∧∀ k,p k→m≤k:=by
 obtain ⟨m,hm⟩:=h
 induction m using Nat.strongRecOn with
 |ind m ih=>
  by_cases hx:∃ k,k<m∧p k
  ·obtain ⟨k,h1,h2⟩:=hx;exact ih k h1 h2
  ·refine ⟨m,hm,fun k hk=>?_⟩
   rcases Nat.lt_or_ge k m with h1 |h1
   ·exact absurd ⟨k,h1,hk⟩ hx
   ·exact h1
theorem qI (hm:P.follows .mixedOrders=true) (hty:∀ t i,ty t=some i→TiOK P t i) {F:Nat→Prop} {w0:World} (hO:OrOK P O F w0) {Fin:Act→World→Prop} (hF:∀ ρ st a w,Post st→Cz F w0 N ρ st a w→Fin a w):
  ∀ (n:Nat) (k:List It) (ρ:Env) (st:St) (a:Act) (w:World),run ty O N Post fg n k st→Cz F w0 N ρ st a w→Wk P Fin (fun m k a w=>∃ ρ st,run ty O N Post fg m k st∧Cz F w0 N ρ st a w) (n+1) k .normal a w:=by
 intro n
 induction n using Nat.strongRecOn with
 |ind n ih=>
  intro k ρ st a w h hz
  cases n with
  |zero=>exact h.elim
  |succ n=>
   have up:∀ m,m≤n→∀ k ρ st a w,run ty O N Post fg m k st→Cz F w0 N ρ st a w→Wk P Fin (fun m k a w=>∃ ρ st,run ty O N Post fg m k st∧Cz F w0 N ρ st a w) (n+1+1) k .normal a w:=
    fun m hm k ρ st a w h hz=>wO (by omega) k .normal a w (ih m (by omega) k ρ st a w h hz)
   cases k with
   |nil=>exact hF ρ st a w h hz
   |cons i k=>
    cases i with
    |blk id=>exact up n (by omega) k ρ st a w h hz
    |scp=>exact up n (by omega) k ρ st a w h hz
    |lp c=>exact ⟨n+1,by omega,ρ,st,h,hz⟩
    |brk g=>trivial
    |exe _ _ _ _ _=>trivial
    |ops _ _ _ _=>trivial
    |code c=>
     show c.wp P _ a w
     cases c with
     |skip=>exact wp_skip (up n (by omega) k ρ st a w h hz)
     |seq x y=>exact wp_seq (up n (by omega) (.code x::.code y::k) ρ st a w h hz)
     |region id ops d=>
      obtain ⟨es,st',n',hl,hp,hD,hc,hr⟩:=AN ops.toList n [] k st h
      have hQ:∀ ρ' a' w',Cz F w0 N ρ' st' a' w'→Wk P Fin (fun m k a w=>∃ ρ st,run ty O N Post fg m k st∧Cz F w0 N ρ st a w) (n+1+1) k .normal a' w':=fun ρ' a' w' hz'=>up n' (by omega) k ρ' st' a' w' hr hz'
      cases d with
      |false=>exact tC hty hO hD hz hp hQ
      |true=>exact sU hm hty hO hD hz hp (by simpa using hc rfl) hQ
     |cond c x y=>
      have h:vT (run ty O N Post fg n) (fH st c) x y k st:=h
      unfold vT at h
      split at h
      ·rename_i b hb
       refine wp_cond_split (t:=b) (RL.one.1 (hz.ev hb)) (fun hbt=>?_) (fun hbf=>?_)
       ·exact up n (by omega) (.code x::k) ρ st a w (by rw [hbt] at h;exact h) hz
       ·exact up n (by omega) (.code y::k) ρ st a w (by rw [hbf] at h;exact h) hz
      ·exact h.elim
     |block id b=>exact wp_block (up n (by omega) (.code b::.blk id::k) ρ st a w h hz)
     |exit id=>
      have h:Cd (run ty O N Post fg n) (cH id k) st:=h
      unfold Cd at h
      split at h
      ·rename_i k' hk
       exact wp_exit (Dz k k' hk (up n (by omega) k' ρ st a w h hz))
      ·exact h.elim
     |ret=>exact wp_ret (GF (hF ρ st a w h hz) k)
     |loop c=>
      obtain ⟨h1,h⟩:kZ (run ty O N Post fg n) (.code c::.lp c::k) (jh fg st):=h
      obtain ⟨ρ0,hz⟩:=hz.hd fg h1
      let I:Nat→Act→World→Prop:=fun m a w=>m≤n∧∃ ρ st,run ty O N Post fg m (.code c::.lp c::k) st∧Cz F w0 N ρ st a w
      let μ:Act→World→Nat:=fun a w=>open Classical in if hx:∃ m,I m a w then Classical.choose (mo hx) else 0
      refine wp_loop (fun a w=>∃ m,I m a w) μ ⟨n,Nat.le_refl _,_,_,h,hz⟩ ?_
      intro a1 w1 hI
      have hμ:∀ a w (hx:∃ m,I m a w),I (μ a w) a w∧∀ k,I k a w→μ a w≤k:=fun a w hx=>by
       have e:μ a w=Classical.choose (mo hx):=by
        show (open Classical in if hx:∃ m,I m a w then Classical.choose (mo hx) else 0)=_
        rw [dif_pos hx]
       rw [e];exact Classical.choose_spec (mo hx)
      obtain ⟨hm1,ρ1,s1,r1,z1⟩:=(hμ a1 w1 hI).1
      have hw:=ih (μ a1 w1) (by omega) (.code c::.lp c::k) ρ1 s1 a1 w1 r1 z1
      refine wp_mono (show c.wp P _ a1 w1 from hw) ?_
      intro e a2 w2 he
      cases e with
      |normal=>
       obtain ⟨m,hm2,ρ2,s2,r2,z2⟩:=he
       cases m with
       |zero=>exact r2.elim
       |succ m=>
        obtain ⟨q1,q2⟩:kZ (run ty O N Post fg m) (.code c::.lp c::k) (jh fg s2):=r2
        obtain ⟨ρ3,z3⟩:=z2.hd fg q1
        have hI2:I m a2 w2:=⟨by omega,_,_,q2,z3⟩
        refine ⟨⟨m,hI2⟩,?_⟩
        have:=(hμ a2 w2 ⟨m,hI2⟩).2 m hI2
        omega
      |_=>exact wO (by omega) k _ a2 w2 he
     |rangeFunc _ _ _ _=>exact h.elim
     |scope c=>exact wp_scope_straight (up n (by omega) (.code c::.scp::k) ρ st a w h hz)
     |label _=>exact wp_label (up n (by omega) k ρ st a w h hz)
     |goto _=>exact h.elim
     |refuse _=>exact h.elim
end
def gH (ty:TypeId→Option TI) (st:St):List ResultVar→Option (List (Bool×List Lf))
 |[]=>some []
 |.tmp t::r=>(match look st (2*t),gH ty st r with
  |some (.v g ls),some ps=>some ((g,ls)::ps)
  |_,_=>none)
 |.cell t T::r=>(match look st (2*t),gH ty st r with
  |some (.v false [.own b o]),some ps=>(match ty T,look st (2*b+1) with
   |some i,some (.v _ ls)=>if i.agg=true then (if o+i.size≤ls.length then some ((true,(ls.drop o).take i.size)::ps) else none)
    else (match ls[o]? with
     |some l=>some ((false,[l])::ps)
     |none=>none)
   |_,_=>none)
  |_,_=>none)
def ep (st:St):List Lf→List Lf
 |[]=>[]
 |l::ls=>outL st l::ep st ls
def outPs (st:St):List (Bool×List Lf)→List (Bool×List Lf)
 |[]=>[]
 |p::ps=>(p.1,ep st p.2)::outPs st ps
def gG (ty:TypeId→Option TI) (st:St) (rs:List ResultVar):Option (List (Bool×List Lf)):=match gH ty st rs with
 |some ps=>some (outPs st ps)
 |none=>none
def eO:List (Bool×List Lf)→AV
 |[p]=>.v p.1 p.2
 |ps=>.tup ps
def jf:AV→Bool
 |.v _ ls=>ls.all iO
 |.tup ps=>ps.all fun p=>p.2.all iO
 |.pre _ _ _=>false
def qF (Pst:AV→Prop) (r:Option (List (Bool×List Lf))):Prop:=match r with
 |some ps=>jf (eO ps)=true∧Pst (eO ps)
 |none=>False
section
variable {P:Program} {ρ ρ':Env} {D D':Nat→Bool} {w:World}
structure Old (ρ:Env) (D:Nat→Bool) (w:World):Prop where
 own:∀ b,D b=true→ρ b<w.heap.size
 gro:∀ b g,ρ.al b=true→(ρ.gh b).ownBlock=some g→g<w.heap.size
 z:ρ.z≤w.heap.size
theorem Old.sep {w:World} (h:Old ρ D w) {g:Nat} (hg:w.heap.size≤g):Sep ρ D g:=⟨fun b hb e=>by have:=h.own b hb;omega,fun b hb e=>by have:=h.gro b g hb e;omega⟩
theorem Lf.R.out {w0:World} {l:Lf} {u:Value} (h:l.R ρ D w u) (hc:iO l=true) (hz:w0.heap.size≤ρ.z) (ho:Old ρ' D' w0):l.R ρ' D' w u:=by
 cases l with
 |own _ _=>cases hc
 |osl _ _=>cases hc
 |im _=>cases hc
 |ol _ _=>cases hc
 |oe _ _ _=>cases hc
 |ov _ _ _ _=>cases hc
 |clo f cs=>cases cs with
  |nil=>exact ⟨(fun b hb=>by cases hb),h.2⟩
  |cons _ _=>cases hc
 |sl f sz n ls=>
  have hc:f=true:=hc
  subst hc
  exact Lc.R.mono (Keeps.refl _ _) (fun g _ _ _ h=>⟨ho.sep (Nat.le_trans hz (h.2 rfl)),fun _=>by have:=h.2 rfl;have:=ho.z;omega⟩) _ _ h
 |_=>exact h
theorem RL.out {w0:World} {ls:List Lf} {us:List Value} (h:RL ρ D w ls us) (hc:ls.all iO=true) (hz:w0.heap.size≤ρ.z) (ho:Old ρ' D' w0):RL ρ' D' w ls us:=by
 induction ls generalizing us with
 |nil=>exact h
 |cons l ls ih=>
  rw [List.all_cons,Bool.and_eq_true] at hc
  obtain ⟨u,r,e,h1,h2⟩:=h;exact ⟨u,r,e,h1.out hc.1 hz ho,ih h2 hc.2⟩
theorem VR.out {w0:World} {g:Bool} {ls:List Lf} {u:Value} (h:VR ρ D w g ls u) (hc:ls.all iO=true) (hz:w0.heap.size≤ρ.z) (ho:Old ρ' D' w0):VR ρ' D' w g ls u:=by
 cases g with
 |true=>obtain ⟨us,e,h1⟩:=h;exact ⟨us,e,h1.out hc hz ho⟩
 |false=>exact RL.out h hc hz ho
theorem RT.out {w0:World} {ps:List (Bool×List Lf)} {us:List Value} (h:RT ρ D w ps us) (hc:(ps.all fun p=>p.2.all iO)=true) (hz:w0.heap.size≤ρ.z) (ho:Old ρ' D' w0):RT ρ' D' w ps us:=by
 induction ps generalizing us with
 |nil=>exact h
 |cons p ps ih=>
  rw [List.all_cons,Bool.and_eq_true] at hc
  obtain ⟨u,r,e,h1,h2⟩:=h;exact ⟨u,r,e,h1.out hc.1 hz ho,ih h2 hc.2⟩
theorem AV.R.out {w0:World} {a:AV} {u:Value} (h:a.R ρ D w u) (hc:jf a=true) (hz:w0.heap.size≤ρ.z) (ho:Old ρ' D' w0):a.R ρ' D' w u:=by
 cases a with
 |v g ls=>exact VR.out h hc hz ho
 |tup ps=>obtain ⟨us,e,h1⟩:=h;exact ⟨us,e,h1.out hc hz ho⟩
 |pre _ _ _=>exact h
def mS:Lf→Bool
 |.own _ _=>false
 |.osl _ _=>false
 |.clo _ cs=>cs.isEmpty
 |.sl f _ _ _=>!f
 |.ol _ _=>false
 |.oe _ _ _=>false
 |.ov _ _ _ _=>false
 |_=>true
def nT:AV→Bool
 |.v _ ls=>ls.all mS
 |.tup ps=>ps.all fun p=>p.2.all mS
 |.pre _ _ _=>false
theorem Lf.R.closed {l:Lf} {u:Value} (h:l.R ρ D w u) (hc:mS l=true) (hS:∀ g,Sep ρ D g→Sep ρ' D' g):l.R ρ' D' w u:=by
 cases l with
 |own _ _=>cases hc
 |osl _ _=>cases hc
 |ol _ _=>cases hc
 |oe _ _ _=>cases hc
 |ov _ _ _ _=>cases hc
 |clo f cs=>cases cs with
  |nil=>exact ⟨(fun b hb=>by cases hb),h.2⟩
  |cons _ _=>cases hc
 |sl f sz n ls=>
  have hc:f=false:=by simpa [mS] using hc
  subst hc
  exact Lc.R.mono (Keeps.refl _ _) (fun g _ _ _ h=>⟨hS g h.1,fun e=>by cases e⟩) _ _ h
 |im ls=>exact ImR.mono h (Keeps.refl _ _) fun g _ _ _ h=>hS g h
 |_=>exact h
theorem RL.closed {ls:List Lf} {us:List Value} (h:RL ρ D w ls us) (hc:ls.all mS=true) (hS:∀ g,Sep ρ D g→Sep ρ' D' g):RL ρ' D' w ls us:=by
 induction ls generalizing us with
 |nil=>exact h
 |cons l ls ih=>
  rw [List.all_cons,Bool.and_eq_true] at hc
  obtain ⟨u,r,e,h1,h2⟩:=h;exact ⟨u,r,e,h1.closed hc.1 hS,ih h2 hc.2⟩
theorem VR.closed {g:Bool} {ls:List Lf} {u:Value} (h:VR ρ D w g ls u) (hc:ls.all mS=true) (hS:∀ g,Sep ρ D g→Sep ρ' D' g):VR ρ' D' w g ls u:=by
 cases g with
 |true=>obtain ⟨us,e,h1⟩:=h;exact ⟨us,e,h1.closed hc hS⟩
 |false=>exact RL.closed h hc hS
theorem RT.closed {ps:List (Bool×List Lf)} {us:List Value} (h:RT ρ D w ps us) (hc:(ps.all fun p=>p.2.all mS)=true) (hS:∀ g,Sep ρ D g→Sep ρ' D' g):RT ρ' D' w ps us:=by
 induction ps generalizing us with
 |nil=>exact h
 |cons p ps ih=>
  rw [List.all_cons,Bool.and_eq_true] at hc
  obtain ⟨u,r,e,h1,h2⟩:=h;exact ⟨u,r,e,h1.closed hc.1 hS,ih h2 hc.2⟩
theorem AV.R.closed {a:AV} {u:Value} (h:a.R ρ D w u) (hc:nT a=true) (hS:∀ g,Sep ρ D g→Sep ρ' D' g):a.R ρ' D' w u:=by
 cases a with
 |v g ls=>exact VR.closed h hc hS
 |tup ps=>obtain ⟨us,e,h1⟩:=h;exact ⟨us,e,h1.closed hc hS⟩
 |pre _ _ _=>exact h
theorem RA.closed {xs:List AV} {us:List Value} (h:RA ρ D w xs us) (hc:xs.all nT=true) (hS:∀ g,Sep ρ D g→Sep ρ' D' g):RA ρ' D' w xs us:=by
 induction xs generalizing us with
 |nil=>exact h
 |cons l ls ih=>
  rw [List.all_cons,Bool.and_eq_true] at hc
  obtain ⟨u,r,e,h1,h2⟩:=h;exact ⟨u,r,e,h1.closed hc.1 hS,ih h2 hc.2⟩
theorem RA.get {xs:List AV} {us:List Value} (h:RA ρ D w xs us) {n:Nat} {p:AV} (hl:xs[n]? =some p):∃ u,us[n]? =some u∧p.R ρ D w u:=by
 induction n generalizing xs us with
 |zero=>
  cases xs with
  |nil=>simp at hl
  |cons k ps=>obtain ⟨u,r,e,h1,h2⟩:=h;simp at hl;subst hl;exact ⟨u,by rw [e];rfl,h1⟩
 |succ n ih=>
  cases xs with
  |nil=>simp at hl
  |cons k ps=>
   obtain ⟨u,r,e,h1,h2⟩:=h
   obtain ⟨x,hx,hr⟩:=ih h2 (by simpa using hl)
   exact ⟨x,by rw [e];simpa using hx,hr⟩
theorem RA.len {xs:List AV} {us:List Value} (h:RA ρ D w xs us):us.length=xs.length:=by
 induction xs generalizing us with
 |nil=>rw [h];rfl
 |cons l ls ih=>obtain ⟨u,r,e,h1,h2⟩:=h;rw [e,List.length_cons,List.length_cons,ih h2]
variable {F:Nat→Prop} {w0:World} {N:Nat} {st:St} {a:Act} {ty:TypeId→Option TI}
def resOne (tmps:Array Value):ResultVar→Sem Value
 |.tmp t=>pure (tmps.getD t undef)
 |.cell x t=>do loadVar t (←asAddr (tmps.getD x undef))
theorem mF (hty:∀ t i,ty t=some i→TiOK P t i) (h:Cz F w0 N ρ st a w):∀ (rs:List ResultVar) (ps:List (Bool×List Lf)),gH ty st rs=some ps→
  ∃ us,(rs.mapM (resOne a.tmps)).run P w= .ok us w∧RT ρ (dom st) w ps us:=by
 intro rs
 induction rs with
 |nil=>intro ps hp;injection hp with hp;subst hp;exact ⟨[],by simp,rfl⟩
 |cons r rs ih=>
  intro ps hp
  cases r with
  |tmp t=>
   unfold gH at hp
   split at hp
   ·rename_i g ls qs h1 h2
    injection hp with hp;subst hp
    obtain ⟨us,hu,hR⟩:=ih qs h2
    obtain ⟨u,hu1,hr1⟩:=h.sl t _ h1
    refine ⟨u::us,?_,u,us,rfl,hr1,hR⟩
    have e:a.tmps.getD t undef=u:=by rw [Array.getD_eq_getD_getElem?,hu1];rfl
    simp [List.mapM_cons,resOne,e,hu]
   ·cases hp
  |cell t T=>
   unfold gH at hp
   split at hp
   ·rename_i b o qs h1 h2
    obtain ⟨us,hu,hR⟩:=ih qs h2
    obtain ⟨u,hu1,hr1⟩:=h.sl t _ h1
    obtain ⟨hdb,rfl⟩:=RL.one.1 hr1
    have e:a.tmps.getD t undef= .pointer (some ⟨ρ b,o,none⟩):=by rw [Array.getD_eq_getD_getElem?,hu1];rfl
    split at hp
    ·rename_i i g ls hi hl
     have hT:=hty T i hi
     obtain ⟨g0,ls0,T0,cs,e0,hB,hr0,ho0,hg⟩:=h.mm b _ hl (fun _ _ _ e=>by cases e)
     injection e0 with _ e0;subst e0
     have hlen:=hr0.len
     rw [Array.length_toList] at hlen
     split at hp
     ·rename_i hag
      split at hp
      ·rename_i hle
       injection hp with hp;subst hp
       have hrun:=lg (w:=w) hT hB.wb (o:=o) (by omega) hag
       simp only [Instr.loadAt,Instr.sureAddr,Sem.run_bind,Sem.run_pure,Result.andThen_ok] at hrun
       refine ⟨_::us,?_,_,us,rfl,⟨_,rfl,(hr0.drop o).take _⟩,hR⟩
       simp [List.mapM_cons,resOne,e,asAddr,hrun,hu]
      ·cases hp
     ·rename_i hag
      split at hp
      ·rename_i l hl'
       injection hp with hp;subst hp
       obtain ⟨u,hu',hr⟩:=hr0.get hl'
       have hrun:=lh (w:=w) hT hB.wb hu' (by simpa using hag)
       simp only [Instr.loadAt,Instr.sureAddr,Sem.run_bind,Sem.run_pure,Result.andThen_ok] at hrun
       refine ⟨u::us,?_,u,us,rfl,RL.one.2 hr,hR⟩
       simp [List.mapM_cons,resOne,e,asAddr,hrun,hu]
      ·cases hp
    ·cases hp
   ·cases hp
end
section
variable {P:Program} {F:Nat→Prop} {w0 w:World} {N:Nat} {ρ ρ':Env} {D':Nat→Bool} {st:St} {a:Act}
theorem FZ (h:Cz F w0 N ρ st a w) (ho:Old ρ' D' w0) {l:Lf} {u:Value} (hR:l.R ρ (dom st) w u) (hc:iO (outL st l)=true):(outL st l).R ρ' D' w u:=by
 have hz:w0.heap.size≤ρ.z:=by rw [h.zz];exact Nat.le_refl _
 have hS:∀ g,w0.heap.size≤g→SepF true ρ' D' g:=fun g hg=>⟨ho.sep hg,fun _=>by have:=ho.z;omega⟩
 cases l with
 |osl b n=>exact Az h (fun g _ hg=>hS g (Nat.le_trans hz hg)) (fun hg _=>hS _ hg) hR hc
 |ol b k=>exact Ay h (fun g _ hg=>hS g (Nat.le_trans hz hg)) (fun g _ _ hg=>hS g hg) hR hc
 |_=>exact hR.out hc hz ho
theorem outLs_R (h:Cz F w0 N ρ st a w) (ho:Old ρ' D' w0):∀ {ls:List Lf} {us:List Value},RL ρ (dom st) w ls us→(ep st ls).all iO=true→RL ρ' D' w (ep st ls) us:=by
 intro ls
 induction ls with
 |nil=>intro us hR _;exact hR
 |cons l ls ih=>
  intro us hR hc
  obtain ⟨u,r,e,h1,h2⟩:=hR
  have hc:(outL st l::ep st ls).all iO=true:=hc
  rw [List.all_cons,Bool.and_eq_true] at hc
  exact ⟨u,r,e,FZ h ho h1 hc.1,ih h2 hc.2⟩
theorem CH (h:Cz F w0 N ρ st a w) (ho:Old ρ' D' w0):∀ {ps:List (Bool×List Lf)} {us:List Value},RT ρ (dom st) w ps us→((outPs st ps).all fun p=>p.2.all iO)=true→RT ρ' D' w (outPs st ps) us:=by
 intro ps
 induction ps with
 |nil=>intro us hR _;exact hR
 |cons p ps ih=>
  intro us hR hc
  obtain ⟨u,r,e,h1,h2⟩:=hR
  have hc:(((p.1,ep st p.2)::outPs st ps).all fun p=>p.2.all iO)=true:=hc
  rw [List.all_cons,Bool.and_eq_true] at hc
  refine ⟨u,r,e,?_,ih h2 hc.2⟩
  obtain ⟨g,ls⟩:=p
  cases g with
  |true=>obtain ⟨us,e1,h3⟩:=h1;exact ⟨us,e1,outLs_R h ho h3 hc.1⟩
  |false=>exact outLs_R h ho h1 hc.1
theorem BX {ps:List (Bool×List Lf)} (h:jf (eO ps)=true):(ps.all fun p=>p.2.all iO)=true:=by
 match ps,h with
 |[],_=>rfl
 |[p],h=>simpa [eO,jf] using h
 |p::q::r,h=>simpa [eO,jf] using h
theorem wy {ty:TypeId→Option TI} (hty:∀ t i,ty t=some i→TiOK P t i) (h:Cz F w0 N ρ st a w) {fn:Func} {ps:List (Bool×List Lf)} (hp:gG ty st fn.results.toList=some ps) (hc:jf (eO ps)=true):
  ∃ u,(results fn a.tmps).run P w= .ok u w∧∀ ρ' D',Old ρ' D' w0→(eO ps).R ρ' D' w u:=by
 unfold gG at hp
 split at hp
 case h_2=>cases hp
 rename_i qs hq
 injection hp with hp;subst hp
 obtain ⟨us,hu,hR⟩:=mF hty h _ _ hq
 have hrun:(results fn a.tmps).run P w= .ok (if h:us.toArray.size=1 then us.toArray[0] else .tuple us.toArray) w:=by
  show Sem.run P (do let vs ←fn.results.mapM (resOne a.tmps);pure (if h:vs.size=1 then vs[0] else .tuple vs)) w=_
  rw [Sem.run_bind,Array.mapM_eq_mapM_toList]
  simp [hu]
 rw [hrun]
 refine ⟨_,rfl,fun ρ' D' ho=>?_⟩
 have hR:=CH h ho hR (BX hc)
 generalize outPs st qs=ps at hR
 match ps,us,hR with
 |[],_,rfl=>simp [eO,AV.R,RT]
 |[p],_,⟨u,_,rfl,h1,rfl⟩=>simpa [eO,AV.R] using h1
 |p::q::r,_,⟨u,us,rfl,h1,h2⟩=>
  obtain ⟨u2,us2,rfl,h3,h4⟩:=h2
  simp [eO,AV.R]
  exact ⟨u,_,rfl,h1,u2,us2,rfl,h3,h4⟩
end
theorem Cz.old {F:Nat→Prop} {w0 w:World} {N:Nat} {ρ:Env} {st:St} {a:Act} (h:Cz F w0 N ρ st a w):Old ρ (dom st) w:=⟨fun _ hb=>h.lt hb,fun _ _ hb e=>(h.glt hb e).2,by rw [h.zz];exact h.bel.size⟩
def Ct (P:Program) (f:FuncId) (args:List AV) (Pst:AV→Prop):Prop:=∀ ρ D w us,Tab w→RA ρ D w args us→
 Calls P f us.toArray w fun e w'=>∃ u r,e= .returned u∧Pst r∧jf r=true∧(∀ ρ' D',Old ρ' D' w→r.R ρ' D' w' u)∧Below w.heap.size w w'
def dX:Nat→List AV→St
 |_,[]=>[]
 |n,a::xs=>(2*n,a)::dX (n+1) xs
theorem jv:∀ (xs:List AV) (n k:Nat) (v:AV),look (dX n xs) k=some v→∃ t,k=2*(n+t)∧xs[t]? =some v:=by
 intro xs
 induction xs with
 |nil=>intro n k v h;cases h
 |cons a xs ih=>
  intro n k v h
  unfold dX at h
  by_cases e:k=2*n
  ·subst e
   rw [aB] at h;injection h with h;subst h
   exact ⟨0,rfl,rfl⟩
  ·rw [ai e] at h
   obtain ⟨t,h1,h2⟩:=ih (n+1) k v h
   exact ⟨t+1,by omega,by simpa using h2⟩
theorem sK {P:Program} {ty:TypeId→Option TI} {O:eJ} (hm:P.follows .mixedOrders=true) (hty:∀ t i,ty t=some i→TiOK P t i) {w:World} (hO:OrOK P O (fun _=>False) w) {f:FuncId} {fn:Func} {c:Code} {args:List AV} {mem:St} (fg:List Nat) {post:St→Prop} {Φ:Ending→World→Prop} {ρ:Env} {us:List Value}
  (fuel N:Nat) (hf:P.funcs[f]? =some fn) (hb:fn.body=some c) (hN:fn.ntmps=N) (hl:args.length≤N) (ht:Tab w) (hodd:∀ k v,look mem k=some v→∃ b,k=2*b+1)
  (hmem:∀ b v,look mem (2*b+1)=some v→∃ ls T cs,v= .v false ls∧Blk w (ρ b) T cs∧RL ρ (dom mem) w ls cs.toList∧ls.all bu=true) (hinj:∀ b b',dom mem b=true→dom mem b'=true→ρ b=ρ b'→b=b') (hA:RA ρ (dom mem) w args us) (hz0:ρ.z=w.heap.size) (hal:ρ.al=fun _=>false)
  (hF:∀ ρ' st a w',post st→Cz (fun _=>False) w N ρ' st a w'→bodyPost P fn Φ .ret a w') (h:run ty O N post fg fuel [.code c] (dX 0 args++mem)):
  Calls P f us.toArray w Φ:=by
 refine calls_of_wp hf hb ?_
 have hlen:=hA.len
 have hlk:∀ b,look (dX 0 args++mem) (2*b+1)=look mem (2*b+1):=fun b=>by
  rw [bO]
  cases hh:look (dX 0 args) (2*b+1) with
  |none=>rfl
  |some v=>obtain ⟨t,h1,_⟩:=jv _ _ _ _ hh;omega
 have hst:dom (dX 0 args++mem)=dom mem:=funext fun b=>by unfold dom;rw [hlk]
 have hz:Cz (fun _=>False) w N ρ (dX 0 args++mem) {tmps:=us.toArray++Array.replicate (fn.ntmps - us.toArray.size) undef,defers:=[]} w:=by
  refine ⟨⟨ht,fun h=>h⟩,Bel.refl _ _,?_,rfl,fun t v hv=>?_,fun b v hv _=>?_,fun b b' h1 h2=>?_,hz0,(fun b hb=>by rw [hal] at hb;cases hb),fun b x y z hv=>?_,(fun b b' g hb=>by rw [hal] at hb;cases hb),(fun b b' hb=>by rw [hal] at hb;cases hb)⟩
  ·simp;omega
  ·rw [bO] at hv
   split at hv
   ·rename_i v' hv'
    injection hv with hv;subst hv
    obtain ⟨t',h1,h2⟩:=jv _ _ _ _ hv'
    have:t=t':=by omega
    subst this
    obtain ⟨u,h3,h4⟩:=hA.get h2
    refine ⟨u,?_,by rw [hst];exact h4⟩
    have hlt:t<us.length:=by
     rcases Nat.lt_or_ge t us.length with h |h
     ·exact h
     ·rw [List.getElem?_eq_none h] at h3;cases h3
    rw [Array.getElem?_append_left (by simpa using hlt)]
    simpa using h3
   ·obtain ⟨b,hb⟩:=hodd _ _ hv;omega
  ·rw [hlk] at hv
   obtain ⟨ls,T,cs,e,hB,hR,ho⟩:=hmem b v hv
   exact ⟨false,ls,T,cs,e,hB,by rw [hst];exact hR,ho,fun h=>by cases h⟩
  ·rw [hst] at h1 h2;exact hinj b b' h1 h2
  ·rw [hlk] at hv
   obtain ⟨ls,T,cs,e,_⟩:=hmem b _ hv
   cases e
 have:=qI hm hty hO hF fuel [.code c] ρ _ _ w h hz
 refine wp_mono this ?_
 intro e a' w' he
 cases e with
 |normal=>exact he
 |ret=>exact he
 |exit id=>exact he.elim
 |goto l=>exact he.elim
 |panic ch=>exact he.elim
 |outgrown=>exact he.elim
theorem vQ {P:Program} {ty:TypeId→Option TI} {O:eJ} (hm:P.follows .mixedOrders=true) (hty:∀ t i,ty t=some i→TiOK P t i) {w:World} (hO:OrOK P O (fun _=>False) w) {f:FuncId} {fn:Func} {c:Code} {args:List AV} {mem:St} (fg:List Nat) {Pst:AV→Prop} {ρ:Env} {us:List Value}
  (fuel N:Nat) (rs:List ResultVar) (hf:P.funcs[f]? =some fn) (hb:fn.body=some c) (hN:fn.ntmps=N) (hr:fn.results.toList=rs) (hl:args.length≤N) (ht:Tab w) (hodd:∀ k v,look mem k=some v→∃ b,k=2*b+1)
  (hmem:∀ b v,look mem (2*b+1)=some v→∃ ls T cs,v= .v false ls∧Blk w (ρ b) T cs∧RL ρ (dom mem) w ls cs.toList∧ls.all bu=true) (hinj:∀ b b',dom mem b=true→dom mem b'=true→ρ b=ρ b'→b=b') (hA:RA ρ (dom mem) w args us) (hz0:ρ.z=w.heap.size) (hal:ρ.al=fun _=>false)
  (h:run ty O N (fun st=>qF Pst (gG ty st rs)) fg fuel [.code c] (dX 0 args++mem)):
  Calls P f us.toArray w fun e w'=>∃ u r,e= .returned u∧Pst r∧jf r=true∧(∀ ρ' D',Old ρ' D' w→r.R ρ' D' w' u)∧Below w.heap.size w w':=by
 have hF:∀ ρ' st a w',qF Pst (gG ty st rs)→Cz (fun _=>False) w N ρ' st a w'→bodyPost P fn (fun e w'=>∃ u r,e= .returned u∧Pst r∧jf r=true∧(∀ ρ' D',Old ρ' D' w→r.R ρ' D' w' u)∧Below w.heap.size w w') .ret a w':=by
  intro ρ' st a w' hp hz'
  unfold qF at hp
  split at hp
  ·rename_i ps hps
   obtain ⟨u,hu,hR⟩:=wy hty hz' (fn:=fn) (by rw [hr];exact hps) hp.1
   exact bodyPost_ret hu hz'.df ⟨u,_,rfl,hp.2,hp.1,hR,hz'.bel.to⟩
  ·exact hp.elim
 exact sK hm hty hO fg fuel N hf hb hN hl ht hodd hmem hinj hA hz0 hal hF h
mutual
def Kv:Lc→Prop
 |.ws xs=>Small B64 xs∧xs.length≤100000
 |.sl _ _ ls=>AY ls
 |.lit _=>True
 |.dg _=>True
def AY:List Lc→Prop
 |[]=>True
 |l::ls=>Kv l∧AY ls
end
mutual
theorem Lc.R.sm {S:Nat→Prop} {w:World}:∀ (l:Lc) (u:Value),l.R S w u→Kv l
 |.lit _,_,_=>trivial
 |.dg _,_,_=>trivial
 |.ws _,_,⟨_,_,_,_,ha,hn⟩=>⟨ha.2,by have:=ha.1.1;omega⟩
 |.sl _ _ ls,_,⟨_,_,_,_,_,h⟩=>by
  rcases h with h |⟨_,_,_,_,_,_,_,_,h⟩
  ·rw [h];trivial
  ·exact LcL.sm ls _ h
theorem LcL.sm {S:Nat→Prop} {w:World}:∀ (ls:List Lc) (us:List Value),LcL S w ls us→AY ls
 |[],_,_=>trivial
 |l::ls,_,⟨u,r,_,h1,h2⟩=>⟨Lc.R.sm l u h1,LcL.sm ls r h2⟩
end
def KH:Lf→Prop
 |.ws xs=>Small B64 xs∧xs.length≤100000
 |.sl _ _ _ ls=>AY ls
 |.im ls=>AY ls
 |_=>True
def AZ:List Lf→Prop
 |[]=>True
 |l::ls=>KH l∧AZ ls
def tS:List AV→Prop
 |[]=>True
 |.v _ ls::r=>AZ ls∧tS r
 |.tup _::r=>tS r
 |.pre _ _ _::r=>tS r
theorem RL.sm {ρ:Env} {D:Nat→Bool} {w:World} {ls:List Lf} {us:List Value} (h:RL ρ D w ls us):AZ ls:=by
 induction ls generalizing us with
 |nil=>trivial
 |cons l ls ih=>
  obtain ⟨u,r,e,h1,h2⟩:=h
  refine ⟨?_,ih h2⟩
  cases l with
  |ws xs=>obtain ⟨A,n,c,_,ha,hn⟩:=h1;exact ⟨ha.2,by have:=ha.1.1;omega⟩
  |sl f sz n ls=>exact Lc.R.sm _ _ h1
  |im ls=>obtain ⟨_,_,_,_,_,_,_,_,h⟩:=h1;exact LcL.sm _ _ h
  |_=>trivial
theorem RA.sm {ρ:Env} {D:Nat→Bool} {w:World} {xs:List AV} {us:List Value} (h:RA ρ D w xs us):tS xs:=by
 induction xs generalizing us with
 |nil=>trivial
 |cons a xs ih=>
  obtain ⟨u,r,e,h1,h2⟩:=h
  cases a with
  |tup _=>exact ih h2
  |pre _ _ _=>exact ih h2
  |v g ls=>
   refine ⟨?_,ih h2⟩
   cases g with
   |true=>obtain ⟨us,_,hr⟩:=h1;exact hr.sm
   |false=>exact RL.sm h1
theorem bF {P:Program} {ty:TypeId→Option TI} {O:eJ} (hm:P.follows .mixedOrders=true) (hty:∀ t i,ty t=some i→TiOK P t i) (hO:∀ w,OrOK P O (fun _=>False) w) {f:FuncId} {fn:Func} {c:Code} {args:List AV} (fg:List Nat) {Pst:AV→Prop}
  (fuel N:Nat) (rs:List ResultVar) (hf:P.funcs[f]? =some fn) (hb:fn.body=some c) (hN:fn.ntmps=N) (hr:fn.results.toList=rs) (hl:args.length≤N) (hc:args.all nT=true)
  (h:tS args→run ty O N (fun st=>qF Pst (gG ty st rs)) fg fuel [.code c] (dX 0 args)):Ct P f args Pst:=by
 intro ρ D w us ht hA
 replace h:=h hA.sm
 refine (vQ (mem:=[]) (ρ:=⟨fun n=>n,w.heap.size,fun _=>undef,fun _=>0,fun _=>false⟩) hm hty (hO w) fg fuel N rs hf hb hN hr hl ht (fun k v h=>by cases h) (fun b v h=>by cases h) (fun b b' h=>by cases h) (hA.closed hc fun g h=>⟨fun b hb=>(by cases hb),fun b hb=>(by cases hb)⟩) rfl rfl (by rw [List.append_nil];exact h)).mono ?_
 rintro e w' ⟨u,r,he,hp,hcl,hR,hb⟩
 exact ⟨u,r,he,hp,hcl,hR,hb⟩
end Go.Proofs.YtpacpmmdjmnamaaGreatDoor
