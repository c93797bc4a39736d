/- The types that the program's text uses; numbers and intervals as cells; contracts as tables. -/
import Derived.Test.YtpacpmmdjmnamaaGreatDoorYAiG
import Derived.Test.YtpacpmmdjmnamaaGreatDoorYRnd
namespace Go.Proofs.YtpacpmmdjmnamaaGreatDoor
set_option linter.unusedSimpArgs false
set_option linter.unusedVariables false
open Go.RowKit Nx
section
def qf:TI:=⟨false,1,[.lit (.bool false)],[.bool false],[],none⟩
def np:TI:=⟨false,1,[.lit (.int .i64 0)],[.int .i64 0],[],none⟩
def qh:TI:=⟨false,1,[.ws []],[.slice none 0 0],[],some (50,true)⟩
def qg:TI:=⟨false,1,[.dg 0],[.slice none 0 0],[],some (157,true)⟩
def nL:TI:=⟨false,1,[.lit .nilFunc],[.nilFunc],[],none⟩
def eX:TI:=⟨true,3,[.lit (.bool false),.lit (.int .i64 0),.ws []],[.bool false,.int .i64 0,.slice none 0 0],[(0,1,false),(1,1,false),(2,1,false)],none⟩
def jF:TI:=⟨true,6,[.lit (.bool false),.lit (.int .i64 0),.ws [],.lit (.bool false),.lit (.int .i64 0),.ws []],[.bool false,.int .i64 0,.slice none 0 0,.bool false,.int .i64 0,.slice none 0 0],[(0,3,true),(3,3,true)],none⟩
def eY:TI:=⟨true,3,[.lit (.bool false),.dg 0,.lit (.int .i64 0)],[.bool false,.slice none 0 0,.int .i64 0],[(0,1,false),(1,1,false),(2,1,false)],none⟩
def jG:TI:=⟨true,4,[.lit (.bool false),.lit (.int .i64 0),.ws [],.lit (.int .i64 0)],[.bool false,.int .i64 0,.slice none 0 0,.int .i64 0],[(0,3,true),(3,1,false)],none⟩
def pF:TI:=⟨false,1,[.lit (.int .u64 0)],[.int .u64 0],[],none⟩
def Ja:TI:=⟨false,1,[.lit (.slice none 0 0)],[.slice none 0 0],[],some (32,false)⟩
def He (t:TypeId):Option TI:=
 if t=30 then some eX else if t=32 then some jF else if t=4 then some qf else if t=3 then some np else if t=2 then some np
 else if t=44 then some np else if t=22 then some qh else if t=127 then some eY else if t=124 then some qg else if t=165 then some jG
 else if t=34 then some Ja else if t=168 then some nL else if t=162 then some nL else if t=50 then some pF else none
theorem sC {ρ:Env} {D:Nat→Bool} {w:World}:Lf.R ρ D w (.ws []) (.slice none 0 0):=⟨none,0,0,rfl,⟨Rd.none_,Small.nil⟩,by omega⟩
theorem DH {ρ:Env} {D:Nat→Bool} {w:World}:Lf.R ρ D w (.dg 0) (.slice none 0 0):=⟨none,0,0,rfl,by show Rd .u32 w 0 _ none 0 0 (digs B32 0);rw [aq];exact Rd.none_⟩
theorem sZ {P:Program} {t:TypeId} (k:Nat) (p:Nat×Nat×Bool) (h:([]:List (Nat×Nat×Bool))[k]? =some p):∃ (fs:Array Field) (f:Field),P.underlying t=some (.struct fs)∧fs[k]? =some f∧f.offset=p.1∧(P.info? f.type).map (·.size)=some p.2.1∧p.2.1≠0∧(P.underlying f.type).map (·.isRow)=some p.2.2:=by simp at h
def Fi (P:Program) (t:TypeId) (l:List (Nat×Nat×Bool)):Bool:=match P.underlying t with
 |some (.struct fs)=>(List.range l.length).all fun k=>(match fs[k]?,l[k]? with
  |some f,some p=>f.offset==p.1&&((P.info? f.type).map (·.size))==some p.2.1&&p.2.1 !=0&&((P.underlying f.type).map (·.isRow))==some p.2.2
  |_,_=>false)
 |_=>false
theorem Fj {P:Program} {t:TypeId} {l:List (Nat×Nat×Bool)} (h:Fi P t l=true) (k:Nat) (p:Nat×Nat×Bool) (hk:l[k]? =some p):∃ (fs:Array Field) (f:Field),P.underlying t=some (.struct fs)∧fs[k]? =some f∧f.offset=p.1∧(P.info? f.type).map (·.size)=some p.2.1∧p.2.1≠0∧(P.underlying f.type).map (·.isRow)=some p.2.2:=by
 unfold Fi at h
 split at h
 ·rename_i fs hu
  have hkl:k<l.length:=by
   rcases Nat.lt_or_ge k l.length with h |h
   ·exact h
   ·rw [List.getElem?_eq_none h] at hk;cases hk
  have h1:=List.all_eq_true.1 h k (by simpa using hkl)
  rw [hk] at h1
  cases hf:fs[k]? with
  |none=>rw [hf] at h1;cases h1
  |some f=>
   rw [hf] at h1
   simp only [Bool.and_eq_true,beq_iff_eq,bne_iff_ne] at h1
   exact ⟨fs,f,hu,hf,h1.1.1.1,h1.1.1.2,h1.1.2,h1.2⟩
 ·cases h
def JY (P:Program) (t:TypeId) (l:List (Nat×Nat×Bool)):Bool:=match P.underlying t with
 |some (.struct fs)=>fs.toList.mapM (fun f=>(P.info? f.type).map fun i=>(f.offset,i.size))==some (l.map fun p=>(p.1,p.2.1))
 |_=>false
theorem IP {P:Program} {t:TypeId} {l:List (Nat×Nat×Bool)} (h:JY P t l=true):∃ fs:Array Field,P.underlying t=some (.struct fs)∧fs.toList.mapM (fun f=>(P.info? f.type).map fun i=>(f.offset,i.size))=some (l.map fun p=>(p.1,p.2.1)):=by
 unfold JY at h
 split at h
 ·rename_i fs hu;exact ⟨fs,hu,by simpa using h⟩
 ·cases h
theorem dI {P:Program} {t:TypeId} {l:Lf} {u:Value} {el:Option (TypeId×Bool)} (hby:(P.info? t).any (fun i=>decide (i.bytes≤100000))=true) (h1:(P.info? t).map (·.size)=some 1) (h2:(P.info? t).bind (·.zero)=some u) (h3:(P.underlying t).map (·.isRow)=some false) (hr:∀ ρ D w,l.R ρ D w u) (ho:bu l=true) (hb:∀ b,u= .bool b→P.underlying t=some .bool) (hi:∀ k z,u= .int k z→P.underlying t=some (.int k)) (hs:∀ e b,el=some (e,b)→P.underlying t=some (.slice e)∧(b=true→∃ ie z,P.info? e=some ie∧ie.size=1∧ie.zero=some z∧ie.bytes≤8)):TiOK P t ⟨false,1,[l],[u],[],el⟩:=
 ⟨h1,h2,h3,sZ,(fun h=>by cases h),fun ρ D w=>RL.one.2 (hr ρ D w),.inl (by simp [ho]),rfl,fun _=>rfl,fun k z _ h=>hi k z (by simpa using h),hs,fun b _ h=>hb b (by simpa using h),hby⟩
theorem IV {ρ:Env} {D:Nat→Bool} {w:World} {a b c:Lf} {x y z:Value} (h1:a.R ρ D w x) (h2:b.R ρ D w y) (h3:c.R ρ D w z):RL ρ D w [a,b,c] [x,y,z]:=⟨x,_,rfl,h1,y,_,rfl,h2,z,_,rfl,h3,rfl⟩
theorem KG {ρ:Env} {D:Nat→Bool} {w:World} {a b c d e f:Lf} {x y z u v t:Value} (h1:a.R ρ D w x) (h2:b.R ρ D w y) (h3:c.R ρ D w z) (h4:d.R ρ D w u) (h5:e.R ρ D w v) (h6:f.R ρ D w t):RL ρ D w [a,b,c,d,e,f] [x,y,z,u,v,t]:=⟨x,_,rfl,h1,y,_,rfl,h2,z,_,rfl,h3,u,_,rfl,h4,v,_,rfl,h5,t,_,rfl,h6,rfl⟩
theorem KF {ρ:Env} {D:Nat→Bool} {w:World} {a b c d:Lf} {x y z u:Value} (h1:a.R ρ D w x) (h2:b.R ρ D w y) (h3:c.R ρ D w z) (h4:d.R ρ D w u):RL ρ D w [a,b,c,d] [x,y,z,u]:=⟨x,_,rfl,h1,y,_,rfl,h2,z,_,rfl,h3,u,_,rfl,h4,rfl⟩
theorem Rl {ρ:Env} {D:Nat→Bool} {w:World} (v:Value):Lf.R ρ D w (.lit v) v:=rfl
theorem rO {P:Program} {t:TypeId} {i:TI} (hby:(P.info? t).any (fun i=>decide (i.bytes≤100000))=true) (he:i.el=none) (ha:i.agg=true) (h1:(P.info? t).map (·.size)=some i.size) (h2:(P.info? t).bind (·.zero)=some (.agg i.zv.toArray)) (h3:(P.underlying t).map (·.isRow)=some true) (h4:Fi P t i.flds=true) (h5:JY P t i.flds=true) (hr:∀ ρ D w,RL ρ D w i.zero i.zv) (ho:i.zero.all bu=true) (hl:i.zv.length=i.size):TiOK P t i:=
 ⟨h1,by rw [h2];unfold zof;rw [ha],by rw [h3,ha],Fj h4,fun _=>IP h5,hr,.inl ho,hl,(fun h=>by rw [ha] at h;cases h),(fun k z h=>by rw [ha] at h;cases h),(fun e b h=>by rw [he] at h;cases h),(fun b h=>by rw [ha] at h;cases h),hby⟩
theorem As:TiOK Tryz.prog 30 eX:=rO (by kernel_rfl) rfl rfl (by kernel_rfl) (by kernel_rfl) (by kernel_rfl) (by kernel_rfl) (by kernel_rfl) (fun _ _ _=>IV (Rl _) (Rl _) sC) rfl rfl
theorem At:TiOK Tryz.prog 127 eY:=rO (by kernel_rfl) rfl rfl (by kernel_rfl) (by kernel_rfl) (by kernel_rfl) (by kernel_rfl) (by kernel_rfl) (fun _ _ _=>IV (Rl _) DH (Rl _)) rfl rfl
theorem IG:TiOK Tryz.prog 32 jF:=rO (by kernel_rfl) rfl rfl (by kernel_rfl) (by kernel_rfl) (by kernel_rfl) (by kernel_rfl) (by kernel_rfl) (fun _ _ _=>KG (Rl _) (Rl _) sC (Rl _) (Rl _) sC) rfl rfl
theorem IM:TiOK Tryz.prog 165 jG:=rO (by kernel_rfl) rfl rfl (by kernel_rfl) (by kernel_rfl) (by kernel_rfl) (by kernel_rfl) (by kernel_rfl) (fun _ _ _=>KF (Rl _) (Rl _) sC (Rl _)) rfl rfl
theorem ik_of {P:Program} {t:TypeId} {k0:IntKind} {z0:Int} (h:P.underlying t=some (.int k0)):∀ k z,Value.int k0 z0= .int k z→P.underlying t=some (.int k):=fun k z e=>by
 injection e with e _;subst e;exact h
theorem sl_of {P:Program} {t e0:TypeId} (h1:P.underlying t=some (.slice e0)) (h2:(match P.info? e0 with |some i=>i.size==1&&i.zero.isSome&&decide (i.bytes≤8)|none=>false)=true):∀ e b,some (e0,true)=some (e,b)→P.underlying t=some (.slice e)∧(b=true→∃ ie z,P.info? e=some ie∧ie.size=1∧ie.zero=some z∧ie.bytes≤8):=by
 intro e b h
 injection h with h;injection h with h _;subst h
 refine ⟨h1,fun _=>?_⟩
 split at h2
 ·rename_i i hi
  rw [Bool.and_eq_true,Bool.and_eq_true] at h2
  obtain ⟨z,hz⟩:=Option.isSome_iff_exists.1 h2.1.2
  exact ⟨i,z,hi,by simpa using h2.1.1,hz,by simpa using h2.2⟩
 ·cases h2
theorem sl_of' {P:Program} {t e0:TypeId} (h1:P.underlying t=some (.slice e0)):∀ e b,some (e0,false)=some (e,b)→P.underlying t=some (.slice e)∧(b=true→∃ ie z,P.info? e=some ie∧ie.size=1∧ie.zero=some z∧ie.bytes≤8):=by
 intro e b h
 injection h with h;injection h with h h';subst h;subst h'
 exact ⟨h1,fun h=>by cases h⟩
theorem DY:TiOK Tryz.prog 4 qf:=dI (by kernel_rfl) (by kernel_rfl) (by kernel_rfl) (by kernel_rfl) (fun _ _ _=>rfl) rfl (fun b h=>by kernel_rfl) (fun k z h=>by cases h) (fun e b h=>by cases h)
theorem DZ:TiOK Tryz.prog 3 np:=dI (by kernel_rfl) (by kernel_rfl) (by kernel_rfl) (by kernel_rfl) (fun _ _ _=>rfl) rfl (fun b h=>by cases h) (ik_of (by kernel_rfl)) (fun e b h=>by cases h)
theorem Ea:TiOK Tryz.prog 2 np:=dI (by kernel_rfl) (by kernel_rfl) (by kernel_rfl) (by kernel_rfl) (fun _ _ _=>rfl) rfl (fun b h=>by cases h) (ik_of (by kernel_rfl)) (fun e b h=>by cases h)
theorem Eb:TiOK Tryz.prog 44 np:=dI (by kernel_rfl) (by kernel_rfl) (by kernel_rfl) (by kernel_rfl) (fun _ _ _=>rfl) rfl (fun b h=>by cases h) (ik_of (by kernel_rfl)) (fun e b h=>by cases h)
theorem Ec:TiOK Tryz.prog 22 qh:=dI (by kernel_rfl) (by kernel_rfl) (by kernel_rfl) (by kernel_rfl) (fun _ _ _=>sC) rfl (fun b h=>by cases h) (fun k z h=>by cases h) (sl_of (by kernel_rfl) (by kernel_rfl))
theorem Ed:TiOK Tryz.prog 124 qg:=dI (by kernel_rfl) (by kernel_rfl) (by kernel_rfl) (by kernel_rfl) (fun _ _ _=>DH) rfl (fun b h=>by cases h) (fun k z h=>by cases h) (sl_of (by kernel_rfl) (by kernel_rfl))
theorem IH:TiOK Tryz.prog 34 Ja:=dI (by kernel_rfl) (by kernel_rfl) (by kernel_rfl) (by kernel_rfl) (fun _ _ _=>rfl) rfl (fun b h=>by cases h) (fun k z h=>by cases h) (sl_of' (by kernel_rfl))
theorem II:TiOK Tryz.prog 168 nL:=dI (by kernel_rfl) (by kernel_rfl) (by kernel_rfl) (by kernel_rfl) (fun _ _ _=>rfl) rfl (fun b h=>by cases h) (fun k z h=>by cases h) (fun e b h=>by cases h)
theorem IJ:TiOK Tryz.prog 162 nL:=dI (by kernel_rfl) (by kernel_rfl) (by kernel_rfl) (by kernel_rfl) (fun _ _ _=>rfl) rfl (fun b h=>by cases h) (fun k z h=>by cases h) (fun e b h=>by cases h)
theorem Ap:TiOK Tryz.prog 50 pF:=⟨by kernel_rfl,by kernel_rfl,by kernel_rfl,sZ,(fun h=>by cases h),fun _ _ _=>RL.one.2 rfl,.inr ⟨rfl,0,rfl⟩,rfl,fun _=>rfl,fun k z _ h=>ik_of (by kernel_rfl) k z (by simpa [pF] using h),(fun e b h=>by cases h),(fun b _ h=>by simp [pF] at h),by kernel_rfl⟩
theorem Gy (t:TypeId) (i:TI) (h:He t=some i):TiOK Tryz.prog t i:=by
 unfold He at h
 by_cases h0:t=30
 ·rw [if_pos h0] at h;injection h with h;subst h;subst h0;exact As
 rw [if_neg h0] at h
 by_cases h1:t=32
 ·rw [if_pos h1] at h;injection h with h;subst h;subst h1;exact IG
 rw [if_neg h1] at h
 by_cases h2:t=4
 ·rw [if_pos h2] at h;injection h with h;subst h;subst h2;exact DY
 rw [if_neg h2] at h
 by_cases h3:t=3
 ·rw [if_pos h3] at h;injection h with h;subst h;subst h3;exact DZ
 rw [if_neg h3] at h
 by_cases h4:t=2
 ·rw [if_pos h4] at h;injection h with h;subst h;subst h4;exact Ea
 rw [if_neg h4] at h
 by_cases h5:t=44
 ·rw [if_pos h5] at h;injection h with h;subst h;subst h5;exact Eb
 rw [if_neg h5] at h
 by_cases h6:t=22
 ·rw [if_pos h6] at h;injection h with h;subst h;subst h6;exact Ec
 rw [if_neg h6] at h
 by_cases h7:t=127
 ·rw [if_pos h7] at h;injection h with h;subst h;subst h7;exact At
 rw [if_neg h7] at h
 by_cases h8:t=124
 ·rw [if_pos h8] at h;injection h with h;subst h;subst h8;exact Ed
 rw [if_neg h8] at h
 by_cases h9:t=165
 ·rw [if_pos h9] at h;injection h with h;subst h;subst h9;exact IM
 rw [if_neg h9] at h
 by_cases h10:t=34
 ·rw [if_pos h10] at h;injection h with h;subst h;subst h10;exact IH
 rw [if_neg h10] at h
 by_cases h11:t=168
 ·rw [if_pos h11] at h;injection h with h;subst h;subst h11;exact II
 rw [if_neg h11] at h
 by_cases h12:t=162
 ·rw [if_pos h12] at h;injection h with h;subst h;subst h12;exact IJ
 rw [if_neg h12] at h
 by_cases h13:t=50
 ·rw [if_pos h13] at h;injection h with h;subst h;subst h13;exact Ap
 rw [if_neg h13] at h
 cases h
end
section
structure X where
 s:Bool
 e:Int
 xs:List Nat
def X.L (x:X):List Lf:=[.lit (.bool x.s),.lit (.int .i64 x.e),.ws x.xs]
def qx (q:Q):X:=⟨q.s,q.e,digs B64 q.m⟩
def X.ok (x:X):Bool:=eP x.s x.e x.xs.length x.xs
def X.q (x:X):Q:=⟨x.s,nval B64 x.xs,x.e⟩
def cT:List Lf→Option X
 |[.lit (.bool s),.lit (.int .i64 e),.ws xs]=>some ⟨s,e,xs⟩
 |_=>none
structure J where
 lo:X
 hi:X
def J.L (j:J):List Lf:=[.lit (.bool j.lo.s),.lit (.int .i64 j.lo.e),.ws j.lo.xs,.lit (.bool j.hi.s),.lit (.int .i64 j.hi.e),.ws j.hi.xs]
def fi:List Lf→Option J
 |[.lit (.bool s),.lit (.int .i64 e),.ws xs,.lit (.bool t),.lit (.int .i64 f),.ws ys]=>some ⟨⟨s,e,xs⟩,⟨t,f,ys⟩⟩
 |_=>none
def vL (q:Q):List Lf:=[.lit (.bool q.s),.dg q.m,.lit (.int .i64 q.e)]
def cu:List Lf→Option Q
 |[.lit (.bool s),.dg m,.lit (.int .i64 e)]=>some ⟨s,m,e⟩
 |_=>none
theorem jn {ls:List Lf} {x:Q} (h:cu ls=some x):ls=vL x:=by
 unfold cu at h
 split at h
 ·injection h with h;subst h;rfl
 ·cases h
theorem fG {ls:List Lf} {x:X} (h:cT ls=some x):ls=x.L:=by
 unfold cT at h
 split at h
 ·injection h with h;subst h;rfl
 ·cases h
section
variable {ρ:Env} {D:Nat→Bool} {w:World}
theorem lc {x:X} {u:Value} (h:(AV.v true x.L).R ρ D w u):∃ (A:Option Addr) (c:Nat),u= .agg #[.bool x.s,.int .i64 x.e,.slice A x.xs.length c]∧Arg w A x.xs.length c x.xs∧x.xs.length≤100000:=by
 obtain ⟨us,rfl,u1,r1,rfl,h1,u2,r2,rfl,h2,u3,r3,rfl,⟨A,n,c,h3,h4,h5⟩,rfl⟩:=h
 have h1:u1= .bool x.s:=h1
 have h2:u2= .int .i64 x.e:=h2
 subst h1;subst h2;subst h3
 have hn:x.xs.length=n:=h4.1.1
 subst hn
 exact ⟨A,c,rfl,h4,h5⟩
theorem ln {q:Q} {u:Value} (h:(AV.v true (vL q)).R ρ D w u):∃ (A:Option Addr) (n c:Nat),u= .agg #[.bool q.s,.slice A n c,.int .i64 q.e]∧Dg w A n c q.m:=by
 obtain ⟨us,rfl,u1,r1,rfl,h1,u2,r2,rfl,⟨A,n,c,h3,h4⟩,u3,r3,rfl,h2,rfl⟩:=h
 have h1:u1= .bool q.s:=h1
 have h2:u3= .int .i64 q.e:=h2
 subst h1;subst h2;subst h3
 exact ⟨A,n,c,rfl,h4⟩
theorem GB {H L:Nat} {v:Value} {q:Q} (h:ValV H L w v q):(AV.v true (vL q)).R ρ D w v:=by
 obtain ⟨A,n,c,rfl,hr,_⟩:=h
 exact ⟨_,rfl,IV rfl ⟨A,n,c,rfl,hr⟩ rfl⟩
theorem zS {lo:Nat} {v:Value} {q:Q} (h:NumV lo w v q) (hl:(digs B64 q.m).length≤100000):(AV.v true (qx q).L).R ρ D w v:=by
 obtain ⟨A,n,c,rfl,hr⟩:=h
 have hn:=hr.1
 exact ⟨_,rfl,IV rfl rfl ⟨A,n,c,rfl,⟨hr.less (Nat.zero_le _),af B64_two _⟩,by omega⟩⟩
theorem sY {q:Q} (h:iX q):(digs B64 q.m).length≤100000:=by have:=bk B64_two h.1;omega
end
abbrev fR:=FuncId→List AV→Option (Prop×AV)
structure TbOK (P:Program) (T:fR):Prop where
 enters:∀ f args e,T f args=some e→∀ (vs:Array Value) (w:World),(callFunc f vs).run P w= .ok (.enter f vs) w
 ct:∀ f args e,T f args=some e→e.1→Ct P f args (·=e.2)
def jg:List Lf→Option (List Lc)
 |[]=>some []
 |.lit v::r=>(match jg r with
  |some k=>some (.lit v::k)
  |none=>none)
 |.ws v::r=>(match jg r with
  |some k=>some (.ws v::k)
  |none=>none)
 |.dg v::r=>(match jg r with
  |some k=>some (.dg v::k)
  |none=>none)
 |.sl _ a b c::r=>(match jg r with
  |some k=>some (.sl a b c::k)
  |none=>none)
 |_::_=>none
def jp (st:St):Lf→Lf
 |.lit v=>.lit v
 |.own b o=>.own b o
 |.osl b n=>(match look st (2*b+1) with
  |some (.v _ ls)=>(match jg ls with
   |some ls'=>if ls.length=n*(ls.length / n) then .sl false (ls.length / n) n ls' else .osl b n
   |none=>.osl b n)
  |_=>.osl b n)
 |.ws xs=>.ws xs
 |.dg N=>.dg N
 |.clo f cs=>.clo f cs
 |.sl _ sz n ls=>.sl false sz n ls
 |.im ls=>.im ls
 |.ol b k=>(match look st (2*b+1) with
  |some (.pre _ sz ls)=>(match jg ls with
   |some ls'=>if ls.length=k*sz then .sl false sz k ls' else .ol b k
   |none=>.ol b k)
  |_=>.ol b k)
 |.oe b k o=>.oe b k o
 |.ov b k o n=>.ov b k o n
def ir (st:St):AV→AV
 |.v g ls=>.v g (ls.map (jp st))
 |.tup ps=>.tup ps
 |.pre e sz ls=>.pre e sz ls
def olL:Lf→List Nat
 |.lit _=>[]
 |.own _ _=>[]
 |.osl b _=>[2*b+1]
 |.ws _=>[]
 |.dg _=>[]
 |.clo _ _=>[]
 |.sl _ _ _ _=>[]
 |.im _=>[]
 |.ol b _=>[2*b+1]
 |.oe _ _ _=>[]
 |.ov _ _ _ _=>[]
def olA:AV→List Nat
 |.v _ ls=>ls.flatMap olL
 |.tup _=>[]
 |.pre _ _ _=>[]
def ot:Lf→Bool
 |.lit _=>true
 |.own _ _=>false
 |.osl _ _=>false
 |.ws _=>true
 |.dg _=>true
 |.clo _ cs=>cs.isEmpty
 |.sl _ _ _ _=>true
 |.im _=>true
 |.ol _ _=>false
 |.oe _ _ _=>false
 |.ov _ _ _ _=>false
def nU:AV→Bool
 |.v _ ls=>ls.all ot
 |.tup _=>false
 |.pre _ _ _=>false
theorem uN:∀ {ls:List Lf} {ks:List Lc},jg ls=some ks→ks.length=ls.length:=by
 intro ls
 induction ls with
 |nil=>intro ks h;injection h with h;subst h;rfl
 |cons l ls ih=>
  intro ks h
  cases l<;>simp only [jg] at h<;>first |(cases h;done)|(split at h<;>first |(cases h;done)|(injection h with h;subst h;rename_i k hk;simp [ih hk]))
theorem Ff {ρ:Env} {D:Nat→Bool} {w:World} {S:Nat→Prop} (hS:∀ g,Sep ρ D g→S g):∀ {ls:List Lf} {ks:List Lc} {us:List Value},jg ls=some ks→RL ρ D w ls us→LcL S w ks us:=by
 intro ls
 induction ls with
 |nil=>intro ks us h hr;injection h with h;subst h;exact hr
 |cons l ls ih=>
  intro ks us h hr
  obtain ⟨u,r,e,h1,h2⟩:=hr
  cases l with
  |lit v=>
   simp only [jg] at h
   split at h
   ·rename_i k hk;injection h with h;subst h;exact ⟨u,r,e,h1,ih hk h2⟩
   ·cases h
  |ws v=>
   simp only [jg] at h
   split at h
   ·rename_i k hk;injection h with h;subst h;exact ⟨u,r,e,h1,ih hk h2⟩
   ·cases h
  |dg v=>
   simp only [jg] at h
   split at h
   ·rename_i k hk;injection h with h;subst h;exact ⟨u,r,e,h1,ih hk h2⟩
   ·cases h
  |sl f a b c=>
   simp only [jg] at h
   split at h
   ·rename_i k hk;injection h with h;subst h;exact ⟨u,r,e,Lc.R.mono (Keeps.refl _ _) (fun g _ _ _ h=>hS g h.1) _ _ h1,ih hk h2⟩
   ·cases h
  |_=>simp [jg] at h
section
variable {F:Nat→Prop} {w0 w:World} {N:Nat} {ρ:Env} {st:St} {a:Act}
abbrev Env.no (ρ:Env):Env:={ρ with al:=fun _=>false}
omit F w0 N st a in
theorem mZ {ρ:Env} {g:Nat}:Sep ρ.no (fun _=>false) g:=⟨fun b hb=>(by cases hb),fun b hb=>(by cases hb)⟩
theorem JG (h:Cz F w0 N ρ st a w) {l:Lf} {u:Value} (hR:l.R ρ (dom st) w u) (hn:ot (jp st l)=true):(jp st l).R ρ.no (fun _=>false) w u:=by
 have hS:∀ g,Sep ρ (dom st) g→SepF false ρ.no (fun _=>false) g:=fun g _=>⟨mZ,fun e=>(by cases e)⟩
 cases l with
 |sl f sz n ls=>exact Lc.R.mono (Keeps.refl _ _) (fun g _ _ _ _=>⟨mZ,fun e=>(by cases e)⟩) _ _ hR
 |im ls=>exact ImR.mono hR (Keeps.refl _ _) fun g _ _ _ _=>mZ
 |own b o=>cases hn
 |oe b k o=>cases hn
 |ov b k o n=>cases hn
 |clo f cs=>cases cs with
  |nil=>exact ⟨(fun b hb=>by cases hb),hR.2⟩
  |cons _ _=>cases hn
 |osl b n=>
  have hq:(∃ g ls ks,look st (2*b+1)=some (.v g ls)∧jg ls=some ks∧ls.length=n*(ls.length / n)∧jp st (.osl b n)= .sl false (ls.length / n) n ks)∨jp st (.osl b n)= .osl b n:=by
   simp only [jp]
   split
   ·rename_i g ls hl
    split
    ·rename_i ks hk
     split
     ·rename_i hn;exact .inl ⟨g,ls,ks,hl,hk,hn,rfl⟩
     ·exact .inr rfl
    ·exact .inr rfl
   ·exact .inr rfl
  rcases hq with ⟨g,ls,ks,hl,hk,hn',e⟩|e
  case inr=>rw [e] at hn;cases hn
  rw [e]
  obtain ⟨hdb,hu⟩:=hR
  obtain ⟨g0,ls0,T,cs,e0,hB,hr0,ho0,hg⟩:=h.mv hl
  injection e0 with e1 e0;subst e0
  have hlen:=hr0.len
  rw [Array.length_toList] at hlen
  have hkl:=uN hk
  refine ⟨by rw [hkl];exact hn',_,n,hu,Nat.le_refl _,.inr ⟨⟨ρ b,0,none⟩,T,cs,rfl,rfl,⟨mZ,fun e=>(by cases e)⟩,hB.wb,?_,?_⟩⟩
  ·show 0+ks.length≤cs.size;omega
  ·show LcL _ w ks ((cs.toList.drop 0).take ks.length)
   rw [List.drop_zero,List.take_of_length_le (by rw [Array.length_toList];omega)]
   exact Ff hS hk hr0
 |ol b k=>
  have hq:(∃ e sz ls ks,look st (2*b+1)=some (.pre e sz ls)∧jg ls=some ks∧ls.length=k*sz∧jp st (.ol b k)= .sl false sz k ks)∨jp st (.ol b k)= .ol b k:=by
   simp only [jp]
   split
   ·rename_i e sz ls hl
    split
    ·rename_i ks hk
     split
     ·rename_i hn;exact .inl ⟨e,sz,ls,ks,hl,hk,hn,rfl⟩
     ·exact .inr rfl
    ·exact .inr rfl
   ·exact .inr rfl
  rcases hq with ⟨e,sz,ls,ks,hl,hk,hn',e'⟩|e
  case inr=>rw [e] at hn;cases hn
  rw [e']
  obtain ⟨hal,hgk,hk0,hsz,hok,hdm,g,cap,cur,us,hgh,hob,hbg,⟨T0,hB⟩,hkc,hcm,hcs,htk,hul,hcok,hRl⟩:=h.cur hl hn'
  obtain ⟨_,_,hu,_⟩:=hR
  have hu:=(hu hgk.symm).trans hgh
  have hkl:=uN hk
  have hcl:k*sz≤cur.size:=by rw [hcs];exact Nat.mul_le_mul_right _ hkc
  refine ⟨by rw [hkl];exact hn',_,cap,hu,hkc,.inr ⟨⟨g,0,none⟩,T0,cur,rfl,rfl,⟨mZ,fun e=>(by cases e)⟩,hB.wb,?_,?_⟩⟩
  ·show 0+ks.length≤cur.size;omega
  ·show LcL _ w ks ((cur.toList.drop 0).take ks.length)
   rw [List.drop_zero,hkl,hn',htk]
   exact Ff hS hk hRl
 |_=>exact hR
theorem cv_RL (h:Cz F w0 N ρ st a w):∀ {ls:List Lf} {us:List Value},RL ρ (dom st) w ls us→(ls.map (jp st)).all ot=true→RL ρ.no (fun _=>false) w (ls.map (jp st)) us:=by
 intro ls
 induction ls with
 |nil=>intro us hr _;exact hr
 |cons l ls ih=>
  intro us hr hn
  obtain ⟨u,r,e,h1,h2⟩:=hr
  rw [List.map_cons,List.all_cons,Bool.and_eq_true] at hn
  exact ⟨u,r,e,JG h h1 hn.1,ih h2 hn.2⟩
theorem yW (h:Cz F w0 N ρ st a w):∀ {xs:List AV} {us:List Value},RA ρ (dom st) w xs us→(xs.map (ir st)).all nU=true→RA ρ.no (fun _=>false) w (xs.map (ir st)) us:=by
 intro xs
 induction xs with
 |nil=>intro us hr _;exact hr
 |cons x xs ih=>
  intro us hr hn
  obtain ⟨u,r,e,h1,h2⟩:=hr
  rw [List.map_cons,List.all_cons,Bool.and_eq_true] at hn
  refine ⟨u,r,e,?_,ih h2 hn.2⟩
  cases x with
  |v g ls=>
   cases g with
   |true=>obtain ⟨vs,e',hr'⟩:=h1;exact ⟨vs,e',cv_RL h hr' hn.1⟩
   |false=>exact cv_RL h (us:=[u]) h1 hn.1
  |tup _=>cases hn.1
  |pre _ _ _=>cases hn.1
theorem qn {st':St} {l:Lf} (h:∀ k∈olL l,look st' k=look st k):jp st' l=jp st l:=by
 cases l with
 |ol b k=>simp only [jp,h (2*b+1) (by simp [olL])]
 |osl b n=>simp only [jp,h (2*b+1) (by simp [olL])]
 |_=>rfl
theorem kT {st':St} {x:AV} (h:∀ k∈olA x,look st' k=look st k):ir st' x=ir st x:=by
 cases x with
 |v g ls=>
  show AV.v g _=AV.v g _
  congr 1
  exact List.map_congr_left fun l hl=>qn fun k hk=>h k (List.mem_flatMap.2 ⟨l,hl,hk⟩)
 |_=>rfl
end
def aD (T:fR):eJ:=fun f d st args=>match T f (args.map (ir st)) with
 |some e=>if (args.map (ir st)).all nU=true then some (e.1,args.flatMap olA,[(2*d,e.2)]) else none
 |none=>none
theorem ao {P:Program} {T:fR} (h:TbOK P T) (F:Nat→Prop) (w0:World):OrOK P (aD T) F w0:=by
 refine ⟨fun f d st args e he=>?_,fun f d st args e he hp N ρ a w us hz hd hA=>?_,fun f d st st' args e he hk=>?_⟩
 ·unfold aD at he
  split at he
  ·rename_i q hq;exact h.enters f _ q hq
  ·cases he
 ·unfold aD at he
  split at he
  ·rename_i q hq
   split at he
   ·rename_i hn
    injection he with he;subst he
    refine (h.ct f _ q hq hp _ (fun _=>false) w us (hz.tb.tab hz.bel) (yW hz hA hn)).mono ?_
    rintro en w' ⟨u,r,rfl,rfl,_,hR,hb⟩
    exact ⟨u,ρ,rfl,hz.val hb hd (hR _ _ hz.old)⟩
   ·cases he
  ·cases he
 ·have h0:=he
  unfold aD at he
  split at he
  ·split at he
   ·injection he with he;subst he
    have hm:args.map (ir st')=args.map (ir st):=List.map_congr_left fun x hx=>kT fun k hk'=>hk k (List.mem_flatMap.2 ⟨x,hx,hk'⟩)
    rw [←h0]
    unfold aD
    rw [hm]
   ·cases he
  ·cases he
def dh (S T:fR):fR:=fun f args=>match S f args with
 |some e=>some e
 |none=>T f args
theorem av {P:Program} {S T:fR} (hS:TbOK P S) (hT:TbOK P T):TbOK P (dh S T):=by
 refine ⟨fun f args e he=>?_,fun f args e he=>?_⟩
 ·unfold dh at he
  split at he
  ·rename_i q hq;injection he with he;subst he;exact hS.enters f args _ hq
  ·exact hT.enters f args e he
 ·unfold dh at he
  split at he
  ·rename_i q hq;injection he with he;subst he;exact hS.ct f args _ hq
  ·exact hT.ct f args e he
def one (g:FuncId) (k:List AV→Option (Prop×AV)):fR:=fun f args=>if f=g then k args else none
theorem cC {P:Program} {g:FuncId} {k:List AV→Option (Prop×AV)} (he:∀ (vs:Array Value) (w:World),(callFunc g vs).run P w= .ok (.enter g vs) w) (hc:∀ args e,k args=some e→e.1→Ct P g args (·=e.2)):TbOK P (one g k):=by
 refine ⟨fun f args e h=>?_,fun f args e h=>?_⟩
 ·unfold one at h
  split at h
  ·rename_i hf;subst hf;exact he
  ·cases h
 ·unfold one at h
  split at h
  ·rename_i hf;subst hf;exact hc args e h
  ·cases h
def jx:fR:=fun _ _=>none
theorem fZ {P:Program}:TbOK P jx:=⟨(fun _ _ _ h=>by cases h),(fun _ _ _ h=>by cases h)⟩
section
abbrev bA (b:Bool):AV:=.s (.lit (.bool b))
abbrev iA (z:Int):AV:=.s (.lit (.int .i64 z))
abbrev nA (q:Q):AV:=.v true (qx q).L
abbrev vA (q:Q):AV:=.v true (vL q)
abbrev lP (r:Q×Int):AV:=.tup [(true,(qx r.1).L),(false,[.lit (.int .i64 r.2)])]
end
def gN (k:X→Prop×AV):List AV→Option (Prop×AV)
 |[.v true mx]=>(match cT mx with
  |some x=>some (k x)
  |_=>none)
 |_=>none
theorem tc {k:X→Prop×AV} {args:List AV} {e:Prop×AV} (h:gN k args=some e):∃ x,args=[.v true x.L]∧e=k x:=by
 unfold gN at h
 split at h
 ·split at h
  ·rename_i x hx
   injection h with h;subst h
   exact ⟨x,by rw [fG hx],rfl⟩
  ·cases h
 ·cases h
def pP (k:X→X→Prop×AV):List AV→Option (Prop×AV)
 |[.v true mx,.v true mx1]=>(match cT mx,cT mx1 with
  |some x,some x1=>some (k x x1)
  |_,_=>none)
 |_=>none
theorem zk {k:X→X→Prop×AV} {args:List AV} {e:Prop×AV} (h:pP k args=some e):∃ x x1,args=[.v true x.L,.v true x1.L]∧e=k x x1:=by
 unfold pP at h
 split at h
 ·split at h
  ·rename_i x x1 hx hx1
   injection h with h;subst h
   exact ⟨x,x1,by rw [fG hx,fG hx1],rfl⟩
  ·cases h
 ·cases h
def pO (k:X→Int→Prop×AV):List AV→Option (Prop×AV)
 |[.v true mx,.v false [.lit (.int .i64 z)]]=>(match cT mx with
  |some x=>some (k x z)
  |_=>none)
 |_=>none
theorem zj {k:X→Int→Prop×AV} {args:List AV} {e:Prop×AV} (h:pO k args=some e):∃ x z,args=[.v true x.L,iA z]∧e=k x z:=by
 unfold pO at h
 split at h
 ·split at h
  ·rename_i x hx
   injection h with h;subst h
   exact ⟨x,_,by rw [fG hx],rfl⟩
  ·cases h
 ·cases h
def gI (k:Int→Prop×AV):List AV→Option (Prop×AV)
 |[.v false [.lit (.int .i64 z)]]=>some (k z)
 |_=>none
def ek (k:X→X→Int→Bool→Prop×AV):List AV→Option (Prop×AV)
 |[.v true mx,.v true mx1,.v false [.lit (.int .i64 z)],.v false [.lit (.bool b)]]=>(match cT mx,cT mx1 with
  |some x,some x1=>some (k x x1 z b)
  |_,_=>none)
 |_=>none
theorem mg {k:X→X→Int→Bool→Prop×AV} {args:List AV} {e:Prop×AV} (h:ek k args=some e):∃ x x1 z b,args=[.v true x.L,.v true x1.L,iA z,bA b]∧e=k x x1 z b:=by
 unfold ek at h
 split at h
 ·split at h
  ·rename_i x x1 hx hx1
   injection h with h;subst h
   exact ⟨x,x1,_,_,by rw [fG hx,fG hx1],rfl⟩
  ·cases h
 ·cases h
def kc (k:X→Int→Bool→Prop×AV):List AV→Option (Prop×AV)
 |[.v true mx,.v false [.lit (.int .i64 z)],.v false [.lit (.bool b)]]=>(match cT mx with
  |some x=>some (k x z b)
  |_=>none)
 |_=>none
def gV (k:Q→Prop×AV):List AV→Option (Prop×AV)
 |[.v true mq]=>(match cu mq with
  |some q=>some (k q)
  |_=>none)
 |_=>none
theorem Ib {k:Q→Prop×AV} {args:List AV} {e:Prop×AV} (h:gV k args=some e):∃ q,args=[.v true (vL q)]∧e=k q:=by
 unfold gV at h
 split at h
 ·split at h
  ·rename_i q hq
   injection h with h;subst h
   exact ⟨q,by rw [jn hq],rfl⟩
  ·cases h
 ·cases h
def ym (k:Q→Q→Prop×AV):List AV→Option (Prop×AV)
 |[.v true mq,.v true mq1]=>(match cu mq,cu mq1 with
  |some q,some q1=>some (k q q1)
  |_,_=>none)
 |_=>none
theorem ru {k:Q→Q→Prop×AV} {args:List AV} {e:Prop×AV} (h:ym k args=some e):∃ q q1,args=[.v true (vL q),.v true (vL q1)]∧e=k q q1:=by
 unfold ym at h
 split at h
 ·split at h
  ·rename_i q q1 hq hq1
   injection h with h;subst h
   exact ⟨q,q1,by rw [jn hq,jn hq1],rfl⟩
  ·cases h
 ·cases h
def qa (k:Q→Int→Bool→Prop×AV):List AV→Option (Prop×AV)
 |[.v true mq,.v false [.lit (.int .i64 z)],.v false [.lit (.bool b)]]=>(match cu mq with
  |some q=>some (k q z b)
  |_=>none)
 |_=>none
theorem Cj {k:Q→Int→Bool→Prop×AV} {args:List AV} {e:Prop×AV} (h:qa k args=some e):∃ q z b,args=[.v true (vL q),iA z,bA b]∧e=k q z b:=by
 unfold qa at h
 split at h
 ·split at h
  ·rename_i q hq
   injection h with h;subst h
   exact ⟨q,_,_,by rw [jn hq],rfl⟩
  ·cases h
 ·cases h
def nI (k:Q→Q→Int→Bool→Prop×AV):List AV→Option (Prop×AV)
 |[.v true mq,.v true mq1,.v false [.lit (.int .i64 z)],.v false [.lit (.bool b)]]=>(match cu mq,cu mq1 with
  |some q,some q1=>some (k q q1 z b)
  |_,_=>none)
 |_=>none
theorem zm {k:Q→Q→Int→Bool→Prop×AV} {args:List AV} {e:Prop×AV} (h:nI k args=some e):∃ q q1 z b,args=[.v true (vL q),.v true (vL q1),iA z,bA b]∧e=k q q1 z b:=by
 unfold nI at h
 split at h
 ·split at h
  ·rename_i q q1 hq hq1
   injection h with h;subst h
   exact ⟨q,q1,_,_,by rw [jn hq,jn hq1],rfl⟩
  ·cases h
 ·cases h
def DN (k:List Nat→List Nat→Prop×AV):List AV→Option (Prop×AV)
 |[.v false [.ws l],.v false [.ws l1]]=>some (k l l1)
 |_=>none
theorem Fm {k:List Nat→List Nat→Prop×AV} {args:List AV} {e:Prop×AV} (h:DN k args=some e):∃ l l1,args=[.s (.ws l),.s (.ws l1)]∧e=k l l1:=by
 unfold DN at h
 split at h
 ·injection h with h;subst h
  exact ⟨_,_,rfl,rfl⟩
 ·cases h
def gJ (k:J→Prop×AV):List AV→Option (Prop×AV)
 |[.v true mj]=>(match fi mj with
  |some j=>some (k j)
  |_=>none)
 |_=>none
def su (k:J→J→Prop×AV):List AV→Option (Prop×AV)
 |[.v true mj,.v true mj1]=>(match fi mj,fi mj1 with
  |some j,some j1=>some (k j j1)
  |_,_=>none)
 |_=>none
def sv (k:J→X→Prop×AV):List AV→Option (Prop×AV)
 |[.v true mj,.v true mx]=>(match fi mj,cT mx with
  |some j,some x=>some (k j x)
  |_,_=>none)
 |_=>none
def ka (k:J→J→Int→Prop×AV):List AV→Option (Prop×AV)
 |[.v true mj,.v true mj1,.v false [.lit (.int .i64 z)]]=>(match fi mj,fi mj1 with
  |some j,some j1=>some (k j j1 z)
  |_,_=>none)
 |_=>none
def ss (k:J→Int→Prop×AV):List AV→Option (Prop×AV)
 |[.v true mj,.v false [.lit (.int .i64 z)]]=>(match fi mj with
  |some j=>some (k j z)
  |_=>none)
 |_=>none
def Ch (k:J→Int→Int→Prop×AV):List AV→Option (Prop×AV)
 |[.v true mj,.v false [.lit (.int .i64 z)],.v false [.lit (.int .i64 z1)]]=>(match fi mj with
  |some j=>some (k j z z1)
  |_=>none)
 |_=>none
def Ci (k:X→X→Int→Prop×AV):List AV→Option (Prop×AV)
 |[.v true mx,.v true mx1,.v false [.lit (.int .i64 z)]]=>(match cT mx,cT mx1 with
  |some x,some x1=>some (k x x1 z)
  |_,_=>none)
 |_=>none
def uR (k:Bool→List Nat→Int→Prop×AV):List AV→Option (Prop×AV)
 |[.v false [.lit (.bool b)],.v false [.ws l],.v false [.lit (.int .i64 z)]]=>some (k b l z)
 |_=>none
theorem Cg {k:Bool→List Nat→Int→Prop×AV} {args:List AV} {e:Prop×AV} (h:uR k args=some e):∃ b l z,args=[bA b,.s (.ws l),iA z]∧e=k b l z:=by
 unfold uR at h
 split at h
 ·injection h with h;subst h
  exact ⟨_,_,_,rfl,rfl⟩
 ·cases h
def we (k:Q→Q→Q→Q→Prop×AV):List AV→Option (Prop×AV)
 |[.v true mq,.v true mq1,.v true mq2,.v true mq3]=>(match cu mq,cu mq1,cu mq2,cu mq3 with
  |some q,some q1,some q2,some q3=>some (k q q1 q2 q3)
  |_,_,_,_=>none)
 |_=>none
def rr (k:Q→Q→Q→Q→Int→Prop×AV):List AV→Option (Prop×AV)
 |[.v true mq,.v true mq1,.v true mq2,.v true mq3,.v false [.lit (.int .i64 z)]]=>(match cu mq,cu mq1,cu mq2,cu mq3 with
  |some q,some q1,some q2,some q3=>some (k q q1 q2 q3 z)
  |_,_,_,_=>none)
 |_=>none
def JC (k:Q→Int→Prop×AV):List AV→Option (Prop×AV)
 |[.v true mq,.v false [.lit (.int .i64 z)]]=>(match cu mq with
  |some q=>some (k q z)
  |_=>none)
 |_=>none
theorem GY {P:Program} {f:FuncId} {x:X} {r:AV} (hr:jf r=true) (h:∀ (w:World) (Ax:Option Addr) (cx:Nat),Tab w→Arg w Ax x.xs.length cx x.xs→x.xs.length≤100000→
  Calls P f #[.agg #[.bool x.s,.int .i64 x.e,.slice Ax x.xs.length cx]] w fun e w'=>∃ u,e= .returned u∧(∀ ρ D,r.R ρ D w' u)∧Below w.heap.size w w'):Ct P f [.v true x.L] (·=r):=by
 rintro ρ D w us ht ⟨ux,_,rfl,hx,rfl⟩
 obtain ⟨Ax,cx,rfl,hax,hlx⟩:=lc hx
 refine (h w Ax cx ht hax hlx).mono ?_
 rintro e w' ⟨u,he,hR,hb⟩
 exact ⟨u,r,he,rfl,hr,fun ρ' D' _=>hR ρ' D',hb⟩
theorem Hr {P:Program} {f:FuncId} {x:X} {x1:X} {r:AV} (hr:jf r=true) (h:∀ (w:World) (Ax:Option Addr) (cx:Nat) (Ax1:Option Addr) (cx1:Nat),Tab w→Arg w Ax x.xs.length cx x.xs→x.xs.length≤100000→Arg w Ax1 x1.xs.length cx1 x1.xs→x1.xs.length≤100000→
  Calls P f #[.agg #[.bool x.s,.int .i64 x.e,.slice Ax x.xs.length cx],.agg #[.bool x1.s,.int .i64 x1.e,.slice Ax1 x1.xs.length cx1]] w fun e w'=>∃ u,e= .returned u∧(∀ ρ D,r.R ρ D w' u)∧Below w.heap.size w w'):Ct P f [.v true x.L,.v true x1.L] (·=r):=by
 rintro ρ D w us ht ⟨ux,_,rfl,hx,⟨ux1,_,rfl,hx1,rfl⟩⟩
 obtain ⟨Ax,cx,rfl,hax,hlx⟩:=lc hx
 obtain ⟨Ax1,cx1,rfl,hax1,hlx1⟩:=lc hx1
 refine (h w Ax cx Ax1 cx1 ht hax hlx hax1 hlx1).mono ?_
 rintro e w' ⟨u,he,hR,hb⟩
 exact ⟨u,r,he,rfl,hr,fun ρ' D' _=>hR ρ' D',hb⟩
theorem Hq {P:Program} {f:FuncId} {x:X} {z:Int} {r:AV} (hr:jf r=true) (h:∀ (w:World) (Ax:Option Addr) (cx:Nat),Tab w→Arg w Ax x.xs.length cx x.xs→x.xs.length≤100000→
  Calls P f #[.agg #[.bool x.s,.int .i64 x.e,.slice Ax x.xs.length cx],.int .i64 z] w fun e w'=>∃ u,e= .returned u∧(∀ ρ D,r.R ρ D w' u)∧Below w.heap.size w w'):Ct P f [.v true x.L,iA z] (·=r):=by
 rintro ρ D w us ht ⟨ux,_,rfl,hx,⟨uz,_,rfl,hz,rfl⟩⟩
 obtain ⟨Ax,cx,rfl,hax,hlx⟩:=lc hx
 have hz:uz= .int .i64 z:=RL.one.1 hz
 subst hz
 refine (h w Ax cx ht hax hlx).mono ?_
 rintro e w' ⟨u,he,hR,hb⟩
 exact ⟨u,r,he,rfl,hr,fun ρ' D' _=>hR ρ' D',hb⟩
theorem rp {P:Program} {f:FuncId} {x:X} {x1:X} {z:Int} {b:Bool} {r:AV} (hr:jf r=true) (h:∀ (w:World) (Ax:Option Addr) (cx:Nat) (Ax1:Option Addr) (cx1:Nat),Tab w→Arg w Ax x.xs.length cx x.xs→x.xs.length≤100000→Arg w Ax1 x1.xs.length cx1 x1.xs→x1.xs.length≤100000→
  Calls P f #[.agg #[.bool x.s,.int .i64 x.e,.slice Ax x.xs.length cx],.agg #[.bool x1.s,.int .i64 x1.e,.slice Ax1 x1.xs.length cx1],.int .i64 z,.bool b] w fun e w'=>∃ u,e= .returned u∧(∀ ρ D,r.R ρ D w' u)∧Below w.heap.size w w'):Ct P f [.v true x.L,.v true x1.L,iA z,bA b] (·=r):=by
 rintro ρ D w us ht ⟨ux,_,rfl,hx,⟨ux1,_,rfl,hx1,⟨uz,_,rfl,hz,⟨ub,_,rfl,hb,rfl⟩⟩⟩⟩
 obtain ⟨Ax,cx,rfl,hax,hlx⟩:=lc hx
 obtain ⟨Ax1,cx1,rfl,hax1,hlx1⟩:=lc hx1
 have hz:uz= .int .i64 z:=RL.one.1 hz
 subst hz
 have hb:ub= .bool b:=RL.one.1 hb
 subst hb
 refine (h w Ax cx Ax1 cx1 ht hax hlx hax1 hlx1).mono ?_
 rintro e w' ⟨u,he,hR,hb⟩
 exact ⟨u,r,he,rfl,hr,fun ρ' D' _=>hR ρ' D',hb⟩
theorem Kz {P:Program} {f:FuncId} {q:Q} {r:AV} (hr:jf r=true) (h:∀ (w:World) (Aq:Option Addr) (nq cq:Nat),Tab w→Dg w Aq nq cq q.m→
  Calls P f #[.agg #[.bool q.s,.slice Aq nq cq,.int .i64 q.e]] w fun e w'=>∃ u,e= .returned u∧(∀ ρ D,r.R ρ D w' u)∧Below w.heap.size w w'):Ct P f [.v true (vL q)] (·=r):=by
 rintro ρ D w us ht ⟨uq,_,rfl,hq,rfl⟩
 obtain ⟨Aq,nq,cq,rfl,haq⟩:=ln hq
 refine (h w Aq nq cq ht haq).mono ?_
 rintro e w' ⟨u,he,hR,hb⟩
 exact ⟨u,r,he,rfl,hr,fun ρ' D' _=>hR ρ' D',hb⟩
theorem Fb {P:Program} {f:FuncId} {q:Q} {q1:Q} {r:AV} (hr:jf r=true) (h:∀ (w:World) (Aq:Option Addr) (nq cq:Nat) (Aq1:Option Addr) (nq1 cq1:Nat),Tab w→Dg w Aq nq cq q.m→Dg w Aq1 nq1 cq1 q1.m→
  Calls P f #[.agg #[.bool q.s,.slice Aq nq cq,.int .i64 q.e],.agg #[.bool q1.s,.slice Aq1 nq1 cq1,.int .i64 q1.e]] w fun e w'=>∃ u,e= .returned u∧(∀ ρ D,r.R ρ D w' u)∧Below w.heap.size w w'):Ct P f [.v true (vL q),.v true (vL q1)] (·=r):=by
 rintro ρ D w us ht ⟨uq,_,rfl,hq,⟨uq1,_,rfl,hq1,rfl⟩⟩
 obtain ⟨Aq,nq,cq,rfl,haq⟩:=ln hq
 obtain ⟨Aq1,nq1,cq1,rfl,haq1⟩:=ln hq1
 refine (h w Aq nq cq Aq1 nq1 cq1 ht haq haq1).mono ?_
 rintro e w' ⟨u,he,hR,hb⟩
 exact ⟨u,r,he,rfl,hr,fun ρ' D' _=>hR ρ' D',hb⟩
theorem Hs {P:Program} {f:FuncId} {q:Q} {z:Int} {b:Bool} {r:AV} (hr:jf r=true) (h:∀ (w:World) (Aq:Option Addr) (nq cq:Nat),Tab w→Dg w Aq nq cq q.m→
  Calls P f #[.agg #[.bool q.s,.slice Aq nq cq,.int .i64 q.e],.int .i64 z,.bool b] w fun e w'=>∃ u,e= .returned u∧(∀ ρ D,r.R ρ D w' u)∧Below w.heap.size w w'):Ct P f [.v true (vL q),iA z,bA b] (·=r):=by
 rintro ρ D w us ht ⟨uq,_,rfl,hq,⟨uz,_,rfl,hz,⟨ub,_,rfl,hb,rfl⟩⟩⟩
 obtain ⟨Aq,nq,cq,rfl,haq⟩:=ln hq
 have hz:uz= .int .i64 z:=RL.one.1 hz
 subst hz
 have hb:ub= .bool b:=RL.one.1 hb
 subst hb
 refine (h w Aq nq cq ht haq).mono ?_
 rintro e w' ⟨u,he,hR,hb⟩
 exact ⟨u,r,he,rfl,hr,fun ρ' D' _=>hR ρ' D',hb⟩
theorem Fc {P:Program} {f:FuncId} {q:Q} {q1:Q} {z:Int} {b:Bool} {r:AV} (hr:jf r=true) (h:∀ (w:World) (Aq:Option Addr) (nq cq:Nat) (Aq1:Option Addr) (nq1 cq1:Nat),Tab w→Dg w Aq nq cq q.m→Dg w Aq1 nq1 cq1 q1.m→
  Calls P f #[.agg #[.bool q.s,.slice Aq nq cq,.int .i64 q.e],.agg #[.bool q1.s,.slice Aq1 nq1 cq1,.int .i64 q1.e],.int .i64 z,.bool b] w fun e w'=>∃ u,e= .returned u∧(∀ ρ D,r.R ρ D w' u)∧Below w.heap.size w w'):Ct P f [.v true (vL q),.v true (vL q1),iA z,bA b] (·=r):=by
 rintro ρ D w us ht ⟨uq,_,rfl,hq,⟨uq1,_,rfl,hq1,⟨uz,_,rfl,hz,⟨ub,_,rfl,hb,rfl⟩⟩⟩⟩
 obtain ⟨Aq,nq,cq,rfl,haq⟩:=ln hq
 obtain ⟨Aq1,nq1,cq1,rfl,haq1⟩:=ln hq1
 have hz:uz= .int .i64 z:=RL.one.1 hz
 subst hz
 have hb:ub= .bool b:=RL.one.1 hb
 subst hb
 refine (h w Aq nq cq Aq1 nq1 cq1 ht haq haq1).mono ?_
 rintro e w' ⟨u,he,hR,hb⟩
 exact ⟨u,r,he,rfl,hr,fun ρ' D' _=>hR ρ' D',hb⟩
theorem JF {P:Program} {f:FuncId} {l:List Nat} {l1:List Nat} {r:AV} (hr:jf r=true) (h:∀ (w:World) (Al:Option Addr) (nl cl:Nat) (Al1:Option Addr) (nl1 cl1:Nat),Tab w→Arg w Al nl cl l→nl≤100000→Arg w Al1 nl1 cl1 l1→nl1≤100000→
  Calls P f #[.slice Al nl cl,.slice Al1 nl1 cl1] w fun e w'=>∃ u,e= .returned u∧(∀ ρ D,r.R ρ D w' u)∧Below w.heap.size w w'):Ct P f [.s (.ws l),.s (.ws l1)] (·=r):=by
 rintro ρ D w us ht ⟨ul,_,rfl,hl,⟨ul1,_,rfl,hl1,rfl⟩⟩
 obtain ⟨Al,nl,cl,rfl,hal,hll⟩:=RL.one.1 hl
 obtain ⟨Al1,nl1,cl1,rfl,hal1,hll1⟩:=RL.one.1 hl1
 refine (h w Al nl cl Al1 nl1 cl1 ht hal hll hal1 hll1).mono ?_
 rintro e w' ⟨u,he,hR,hb⟩
 exact ⟨u,r,he,rfl,hr,fun ρ' D' _=>hR ρ' D',hb⟩
theorem Hp {P:Program} {f:FuncId} {b:Bool} {l:List Nat} {z:Int} {r:AV} (hr:jf r=true) (h:∀ (w:World) (Al:Option Addr) (nl cl:Nat),Tab w→Arg w Al nl cl l→nl≤100000→
  Calls P f #[.bool b,.slice Al nl cl,.int .i64 z] w fun e w'=>∃ u,e= .returned u∧(∀ ρ D,r.R ρ D w' u)∧Below w.heap.size w w'):Ct P f [bA b,.s (.ws l),iA z] (·=r):=by
 rintro ρ D w us ht ⟨ub,_,rfl,hb,⟨ul,_,rfl,hl,⟨uz,_,rfl,hz,rfl⟩⟩⟩
 have hb:ub= .bool b:=RL.one.1 hb
 subst hb
 obtain ⟨Al,nl,cl,rfl,hal,hll⟩:=RL.one.1 hl
 have hz:uz= .int .i64 z:=RL.one.1 hz
 subst hz
 refine (h w Al nl cl ht hal hll).mono ?_
 rintro e w' ⟨u,he,hR,hb⟩
 exact ⟨u,r,he,rfl,hr,fun ρ' D' _=>hR ρ' D',hb⟩
section
variable {w w':World} {e:Ending}
theorem rH {b:Bool} (h:BoolPost w b e w'):∃ u,e= .returned u∧(∀ ρ D,(bA b).R ρ D w' u)∧Below w.heap.size w w':=⟨_,h.1,fun _ _=>RL.one.2 rfl,h.2⟩
theorem vo {z:Int} (h:oD w z e w'):∃ u,e= .returned u∧(∀ ρ D,(iA z).R ρ D w' u)∧Below w.heap.size w w':=⟨_,h.1,fun _ _=>RL.one.2 rfl,h.2⟩
theorem AC {q:Q} (hq:iX q) (h:kh w q e w'):∃ u,e= .returned u∧(∀ ρ D,(nA q).R ρ D w' u)∧Below w.heap.size w w':=by
 obtain ⟨v,he,hv,hb⟩:=h;exact ⟨v,he,fun _ _=>zS hv (sY hq),hb⟩
theorem jT {r:Q×Int} (hq:iX r.1) (h:dL w r e w'):∃ u,e= .returned u∧(∀ ρ D,(lP r).R ρ D w' u)∧Below w.heap.size w w':=by
 obtain ⟨v,he,hv,hb⟩:=h
 exact ⟨_,he,fun ρ D=>⟨[v,.int .i64 r.2],rfl,v,_,rfl,zS hv (sY hq),_,_,rfl,RL.one.2 rfl,rfl⟩,hb⟩
theorem pp {H:Nat} {q:Q} (h:ValPost w H q e w'):∃ u,e= .returned u∧(∀ ρ D,(vA q).R ρ D w' u)∧Below w.heap.size w w':=by
 obtain ⟨v,he,hv,hb⟩:=h;exact ⟨v,he,fun _ _=>GB hv,hb⟩
theorem Ga {A:Option Addr} {n:Nat} {q:Q} (h:RndPost w A n q e w'):∃ u,e= .returned u∧(∀ ρ D,(vA q).R ρ D w' u)∧Below w.heap.size w w':=by
 obtain ⟨A',n',c',he,hD,_,hb⟩:=h
 exact ⟨_,he,fun _ _=>⟨_,rfl,IV rfl ⟨A',n',c',rfl,hD⟩ rfl⟩,hb⟩
end
def cmpx (x y:X):Int:=kp x.s x.e x.xs.length x.xs y.s y.e y.xs.length y.xs
def iC (x y:X):Bool:=kJ x.s x.e x.xs y.s y.e y.xs
def dF (x:X):Int:=if x.ok then signq x.q else 0
def absx (x:X):Q:=anssign x.s x.e x.xs.length x.xs false
noncomputable def ar (x:X) (k:Int):Q×Int:=mR x.s x.e x.xs.length x.xs k
noncomputable def an (g:Q→Q→Q×Int) (p:Int) (x y:X):Q×Int:=iF g p x.s x.e x.xs.length x.xs y.s y.e y.xs.length y.xs
def Vb (q:Q):Prop:=bg q∧q.m<B64^3000∧ -550000≤q.e∧q.e≤550000
def Vw (q:Q):Prop:=bg q∧q.m<B64^5000∧ -50000000≤q.e∧q.e≤50000000
def Pr (p:Int):Prop:=8≤p∧p≤256
theorem AT {s t:Bool} {e:Int} {xs:List Nat} {w:World} {A:Option Addr} {c:Nat} (ha:Arg w A xs.length c xs):iX (anssign s e xs.length xs t):=by
 unfold anssign
 split
 ·rename_i h
  have:=(cz ha h).2.2
  split
  ·exact ju
  ·exact this
 ·exact ju
theorem pv (q:Q):iX (res q).1:=by
 unfold res;split
 ·assumption
 ·exact ju
theorem ql {s:Bool} {e k:Int} {n:Nat} {xs:List Nat}:iX (mR s e n xs k).1:=by
 unfold mR;split
 ·exact pv _
 ·exact ju
theorem ew {P:Program} {g:FuncId} {fn:Func} {c:Code} (hf:P.funcs[g]? =some fn) (hn:(fn.name== "runtime.NumGoroutine")=false) (hb:fn.body=some c) (vs:Array Value) (w:World):(callFunc g vs).run P w= .ok (.enter g vs) w:=by
 have h1:fn.name≠ "runtime.NumGoroutine":=by simpa using hn
 simp [callFunc,hf,h1,hb,mark]
noncomputable def bz:fR:=one 115 (gN fun x=>(True,bA x.ok))
theorem eU:TbOK Tryz.prog bz:=cC (ew Tryz.func115 (by kernel_rfl) rfl) fun args e h hp=>by obtain ⟨x,rfl,rfl⟩:=tc h;exact GY rfl (fun w Ax cx ht hx hl=>(ga w x.s x.e Ax _ cx x.xs hx hl).mono fun _ _ h=>rH h)
noncomputable def eS:fR:=one 82 (pP fun x x1=>(True,iA (cmpx x x1)))
theorem sF:TbOK Tryz.prog eS:=cC (ew Tryz.func82 (by kernel_rfl) rfl) fun args e h hp=>by obtain ⟨x,x1,rfl,rfl⟩:=zk h;exact Hr rfl (fun w Ax cx Ax1 cx1 ht hx hl hx1 hl1=>(zK w x.s x1.s x.e x1.e Ax Ax1 _ cx _ cx1 x.xs x1.xs hx hx1 hl hl1).mono fun _ _ h=>vo h)
noncomputable def dQ:fR:=one 121 (gN fun x=>(True,iA (dF x)))
theorem qY:TbOK Tryz.prog dQ:=cC (ew Tryz.func121 (by kernel_rfl) rfl) fun args e h hp=>by obtain ⟨x,rfl,rfl⟩:=tc h;exact GY rfl (fun w Ax cx ht hx hl=>(jy w x.s x.e Ax _ cx x.xs hx hl).mono fun _ _ h=>vo h)
noncomputable def eR:fR:=one 120 (gN fun x=>(True,nA (absx x)))
theorem sE:TbOK Tryz.prog eR:=cC (ew Tryz.func120 (by kernel_rfl) rfl) fun args e h hp=>by obtain ⟨x,rfl,rfl⟩:=tc h;exact GY rfl (fun w Ax cx ht hx hl=>(zI w x.s x.e Ax _ cx x.xs hx hl).mono fun _ _ h=>AC (AT hx) h)
noncomputable def dx:fR:=one 123 (pO fun x z=>(True,lP (ar x z)))
theorem pV:TbOK Tryz.prog dx:=cC (ew Tryz.func123 (by kernel_rfl) rfl) fun args e h hp=>by obtain ⟨x,z,rfl,rfl⟩:=zj h;exact Hq rfl (fun w Ax cx ht hx hl=>(vl w x.s x.e z Ax _ cx x.xs hx hl ht).mono fun _ _ h=>jT ql h)
noncomputable def fe:fR:=one 80 (ek fun x x1 z b=>(True,lP (an (eB z b) z x x1)))
theorem pX:TbOK Tryz.prog fe:=cC (ew Tryz.func80 (by kernel_rfl) rfl) fun args e h hp=>by obtain ⟨x,x1,z,b,rfl,rfl⟩:=mg h;exact rp rfl (fun w Ax cx Ax1 cx1 ht hx hl hx1 hl1=>(Bv w x.s x1.s b x.e x1.e z Ax Ax1 _ cx _ cx1 x.xs x1.xs hx hx1 hl hl1 ht).mono fun _ _ h=>jT (oa (Fo z b) ..).2 h)
noncomputable def dH:fR:=one 119 (ek fun x x1 z b=>(True,lP (an (jQ z b) z x x1)))
theorem lv:TbOK Tryz.prog dH:=cC (ew Tryz.func119 (by kernel_rfl) rfl) fun args e h hp=>by obtain ⟨x,x1,z,b,rfl,rfl⟩:=mg h;exact rp rfl (fun w Ax cx Ax1 cx1 ht hx hl hx1 hl1=>(Bz w x.s x1.s b x.e x1.e z Ax Ax1 _ cx _ cx1 x.xs x1.xs hx hx1 hl hl1 ht).mono fun _ _ h=>jT (oa (Fz z b) ..).2 h)
noncomputable def ca:fR:=one 118 (ek fun x x1 z b=>(True,lP (an (bf z b) z x x1)))
theorem ja:TbOK Tryz.prog ca:=cC (ew Tryz.func118 (by kernel_rfl) rfl) fun args e h hp=>by obtain ⟨x,x1,z,b,rfl,rfl⟩:=mg h;exact rp rfl (fun w Ax cx Ax1 cx1 ht hx hl hx1 hl1=>(By w x.s x1.s b x.e x1.e z Ax Ax1 _ cx _ cx1 x.xs x1.xs hx hx1 hl hl1 ht).mono fun _ _ h=>jT (oa (Fu z b) ..).2 h)
noncomputable def ff:fR:=one 170 (ek fun x x1 z b=>(True,lP (an (dq z b) z x x1)))
theorem iZ:TbOK Tryz.prog ff:=cC (ew Tryz.func170 (by kernel_rfl) rfl) fun args e h hp=>by obtain ⟨x,x1,z,b,rfl,rfl⟩:=mg h;exact rp rfl (fun w Ax cx Ax1 cx1 ht hx hl hx1 hl1=>(Bw w x.s x1.s b x.e x1.e z Ax Ax1 _ cx _ cx1 x.xs x1.xs hx hx1 hl hl1 ht).mono fun _ _ h=>jT (oa (Fq z b) ..).2 h)
noncomputable def cB:fR:=one 124 (gN fun x=>(True,bA x.ok))
theorem lu:TbOK Tryz.prog cB:=cC (ew Tryz.func124 (by kernel_rfl) rfl) fun args e h hp=>by obtain ⟨x,rfl,rfl⟩:=tc h;exact GY rfl (fun w Ax cx ht hx hl=>(py w x.s x.e Ax _ cx x.xs hx hl).mono fun _ _ h=>rH h)
noncomputable def jm:fR:=one 51 (pP fun x x1=>(True,bA (iC x x1)))
theorem ra:TbOK Tryz.prog jm:=cC (ew Tryz.func51 (by kernel_rfl) rfl) fun args e h hp=>by obtain ⟨x,x1,rfl,rfl⟩:=zk h;exact Hr rfl (fun w Ax cx Ax1 cx1 ht hx hl hx1 hl1=>(xY w x.s x1.s x.e x1.e Ax Ax1 _ cx _ cx1 x.xs x1.xs hx hx1 hl hl1).mono fun _ _ h=>rH h)
noncomputable def fE:fR:=one 155 (gN fun x=>(x.ok=true,vA x.q))
theorem io:TbOK Tryz.prog fE:=cC (ew Tryz.func155 (by kernel_rfl) rfl) fun args e h hp=>by obtain ⟨x,rfl,rfl⟩:=tc h;exact GY rfl (fun w Ax cx ht hx hl=>(FT w x.q Ax _ cx (cz hx hp).1 hl).mono fun _ _ h=>pp h)
noncomputable def jl:fR:=one 156 (ym fun q q1=>(Vb q∧Vb q1,vA (plus q q1)))
theorem ma:TbOK Tryz.prog jl:=cC (ew Tryz.func156 (by kernel_rfl) rfl) fun args e h hp=>by obtain ⟨q,q1,rfl,rfl⟩:=ru h;exact Fb rfl (fun w Aq nq cq Aq1 nq1 cq1 ht hq hq1=>(tE w _ q q1 Aq Aq1 nq cq nq1 cq1 3000 hp.1.1 hp.2.1 hq hq1 (rq hq) (rq hq1) (Nat.le_refl _) hp.1.2.1 hp.2.2.1 (by omega) hp.1.2.2.1 hp.1.2.2.2 hp.2.2.2.1 hp.2.2.2.2).mono fun _ _ h=>pp h)
noncomputable def jk:fR:=one 207 (ym fun q q1=>(Vb q∧Vb q1,vA (minus q q1)))
theorem lZ:TbOK Tryz.prog jk:=cC (ew Tryz.func207 (by kernel_rfl) rfl) fun args e h hp=>by obtain ⟨q,q1,rfl,rfl⟩:=ru h;exact Fb rfl (fun w Aq nq cq Aq1 nq1 cq1 ht hq hq1=>(zy w _ q q1 Aq Aq1 nq cq nq1 cq1 3000 hp.1.1 hp.2.1 hq hq1 (rq hq) (rq hq1) (Nat.le_refl _) hp.1.2.1 hp.2.2.1 (by omega) hp.1.2.2.1 hp.1.2.2.2 hp.2.2.2.1 hp.2.2.2.2).mono fun _ _ h=>pp h)
noncomputable def qZ:fR:=one 157 (ym fun q q1=>(Vw q∧Vw q1,vA (times q q1)))
theorem uw:TbOK Tryz.prog qZ:=cC (ew Tryz.func157 (by kernel_rfl) rfl) fun args e h hp=>by obtain ⟨q,q1,rfl,rfl⟩:=ru h;exact Fb rfl (fun w Aq nq cq Aq1 nq1 cq1 ht hq hq1=>(EW w q q1 Aq Aq1 nq cq nq1 cq1 5000 5000 hp.1.1 hp.2.1 hq hq1 hp.1.2.1 hp.2.2.1 (by omega) (by omega) (by have:=hp.1.2.2.1;omega) (by have:=hp.1.2.2.2;omega) (by have:=hp.2.2.2.1;omega) (by have:=hp.2.2.2.2;omega)).mono fun _ _ h=>pp h)
noncomputable def cU:fR:=one 129 (gV fun q=>(Vw q,lP (res q)))
theorem fa:TbOK Tryz.prog cU:=cC (ew Tryz.func129 (by kernel_rfl) rfl) fun args e h hp=>by obtain ⟨q,rfl,rfl⟩:=Ib h;exact Kz rfl (fun w Aq nq cq ht hq=>(pK w q Aq nq cq 5000 hq hp.1 hp.2.1 (by omega)).mono fun _ _ h=>jT (pv _) h)
noncomputable def fd:fR:=one 166 (qa fun q z b=>(Vw q∧Pr z,vA (dP z.toNat b q)))
theorem iY:TbOK Tryz.prog fd:=cC (ew Tryz.func166 (by kernel_rfl) rfl) fun args e h hp=>by obtain ⟨q,z,b,rfl,rfl⟩:=Cj h;exact Hs rfl (fun w Aq nq cq ht hq=>by
  obtain ⟨hv,p1,p2⟩:=hp
  obtain ⟨P,rfl⟩:∃ P:Nat,z=(P:Int):=⟨z.toNat,by omega⟩
  exact (nh w q Aq nq cq 5000 P b hv.1 hq hv.2.1 (by omega) (by omega) (by omega) hv.2.2.1 hv.2.2.2).mono fun _ _ h=>Ga h)
noncomputable def lI:fR:=one 165 (nI fun q q1 z b=>((aH q∧aH q1∧q1.m≠0)∧Pr z,vA (ib z.toNat b q q1)))
theorem pW:TbOK Tryz.prog lI:=cC (ew Tryz.func165 (by kernel_rfl) rfl) fun args e h hp=>by obtain ⟨q,q1,z,b,rfl,rfl⟩:=zm h;exact Fc rfl (fun w Aq nq cq Aq1 nq1 cq1 ht hq hq1=>by
  obtain ⟨⟨hv,hv1,h0⟩,p1,p2⟩:=hp
  obtain ⟨P,rfl⟩:∃ P:Nat,z=(P:Int):=⟨z.toNat,by omega⟩
  exact (xJ w q q1 Aq Aq1 nq cq nq1 cq1 P b hv.1 hv1.1 hq hq1 hv.2.1 hv1.2.1 h0 (by omega) (by omega) hv.2.2.1 hv.2.2.2 hv1.2.2.1 hv1.2.2.2).mono fun _ _ h=>pp h)
end
end Go.Proofs.YtpacpmmdjmnamaaGreatDoor
