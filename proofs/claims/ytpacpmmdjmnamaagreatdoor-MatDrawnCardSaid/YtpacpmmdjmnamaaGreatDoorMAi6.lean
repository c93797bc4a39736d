/- The types that the program's text uses; numbers and intervals as cells; contracts as tables. -/
import Derived.Test.YtpacpmmdjmnamaaGreatDoorMAiG
import Derived.Test.YtpacpmmdjmnamaaGreatDoorMSeat
namespace Go.Proofs.YtpacpmmdjmnamaaGreatDoor
set_option linter.unusedSimpArgs false
set_option linter.unusedVariables false
open Go.RowKit Nx
section
def MP:TI:=⟨false,1,[.lit (.bool false)],[.bool false],[],none⟩
def Em:TI:=⟨false,1,[.lit (.int .i64 0)],[.int .i64 0],[],none⟩
def MS:TI:=⟨false,1,[.ws []],[.slice none 0 0],[],some (50,true)⟩
def MQ:TI:=⟨false,1,[.dg 0],[.slice none 0 0],[],some (157,true)⟩
def yN:TI:=⟨false,1,[.lit .nilFunc],[.nilFunc],[],none⟩
def ru:TI:=⟨true,3,[.lit (.bool false),.lit (.int .i64 0),.ws []],[.bool false,.int .i64 0,.slice none 0 0],[(0,1,false),(1,1,false),(2,1,false)],none⟩
def yw:TI:=⟨true,6,[.lit (.bool false),.lit (.int .i64 0),.ws [],.lit (.bool false),.lit (.int .i64 0),.ws []],[.bool false,.int .i64 0,.slice none 0 0,.bool false,.int .i64 0,.slice none 0 0],[(0,3,true),(3,3,true)],none⟩
def rv:TI:=⟨true,3,[.lit (.bool false),.dg 0,.lit (.int .i64 0)],[.bool false,.slice none 0 0,.int .i64 0],[(0,1,false),(1,1,false),(2,1,false)],none⟩
def yx:TI:=⟨true,4,[.lit (.bool false),.lit (.int .i64 0),.ws [],.lit (.int .i64 0)],[.bool false,.int .i64 0,.slice none 0 0,.int .i64 0],[(0,3,true),(3,1,false)],none⟩
def I9:TI:=⟨false,1,[.lit (.int .u64 0)],[.int .u64 0],[],none⟩
def MR:TI:=⟨false,1,[.lit (.slice none 0 0)],[.slice none 0 0],[],some (32,false)⟩
def LO (t:TypeId):Option TI:=
 if t=30 then some ru else if t=32 then some yw else if t=4 then some MP else if t=3 then some Em else if t=2 then some Em
 else if t=44 then some Em else if t=22 then some MS else if t=127 then some rv else if t=124 then some MQ else if t=165 then some yx
 else if t=34 then some MR else if t=168 then some yN else if t=162 then some yN else if t=50 then some I9 else none
theorem wY {ρ:Env} {D:Nat→Bool} {w:World}:Lf.R ρ D w (.ws []) (.slice none 0 0):=⟨none,0,0,rfl,⟨Rd.none_,Small.nil⟩,by omega⟩
theorem Md {ρ:Env} {D:Nat→Bool} {w:World}:Lf.R ρ D w (.dg 0) (.slice none 0 0):=⟨none,0,0,rfl,by show Rd .u32 w 0 _ none 0 0 (aS B32 0);rw [aK];exact Rd.none_⟩
theorem xv {P:Program} {t:TypeId} (k:Nat) (p:Nat×Nat×Bool) (h:([]:List (Nat×Nat×Bool))[k]? =some p):∃ (fs:Array Field) (f:Field),P.underlying t=some (.struct fs)∧fs[k]? =some f∧f.offset=p.1∧(P.info? f.type).map (·.size)=some p.2.1∧p.2.1≠0∧(P.underlying f.type).map (·.isRow)=some p.2.2:=by simp at h
def NZ (P:Program) (t:TypeId) (l:List (Nat×Nat×Bool)):Bool:=match P.underlying t with
 |some (.struct fs)=>(List.range l.length).all fun k=>(match fs[k]?,l[k]? with
  |some f,some p=>f.offset==p.1&&((P.info? f.type).map (·.size))==some p.2.1&&p.2.1 !=0&&((P.underlying f.type).map (·.isRow))==some p.2.2
  |_,_=>false)
 |_=>false
theorem N0 {P:Program} {t:TypeId} {l:List (Nat×Nat×Bool)} (h:NZ P t l=true) (k:Nat) (p:Nat×Nat×Bool) (hk:l[k]? =some p):∃ (fs:Array Field) (f:Field),P.underlying t=some (.struct fs)∧fs[k]? =some f∧f.offset=p.1∧(P.info? f.type).map (·.size)=some p.2.1∧p.2.1≠0∧(P.underlying f.type).map (·.isRow)=some p.2.2:=by
 unfold NZ at h
 split at h
 ·rename_i fs hu
  have hkl:k<l.length:=by
   rcases Nat.lt_or_ge k l.length with h |h
   ·exact h
   ·rw [List.getElem?_eq_none h] at hk;cases hk
  have h1:=List.all_eq_true.1 h k (by simpa using hkl)
  rw [hk] at h1
  cases hf:fs[k]? with
  |none=>rw [hf] at h1;cases h1
  |some f=>
   rw [hf] at h1
   simp only [Bool.and_eq_true,beq_iff_eq,bne_iff_ne] at h1
   exact ⟨fs,f,hu,hf,h1.1.1.1,h1.1.1.2,h1.1.2,h1.2⟩
 ·cases h
def SK (P:Program) (t:TypeId) (l:List (Nat×Nat×Bool)):Bool:=match P.underlying t with
 |some (.struct fs)=>fs.toList.mapM (fun f=>(P.info? f.type).map fun i=>(f.offset,i.size))==some (l.map fun p=>(p.1,p.2.1))
 |_=>false
theorem RF {P:Program} {t:TypeId} {l:List (Nat×Nat×Bool)} (h:SK P t l=true):∃ fs:Array Field,P.underlying t=some (.struct fs)∧fs.toList.mapM (fun f=>(P.info? f.type).map fun i=>(f.offset,i.size))=some (l.map fun p=>(p.1,p.2.1)):=by
 unfold SK at h
 split at h
 ·rename_i fs hu;exact ⟨fs,hu,by simpa using h⟩
 ·cases h
theorem d8 {P:Program} {t:TypeId} {l:Lf} {u:Value} {el:Option (TypeId×Bool)} (hby:(P.info? t).any (fun i=>decide (i.bytes≤100000))=true) (h1:(P.info? t).map (·.size)=some 1) (h2:(P.info? t).bind (·.zero)=some u) (h3:(P.underlying t).map (·.isRow)=some false) (hr:∀ ρ D w,l.R ρ D w u) (ho:cZ l=true) (hb:∀ b,u= .bool b→P.underlying t=some .bool) (hi:∀ k z,u= .int k z→P.underlying t=some (.int k)) (hs:∀ e b,el=some (e,b)→P.underlying t=some (.slice e)∧(b=true→∃ ie z,P.info? e=some ie∧ie.size=1∧ie.zero=some z∧ie.bytes≤8)):TiOK P t ⟨false,1,[l],[u],[],el⟩:=
 ⟨h1,h2,h3,xv,(fun h=>by cases h),fun ρ D w=>RL.one.2 (hr ρ D w),.inl (by simp [ho]),rfl,fun _=>rfl,fun k z _ h=>hi k z (by simpa using h),hs,fun b _ h=>hb b (by simpa using h),hby⟩
theorem PO {ρ:Env} {D:Nat→Bool} {w:World} {a b c:Lf} {x y z:Value} (h1:a.R ρ D w x) (h2:b.R ρ D w y) (h3:c.R ρ D w z):RL ρ D w [a,b,c] [x,y,z]:=⟨x,_,rfl,h1,y,_,rfl,h2,z,_,rfl,h3,rfl⟩
theorem Tt {ρ:Env} {D:Nat→Bool} {w:World} {a b c d e f:Lf} {x y z u v t:Value} (h1:a.R ρ D w x) (h2:b.R ρ D w y) (h3:c.R ρ D w z) (h4:d.R ρ D w u) (h5:e.R ρ D w v) (h6:f.R ρ D w t):RL ρ D w [a,b,c,d,e,f] [x,y,z,u,v,t]:=⟨x,_,rfl,h1,y,_,rfl,h2,z,_,rfl,h3,u,_,rfl,h4,v,_,rfl,h5,t,_,rfl,h6,rfl⟩
theorem Ts {ρ:Env} {D:Nat→Bool} {w:World} {a b c d:Lf} {x y z u:Value} (h1:a.R ρ D w x) (h2:b.R ρ D w y) (h3:c.R ρ D w z) (h4:d.R ρ D w u):RL ρ D w [a,b,c,d] [x,y,z,u]:=⟨x,_,rfl,h1,y,_,rfl,h2,z,_,rfl,h3,u,_,rfl,h4,rfl⟩
theorem Rl {ρ:Env} {D:Nat→Bool} {w:World} (v:Value):Lf.R ρ D w (.lit v) v:=rfl
theorem wq {P:Program} {t:TypeId} {i:TI} (hby:(P.info? t).any (fun i=>decide (i.bytes≤100000))=true) (he:i.el=none) (ha:i.agg=true) (h1:(P.info? t).map (·.size)=some i.size) (h2:(P.info? t).bind (·.zero)=some (.agg i.zv.toArray)) (h3:(P.underlying t).map (·.isRow)=some true) (h4:NZ P t i.flds=true) (h5:SK P t i.flds=true) (hr:∀ ρ D w,RL ρ D w i.zero i.zv) (ho:i.zero.all cZ=true) (hl:i.zv.length=i.size):TiOK P t i:=
 ⟨h1,by rw [h2];unfold zof;rw [ha],by rw [h3,ha],N0 h4,fun _=>RF h5,hr,.inl ho,hl,(fun h=>by rw [ha] at h;cases h),(fun k z h=>by rw [ha] at h;cases h),(fun e b h=>by rw [he] at h;cases h),(fun b h=>by rw [ha] at h;cases h),hby⟩
theorem OU:TiOK Tryz.prog 30 ru:=wq (by kernel_rfl) rfl rfl (by kernel_rfl) (by kernel_rfl) (by kernel_rfl) (by kernel_rfl) (by kernel_rfl) (fun _ _ _=>PO (Rl _) (Rl _) wY) rfl rfl
theorem OV:TiOK Tryz.prog 127 rv:=wq (by kernel_rfl) rfl rfl (by kernel_rfl) (by kernel_rfl) (by kernel_rfl) (by kernel_rfl) (by kernel_rfl) (fun _ _ _=>PO (Rl _) Md (Rl _)) rfl rfl
theorem Rt:TiOK Tryz.prog 32 yw:=wq (by kernel_rfl) rfl rfl (by kernel_rfl) (by kernel_rfl) (by kernel_rfl) (by kernel_rfl) (by kernel_rfl) (fun _ _ _=>Tt (Rl _) (Rl _) wY (Rl _) (Rl _) wY) rfl rfl
theorem RE:TiOK Tryz.prog 165 yx:=wq (by kernel_rfl) rfl rfl (by kernel_rfl) (by kernel_rfl) (by kernel_rfl) (by kernel_rfl) (by kernel_rfl) (fun _ _ _=>Ts (Rl _) (Rl _) wY (Rl _)) rfl rfl
theorem ik_of {P:Program} {t:TypeId} {k0:IntKind} {z0:Int} (h:P.underlying t=some (.int k0)):∀ k z,Value.int k0 z0= .int k z→P.underlying t=some (.int k):=fun k z e=>by
 injection e with e _;subst e;exact h
theorem sl_of {P:Program} {t e0:TypeId} (h1:P.underlying t=some (.slice e0)) (h2:(match P.info? e0 with |some i=>i.size==1&&i.zero.isSome&&decide (i.bytes≤8)|none=>false)=true):∀ e b,some (e0,true)=some (e,b)→P.underlying t=some (.slice e)∧(b=true→∃ ie z,P.info? e=some ie∧ie.size=1∧ie.zero=some z∧ie.bytes≤8):=by
 intro e b h
 injection h with h;injection h with h _;subst h
 refine ⟨h1,fun _=>?_⟩
 split at h2
 ·rename_i i hi
  rw [Bool.and_eq_true,Bool.and_eq_true] at h2
  obtain ⟨z,hz⟩:=Option.isSome_iff_exists.1 h2.1.2
  exact ⟨i,z,hi,by simpa using h2.1.1,hz,by simpa using h2.2⟩
 ·cases h2
theorem sl_of' {P:Program} {t e0:TypeId} (h1:P.underlying t=some (.slice e0)):∀ e b,some (e0,false)=some (e,b)→P.underlying t=some (.slice e)∧(b=true→∃ ie z,P.info? e=some ie∧ie.size=1∧ie.zero=some z∧ie.bytes≤8):=by
 intro e b h
 injection h with h;injection h with h h';subst h;subst h'
 exact ⟨h1,fun h=>by cases h⟩
theorem Ru:TiOK Tryz.prog 4 MP:=d8 (by kernel_rfl) (by kernel_rfl) (by kernel_rfl) (by kernel_rfl) (fun _ _ _=>rfl) rfl (fun b h=>by kernel_rfl) (fun k z h=>by cases h) (fun e b h=>by cases h)
theorem Rv:TiOK Tryz.prog 3 Em:=d8 (by kernel_rfl) (by kernel_rfl) (by kernel_rfl) (by kernel_rfl) (fun _ _ _=>rfl) rfl (fun b h=>by cases h) (ik_of (by kernel_rfl)) (fun e b h=>by cases h)
theorem Rw:TiOK Tryz.prog 2 Em:=d8 (by kernel_rfl) (by kernel_rfl) (by kernel_rfl) (by kernel_rfl) (fun _ _ _=>rfl) rfl (fun b h=>by cases h) (ik_of (by kernel_rfl)) (fun e b h=>by cases h)
theorem Rx:TiOK Tryz.prog 44 Em:=d8 (by kernel_rfl) (by kernel_rfl) (by kernel_rfl) (by kernel_rfl) (fun _ _ _=>rfl) rfl (fun b h=>by cases h) (ik_of (by kernel_rfl)) (fun e b h=>by cases h)
theorem Ry:TiOK Tryz.prog 22 MS:=d8 (by kernel_rfl) (by kernel_rfl) (by kernel_rfl) (by kernel_rfl) (fun _ _ _=>wY) rfl (fun b h=>by cases h) (fun k z h=>by cases h) (sl_of (by kernel_rfl) (by kernel_rfl))
theorem Rz:TiOK Tryz.prog 124 MQ:=d8 (by kernel_rfl) (by kernel_rfl) (by kernel_rfl) (by kernel_rfl) (fun _ _ _=>Md) rfl (fun b h=>by cases h) (fun k z h=>by cases h) (sl_of (by kernel_rfl) (by kernel_rfl))
theorem RB:TiOK Tryz.prog 34 MR:=d8 (by kernel_rfl) (by kernel_rfl) (by kernel_rfl) (by kernel_rfl) (fun _ _ _=>rfl) rfl (fun b h=>by cases h) (fun k z h=>by cases h) (sl_of' (by kernel_rfl))
theorem RC:TiOK Tryz.prog 168 yN:=d8 (by kernel_rfl) (by kernel_rfl) (by kernel_rfl) (by kernel_rfl) (fun _ _ _=>rfl) rfl (fun b h=>by cases h) (fun k z h=>by cases h) (fun e b h=>by cases h)
theorem RD:TiOK Tryz.prog 162 yN:=d8 (by kernel_rfl) (by kernel_rfl) (by kernel_rfl) (by kernel_rfl) (fun _ _ _=>rfl) rfl (fun b h=>by cases h) (fun k z h=>by cases h) (fun e b h=>by cases h)
theorem OT:TiOK Tryz.prog 50 I9:=⟨by kernel_rfl,by kernel_rfl,by kernel_rfl,xv,(fun h=>by cases h),fun _ _ _=>RL.one.2 rfl,.inr ⟨rfl,0,rfl⟩,rfl,fun _=>rfl,fun k z _ h=>ik_of (by kernel_rfl) k z (by simpa [I9] using h),(fun e b h=>by cases h),(fun b _ h=>by simp [I9] at h),by kernel_rfl⟩
theorem a7 (t:TypeId) (i:TI) (h:LO t=some i):TiOK Tryz.prog t i:=by
 unfold LO at h
 by_cases h0:t=30
 ·rw [if_pos h0] at h;injection h with h;subst h;subst h0;exact OU
 rw [if_neg h0] at h
 by_cases h1:t=32
 ·rw [if_pos h1] at h;injection h with h;subst h;subst h1;exact Rt
 rw [if_neg h1] at h
 by_cases h2:t=4
 ·rw [if_pos h2] at h;injection h with h;subst h;subst h2;exact Ru
 rw [if_neg h2] at h
 by_cases h3:t=3
 ·rw [if_pos h3] at h;injection h with h;subst h;subst h3;exact Rv
 rw [if_neg h3] at h
 by_cases h4:t=2
 ·rw [if_pos h4] at h;injection h with h;subst h;subst h4;exact Rw
 rw [if_neg h4] at h
 by_cases h5:t=44
 ·rw [if_pos h5] at h;injection h with h;subst h;subst h5;exact Rx
 rw [if_neg h5] at h
 by_cases h6:t=22
 ·rw [if_pos h6] at h;injection h with h;subst h;subst h6;exact Ry
 rw [if_neg h6] at h
 by_cases h7:t=127
 ·rw [if_pos h7] at h;injection h with h;subst h;subst h7;exact OV
 rw [if_neg h7] at h
 by_cases h8:t=124
 ·rw [if_pos h8] at h;injection h with h;subst h;subst h8;exact Rz
 rw [if_neg h8] at h
 by_cases h9:t=165
 ·rw [if_pos h9] at h;injection h with h;subst h;subst h9;exact RE
 rw [if_neg h9] at h
 by_cases h10:t=34
 ·rw [if_pos h10] at h;injection h with h;subst h;subst h10;exact RB
 rw [if_neg h10] at h
 by_cases h11:t=168
 ·rw [if_pos h11] at h;injection h with h;subst h;subst h11;exact RC
 rw [if_neg h11] at h
 by_cases h12:t=162
 ·rw [if_pos h12] at h;injection h with h;subst h;subst h12;exact RD
 rw [if_neg h12] at h
 by_cases h13:t=50
 ·rw [if_pos h13] at h;injection h with h;subst h;subst h13;exact OT
 rw [if_neg h13] at h
 cases h
end
section
structure X where
 s:Bool
 e:Int
 xs:List Nat
def X.L (x:X):List Lf:=[.lit (.bool x.s),.lit (.int .i64 x.e),.ws x.xs]
def qx (q:Q):X:=⟨q.s,q.e,aS B64 q.m⟩
def X.ok (x:X):Bool:=iE x.s x.e x.xs.length x.xs
def X.q (x:X):Q:=⟨x.s,nval B64 x.xs,x.e⟩
def fK:List Lf→Option X
 |[.lit (.bool s),.lit (.int .i64 e),.ws xs]=>some ⟨s,e,xs⟩
 |_=>none
structure J where
 lo:X
 hi:X
def J.L (j:J):List Lf:=[.lit (.bool j.lo.s),.lit (.int .i64 j.lo.e),.ws j.lo.xs,.lit (.bool j.hi.s),.lit (.int .i64 j.hi.e),.ws j.hi.xs]
def k7:List Lf→Option J
 |[.lit (.bool s),.lit (.int .i64 e),.ws xs,.lit (.bool t),.lit (.int .i64 f),.ws ys]=>some ⟨⟨s,e,xs⟩,⟨t,f,ys⟩⟩
 |_=>none
theorem gy {ls:List Lf} {x:J} (h:k7 ls=some x):ls=x.L:=by
 unfold k7 at h
 split at h
 ·injection h with h;subst h;rfl
 ·cases h
def vL (q:Q):List Lf:=[.lit (.bool q.s),.dg q.m,.lit (.int .i64 q.e)]
def e7:List Lf→Option Q
 |[.lit (.bool s),.dg m,.lit (.int .i64 e)]=>some ⟨s,m,e⟩
 |_=>none
theorem jJ {ls:List Lf} {x:Q} (h:e7 ls=some x):ls=vL x:=by
 unfold e7 at h
 split at h
 ·injection h with h;subst h;rfl
 ·cases h
theorem iI {ls:List Lf} {x:X} (h:fK ls=some x):ls=x.L:=by
 unfold fK at h
 split at h
 ·injection h with h;subst h;rfl
 ·cases h
section
variable {ρ:Env} {D:Nat→Bool} {w:World}
theorem oi {x:X} {u:Value} (h:(AV.v true x.L).R ρ D w u):∃ (A:Option Addr) (c:Nat),u= .agg #[.bool x.s,.int .i64 x.e,.slice A x.xs.length c]∧Arg w A x.xs.length c x.xs∧x.xs.length≤100000:=by
 obtain ⟨us,rfl,u1,r1,rfl,h1,u2,r2,rfl,h2,u3,r3,rfl,⟨A,n,c,h3,h4,h5⟩,rfl⟩:=h
 have h1:u1= .bool x.s:=h1
 have h2:u2= .int .i64 x.e:=h2
 subst h1;subst h2;subst h3
 have hn:x.xs.length=n:=h4.1.1
 subst hn
 exact ⟨A,c,rfl,h4,h5⟩
theorem rX {q:Q} {u:Value} (h:(AV.v true (vL q)).R ρ D w u):∃ (A:Option Addr) (n c:Nat),u= .agg #[.bool q.s,.slice A n c,.int .i64 q.e]∧Dg w A n c q.m:=by
 obtain ⟨us,rfl,u1,r1,rfl,h1,u2,r2,rfl,⟨A,n,c,h3,h4⟩,u3,r3,rfl,h2,rfl⟩:=h
 have h1:u1= .bool q.s:=h1
 have h2:u3= .int .i64 q.e:=h2
 subst h1;subst h2;subst h3
 exact ⟨A,n,c,rfl,h4⟩
theorem Px {H L:Nat} {v:Value} {q:Q} (h:ValV H L w v q):(AV.v true (vL q)).R ρ D w v:=by
 obtain ⟨A,n,c,rfl,hr,_⟩:=h
 exact ⟨_,rfl,PO rfl ⟨A,n,c,rfl,hr⟩ rfl⟩
theorem zU {lo:Nat} {v:Value} {q:Q} (h:NumV lo w v q) (hl:(aS B64 q.m).length≤100000):(AV.v true (qx q).L).R ρ D w v:=by
 obtain ⟨A,n,c,rfl,hr⟩:=h
 have hn:=hr.1
 exact ⟨_,rfl,PO rfl rfl ⟨A,n,c,rfl,⟨hr.less (Nat.zero_le _),az B64_two _⟩,by omega⟩⟩
theorem sE {q:Q} (h:fm q):(aS B64 q.m).length≤100000:=by have:=eK B64_two h.1;omega
end
abbrev b9:=FuncId→List AV→Option (Prop×AV)
structure TbOK (P:Program) (T:b9):Prop where
 enters:∀ f args e,T f args=some e→∀ (vs:Array Value) (w:World),(callFunc f vs).run P w= .ok (.enter f vs) w
 ct:∀ f args e,T f args=some e→e.1→Ct P f args (·=e.2)
def rj:List Lf→Option (List Lc)
 |[]=>some []
 |.lit v::r=>(match rj r with
  |some k=>some (.lit v::k)
  |none=>none)
 |.ws v::r=>(match rj r with
  |some k=>some (.ws v::k)
  |none=>none)
 |.dg v::r=>(match rj r with
  |some k=>some (.dg v::k)
  |none=>none)
 |.sl _ a b c::r=>(match rj r with
  |some k=>some (.sl a b c::k)
  |none=>none)
 |_::_=>none
def po (st:St):Lf→Lf
 |.lit v=>.lit v
 |.own b o=>.own b o
 |.osl b n=>(match look st (2*b+1) with
  |some (.v _ ls)=>(match rj ls with
   |some ls'=>if ls.length=n*(ls.length / n) then .sl false (ls.length / n) n ls' else .osl b n
   |none=>.osl b n)
  |_=>.osl b n)
 |.ws xs=>.ws xs
 |.dg N=>.dg N
 |.clo f cs=>.clo f cs
 |.sl _ sz n ls=>.sl false sz n ls
 |.im ls=>.im ls
 |.ol b k=>(match look st (2*b+1) with
  |some (.pre _ sz ls)=>(match rj ls with
   |some ls'=>if ls.length=k*sz then .sl false sz k ls' else .ol b k
   |none=>.ol b k)
  |_=>.ol b k)
 |.oe b k o=>.oe b k o
def mn (st:St):AV→AV
 |.v g ls=>.v g (ls.map (po st))
 |.tup ps=>.tup ps
 |.pre e sz ls=>.pre e sz ls
def olL:Lf→List Nat
 |.lit _=>[]
 |.own _ _=>[]
 |.osl b _=>[2*b+1]
 |.ws _=>[]
 |.dg _=>[]
 |.clo _ _=>[]
 |.sl _ _ _ _=>[]
 |.im _=>[]
 |.ol b _=>[2*b+1]
 |.oe _ _ _=>[]
def olA:AV→List Nat
 |.v _ ls=>ls.flatMap olL
 |.tup _=>[]
 |.pre _ _ _=>[]
def Ej:Lf→Bool
 |.lit _=>true
 |.own _ _=>false
 |.osl _ _=>false
 |.ws _=>true
 |.dg _=>true
 |.clo _ cs=>cs.isEmpty
 |.sl _ _ _ _=>true
 |.im _=>true
 |.ol _ _=>false
 |.oe _ _ _=>false
def Bt:AV→Bool
 |.v _ ls=>ls.all Ej
 |.tup _=>false
 |.pre _ _ _=>false
theorem zo:∀ {ls:List Lf} {ks:List Lc},rj ls=some ks→ks.length=ls.length:=by
 intro ls
 induction ls with
 |nil=>intro ks h;injection h with h;subst h;rfl
 |cons l ls ih=>
  intro ks h
  cases l<;>simp only [rj] at h<;>first |(cases h;done)|(split at h<;>first |(cases h;done)|(injection h with h;subst h;rename_i k hk;simp [ih hk]))
theorem NT {ρ:Env} {D:Nat→Bool} {w:World} {S:Nat→Prop} (hS:∀ g,Sep ρ D g→S g):∀ {ls:List Lf} {ks:List Lc} {us:List Value},rj ls=some ks→RL ρ D w ls us→LcL S w ks us:=by
 intro ls
 induction ls with
 |nil=>intro ks us h hr;injection h with h;subst h;exact hr
 |cons l ls ih=>
  intro ks us h hr
  obtain ⟨u,r,e,h1,h2⟩:=hr
  cases l with
  |lit v=>
   simp only [rj] at h
   split at h
   ·rename_i k hk;injection h with h;subst h;exact ⟨u,r,e,h1,ih hk h2⟩
   ·cases h
  |ws v=>
   simp only [rj] at h
   split at h
   ·rename_i k hk;injection h with h;subst h;exact ⟨u,r,e,h1,ih hk h2⟩
   ·cases h
  |dg v=>
   simp only [rj] at h
   split at h
   ·rename_i k hk;injection h with h;subst h;exact ⟨u,r,e,h1,ih hk h2⟩
   ·cases h
  |sl f a b c=>
   simp only [rj] at h
   split at h
   ·rename_i k hk;injection h with h;subst h;exact ⟨u,r,e,Lc.R.mono (Keeps.refl _ _) (fun g _ _ _ h=>hS g h.1) _ _ h1,ih hk h2⟩
   ·cases h
  |_=>simp [rj] at h
section
variable {F:Nat→Prop} {w0 w:World} {N:Nat} {ρ:Env} {st:St} {a:Act}
abbrev Env.no (ρ:Env):Env:={ρ with al:=fun _=>false}
omit F w0 N st a in
theorem qC {ρ:Env} {g:Nat}:Sep ρ.no (fun _=>false) g:=⟨fun b hb=>(by cases hb),fun b hb=>(by cases hb)⟩
theorem Su (h:Cz F w0 N ρ st a w) {l:Lf} {u:Value} (hR:l.R ρ (dom st) w u) (hn:Ej (po st l)=true):(po st l).R ρ.no (fun _=>false) w u:=by
 have hS:∀ g,Sep ρ (dom st) g→SepF false ρ.no (fun _=>false) g:=fun g _=>⟨qC,fun e=>(by cases e)⟩
 cases l with
 |sl f sz n ls=>exact Lc.R.mono (Keeps.refl _ _) (fun g _ _ _ _=>⟨qC,fun e=>(by cases e)⟩) _ _ hR
 |im ls=>exact ImR.mono hR (Keeps.refl _ _) fun g _ _ _ _=>qC
 |own b o=>cases hn
 |oe b k o=>cases hn
 |clo f cs=>cases cs with
  |nil=>exact ⟨(fun b hb=>by cases hb),hR.2⟩
  |cons _ _=>cases hn
 |osl b n=>
  have hq:(∃ g ls ks,look st (2*b+1)=some (.v g ls)∧rj ls=some ks∧ls.length=n*(ls.length / n)∧po st (.osl b n)= .sl false (ls.length / n) n ks)∨po st (.osl b n)= .osl b n:=by
   simp only [po]
   split
   ·rename_i g ls hl
    split
    ·rename_i ks hk
     split
     ·rename_i hn;exact .inl ⟨g,ls,ks,hl,hk,hn,rfl⟩
     ·exact .inr rfl
    ·exact .inr rfl
   ·exact .inr rfl
  rcases hq with ⟨g,ls,ks,hl,hk,hn',e⟩|e
  case inr=>rw [e] at hn;cases hn
  rw [e]
  obtain ⟨hdb,hu⟩:=hR
  obtain ⟨g0,ls0,T,cs,e0,hB,hr0,ho0,hg⟩:=h.mv hl
  injection e0 with e1 e0;subst e0
  have hlen:=hr0.len
  rw [Array.length_toList] at hlen
  have hkl:=zo hk
  refine ⟨by rw [hkl];exact hn',_,n,hu,Nat.le_refl _,.inr ⟨⟨ρ b,0,none⟩,T,cs,rfl,rfl,⟨qC,fun e=>(by cases e)⟩,hB.wb,?_,?_⟩⟩
  ·show 0+ks.length≤cs.size;omega
  ·show LcL _ w ks ((cs.toList.drop 0).take ks.length)
   rw [List.drop_zero,List.take_of_length_le (by rw [Array.length_toList];omega)]
   exact NT hS hk hr0
 |ol b k=>
  have hq:(∃ e sz ls ks,look st (2*b+1)=some (.pre e sz ls)∧rj ls=some ks∧ls.length=k*sz∧po st (.ol b k)= .sl false sz k ks)∨po st (.ol b k)= .ol b k:=by
   simp only [po]
   split
   ·rename_i e sz ls hl
    split
    ·rename_i ks hk
     split
     ·rename_i hn;exact .inl ⟨e,sz,ls,ks,hl,hk,hn,rfl⟩
     ·exact .inr rfl
    ·exact .inr rfl
   ·exact .inr rfl
  rcases hq with ⟨e,sz,ls,ks,hl,hk,hn',e'⟩|e
  case inr=>rw [e] at hn;cases hn
  rw [e']
  obtain ⟨hal,hgk,hk0,hsz,hok,hdm,g,cap,cur,us,hgh,hob,hbg,hB,hkc,hcm,hcs,htk,hul,hcok,hRl⟩:=h.cur hl hn'
  obtain ⟨_,_,hu,_⟩:=hR
  have hu:=(hu hgk.symm).trans hgh
  have hkl:=zo hk
  have hcl:k*sz≤cur.size:=by rw [hcs];exact Nat.mul_le_mul_right _ hkc
  refine ⟨by rw [hkl];exact hn',_,cap,hu,hkc,.inr ⟨⟨g,0,none⟩,e,cur,rfl,rfl,⟨qC,fun e=>(by cases e)⟩,hB.wb,?_,?_⟩⟩
  ·show 0+ks.length≤cur.size;omega
  ·show LcL _ w ks ((cur.toList.drop 0).take ks.length)
   rw [List.drop_zero,hkl,hn',htk]
   exact NT hS hk hRl
 |_=>exact hR
theorem cv_RL (h:Cz F w0 N ρ st a w):∀ {ls:List Lf} {us:List Value},RL ρ (dom st) w ls us→(ls.map (po st)).all Ej=true→RL ρ.no (fun _=>false) w (ls.map (po st)) us:=by
 intro ls
 induction ls with
 |nil=>intro us hr _;exact hr
 |cons l ls ih=>
  intro us hr hn
  obtain ⟨u,r,e,h1,h2⟩:=hr
  rw [List.map_cons,List.all_cons,Bool.and_eq_true] at hn
  exact ⟨u,r,e,Su h h1 hn.1,ih h2 hn.2⟩
theorem AT (h:Cz F w0 N ρ st a w):∀ {xs:List AV} {us:List Value},RA ρ (dom st) w xs us→(xs.map (mn st)).all Bt=true→RA ρ.no (fun _=>false) w (xs.map (mn st)) us:=by
 intro xs
 induction xs with
 |nil=>intro us hr _;exact hr
 |cons x xs ih=>
  intro us hr hn
  obtain ⟨u,r,e,h1,h2⟩:=hr
  rw [List.map_cons,List.all_cons,Bool.and_eq_true] at hn
  refine ⟨u,r,e,?_,ih h2 hn.2⟩
  cases x with
  |v g ls=>
   cases g with
   |true=>obtain ⟨vs,e',hr'⟩:=h1;exact ⟨vs,e',cv_RL h hr' hn.1⟩
   |false=>exact cv_RL h (us:=[u]) h1 hn.1
  |tup _=>cases hn.1
  |pre _ _ _=>cases hn.1
theorem ui {st':St} {l:Lf} (h:∀ k∈olL l,look st' k=look st k):po st' l=po st l:=by
 cases l with
 |ol b k=>simp only [po,h (2*b+1) (by simp [olL])]
 |osl b n=>simp only [po,h (2*b+1) (by simp [olL])]
 |_=>rfl
theorem lV {st':St} {x:AV} (h:∀ k∈olA x,look st' k=look st k):mn st' x=mn st x:=by
 cases x with
 |v g ls=>
  show AV.v g _=AV.v g _
  congr 1
  exact List.map_congr_left fun l hl=>ui fun k hk=>h k (List.mem_flatMap.2 ⟨l,hl,hk⟩)
 |_=>rfl
end
def ai (T:b9):dI:=fun f d st args=>match T f (args.map (mn st)) with
 |some e=>if (args.map (mn st)).all Bt=true then some (e.1,args.flatMap olA,[(2*d,e.2)]) else none
 |none=>none
theorem aa {P:Program} {T:b9} (h:TbOK P T) (F:Nat→Prop) (w0:World):OrOK P (ai T) F w0:=by
 refine ⟨fun f d st args e he=>?_,fun f d st args e he hp N ρ a w us hz hd hA=>?_,fun f d st st' args e he hk=>?_⟩
 ·unfold ai at he
  split at he
  ·rename_i q hq;exact h.enters f _ q hq
  ·cases he
 ·unfold ai at he
  split at he
  ·rename_i q hq
   split at he
   ·rename_i hn
    injection he with he;subst he
    refine (h.ct f _ q hq hp _ (fun _=>false) w us (hz.tb.tab hz.bel) (AT hz hA hn)).mono ?_
    rintro en w' ⟨u,r,rfl,rfl,_,hR,hb⟩
    exact ⟨u,ρ,rfl,hz.val hb hd (hR _ _ hz.old)⟩
   ·cases he
  ·cases he
 ·have h0:=he
  unfold ai at he
  split at he
  ·split at he
   ·injection he with he;subst he
    have hm:args.map (mn st')=args.map (mn st):=List.map_congr_left fun x hx=>lV fun k hk'=>hk k (List.mem_flatMap.2 ⟨x,hx,hk'⟩)
    rw [←h0]
    unfold ai
    rw [hm]
   ·cases he
  ·cases he
def aF (S T:b9):b9:=fun f args=>match S f args with
 |some e=>some e
 |none=>T f args
theorem ab {P:Program} {S T:b9} (hS:TbOK P S) (hT:TbOK P T):TbOK P (aF S T):=by
 refine ⟨fun f args e he=>?_,fun f args e he=>?_⟩
 ·unfold aF at he
  split at he
  ·rename_i q hq;injection he with he;subst he;exact hS.enters f args _ hq
  ·exact hT.enters f args e he
 ·unfold aF at he
  split at he
  ·rename_i q hq;injection he with he;subst he;exact hS.ct f args _ hq
  ·exact hT.ct f args e he
def one (g:FuncId) (k:List AV→Option (Prop×AV)):b9:=fun f args=>if f=g then k args else none
theorem aH {P:Program} {g:FuncId} {k:List AV→Option (Prop×AV)} (he:∀ (vs:Array Value) (w:World),(callFunc g vs).run P w= .ok (.enter g vs) w) (hc:∀ args e,k args=some e→e.1→Ct P g args (·=e.2)):TbOK P (one g k):=by
 refine ⟨fun f args e h=>?_,fun f args e h=>?_⟩
 ·unfold one at h
  split at h
  ·rename_i hf;subst hf;exact he
  ·cases h
 ·unfold one at h
  split at h
  ·rename_i hf;subst hf;exact hc args e h
  ·cases h
def eJ:b9:=fun _ _=>none
theorem bk {P:Program}:TbOK P eJ:=⟨(fun _ _ _ h=>by cases h),(fun _ _ _ h=>by cases h)⟩
section
abbrev bA (b:Bool):AV:=.s (.lit (.bool b))
abbrev iA (z:Int):AV:=.s (.lit (.int .i64 z))
abbrev nA (q:Q):AV:=.v true (qx q).L
abbrev vA (q:Q):AV:=.v true (vL q)
abbrev tS (r:Q×Int):AV:=.tup [(true,(qx r.1).L),(false,[.lit (.int .i64 r.2)])]
end
def gN (k:X→Prop×AV):List AV→Option (Prop×AV)
 |[.v true mx]=>(match fK mx with
  |some x=>some (k x)
  |_=>none)
 |_=>none
theorem pw {k:X→Prop×AV} {args:List AV} {e:Prop×AV} (h:gN k args=some e):∃ x,args=[.v true x.L]∧e=k x:=by
 unfold gN at h
 split at h
 ·split at h
  ·rename_i x hx
   injection h with h;subst h
   exact ⟨x,by rw [iI hx],rfl⟩
  ·cases h
 ·cases h
def ur (k:X→X→Prop×AV):List AV→Option (Prop×AV)
 |[.v true mx,.v true mx1]=>(match fK mx,fK mx1 with
  |some x,some x1=>some (k x x1)
  |_,_=>none)
 |_=>none
theorem lE {k:X→X→Prop×AV} {args:List AV} {e:Prop×AV} (h:ur k args=some e):∃ x x1,args=[.v true x.L,.v true x1.L]∧e=k x x1:=by
 unfold ur at h
 split at h
 ·split at h
  ·rename_i x x1 hx hx1
   injection h with h;subst h
   exact ⟨x,x1,by rw [iI hx,iI hx1],rfl⟩
  ·cases h
 ·cases h
def I6 (k:X→Int→Prop×AV):List AV→Option (Prop×AV)
 |[.v true mx,.v false [.lit (.int .i64 z)]]=>(match fK mx with
  |some x=>some (k x z)
  |_=>none)
 |_=>none
theorem Gs {k:X→Int→Prop×AV} {args:List AV} {e:Prop×AV} (h:I6 k args=some e):∃ x z,args=[.v true x.L,iA z]∧e=k x z:=by
 unfold I6 at h
 split at h
 ·split at h
  ·rename_i x hx
   injection h with h;subst h
   exact ⟨x,_,by rw [iI hx],rfl⟩
  ·cases h
 ·cases h
def gI (k:Int→Prop×AV):List AV→Option (Prop×AV)
 |[.v false [.lit (.int .i64 z)]]=>some (k z)
 |_=>none
theorem d6 {k:Int→Prop×AV} {args:List AV} {e:Prop×AV} (h:gI k args=some e):∃ z,args=[iA z]∧e=k z:=by
 unfold gI at h
 split at h
 ·injection h with h;subst h
  exact ⟨_,rfl,rfl⟩
 ·cases h
def mW (k:X→X→Int→Bool→Prop×AV):List AV→Option (Prop×AV)
 |[.v true mx,.v true mx1,.v false [.lit (.int .i64 z)],.v false [.lit (.bool b)]]=>(match fK mx,fK mx1 with
  |some x,some x1=>some (k x x1 z b)
  |_,_=>none)
 |_=>none
theorem pu {k:X→X→Int→Bool→Prop×AV} {args:List AV} {e:Prop×AV} (h:mW k args=some e):∃ x x1 z b,args=[.v true x.L,.v true x1.L,iA z,bA b]∧e=k x x1 z b:=by
 unfold mW at h
 split at h
 ·split at h
  ·rename_i x x1 hx hx1
   injection h with h;subst h
   exact ⟨x,x1,_,_,by rw [iI hx,iI hx1],rfl⟩
  ·cases h
 ·cases h
def CW (k:X→Int→Bool→Prop×AV):List AV→Option (Prop×AV)
 |[.v true mx,.v false [.lit (.int .i64 z)],.v false [.lit (.bool b)]]=>(match fK mx with
  |some x=>some (k x z b)
  |_=>none)
 |_=>none
def gV (k:Q→Prop×AV):List AV→Option (Prop×AV)
 |[.v true mq]=>(match e7 mq with
  |some q=>some (k q)
  |_=>none)
 |_=>none
theorem Gu {k:Q→Prop×AV} {args:List AV} {e:Prop×AV} (h:gV k args=some e):∃ q,args=[.v true (vL q)]∧e=k q:=by
 unfold gV at h
 split at h
 ·split at h
  ·rename_i q hq
   injection h with h;subst h
   exact ⟨q,by rw [jJ hq],rfl⟩
  ·cases h
 ·cases h
def t7 (k:Q→Q→Prop×AV):List AV→Option (Prop×AV)
 |[.v true mq,.v true mq1]=>(match e7 mq,e7 mq1 with
  |some q,some q1=>some (k q q1)
  |_,_=>none)
 |_=>none
theorem qw {k:Q→Q→Prop×AV} {args:List AV} {e:Prop×AV} (h:t7 k args=some e):∃ q q1,args=[.v true (vL q),.v true (vL q1)]∧e=k q q1:=by
 unfold t7 at h
 split at h
 ·split at h
  ·rename_i q q1 hq hq1
   injection h with h;subst h
   exact ⟨q,q1,by rw [jJ hq,jJ hq1],rfl⟩
  ·cases h
 ·cases h
def nn (k:Q→Int→Bool→Prop×AV):List AV→Option (Prop×AV)
 |[.v true mq,.v false [.lit (.int .i64 z)],.v false [.lit (.bool b)]]=>(match e7 mq with
  |some q=>some (k q z b)
  |_=>none)
 |_=>none
theorem J4 {k:Q→Int→Bool→Prop×AV} {args:List AV} {e:Prop×AV} (h:nn k args=some e):∃ q z b,args=[.v true (vL q),iA z,bA b]∧e=k q z b:=by
 unfold nn at h
 split at h
 ·split at h
  ·rename_i q hq
   injection h with h;subst h
   exact ⟨q,_,_,by rw [jJ hq],rfl⟩
  ·cases h
 ·cases h
def py (k:Q→Q→Int→Bool→Prop×AV):List AV→Option (Prop×AV)
 |[.v true mq,.v true mq1,.v false [.lit (.int .i64 z)],.v false [.lit (.bool b)]]=>(match e7 mq,e7 mq1 with
  |some q,some q1=>some (k q q1 z b)
  |_,_=>none)
 |_=>none
def CX (k:List Nat→List Nat→Prop×AV):List AV→Option (Prop×AV)
 |[.v false [.ws l],.v false [.ws l1]]=>some (k l l1)
 |_=>none
theorem N6 {k:List Nat→List Nat→Prop×AV} {args:List AV} {e:Prop×AV} (h:CX k args=some e):∃ l l1,args=[.s (.ws l),.s (.ws l1)]∧e=k l l1:=by
 unfold CX at h
 split at h
 ·injection h with h;subst h
  exact ⟨_,_,rfl,rfl⟩
 ·cases h
def gJ (k:J→Prop×AV):List AV→Option (Prop×AV)
 |[.v true mj]=>(match k7 mj with
  |some j=>some (k j)
  |_=>none)
 |_=>none
theorem oM {k:J→Prop×AV} {args:List AV} {e:Prop×AV} (h:gJ k args=some e):∃ j,args=[.v true j.L]∧e=k j:=by
 unfold gJ at h
 split at h
 ·split at h
  ·rename_i j hj
   injection h with h;subst h
   exact ⟨j,by rw [gy hj],rfl⟩
  ·cases h
 ·cases h
def l5 (k:J→J→Prop×AV):List AV→Option (Prop×AV)
 |[.v true mj,.v true mj1]=>(match k7 mj,k7 mj1 with
  |some j,some j1=>some (k j j1)
  |_,_=>none)
 |_=>none
theorem iL {k:J→J→Prop×AV} {args:List AV} {e:Prop×AV} (h:l5 k args=some e):∃ j j1,args=[.v true j.L,.v true j1.L]∧e=k j j1:=by
 unfold l5 at h
 split at h
 ·split at h
  ·rename_i j j1 hj hj1
   injection h with h;subst h
   exact ⟨j,j1,by rw [gy hj,gy hj1],rfl⟩
  ·cases h
 ·cases h
def PK (k:J→X→Prop×AV):List AV→Option (Prop×AV)
 |[.v true mj,.v true mx]=>(match k7 mj,fK mx with
  |some j,some x=>some (k j x)
  |_,_=>none)
 |_=>none
def sG (k:J→J→Int→Prop×AV):List AV→Option (Prop×AV)
 |[.v true mj,.v true mj1,.v false [.lit (.int .i64 z)]]=>(match k7 mj,k7 mj1 with
  |some j,some j1=>some (k j j1 z)
  |_,_=>none)
 |_=>none
theorem rQ {k:J→J→Int→Prop×AV} {args:List AV} {e:Prop×AV} (h:sG k args=some e):∃ j j1 z,args=[.v true j.L,.v true j1.L,iA z]∧e=k j j1 z:=by
 unfold sG at h
 split at h
 ·split at h
  ·rename_i j j1 hj hj1
   injection h with h;subst h
   exact ⟨j,j1,_,by rw [gy hj,gy hj1],rfl⟩
  ·cases h
 ·cases h
def I4 (k:J→Int→Prop×AV):List AV→Option (Prop×AV)
 |[.v true mj,.v false [.lit (.int .i64 z)]]=>(match k7 mj with
  |some j=>some (k j z)
  |_=>none)
 |_=>none
theorem Gq {k:J→Int→Prop×AV} {args:List AV} {e:Prop×AV} (h:I4 k args=some e):∃ j z,args=[.v true j.L,iA z]∧e=k j z:=by
 unfold I4 at h
 split at h
 ·split at h
  ·rename_i j hj
   injection h with h;subst h
   exact ⟨j,_,by rw [gy hj],rfl⟩
  ·cases h
 ·cases h
def vR (k:J→Int→Int→Prop×AV):List AV→Option (Prop×AV)
 |[.v true mj,.v false [.lit (.int .i64 z)],.v false [.lit (.int .i64 z1)]]=>(match k7 mj with
  |some j=>some (k j z z1)
  |_=>none)
 |_=>none
def vS (k:X→X→Int→Prop×AV):List AV→Option (Prop×AV)
 |[.v true mx,.v true mx1,.v false [.lit (.int .i64 z)]]=>(match fK mx,fK mx1 with
  |some x,some x1=>some (k x x1 z)
  |_,_=>none)
 |_=>none
def rA (k:Bool→List Nat→Int→Prop×AV):List AV→Option (Prop×AV)
 |[.v false [.lit (.bool b)],.v false [.ws l],.v false [.lit (.int .i64 z)]]=>some (k b l z)
 |_=>none
theorem J1 {k:Bool→List Nat→Int→Prop×AV} {args:List AV} {e:Prop×AV} (h:rA k args=some e):∃ b l z,args=[bA b,.s (.ws l),iA z]∧e=k b l z:=by
 unfold rA at h
 split at h
 ·injection h with h;subst h
  exact ⟨_,_,_,rfl,rfl⟩
 ·cases h
def kc (k:Q→Q→Q→Q→Prop×AV):List AV→Option (Prop×AV)
 |[.v true mq,.v true mq1,.v true mq2,.v true mq3]=>(match e7 mq,e7 mq1,e7 mq2,e7 mq3 with
  |some q,some q1,some q2,some q3=>some (k q q1 q2 q3)
  |_,_,_,_=>none)
 |_=>none
theorem xx {k:Q→Q→Q→Q→Prop×AV} {args:List AV} {e:Prop×AV} (h:kc k args=some e):∃ q q1 q2 q3,args=[.v true (vL q),.v true (vL q1),.v true (vL q2),.v true (vL q3)]∧e=k q q1 q2 q3:=by
 unfold kc at h
 split at h
 ·split at h
  ·rename_i q q1 q2 q3 hq hq1 hq2 hq3
   injection h with h;subst h
   exact ⟨q,q1,q2,q3,by rw [jJ hq,jJ hq1,jJ hq2,jJ hq3],rfl⟩
  ·cases h
 ·cases h
def mH (k:Q→Q→Q→Q→Int→Prop×AV):List AV→Option (Prop×AV)
 |[.v true mq,.v true mq1,.v true mq2,.v true mq3,.v false [.lit (.int .i64 z)]]=>(match e7 mq,e7 mq1,e7 mq2,e7 mq3 with
  |some q,some q1,some q2,some q3=>some (k q q1 q2 q3 z)
  |_,_,_,_=>none)
 |_=>none
def J3 (k:Q→Int→Prop×AV):List AV→Option (Prop×AV)
 |[.v true mq,.v false [.lit (.int .i64 z)]]=>(match e7 mq with
  |some q=>some (k q z)
  |_=>none)
 |_=>none
theorem PI {P:Program} {f:FuncId} {x:X} {r:AV} (hr:oI r=true) (h:∀ (w:World) (Ax:Option Addr) (cx:Nat),Tab w→Arg w Ax x.xs.length cx x.xs→x.xs.length≤100000→
  Calls P f #[.agg #[.bool x.s,.int .i64 x.e,.slice Ax x.xs.length cx]] w fun e w'=>∃ u,e= .returned u∧(∀ ρ D,r.R ρ D w' u)∧Below w.heap.size w w'):Ct P f [.v true x.L] (·=r):=by
 rintro ρ D w us ht ⟨ux,_,rfl,hx,rfl⟩
 obtain ⟨Ax,cx,rfl,hax,hlx⟩:=oi hx
 refine (h w Ax cx ht hax hlx).mono ?_
 rintro e w' ⟨u,he,hR,hb⟩
 exact ⟨u,r,he,rfl,hr,fun ρ' D' _=>hR ρ' D',hb⟩
theorem JJ {P:Program} {f:FuncId} {x:X} {x1:X} {r:AV} (hr:oI r=true) (h:∀ (w:World) (Ax:Option Addr) (cx:Nat) (Ax1:Option Addr) (cx1:Nat),Tab w→Arg w Ax x.xs.length cx x.xs→x.xs.length≤100000→Arg w Ax1 x1.xs.length cx1 x1.xs→x1.xs.length≤100000→
  Calls P f #[.agg #[.bool x.s,.int .i64 x.e,.slice Ax x.xs.length cx],.agg #[.bool x1.s,.int .i64 x1.e,.slice Ax1 x1.xs.length cx1]] w fun e w'=>∃ u,e= .returned u∧(∀ ρ D,r.R ρ D w' u)∧Below w.heap.size w w'):Ct P f [.v true x.L,.v true x1.L] (·=r):=by
 rintro ρ D w us ht ⟨ux,_,rfl,hx,⟨ux1,_,rfl,hx1,rfl⟩⟩
 obtain ⟨Ax,cx,rfl,hax,hlx⟩:=oi hx
 obtain ⟨Ax1,cx1,rfl,hax1,hlx1⟩:=oi hx1
 refine (h w Ax cx Ax1 cx1 ht hax hlx hax1 hlx1).mono ?_
 rintro e w' ⟨u,he,hR,hb⟩
 exact ⟨u,r,he,rfl,hr,fun ρ' D' _=>hR ρ' D',hb⟩
theorem Sp {P:Program} {f:FuncId} {x:X} {z:Int} {r:AV} (hr:oI r=true) (h:∀ (w:World) (Ax:Option Addr) (cx:Nat),Tab w→Arg w Ax x.xs.length cx x.xs→x.xs.length≤100000→
  Calls P f #[.agg #[.bool x.s,.int .i64 x.e,.slice Ax x.xs.length cx],.int .i64 z] w fun e w'=>∃ u,e= .returned u∧(∀ ρ D,r.R ρ D w' u)∧Below w.heap.size w w'):Ct P f [.v true x.L,iA z] (·=r):=by
 rintro ρ D w us ht ⟨ux,_,rfl,hx,⟨uz,_,rfl,hz,rfl⟩⟩
 obtain ⟨Ax,cx,rfl,hax,hlx⟩:=oi hx
 have hz:uz= .int .i64 z:=RL.one.1 hz
 subst hz
 refine (h w Ax cx ht hax hlx).mono ?_
 rintro e w' ⟨u,he,hR,hb⟩
 exact ⟨u,r,he,rfl,hr,fun ρ' D' _=>hR ρ' D',hb⟩
theorem Ti {P:Program} {f:FuncId} {z:Int} {r:AV} (hr:oI r=true) (h:∀ (w:World),Tab w→
  Calls P f #[.int .i64 z] w fun e w'=>∃ u,e= .returned u∧(∀ ρ D,r.R ρ D w' u)∧Below w.heap.size w w'):Ct P f [iA z] (·=r):=by
 rintro ρ D w us ht ⟨uz,_,rfl,hz,rfl⟩
 have hz:uz= .int .i64 z:=RL.one.1 hz
 subst hz
 refine (h w ht).mono ?_
 rintro e w' ⟨u,he,hR,hb⟩
 exact ⟨u,r,he,rfl,hr,fun ρ' D' _=>hR ρ' D',hb⟩
theorem zn {P:Program} {f:FuncId} {x:X} {x1:X} {z:Int} {b:Bool} {r:AV} (hr:oI r=true) (h:∀ (w:World) (Ax:Option Addr) (cx:Nat) (Ax1:Option Addr) (cx1:Nat),Tab w→Arg w Ax x.xs.length cx x.xs→x.xs.length≤100000→Arg w Ax1 x1.xs.length cx1 x1.xs→x1.xs.length≤100000→
  Calls P f #[.agg #[.bool x.s,.int .i64 x.e,.slice Ax x.xs.length cx],.agg #[.bool x1.s,.int .i64 x1.e,.slice Ax1 x1.xs.length cx1],.int .i64 z,.bool b] w fun e w'=>∃ u,e= .returned u∧(∀ ρ D,r.R ρ D w' u)∧Below w.heap.size w w'):Ct P f [.v true x.L,.v true x1.L,iA z,bA b] (·=r):=by
 rintro ρ D w us ht ⟨ux,_,rfl,hx,⟨ux1,_,rfl,hx1,⟨uz,_,rfl,hz,⟨ub,_,rfl,hb,rfl⟩⟩⟩⟩
 obtain ⟨Ax,cx,rfl,hax,hlx⟩:=oi hx
 obtain ⟨Ax1,cx1,rfl,hax1,hlx1⟩:=oi hx1
 have hz:uz= .int .i64 z:=RL.one.1 hz
 subst hz
 have hb:ub= .bool b:=RL.one.1 hb
 subst hb
 refine (h w Ax cx Ax1 cx1 ht hax hlx hax1 hlx1).mono ?_
 rintro e w' ⟨u,he,hR,hb⟩
 exact ⟨u,r,he,rfl,hr,fun ρ' D' _=>hR ρ' D',hb⟩
theorem Sr {P:Program} {f:FuncId} {q:Q} {r:AV} (hr:oI r=true) (h:∀ (w:World) (Aq:Option Addr) (nq cq:Nat),Tab w→Dg w Aq nq cq q.m→
  Calls P f #[.agg #[.bool q.s,.slice Aq nq cq,.int .i64 q.e]] w fun e w'=>∃ u,e= .returned u∧(∀ ρ D,r.R ρ D w' u)∧Below w.heap.size w w'):Ct P f [.v true (vL q)] (·=r):=by
 rintro ρ D w us ht ⟨uq,_,rfl,hq,rfl⟩
 obtain ⟨Aq,nq,cq,rfl,haq⟩:=rX hq
 refine (h w Aq nq cq ht haq).mono ?_
 rintro e w' ⟨u,he,hR,hb⟩
 exact ⟨u,r,he,rfl,hr,fun ρ' D' _=>hR ρ' D',hb⟩
theorem JK {P:Program} {f:FuncId} {q:Q} {q1:Q} {r:AV} (hr:oI r=true) (h:∀ (w:World) (Aq:Option Addr) (nq cq:Nat) (Aq1:Option Addr) (nq1 cq1:Nat),Tab w→Dg w Aq nq cq q.m→Dg w Aq1 nq1 cq1 q1.m→
  Calls P f #[.agg #[.bool q.s,.slice Aq nq cq,.int .i64 q.e],.agg #[.bool q1.s,.slice Aq1 nq1 cq1,.int .i64 q1.e]] w fun e w'=>∃ u,e= .returned u∧(∀ ρ D,r.R ρ D w' u)∧Below w.heap.size w w'):Ct P f [.v true (vL q),.v true (vL q1)] (·=r):=by
 rintro ρ D w us ht ⟨uq,_,rfl,hq,⟨uq1,_,rfl,hq1,rfl⟩⟩
 obtain ⟨Aq,nq,cq,rfl,haq⟩:=rX hq
 obtain ⟨Aq1,nq1,cq1,rfl,haq1⟩:=rX hq1
 refine (h w Aq nq cq Aq1 nq1 cq1 ht haq haq1).mono ?_
 rintro e w' ⟨u,he,hR,hb⟩
 exact ⟨u,r,he,rfl,hr,fun ρ' D' _=>hR ρ' D',hb⟩
theorem Qg {P:Program} {f:FuncId} {q:Q} {z:Int} {b:Bool} {r:AV} (hr:oI r=true) (h:∀ (w:World) (Aq:Option Addr) (nq cq:Nat),Tab w→Dg w Aq nq cq q.m→
  Calls P f #[.agg #[.bool q.s,.slice Aq nq cq,.int .i64 q.e],.int .i64 z,.bool b] w fun e w'=>∃ u,e= .returned u∧(∀ ρ D,r.R ρ D w' u)∧Below w.heap.size w w'):Ct P f [.v true (vL q),iA z,bA b] (·=r):=by
 rintro ρ D w us ht ⟨uq,_,rfl,hq,⟨uz,_,rfl,hz,⟨ub,_,rfl,hb,rfl⟩⟩⟩
 obtain ⟨Aq,nq,cq,rfl,haq⟩:=rX hq
 have hz:uz= .int .i64 z:=RL.one.1 hz
 subst hz
 have hb:ub= .bool b:=RL.one.1 hb
 subst hb
 refine (h w Aq nq cq ht haq).mono ?_
 rintro e w' ⟨u,he,hR,hb⟩
 exact ⟨u,r,he,rfl,hr,fun ρ' D' _=>hR ρ' D',hb⟩
theorem Ss {P:Program} {f:FuncId} {l:List Nat} {l1:List Nat} {r:AV} (hr:oI r=true) (h:∀ (w:World) (Al:Option Addr) (nl cl:Nat) (Al1:Option Addr) (nl1 cl1:Nat),Tab w→Arg w Al nl cl l→nl≤100000→Arg w Al1 nl1 cl1 l1→nl1≤100000→
  Calls P f #[.slice Al nl cl,.slice Al1 nl1 cl1] w fun e w'=>∃ u,e= .returned u∧(∀ ρ D,r.R ρ D w' u)∧Below w.heap.size w w'):Ct P f [.s (.ws l),.s (.ws l1)] (·=r):=by
 rintro ρ D w us ht ⟨ul,_,rfl,hl,⟨ul1,_,rfl,hl1,rfl⟩⟩
 obtain ⟨Al,nl,cl,rfl,hal,hll⟩:=RL.one.1 hl
 obtain ⟨Al1,nl1,cl1,rfl,hal1,hll1⟩:=RL.one.1 hl1
 refine (h w Al nl cl Al1 nl1 cl1 ht hal hll hal1 hll1).mono ?_
 rintro e w' ⟨u,he,hR,hb⟩
 exact ⟨u,r,he,rfl,hr,fun ρ' D' _=>hR ρ' D',hb⟩
theorem Qf {P:Program} {f:FuncId} {b:Bool} {l:List Nat} {z:Int} {r:AV} (hr:oI r=true) (h:∀ (w:World) (Al:Option Addr) (nl cl:Nat),Tab w→Arg w Al nl cl l→nl≤100000→
  Calls P f #[.bool b,.slice Al nl cl,.int .i64 z] w fun e w'=>∃ u,e= .returned u∧(∀ ρ D,r.R ρ D w' u)∧Below w.heap.size w w'):Ct P f [bA b,.s (.ws l),iA z] (·=r):=by
 rintro ρ D w us ht ⟨ub,_,rfl,hb,⟨ul,_,rfl,hl,⟨uz,_,rfl,hz,rfl⟩⟩⟩
 have hb:ub= .bool b:=RL.one.1 hb
 subst hb
 obtain ⟨Al,nl,cl,rfl,hal,hll⟩:=RL.one.1 hl
 have hz:uz= .int .i64 z:=RL.one.1 hz
 subst hz
 refine (h w Al nl cl ht hal hll).mono ?_
 rintro e w' ⟨u,he,hR,hb⟩
 exact ⟨u,r,he,rfl,hr,fun ρ' D' _=>hR ρ' D',hb⟩
section
variable {w w':World} {e:Ending}
theorem te {b:Bool} (h:BoolPost w b e w'):∃ u,e= .returned u∧(∀ ρ D,(bA b).R ρ D w' u)∧Below w.heap.size w w':=⟨_,h.1,fun _ _=>RL.one.2 rfl,h.2⟩
theorem tf {z:Int} (h:qW w z e w'):∃ u,e= .returned u∧(∀ ρ D,(iA z).R ρ D w' u)∧Below w.heap.size w w':=⟨_,h.1,fun _ _=>RL.one.2 rfl,h.2⟩
theorem Af {q:Q} (hq:fm q) (h:lO w q e w'):∃ u,e= .returned u∧(∀ ρ D,(nA q).R ρ D w' u)∧Below w.heap.size w w':=by
 obtain ⟨v,he,hv,hb⟩:=h;exact ⟨v,he,fun _ _=>zU hv (sE hq),hb⟩
theorem O1 {q:Q} (hq:fm q) (h:wX w q e w'):∃ u,e= .returned u∧(∀ ρ D,(nA q).R ρ D w' u)∧Below w.heap.size w w':=by
 obtain ⟨v,he,hv,hb⟩:=h;exact ⟨v,he,fun _ _=>zU hv (sE hq),hb⟩
theorem pL {r:Q×Int} (hq:fm r.1) (h:fw w r e w'):∃ u,e= .returned u∧(∀ ρ D,(tS r).R ρ D w' u)∧Below w.heap.size w w':=by
 obtain ⟨v,he,hv,hb⟩:=h
 exact ⟨_,he,fun ρ D=>⟨[v,.int .i64 r.2],rfl,v,_,rfl,zU hv (sE hq),_,_,rfl,RL.one.2 rfl,rfl⟩,hb⟩
theorem tg {H:Nat} {q:Q} (h:ValPost w H q e w'):∃ u,e= .returned u∧(∀ ρ D,(vA q).R ρ D w' u)∧Below w.heap.size w w':=by
 obtain ⟨v,he,hv,hb⟩:=h;exact ⟨v,he,fun _ _=>Px hv,hb⟩
theorem O0 {A:Option Addr} {n:Nat} {q:Q} (h:RndPost w A n q e w'):∃ u,e= .returned u∧(∀ ρ D,(vA q).R ρ D w' u)∧Below w.heap.size w w':=by
 obtain ⟨A',n',c',he,hD,_,hb⟩:=h
 exact ⟨_,he,fun _ _=>⟨_,rfl,PO rfl ⟨A',n',c',rfl,hD⟩ rfl⟩,hb⟩
end
def cmpx (x y:X):Int:=jc x.s x.e x.xs.length x.xs y.s y.e y.xs.length y.xs
def iT (x y:X):Bool:=ix x.s x.e x.xs y.s y.e y.xs
def uS (x:X):Int:=if x.ok then signq x.q else 0
def absx (x:X):Q:=anssign x.s x.e x.xs.length x.xs false
noncomputable def ez (x:X) (k:Int):Q×Int:=vp x.s x.e x.xs.length x.xs k
noncomputable def dZ (g:Q→Q→Q×Int) (p:Int) (x y:X):Q×Int:=ng g p x.s x.e x.xs.length x.xs y.s y.e y.xs.length y.xs
def Vb (q:Q):Prop:=a8 q∧q.m<B64^3000∧ -550000≤q.e∧q.e≤550000
def Vw (q:Q):Prop:=a8 q∧q.m<B64^5000∧ -50000000≤q.e∧q.e≤50000000
def Pr (p:Int):Prop:=8≤p∧p≤256
theorem yo {s t:Bool} {e:Int} {xs:List Nat} {w:World} {A:Option Addr} {c:Nat} (ha:Arg w A xs.length c xs):fm (anssign s e xs.length xs t):=by
 unfold anssign
 split
 ·rename_i h
  have:=(cF ha h).2.2
  split
  ·exact ka
  ·exact this
 ·exact ka
theorem tk (q:Q):fm (res q).1:=by
 unfold res;split
 ·assumption
 ·exact ka
theorem Co {s:Bool} {e k:Int} {n:Nat} {xs:List Nat}:fm (vp s e n xs k).1:=by
 unfold vp;split
 ·exact tk _
 ·exact ka
theorem aX {P:Program} {g:FuncId} {fn:Func} {c:Code} (hf:P.funcs[g]? =some fn) (hn:(fn.name== "runtime.NumGoroutine")=false) (hb:fn.body=some c) (vs:Array Value) (w:World):(callFunc g vs).run P w= .ok (.enter g vs) w:=by
 have h1:fn.name≠ "runtime.NumGoroutine":=by simpa using hn
 simp [callFunc,hf,h1,hb,mark]
theorem GG {n:Int} (h1: -9223372036854775808≤n) (h2:n<9223372036854775808):fm (fH n 0):=
 sF (Nat.lt_of_lt_of_le (show n.natAbs<B64 by unfold B64;omega) zi) (by omega) (by omega)
noncomputable def oV:b9:=one 115 (gN fun x=>(True,bA x.ok))
theorem tU:TbOK Tryz.prog oV:=aH (aX Tryz.func115 (by kernel_rfl) rfl) fun args e h hp=>by obtain ⟨x,rfl,rfl⟩:=pw h;exact PI rfl (fun w Ax cx ht hx hl=>(jn w x.s x.e Ax _ cx x.xs hx hl).mono fun _ _ h=>te h)
noncomputable def dL:b9:=one 82 (ur fun x x1=>(True,iA (cmpx x x1)))
theorem fy:TbOK Tryz.prog dL:=aH (aX Tryz.func82 (by kernel_rfl) rfl) fun args e h hp=>by obtain ⟨x,x1,rfl,rfl⟩:=lE h;exact JJ rfl (fun w Ax cx Ax1 cx1 ht hx hl hx1 hl1=>(Hz w x.s x1.s x.e x1.e Ax Ax1 _ cx _ cx1 x.xs x1.xs hx hx1 hl hl1).mono fun _ _ h=>tf h)
noncomputable def ql:b9:=one 204 (ur fun x x1=>(True,bA (iT x x1)))
theorem vk:TbOK Tryz.prog ql:=aH (aX Tryz.func204 (by kernel_rfl) rfl) fun args e h hp=>by obtain ⟨x,x1,rfl,rfl⟩:=lE h;exact JJ rfl (fun w Ax cx Ax1 cx1 ht hx hl hx1 hl1=>(Dw w x.s x1.s x.e x1.e Ax Ax1 _ cx _ cx1 x.xs x1.xs hx hx1 hl hl1).mono fun _ _ h=>te h)
noncomputable def lR:b9:=one 121 (gN fun x=>(True,iA (uS x)))
theorem pk:TbOK Tryz.prog lR:=aH (aX Tryz.func121 (by kernel_rfl) rfl) fun args e h hp=>by obtain ⟨x,rfl,rfl⟩:=pw h;exact PI rfl (fun w Ax cx ht hx hl=>(oh w x.s x.e Ax _ cx x.xs hx hl).mono fun _ _ h=>tf h)
noncomputable def nd:b9:=one 120 (gN fun x=>(True,nA (absx x)))
theorem qX:TbOK Tryz.prog nd:=aH (aX Tryz.func120 (by kernel_rfl) rfl) fun args e h hp=>by obtain ⟨x,rfl,rfl⟩:=pw h;exact PI rfl (fun w Ax cx ht hx hl=>(Hx w x.s x.e Ax _ cx x.xs hx hl).mono fun _ _ h=>Af (yo hx) h)
noncomputable def cX:b9:=one 123 (I6 fun x z=>(True,tS (ez x z)))
theorem fX:TbOK Tryz.prog cX:=aH (aX Tryz.func123 (by kernel_rfl) rfl) fun args e h hp=>by obtain ⟨x,z,rfl,rfl⟩:=Gs h;exact Sp rfl (fun w Ax cx ht hx hl=>(zR w x.s x.e z Ax _ cx x.xs hx hl ht).mono fun _ _ h=>pL Co h)
noncomputable def lQ:b9:=one 87 (gI fun z=>(-9223372036854775808≤z∧z<9223372036854775808,nA (fH z 0)))
theorem qY:TbOK Tryz.prog lQ:=aH (aX Tryz.func87 (by kernel_rfl) rfl) fun args e h hp=>by obtain ⟨z,rfl,rfl⟩:=d6 h;exact Ti rfl (fun w ht=>(HU w z hp.1 hp.2 ht).mono fun _ _ h=>Af (GG hp.1 hp.2) h)
noncomputable def fA:b9:=one 80 (mW fun x x1 z b=>(True,tS (dZ (mI z b) z x x1)))
theorem lA:TbOK Tryz.prog fA:=aH (aX Tryz.func80 (by kernel_rfl) rfl) fun args e h hp=>by obtain ⟨x,x1,z,b,rfl,rfl⟩:=pu h;exact zn rfl (fun w Ax cx Ax1 cx1 ht hx hl hx1 hl1=>(IP w x.s x1.s b x.e x1.e z Ax Ax1 _ cx _ cx1 x.xs x1.xs hx hx1 hl hl1 ht).mono fun _ _ h=>pL (vq (N7 z b) ..).2 h)
noncomputable def oZ:b9:=one 119 (mW fun x x1 z b=>(True,tS (dZ (rB z b) z x x1)))
theorem tW:TbOK Tryz.prog oZ:=aH (aX Tryz.func119 (by kernel_rfl) rfl) fun args e h hp=>by obtain ⟨x,x1,z,b,rfl,rfl⟩:=pu h;exact zn rfl (fun w Ax cx Ax1 cx1 ht hx hl hx1 hl1=>(IS w x.s x1.s b x.e x1.e z Ax Ax1 _ cx _ cx1 x.xs x1.xs hx hx1 hl hl1 ht).mono fun _ _ h=>pL (vq (Ob z b) ..).2 h)
noncomputable def g8:b9:=one 118 (mW fun x x1 z b=>(True,tS (dZ (pD z b) z x x1)))
theorem oH:TbOK Tryz.prog g8:=aH (aX Tryz.func118 (by kernel_rfl) rfl) fun args e h hp=>by obtain ⟨x,x1,z,b,rfl,rfl⟩:=pu h;exact zn rfl (fun w Ax cx Ax1 cx1 ht hx hl hx1 hl1=>(IR w x.s x1.s b x.e x1.e z Ax Ax1 _ cx _ cx1 x.xs x1.xs hx hx1 hl hl1 ht).mono fun _ _ h=>pL (vq (N9 z b) ..).2 h)
noncomputable def kL:b9:=one 124 (gN fun x=>(True,bA x.ok))
theorem oF:TbOK Tryz.prog kL:=aH (aX Tryz.func124 (by kernel_rfl) rfl) fun args e h hp=>by obtain ⟨x,rfl,rfl⟩:=pw h;exact PI rfl (fun w Ax cx ht hx hl=>(mR w x.s x.e Ax _ cx x.xs hx hl).mono fun _ _ h=>te h)
noncomputable def bg:b9:=one 100 (ur fun x x1=>(True,iA (cmpx x x1)))
theorem d9:TbOK Tryz.prog bg:=aH (aX Tryz.func100 (by kernel_rfl) rfl) fun args e h hp=>by obtain ⟨x,x1,rfl,rfl⟩:=lE h;exact JJ rfl (fun w Ax cx Ax1 cx1 ht hx hl hx1 hl1=>(yd w x.s x1.s x.e x1.e Ax Ax1 _ cx _ cx1 x.xs x1.xs hx hx1 hl hl1).mono fun _ _ h=>tf h)
noncomputable def fI:b9:=one 51 (ur fun x x1=>(True,bA (iT x x1)))
theorem my:TbOK Tryz.prog fI:=aH (aX Tryz.func51 (by kernel_rfl) rfl) fun args e h hp=>by obtain ⟨x,x1,rfl,rfl⟩:=lE h;exact JJ rfl (fun w Ax cx Ax1 cx1 ht hx hl hx1 hl1=>(DR w x.s x1.s x.e x1.e Ax Ax1 _ cx _ cx1 x.xs x1.xs hx hx1 hl hl1).mono fun _ _ h=>te h)
noncomputable def sh:b9:=one 163 (gN fun x=>(True,nA (absx x)))
theorem xd:TbOK Tryz.prog sh:=aH (aX Tryz.func163 (by kernel_rfl) rfl) fun args e h hp=>by obtain ⟨x,rfl,rfl⟩:=pw h;exact PI rfl (fun w Ax cx ht hx hl=>(Il w x.s x.e Ax _ cx x.xs hx hl).mono fun _ _ h=>O1 (yo hx) h)
noncomputable def bM:b9:=one 155 (gN fun x=>(x.ok=true,vA x.q))
theorem dp:TbOK Tryz.prog bM:=aH (aX Tryz.func155 (by kernel_rfl) rfl) fun args e h hp=>by obtain ⟨x,rfl,rfl⟩:=pw h;exact PI rfl (fun w Ax cx ht hx hl=>(zV w x.q Ax _ cx (cF hx hp).1 hl).mono fun _ _ h=>tg h)
noncomputable def bU:b9:=one 158 (gI fun z=>(-9223372036854775808≤z∧z<9223372036854775808,vA (fH z 0)))
theorem fY:TbOK Tryz.prog bU:=aH (aX Tryz.func158 (by kernel_rfl) rfl) fun args e h hp=>by obtain ⟨z,rfl,rfl⟩:=d6 h;exact Ti rfl (fun w _=>(D4 w z hp.1 hp.2).mono fun _ _ h=>tg h)
noncomputable def bp:b9:=one 156 (t7 fun q q1=>(Vb q∧Vb q1,vA (plus q q1)))
theorem db:TbOK Tryz.prog bp:=aH (aX Tryz.func156 (by kernel_rfl) rfl) fun args e h hp=>by obtain ⟨q,q1,rfl,rfl⟩:=qw h;exact JK rfl (fun w Aq nq cq Aq1 nq1 cq1 ht hq hq1=>(ya w _ q q1 Aq Aq1 nq cq nq1 cq1 3000 hp.1.1 hp.2.1 hq hq1 (nk hq) (nk hq1) (Nat.le_refl _) hp.1.2.1 hp.2.2.1 (by omega) hp.1.2.2.1 hp.1.2.2.2 hp.2.2.2.1 hp.2.2.2.2).mono fun _ _ h=>tg h)
noncomputable def i9:b9:=one 207 (t7 fun q q1=>(Vb q∧Vb q1,vA (minus q q1)))
theorem mw:TbOK Tryz.prog i9:=aH (aX Tryz.func207 (by kernel_rfl) rfl) fun args e h hp=>by obtain ⟨q,q1,rfl,rfl⟩:=qw h;exact JK rfl (fun w Aq nq cq Aq1 nq1 cq1 ht hq hq1=>(xI w _ q q1 Aq Aq1 nq cq nq1 cq1 3000 hp.1.1 hp.2.1 hq hq1 (nk hq) (nk hq1) (Nat.le_refl _) hp.1.2.1 hp.2.2.1 (by omega) hp.1.2.2.1 hp.1.2.2.2 hp.2.2.2.1 hp.2.2.2.2).mono fun _ _ h=>tg h)
noncomputable def kJ:b9:=one 154 (t7 fun q q1=>(Vb q∧Vb q1,iA (cmpq q q1)))
theorem oE:TbOK Tryz.prog kJ:=aH (aX Tryz.func154 (by kernel_rfl) rfl) fun args e h hp=>by obtain ⟨q,q1,rfl,rfl⟩:=qw h;exact JK rfl (fun w Aq nq cq Aq1 nq1 cq1 ht hq hq1=>(uJ w _ q q1 Aq Aq1 nq cq nq1 cq1 3000 hp.1.1 hp.2.1 hq hq1 (nk hq) (nk hq1) (Nat.le_refl _) hp.1.2.1 hp.2.2.1 (by omega) hp.1.2.2.1 hp.1.2.2.2 hp.2.2.2.1 hp.2.2.2.2).mono fun _ _ h=>tf h)
noncomputable def dy:b9:=one 157 (t7 fun q q1=>(Vw q∧Vw q1,vA (times q q1)))
theorem i8:TbOK Tryz.prog dy:=aH (aX Tryz.func157 (by kernel_rfl) rfl) fun args e h hp=>by obtain ⟨q,q1,rfl,rfl⟩:=qw h;exact JK rfl (fun w Aq nq cq Aq1 nq1 cq1 ht hq hq1=>(Nt w q q1 Aq Aq1 nq cq nq1 cq1 5000 5000 hp.1.1 hp.2.1 hq hq1 hp.1.2.1 hp.2.2.1 (by omega) (by omega) (by have:=hp.1.2.2.1;omega) (by have:=hp.1.2.2.2;omega) (by have:=hp.2.2.2.1;omega) (by have:=hp.2.2.2.2;omega)).mono fun _ _ h=>tg h)
noncomputable def aW:b9:=one 159 (gV fun q=>(True,iA (signq q)))
theorem dj:TbOK Tryz.prog aW:=aH (aX Tryz.func159 (by kernel_rfl) rfl) fun args e h hp=>by obtain ⟨q,rfl,rfl⟩:=Gu h;exact Sr rfl (fun w Aq nq cq ht hq=>(uY w q Aq nq cq hq).mono fun _ _ h=>tf h)
noncomputable def jX:b9:=one 232 (gV fun q=>(a8 q,vA q.neg))
theorem oW:TbOK Tryz.prog jX:=aH (aX Tryz.func232 (by kernel_rfl) rfl) fun args e h hp=>by obtain ⟨q,rfl,rfl⟩:=Gu h;exact Sr rfl (fun w Aq nq cq ht hq=>(tM w q Aq nq cq hp hq).mono fun _ _ h=>⟨_,h.1,fun _ _=>⟨_,rfl,PO rfl ⟨Aq,nq,cq,rfl,by rw [xN];exact hq.step h.2⟩ rfl⟩,h.2⟩)
noncomputable def aO:b9:=one 129 (gV fun q=>(Vw q,tS (res q)))
theorem bY:TbOK Tryz.prog aO:=aH (aX Tryz.func129 (by kernel_rfl) rfl) fun args e h hp=>by obtain ⟨q,rfl,rfl⟩:=Gu h;exact Sr rfl (fun w Aq nq cq ht hq=>(yG w q Aq nq cq 5000 hq hp.1 hp.2.1 (by omega)).mono fun _ _ h=>pL (tk _) h)
noncomputable def cG:b9:=one 166 (nn fun q z b=>(Vw q∧Pr z,vA (rnd z.toNat b q)))
theorem fi:TbOK Tryz.prog cG:=aH (aX Tryz.func166 (by kernel_rfl) rfl) fun args e h hp=>by obtain ⟨q,z,b,rfl,rfl⟩:=J4 h;exact Qg rfl (fun w Aq nq cq ht hq=>by
  obtain ⟨hv,p1,p2⟩:=hp
  obtain ⟨P,rfl⟩:∃ P:Nat,z=(P:Int):=⟨z.toNat,by omega⟩
  exact (DP w q Aq nq cq 5000 P b hv.1 hq hv.2.1 (by omega) (by omega) (by omega) hv.2.2.1 hv.2.2.2).mono fun _ _ h=>O0 h)
end
end Go.Proofs.YtpacpmmdjmnamaaGreatDoor
