/- A box, points, that came in: their cells. -/
import Derived.Test.YtpacpmmdjmnamaaGreatDoorYLift
import Derived.Test.YtpacpmmdjmnamaaGreatDoorYAl5
namespace Go.Proofs.YtpacpmmdjmnamaaGreatDoor
open Go.ChangeShapes Go.WideShapes Go.ChangeAt Go.RowKit Go.Joins Nx
def JL (W:World):List J→List Value→Prop
 |[],us=>us=[]
 |j::l,us=>∃ (A:Option Addr) (n c:Nat) (B:Option Addr) (m d:Nat) (r:List Value),us= .bool j.lo.s::.int .i64 j.lo.e::.slice A n c::.bool j.hi.s::.int .i64 j.hi.e::.slice B m d::r∧Arg W A n c j.lo.xs∧Arg W B m d j.hi.xs∧JL W l r
def XL (W:World):List X→List Value→Prop
 |[],us=>us=[]
 |x::l,us=>∃ (A:Option Addr) (n c:Nat) (r:List Value),us= .bool x.s::.int .i64 x.e::.slice A n c::r∧Arg W A n c x.xs∧XL W l r
theorem JL.len {W:World}:∀ {l:List J} {us:List Value},JL W l us→us.length=l.length*6:=by
 intro l
 induction l with
 |nil=>intro us h;rw [show us=[] from h];rfl
 |cons j l ih=>rintro us ⟨A,n,c,B,m,d,r,rfl,_,_,h⟩;simp only [List.length_cons,ih h];omega
theorem XL.len {W:World}:∀ {l:List X} {us:List Value},XL W l us→us.length=l.length*3:=by
 intro l
 induction l with
 |nil=>intro us h;rw [show us=[] from h];rfl
 |cons j l ih=>rintro us ⟨A,n,c,r,rfl,_,h⟩;simp only [List.length_cons,ih h];omega
def SlV (W:World) (v:Value) (n sz:Nat) (R:List Value→Prop):Prop:=∃ (A:Option Addr) (c:Nat),v= .slice A n c∧n≤c∧(n=0∨∃ (ad:Addr) (T:TypeId) (cs:Array Value),A=some ad∧ad.spot=none∧Wb W ad.block T cs∧ad.off+n*sz≤cs.size∧R ((cs.toList.drop ad.off).take (n*sz)))
def BoxV (W:World) (v:Value) (l:List J):Prop:=SlV W v l.length 6 (JL W l)
def PtsV (W:World) (v:Value) (l:List X):Prop:=SlV W v l.length 3 (XL W l)
section
variable {S:Nat→Prop} {W:World} {v:Value}
theorem JL.ws:∀ {l:List J} {us:List Value},JL W l us→(∀ j∈l,j.lo.xs.length≤100000∧j.hi.xs.length≤100000)→LcL S W (bC l) us:=by
 intro l
 induction l with
 |nil=>intro us h _;exact h
 |cons j l ih=>
  rintro us ⟨A,n,c,B,m,d,r,rfl,hA,hB,h⟩ hs
  have h1:=hs j (List.mem_cons_self ..)
  exact ⟨_,_,rfl,rfl,_,_,rfl,rfl,_,_,rfl,⟨A,n,c,rfl,hA,by rw [←hA.1.1];exact h1.1⟩,_,_,rfl,rfl,_,_,rfl,rfl,_,_,rfl,⟨B,m,d,rfl,hB,by rw [←hB.1.1];exact h1.2⟩,ih h fun j hj=>hs j (List.mem_cons_of_mem _ hj)⟩
theorem JL.raw:∀ {l:List J} {us:List Value},JL W l us→∃ ks:List K,LcL S W (kC ks) us∧ks.map K.p=l.map J.p:=by
 intro l
 induction l with
 |nil=>intro us h;exact ⟨[],h,rfl⟩
 |cons j l ih=>
  rintro us ⟨A,n,c,B,m,d,r,rfl,hA,hB,h⟩
  obtain ⟨ks,h1,h2⟩:=ih h
  exact ⟨⟨.bool j.lo.s,.int .i64 j.lo.e,A,n,c,.bool j.hi.s,.int .i64 j.hi.e,B,m,d⟩::ks,⟨_,_,rfl,rfl,_,_,rfl,rfl,_,_,rfl,rfl,_,_,rfl,rfl,_,_,rfl,rfl,_,_,rfl,rfl,h1⟩,by
   rw [List.map_cons,List.map_cons,h2]
   show (n,m)::_=(j.lo.xs.length,j.hi.xs.length)::_
   rw [hA.1.1,hB.1.1]⟩
theorem XL.ws:∀ {l:List X} {us:List Value},XL W l us→(∀ j∈l,j.xs.length≤100000)→LcL S W (pC l) us:=by
 intro l
 induction l with
 |nil=>intro us h _;exact h
 |cons j l ih=>
  rintro us ⟨A,n,c,r,rfl,hA,h⟩ hs
  have h1:=hs j (List.mem_cons_self ..)
  exact ⟨_,_,rfl,rfl,_,_,rfl,rfl,_,_,rfl,⟨A,n,c,rfl,hA,by rw [←hA.1.1];exact h1⟩,ih h fun j hj=>hs j (List.mem_cons_of_mem _ hj)⟩
theorem XL.raw:∀ {l:List X} {us:List Value},XL W l us→∃ ks:List Kp,LcL S W (BB ks) us∧ks.map Kp.n=l.map fun x=>x.xs.length:=by
 intro l
 induction l with
 |nil=>intro us h;exact ⟨[],h,rfl⟩
 |cons j l ih=>
  rintro us ⟨A,n,c,r,rfl,hA,h⟩
  obtain ⟨ks,h1,h2⟩:=ih h
  exact ⟨⟨.bool j.s,.int .i64 j.e,A,n,c⟩::ks,⟨_,_,rfl,rfl,_,_,rfl,rfl,_,_,rfl,rfl,h1⟩,by
   rw [List.map_cons,List.map_cons,h2]
   show n::_=j.xs.length::_
   rw [hA.1.1]⟩
theorem SlV.R {n sz:Nat} {R:List Value→Prop} {ls:List Lc} (h:SlV W v n sz R) (hS:∀ g,S g) (hl:ls.length=n*sz) (hR:∀ us,R us→LcL S W ls us):(Lc.sl sz n ls).R S W v:=by
 obtain ⟨A,c,e,hc,h⟩:=h
 refine ⟨hl,A,c,e,hc,?_⟩
 rcases h with rfl |⟨ad,T,cs,e1,e2,hB,h3,h4⟩
 ·exact .inl (List.eq_nil_of_length_eq_zero (by rw [hl];exact Nat.zero_mul _))
 ·exact .inr ⟨ad,T,cs,e1,e2,hS _,hB,by rw [hl];exact h3,by rw [hl];exact hR _ h4⟩
end
abbrev xy:Nat→Bool:=fun _=>false
theorem pf (g:Nat):SepF false jZ xy g:=⟨⟨fun b h=>(by cases h),fun b h=>(by cases h)⟩,fun h=>(by cases h)⟩
section
variable {W:World} {v:Value}
theorem BoxV.ws {l:List J} (h:BoxV W v l) (hs:∀ j∈l,j.lo.xs.length≤100000∧j.hi.xs.length≤100000):(Ky l).R jZ xy W v:=RL.one.2 (h.R pf (EP l) fun _ h=>h.ws hs)
theorem PtsV.ws {l:List X} (h:PtsV W v l) (hs:∀ j∈l,j.xs.length≤100000):(eM l).R jZ xy W v:=RL.one.2 (h.R pf (AB l) fun _ h=>h.ws hs)
theorem BoxV.raw {l:List J} (h:BoxV W v l):∃ ks:List K,(AV.s (.sl false 6 ks.length (kC ks))).R jZ xy W v∧ks.map K.p=l.map J.p:=by
 obtain ⟨A,c,e,hc,h⟩:=h
 rcases h with h |⟨ad,T,cs,e1,e2,hB,h3,h4⟩
 ·have:l=[]:=List.eq_nil_of_length_eq_zero h
  subst this
  exact ⟨[],RL.one.2 ⟨rfl,A,c,e,hc,.inl rfl⟩,rfl⟩
 ·obtain ⟨ks,h5,h6⟩:=JL.raw (S:=SepF false jZ xy) h4
  have hk:ks.length=l.length:=by have:=congrArg List.length h6;simpa using this
  exact ⟨ks,RL.one.2 ⟨vc ks,A,c,by rw [hk];exact e,by rw [hk];exact hc,.inr ⟨ad,T,cs,e1,e2,pf _,hB,by rw [vc,hk];exact h3,by rw [vc,hk];exact h5⟩⟩,h6⟩
theorem PtsV.raw {l:List X} (h:PtsV W v l):∃ ks:List Kp,(AV.s (.sl false 3 ks.length (BB ks))).R jZ xy W v∧ks.map Kp.n=l.map fun x=>x.xs.length:=by
 obtain ⟨A,c,e,hc,h⟩:=h
 rcases h with h |⟨ad,T,cs,e1,e2,hB,h3,h4⟩
 ·have:l=[]:=List.eq_nil_of_length_eq_zero h
  subst this
  exact ⟨[],RL.one.2 ⟨rfl,A,c,e,hc,.inl rfl⟩,rfl⟩
 ·obtain ⟨ks,h5,h6⟩:=XL.raw (S:=SepF false jZ xy) h4
  have hk:ks.length=l.length:=by have:=congrArg List.length h6;simpa using this
  exact ⟨ks,RL.one.2 ⟨mE ks,A,c,by rw [hk];exact e,by rw [hk];exact hc,.inr ⟨ad,T,cs,e1,e2,pf _,hB,by rw [mE,hk];exact h3,by rw [mE,hk];exact h5⟩⟩,h6⟩
end
section
variable {H:Type} {enc:TypeId×Value→H} {W:World}
set_option maxRecDepth 100000 in
theorem xz {fuel:Nat} {cs:List Value} {y:DataW H×List MemPlace} (hl:cs.length=3) (hf:DataW.trod enc Tryz.prog W 0 (fun _=>true) true fuel 30 cs=some y):
  ∃ (x:X) (A:Option Addr) (n c:Nat),cs=[.bool x.s,.int .i64 x.e,.slice A n c]∧Arg W A n c x.xs:=by
 match cs,hl with
 |[a0,a1,a2],_=>
  obtain ⟨z0,z1,z2,m,_,_,g0,g1,g2⟩:=Go.Deep.trod_struct3 Tryz.underlying30 hf
  have g0:DataW.trod enc Tryz.prog W 0 (fun _=>true) true m 4 [a0]=some z0:=g0
  have g1:DataW.trod enc Tryz.prog W 0 (fun _=>true) true m 2 [a1]=some z1:=g1
  have g2:DataW.trod enc Tryz.prog W 0 (fun _=>true) true m 22 [a2]=some z2:=g2
  obtain ⟨b,e0,rfl⟩:=DataW.trod_bool Tryz.underlying4 g0
  obtain ⟨i,e1,rfl,_⟩:=DataW.trod_int Tryz.underlying2 g1
  obtain ⟨A,n,c,xs,rfl,hx⟩:=yg g2
  simp at e0 e1
  subst e0 e1
  exact ⟨⟨b,i,xs⟩,A,n,c,rfl,hx⟩
theorem Jg:∀ (n:Nat) (c:List Value),(∀ i,i<n→∃ (j:X) (A:Option Addr) (n c':Nat),(c.drop (i*3)).take 3=[.bool j.s,.int .i64 j.e,.slice A n c']∧Arg W A n c' j.xs)→∃ l:List X,l.length=n∧XL W l (c.take (n*3)):=by
 intro n
 induction n with
 |zero=>intro c _;exact ⟨[],rfl,by rw [Nat.zero_mul];rfl⟩
 |succ n ih=>
  intro c h
  obtain ⟨j,A,a,b,e,h1⟩:=h 0 (by omega)
  obtain ⟨l,h3,h4⟩:=ih (c.drop 3) fun i hi=>by
   have:=h (i+1) (by omega)
   rwa [show (i+1)*3=3+i*3 by omega,←List.drop_drop] at this
  rw [Nat.zero_mul,List.drop_zero] at e
  refine ⟨j::l,by simp [h3],A,a,b,(c.drop 3).take (n*3),?_,h1,h4⟩
  rw [show (n+1)*3=3+n*3 by omega,List.take_add,e];rfl
theorem yK {a:Addr} {n sz:Nat} (hn:0<n) (hz:0<sz) (h:∀ i,i<n→∃ cs:List Value,cs.length=sz∧∀ k,k<sz→W.cell? ((a.add (i*sz)).add k)=cs[k]?):
  a.spot=none∧∃ (T:TypeId) (c:Array Value),Wb W a.block T c∧a.off+n*sz≤c.size∧∀ i,i<n→∀ cs:List Value,cs.length=sz→(∀ k,k<sz→W.cell? ((a.add (i*sz)).add k)=cs[k]?)→((c.toList.drop a.off).drop (i*sz)).take sz=cs:=by
 obtain ⟨g,o,sp⟩:=a
 have hsp:sp=none:=by
  obtain ⟨cs,hl,h1⟩:=h 0 hn
  have h2:=h1 0 hz
  rw [Nat.zero_mul,List.getElem?_eq_getElem (by omega)] at h2
  have h2:W.cell? ⟨g,o,sp⟩=some (cs[0]'(by omega)):=h2
  cases sp with
  |none=>rfl
  |some x=>
   unfold World.cell? at h2
   split at h2
   ·simp at h2
   ·cases h2
 subst hsp
 have hsome:∀ i,i<n→∀ k,k<sz→∃ u,W.cell? ⟨g,o+i*sz+k,none⟩=some u:=fun i hi k hk=>by
  obtain ⟨cs,hl,h1⟩:=h i hi
  have:=h1 k hk
  rw [ci,ci,List.getElem?_eq_getElem (by omega)] at this
  exact ⟨_,this⟩
 obtain ⟨u,hu⟩:=hsome 0 hn 0 hz
 obtain ⟨c,T,hB⟩:∃ (c:Array Value) (T:TypeId),Wb W g T c:=by
  unfold World.cell? at hu
  split at hu
  ·rename_i c T fr hh;exact ⟨c,T,fr,hh⟩
  ·cases hu
 have hsz:o+n*sz≤c.size:=by
  obtain ⟨u,hu⟩:=hsome (n - 1) (by omega) (sz - 1) (by omega)
  rw [hB.cell] at hu
  have:=(Array.getElem?_eq_some_iff.1 hu).1
  have h2:(n - 1)*sz+sz=n*sz:=by rw [←Nat.succ_mul];congr 1;omega
  omega
 refine ⟨rfl,T,c,hB,hsz,fun i hi cs hl h1=>?_⟩
 apply List.ext_getElem?
 intro k
 have h2:(i+1)*sz≤n*sz:=Nat.mul_le_mul_right _ hi
 rw [Nat.succ_mul] at h2
 rcases Nat.lt_or_ge k sz with hk |hk
 ·have h3:=h1 k hk
  rw [ci,ci,hB.cell] at h3
  rw [List.getElem?_take_of_lt hk,List.getElem?_drop,List.getElem?_drop,←h3,←Array.getElem?_toList]
  show c.toList[o+(i*sz+k)]? =_
  rw [Nat.add_assoc]
 ·rw [List.getElem?_eq_none (by rw [List.length_take];omega),List.getElem?_eq_none (by omega)]
end
end Go.Proofs.YtpacpmmdjmnamaaGreatDoor
