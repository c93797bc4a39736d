/- fathomlineseat: the deck, Next. fathomlineseat: num, Small, Of. -/
import Derived.Test.YtpacpmmdjmnamaaGreatDoorMNum1
import Derived.Test.YtpacpmmdjmnamaaGreatDoorMNumPR
import Derived.Test.YtpacpmmdjmnamaaGreatDoorMRnd1
import Derived.Deep.DeepCutAuto
import Derived.Test.YtpacpmmdjmnamaaGreatDoorMNumJL
namespace Go.Proofs.YtpacpmmdjmnamaaGreatDoor
section
section
open Go.RowKit Nx
section

end
section
theorem kt {a:Act} {d d':Tmp} {v:Value} (h:d≠d'):(a.put (some d) v).tmps[d']? =a.tmps[d']?:=by
 simp only [Act.put,Array.getElem?_setIfInBounds_ne h]
theorem lk {a:Act} {d:Tmp} {v:Value} (h:d<a.tmps.size):(a.put (some d) v).tmps[d]? =some v:=by
 simp [Act.put,h]
theorem ll (a:Act) (d:Tmp) (v:Value):(a.put (some d) v).tmps.size=a.tmps.size:=by simp [Act.put]
theorem D0 {o:Oper} {f:Nat→Option Bool} (hg:o.guard=none):Region.wanted o f=true:=by simp [Region.wanted,hg]
def Kno (s:Nat) (a:Act) (l:List (Nat×Value)):Prop:=a.tmps.size=s∧a.defers=[]∧∀ t v,(t,v)∈l→a.tmps[t]? =some v
theorem Kno.put {s:Nat} {a:Act} {l:List (Nat×Value)} (h:Kno s a l) (d:Tmp) (v:Value) (hd:d<s) (hf:(l.all fun p=>!(p.1==d))=true):Kno s (a.put (some d) v) ((d,v)::l):=by
 refine ⟨(ll ..).trans h.1,h.2.1,fun t u hm=>?_⟩
 rcases List.mem_cons.1 hm with e |e
 ·injection e with e1 e2
  subst e1;subst e2
  exact lk (by rw [h.1];exact hd)
 ·have:=List.all_eq_true.1 hf _ e
  have hne:t≠d:=by simpa using this
  exact (kt (Ne.symm hne)).trans (h.2.2 t u e)
theorem Kno.ev {s:Nat} {a:Act} {l:List (Nat×Value)} (h:Kno s a l) {t:Nat} {v:Value} (hm:(t,v)∈l):a.eval (.tmp t)=v:=by
 simp only [Act.eval,Array.getD_eq_getD_getElem?]
 rw [h.2.2 t v hm];rfl
theorem Kno.less {s:Nat} {a:Act} {l l':List (Nat×Value)} (h:Kno s a l) (hs:∀ p,p∈l'→p∈l):Kno s a l':=⟨h.1,h.2.1,fun t v hm=>h.2.2 t v (hs _ hm)⟩
section
variable {ops:Array Oper} {Q:Exit→Act→World→Prop} {S:World→Prop} {fuel sz:Nat} {L L':Array Bool} {a:Act} {w:World} {l:List (Nat×Value)}
end
section
variable {ρ:Operand→Value} {o:Oper} {w:World}
end
end
end
section
open Go.RowKit Nx
section
theorem Cw {l:List Bool} {i:Nat} (h:l[i]? =some false):(l.set i true).count false+1=l.count false:=by
 induction l generalizing i with
 |nil=>simp at h
 |cons b t ih=>
  cases i with
  |zero=>simp at h;subst h;simp
  |succ i=>
   simp at h
   have:=ih h
   rw [List.set_cons_succ,List.count_cons,List.count_cons]
   omega
theorem Ai {P:Program} {ops:Array Oper} {Q:Exit→Act→World→Prop} {id N:Nat} {a:Act} {w:World} (hm:P.follows .mixedOrders=true) (hN:ops.size=N) (J:Array Bool→Act→World→Prop) (h0:J (Array.replicate N false) a w.drew)
  (hcnt:∀ L a w,L.size=N→J L a w→∀ i∈Region.ready .any ops L,L[i]? =some false)
  (hstep:∀ L a w,L.size=N→J L a w→∀ i∈Region.ready .any ops L,wpOp P ops Q i (fun a' w'=>J (L.setIfInBounds i true) a' w') a w)
  (hdone:∀ L a w,L.size=N→J L a w→Region.ready .any ops L=[]→Q .normal a w):(Code.region id ops true).wp P Q a w:=by
 refine wp_region_any hm ?_
 rw [hN]
 have key:∀ (n:Nat) (L:Array Bool) (a:Act) (w:World),L.size=N→L.toList.count false≤n→J L a w→wpAny P .any ops Q n L a w:=by
  intro n
  induction n with
  |zero=>
   intro L a w hs hc hJ
   have hr:Region.ready .any ops L=[]:=by
    cases hr:Region.ready .any ops L with
    |nil=>rfl
    |cons i t=>
     have h1:=hcnt L a w hs hJ i (by rw [hr];simp)
     have h2:false∈L.toList:=by rw [←Array.getElem?_toList] at h1;exact List.mem_of_getElem? h1
     have:=List.count_pos_iff.2 h2
     omega
   exact ⟨hr,hdone L a w hs hJ hr⟩
  |succ n ih=>
   intro L a w hs hc hJ
   refine ⟨fun hr=>hdone L a w hs hJ hr,fun i hi=>?_⟩
   have h1:=hcnt L a w hs hJ i hi
   refine wpOp_mono (fun a' w' h'=>ih _ a' w' (by simp [hs]) ?_ h') (hstep L a w hs hJ i hi)
   rw [←Array.getElem?_toList] at h1
   have:=Cw h1
   rw [Array.toList_setIfInBounds]
   omega
 refine key N _ a _ (by simp) ?_ h0
 simp [Array.toList_replicate]
def El (g:Nat):Value:=.pointer (some ⟨g,0,none⟩)
theorem wj {g h:Nat} (e:El g=El h):g=h:=by simpa [El] using e
def ValAt (w:World) (v:Value) (q:Q) (b:Bool) (x:Value) (b':Bool) (y:Value):Prop:=
 ∃ (A:Option Addr) (n c:Nat),v= .agg #[.bool q.s,.slice A n c,.int .i64 q.e]∧Dg w A n c q.m∧∀ ad,0<n→A=some ad→(b=true→x≠El ad.block)∧(b'=true→y≠El ad.block)
def VarAt (w4 w:World) (v:Value) (b:Bool) (x:Value):Prop:=
 ∃ g,v=El g∧w4.heap.size≤g∧∃ (s:Bool) (A:Option Addr) (n c:Nat) (e:Int),Vx w g s A n c e∧(b=true→x= .agg #[.bool s,.slice A n c,.int .i64 e])
theorem ValAt.step {w w':World} {v x y:Value} {q:Q} {b b':Bool} (h:ValAt w v q b x b' y) (hb:Below w.heap.size w w'):ValAt w' v q b x b' y:=by
 obtain ⟨A,n,c,e,h1,h2⟩:=h;exact ⟨A,n,c,e,h1.step hb,h2⟩
theorem VarAt.step {w4 w w':World} {v x:Value} {b:Bool} (h:VarAt w4 w v b x) (hb:Below w.heap.size w w'):VarAt w4 w' v b x:=by
 obtain ⟨g,e,hg,s,A,n,c,ee,k,hx⟩:=h;exact ⟨g,e,hg,s,A,n,c,ee,k.step hb,hx⟩
theorem VarAt.far {w4 w:World} {v x:Value} {b:Bool} {g:Nat} (h:VarAt w4 w v b x) (hv:v≠El g) (p q r:Value):VarAt w4 (bJ w g p q r) v b x:=by
 obtain ⟨g',e,hg,s,A,n,c,ee,k,hx⟩:=h
 have hne:g'≠g:=fun h=>hv (by rw [e,h])
 refine ⟨g',e,hg,s,A,n,c,ee,?_,hx⟩
 unfold bJ
 exact Blk.far (Blk.far (Blk.far k hne _) hne _) hne _
theorem VarAt.new (w4 w:World) (h:w4.heap.size≤w.heap.size) (x:Value):VarAt w4 (w.alloc (.cells #[.bool false,.slice none 0 0,.int .i64 0] 127)) (El w.heap.size) false x:=⟨_,rfl,h,false,none,0,0,0,Vx.new w false none 0 0 0,fun h=>by cases h⟩
theorem VarAt.lt {w4 w:World} {v x:Value} {b:Bool} (h:VarAt w4 w v b x):v≠El w.heap.size:=by
 obtain ⟨g,e,_,s,A,n,c,ee,k,_⟩:=h
 rw [e];intro h
 have:=wj h;have:=k.lt;omega
theorem ValPost.at_ {w w':World} {q:Q} {e:Ending} {x y:Value} {b b':Bool} (h:ValPost w 0 q e w') (hx:b=true→∃ g,x=El g∧g<w.heap.size) (hy:b'=true→∃ g,y=El g∧g<w.heap.size):∃ v,e= .returned v∧ValAt w' v q b x b' y∧Below w.heap.size w w':=by
 obtain ⟨v,he,⟨A,n,c,rfl,h1,h2⟩,hb⟩:=h
 refine ⟨_,he,⟨A,n,c,rfl,h1,fun ad h0 hA=>?_⟩,hb⟩
 have h3:=h2 ad h0 hA
 refine ⟨fun hbt e=>?_,fun hbt e=>?_⟩
 ·obtain ⟨g,e1,hg⟩:=hx hbt
  rw [e1] at e
  have:=wj e;omega
 ·obtain ⟨g,e1,hg⟩:=hy hbt
  rw [e1] at e
  have:=wj e;omega
theorem VarAt.old {w4 w:World} {v x:Value} {b:Bool} (h:VarAt w4 w v b x):∃ g,v=El g∧g<w.heap.size:=by
 obtain ⟨g,e,_,s,A,n,c,ee,k,_⟩:=h
 exact ⟨g,e,k.lt⟩
end
section
theorem Qt {a:Act} {t:Nat} {v:Value} (h:a.tmps[t]? =some v):a.eval (.tmp t)=v:=by
 simp only [Act.eval,Array.getD_eq_getD_getElem?];rw [h];rfl
end
end
end
section
section
open Go.RowKit Nx
section
theorem mA {M P k:Nat} (h:nbits M≤P) (hP:P≤64*k):M<B64^k:=by
 rw [fF];exact Nat.lt_of_lt_of_le (iv h) (Nat.pow_le_pow_right (by omega) hP)
end
section
noncomputable def gk (kd p:Int) (up:Bool) (a b:Q):Q×Int:=if kd=3 then (if b.m=0 then (q0,3) else res (Pc p.toNat up a b)) else res (rnd p.toNat up (To kd a b))
theorem H8 {Z e:Int} {k:Nat} {b:Int} (hZ:Z.natAbs<B64^k) (h1: -b≤e) (h2:e≤b) (hb:0≤b):(fH Z e).m<B64^k∧ -b≤(fH Z e).e∧(fH Z e).e≤b+64*k:=
 ⟨Nat.lt_of_le_of_lt (OR _ _) hZ,Br hZ h1 h2 hb⟩
theorem Lg {a b:Q} {k:Nat} (ha:a.m<B64^k) (hb:b.m<B64^k) (h1: -65536≤a.e) (h2:a.e≤65536) (h3: -65536≤b.e) (h4:b.e≤65536):
  (plus a b).m<B64^(k+2048+1)∧ -65536≤(plus a b).e∧(plus a b).e≤65536+64*(k+2048+1:Nat):=by
 have hl1:(a.e - lowe a b).toNat≤131072:=by unfold lowe;omega
 have hl2:(b.e - lowe a b).toNat≤131072:=by unfold lowe;omega
 refine H8 (Nat.lt_of_le_of_lt (Int.natAbs_add_le _ _) ?_) (by unfold lowe;omega) (by unfold lowe;omega) (by omega)
 rw [pd,pd]
 exact vY (wP ha hl1) (wP hb hl2)
end
section
section
variable {w:World} {a b:Q} {A B:Option Addr} {n c m d:Nat}
end
theorem N8 (p:Int) (up:Bool):gk 0 p up=mI p up:=by funext a b;rfl
theorem Sz (p:Int) (up:Bool):gk 1 p up=rB p up:=by funext a b;rfl
theorem vq {g:Q→Q→Q×Int} (hg:∀ a b,aJ (g a b).1) (p:Int) (s:Bool) (e:Int) (n:Nat) (xs:List Nat) (s':Bool) (e':Int) (m:Nat) (ys:List Nat):aJ (ng g p s e n xs s' e' m ys).1:=by
 unfold ng;split
 ·exact hg _ _
 ·exact mT
theorem N7 (p:Int) (up:Bool) (a b:Q):aJ (mI p up a b).1:=qJ (cI _ _ _)
theorem Ob (p:Int) (up:Bool) (a b:Q):aJ (rB p up a b).1:=qJ (cI _ _ _)
theorem N9 (p:Int) (up:Bool) (a b:Q):aJ (pD p up a b).1:=qJ (cI _ _ _)
def n1:Q:=⟨false,1,0⟩
def n3:Q:=⟨false,3,0⟩
end
section
def n4:Q:=⟨false,1,2⟩
theorem Kno.nil {s:Nat} {a:Act} {l:List (Nat×Value)} (h:Kno s a l):Kno s a []:=⟨h.1,h.2.1,fun _ _ hm=>by cases hm⟩
theorem Kno.add {s:Nat} {a:Act} {l l':List (Nat×Value)} {t:Nat} {v:Value} (h':Kno s a l') (h:Kno s a l) (hm:(t,v)∈l):Kno s a ((t,v)::l'):=⟨h.1,h.2.1,fun t' v' hm'=>by
 rcases List.mem_cons.1 hm' with e |e
 ·injection e with e1 e2
  subst e1;subst e2
  exact h.2.2 _ _ hm
 ·exact h'.2.2 t' v' e⟩
section
variable {ops:Array Oper} {QQ:Exit→Act→World→Prop} {sz n:Nat} {a:Act} {w:World} {l:List (Nat×Value)}
end
end
end
section
open Go.RowKit Nx
section
def Dk (w:World) (g:Nat) (A:Option Addr) (n c k:Nat):Prop:=Blk w g 64 #[.slice A n c,.int .i64 (k:Int)]
theorem Dk.c0 {w:World} {g:Nat} {A:Option Addr} {n c k:Nat} (h:Dk w g A n c k):w.cell? ⟨g,0,none⟩=some (.slice A n c):=by have:=Blk.cell h 0;simpa using this
theorem Dk.c1 {w:World} {g:Nat} {A:Option Addr} {n c k:Nat} (h:Dk w g A n c k):w.cell? ⟨g,1,none⟩=some (.int .i64 (k:Int)):=by have:=Blk.cell h 1;simpa using this
theorem Dk.fz {w:World} {g:Nat} {A:Option Addr} {n c k:Nat} (h:Dk w g A n c k) (i:Nat):w.frozen? ⟨g,i,none⟩=false:=Blk.frozen h i
theorem Dk.step {w w':World} {g:Nat} {A:Option Addr} {n c k:Nat} (h:Dk w g A n c k) (hb:Below w.heap.size w w'):Dk w' g A n c k:=Blk.below h hb h.lt
structure Mv (g:Nat) (w w':World):Prop where
 os:w'.os=w.os
 tape:w'.tape=w.tape
 output:w'.output=w.output
 size:w.heap.size≤w'.heap.size
 block:∀ i,i<w.heap.size→i≠g→w'.heap[i]? =w.heap[i]?
theorem Mv.of {g:Nat} {w w':World} (h:Below w.heap.size w w'):Mv g w w':=⟨h.os,h.tape,h.output,h.size,fun i hi _=>h.block i hi⟩
theorem Mv.trans {g:Nat} {a b c:World} (h:Mv g a b) (h':Mv g b c):Mv g a c:=
 ⟨h'.os.trans h.os,h'.tape.trans h.tape,h'.output.trans h.output,Nat.le_trans h.size h'.size,fun i hi hg=>(h'.block i (Nat.lt_of_lt_of_le hi h.size) hg).trans (h.block i hi hg)⟩
theorem Mv.below {g B:Nat} {w0 w w':World} (h:Below B w0 w) (h':Mv g w w') (hg:B≤g) (hB:B≤w.heap.size):Below B w0 w':=
 ⟨h'.os.trans h.os,h'.tape.trans h.tape,h'.output.trans h.output,Nat.le_trans h.size h'.size,fun i hi=>(h'.block i (by omega) (by omega)).trans (h.block i hi)⟩
theorem Mv.rd {k:IntKind} {g:Nat} {w w':World} {lo hi n c:Nat} {A:Option Addr} {xs:List Nat} (h':Mv g w w') (h:Rd k w lo hi A n c xs) (hg:g<lo∨hi≤g) (hh:hi≤w.heap.size):Rd k w' lo hi A n c xs:=
 ⟨h.1,h.2.1,fun hn=>by
  obtain ⟨ad,e,hl,hb,hc⟩:=h.2.2 hn
  refine ⟨ad,e,hl,hb,fun j u hu=>?_⟩
  rw [←hc j u hu]
  exact World.cell?_of_block (by rw [au];exact h'.block _ (by omega) (by omega))⟩
end
section
set_option maxRecDepth 100000 in
set_option maxHeartbeats 2000000 in
theorem IE (w:World) (s:Bool) (e:Int) (A:Option Addr) (n c:Nat) (xs:List Nat) (ha:Arg w A n c xs) (hk:n≤15000):
  Calls Tryz.prog 99 #[.bool s,.slice A n c,.int .i64 e] w (lO w (res (nm s (nval B64 xs) e)).1):=by
 have K1:=Lib.hid (Bx.new w false 0 none 0 0);have B1:=Lib.hid (ag w (.cells #[.bool false,.int .i64 0,.slice none 0 0] 30))
 have C:=Lib.hid (DN _ s e A n c xs (ha.step B1.out) hk)
 generalize res (nm s (nval B64 xs) e)=r at*
 clear ha
 go_enter Tryz.func99,Tryz.ntmps99
 go_wp2_with fail
 refine C.out.mono ?_
 clear C
 rintro _ w6 ⟨_,rfl,⟨A6,n6,c6,rfl,h6⟩,b6⟩
 have K26:=Lib.hid (K1.out.step b6)
 have r0:=K26.out.c0;have r1:=K26.out.c1;have r2:=K26.out.c2
 have z0:=K26.out.fz 0;have z1:=K26.out.fz 1;have z2:=K26.out.fz 2
 have hs:=K26.out.lt
 have RN:=Lib.hid (de B1.out (Nat.le_refl w.heap.size) K26.out K1.out.lt b6 h6)
 clear b6 h6
 go_wp2
 obtain ⟨kr,nr,br⟩:=RN.out
 have ob:=ag (bJ w6 w.heap.size (.bool r.1.s) (.int .i64 r.1.e) (.slice A6 n6 c6)) (.cells #[.bool r.1.s,.int .i64 r.1.e,.slice A6 n6 c6] 30)
 refine bodyPost_ret (v:=.agg #[.bool r.1.s,.int .i64 r.1.e,.slice A6 n6 c6]) ?_ rfl ⟨_,rfl,nr.step ob,ac br ob⟩
 have q0:=(kr.step ob).c0;have q1:=(kr.step ob).c1;have q2:=(kr.step ob).c2
 unfold bJ at q0 q1 q2
 simp [results,Tryz.results99,go_sem,q0,q1,q2]
def Few (q:Q):Prop:=a8 q∧q.m<64∧ -6≤q.e∧q.e≤8
theorem Gf {s:Bool} {M:Nat} {e:Int} (hM:M<64) (h1: -6≤e) (h2:e≤2):Few (nm s M e):=by
 refine ⟨pI _ _ _,?_⟩
 by_cases h0:M=0
 ·rw [h0,cD];exact ⟨by decide,by decide,by decide⟩
 ·have hz:ntz M<6:=jZ h0 (by simpa using hM)
  have e1:nm s M e=⟨s,M / 2^ntz M,e+ntz M⟩:=by unfold nm;rw [if_neg h0]
  rw [e1]
  exact ⟨Nat.lt_of_le_of_lt (Nat.div_le_self _ _) hM,by show -6≤e+ntz M;omega,by show e+ntz M≤8;omega⟩
theorem Few.valid {q:Q} (h:Few q):aJ q:=⟨h.1,Nat.lt_of_lt_of_le h.2.1 (Nat.le_trans (by unfold B64;omega) zi),by have:=h.2.2.1;omega,by have:=h.2.2.2;omega⟩
theorem Np (v:Nat) (h:v<B64):bits .and .u64 (v:Int) 63=((v%64:Nat):Int):=by
 have:=u64_and_nat v 63 h (by omega)
 rw [Nat.and_two_pow_sub_one_eq_mod v 6] at this
 exact this
theorem Mv.put {g h:Nat} {w w':World} (m:Mv g w w') (hh:w.heap.size≤h) (x y z:Value):Mv g w (bJ w' h x y z):=by
 have b:=fC (Below.refl h w') (Nat.le_refl h) x y z
 exact ⟨b.os.trans m.os,b.tape.trans m.tape,b.output.trans m.output,Nat.le_trans m.size b.size,fun i hi hg=>(b.block i (by omega)).trans (m.block i hi hg)⟩
theorem Dk.put {w:World} {g h:Nat} {A:Option Addr} {n c k:Nat} (d:Dk w g A n c k) (hh:g≠h) (x y z:Value):Dk (bJ w h x y z) g A n c k:=by
 unfold bJ
 exact Blk.far (Blk.far (Blk.far d hh _) hh _) hh _
theorem Bx.mv {w w':World} {g h:Nat} {s:Bool} {e:Int} {A:Option Addr} {n c:Nat} (k:Bx w h s e A n c) (m:Mv g w w') (hh:h≠g):Bx w' h s e A n c:=(m.block h k.lt hh).trans k
end
section

end
section

end
end
end
end Go.Proofs.YtpacpmmdjmnamaaGreatDoor
