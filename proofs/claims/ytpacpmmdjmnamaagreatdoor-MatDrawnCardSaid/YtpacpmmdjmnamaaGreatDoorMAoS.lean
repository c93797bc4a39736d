/- Package mat against the document's matrices. -/
import Derived.Test.YtpacpmmdjmnamaaGreatDoorMAoR
import Derived.Test.YtpacpmmdjmnamaaGreatDoorMAo3
import Derived.Test.YtpacpmmdjmnamaaGreatDoorMAk7
import Derived.Test.YtpacpmmdjmnamaaGreatDoorMAj2
namespace Go.Proofs.YtpacpmmdjmnamaaGreatDoor
open Go.RowKit Nx
set_option linter.unusedVariables false
set_option linter.unusedSimpArgs false
attribute [local irreducible] ar
theorem MV {q:Q} (h:q.s=false) (e:Int):0≤q.up e:=by
 unfold Q.up Q.z
 rw [h]
 exact Int.mul_nonneg (Int.natCast_nonneg _) (Int.le_of_lt (Int.pow_pos (by omega)))
theorem MA {M:Nat} {e:Int}:(nm false M e).s=false:=by
 unfold nm;split<;>rfl
theorem Lh {a b:Q} (ha:a.s=false) (hb:b.s=false):(plus a b).s=false:=by
 unfold plus fH
 rw [decide_eq_false (by have:=MV ha (lowe a b);have:=MV hb (lowe a b);omega)]
 exact MA
theorem Pg {p:Nat} {up:Bool} {q:Q} (h:q.s=false):(rnd p up q).s=false:=by
 unfold rnd;rw [h];exact MA
def Ns (x:X):Prop:=GX x∧x.s=false
theorem Fc (x:X):(qx (absx x)).s=false:=by
 show (absx x).s=false
 unfold absx anssign
 split
 ·split<;>rfl
 ·rfl
theorem OP {j:J} (hg:fP j):Ns (lJ j):=by
 unfold lJ
 rw [hg.1,cond_true]
 obtain ⟨a1,a2,_⟩:=aM hg.1
 unfold qe
 cases decide (cmpx (qx (absx j.hi)) (qx (absx j.lo))>0) with
 |true=>exact ⟨(Fb ⟨a2,hg.2.hi⟩).1,Fc _⟩
 |false=>exact ⟨(Fb ⟨a1,hg.2.lo⟩).1,Fc _⟩
theorem OO {z:Int} {s x:X} (hz:kf z=true) (hs:Ns s) (hx:Ns x) (h:(fR z s x).2=0):Ns (fR z s x).1:=by
 unfold fR at h ⊢
 rw [iS hs.1.1 hx.1.1 hz,N8] at h ⊢
 unfold mI at h ⊢
 by_cases hf:fm (rnd z.toNat true (plus s.q x.q))
 ·rw [cC hf]
  exact ⟨J5 ⟨cI _ _ _,hf⟩,Pg (Lh hs.2 hx.2)⟩
 ·rw [fZ hf] at h;cases h
theorem ns_max {x:X} (h:Ns x):decide (0<cmpx x zX)=true∨x=zX:=by
 have hz:zX.ok=true:=by rw [←RH];exact (cS mT).1
 by_cases hc:0<cmpx x zX
 ·exact .inl (decide_eq_true hc)
 ·refine .inr ?_
  have hv:x.v≤zX.v:=(iJ h.1.1 hz).1 (by omega)
  have hx:=ey h.1.1 h.1.2
  have hm:x.q.m=0:=by
   rcases Nat.eq_zero_or_pos x.q.m with e |e
   ·exact e
   ·have h0:zX.v=0:=by unfold X.v Q.at Q.z;rw [show zX.q.m=0 from rfl];simp
    have h1:0<x.v:=by
     show 0<x.q.at 65536
     unfold Q.at Q.z
     rw [show x.q.s=false from h.2]
     exact Int.mul_pos (Int.natCast_pos.2 e) (Int.pow_pos (by omega))
    omega
  rw [←O4 h.1.1 h.1.2,hx.1.1 hm,RH]
theorem Pu {z:Int} {F:Nat→X×Int} (hz:kf z=true):∀ (n:Nat),(∀ k,k<n→Ns (F k).1)→1≤n→(aC zX F (fR z) n).2=0→Ns (aC zX F (fR z) n).1:=by
 intro n
 induction n with
 |zero=>intro _ h;omega
 |succ n ih=>
  intro hF _ he
  have h2:(aC zX F (fR z) n).2=0:=by
   cases hb:(aC zX F (fR z) n).2 !=0 with
   |false=>simpa using hb
   |true=>rw [iB hb (show n≤n+1 by omega)] at he;rw [he] at hb;cases hb
  rw [pc h2] at he ⊢
  cases hf:(F n).2 !=0 with
  |true=>rw [hf,cond_true] at he;rw [show (F n).2=0 from he] at hf;cases hf
  |false=>
   rw [hf,cond_false] at he
   rw [cond_false]
   cases hd:decide (0<n) with
   |false=>rw [cond_false];exact hF n (Nat.lt_succ_self n)
   |true=>
    rw [hd,cond_true] at he
    rw [cond_true]
    cases ha:(fR z (aC zX F (fR z) n).1 (F n).1).2 !=0 with
    |true=>rw [ha,cond_true] at he;rw [show (fR z (aC zX F (fR z) n).1 (F n).1).2=0 from he] at ha;cases ha
    |false=>
     rw [cond_false]
     exact OO hz (ih (fun k hk=>hF k (by omega)) (of_decide_eq_true hd) h2) (hF n (Nat.lt_succ_self n)) (by simpa using ha)
theorem KY {l:List X} {x:X}:∀ j,j<l.length→v6 (l++[x]) j=v6 l j:=by
 have hg:∀ k,k<l.length→(l++[x]).getD k zX=l.getD k zX:=fun k hk=>by
  rw [List.getD_eq_getElem?_getD,List.getD_eq_getElem?_getD,List.getElem?_append_left hk]
 intro j
 induction j with
 |zero=>intro h;exact hg 0 h
 |succ j ih=>
  intro h
  unfold v6
  rw [ih (by omega),hg _ h]
theorem CY {l:List X} {x:X}:(l++[x]).getD l.length zX=x:=by
 rw [List.getD_eq_getElem?_getD,List.getElem?_append_right (Nat.le_refl _),Nat.sub_self];rfl
theorem Oa {S:Nat→X×Int} {n:Nat} (hN:∀ i,i<n→(S i).2=0→Ns (S i).1):∀ k,k≤n→((eachN S k).2=0→(od S k).2=0∧(1≤k→(od S k).1=v6 (eachN S k).1 (k - 1)))∧(((eachN S k).2 !=0)=true→od S k=(zX,(eachN S k).2)):=by
 intro k
 induction k with
 |zero=>intro _;exact ⟨fun _=>⟨rfl,fun h=>by omega⟩,fun h=>by cases h⟩
 |succ k ih=>
  intro hk
  obtain ⟨i1,i2⟩:=ih (by omega)
  cases he:(eachN S k).2 !=0 with
  |true=>
   have e:=ig he (Nat.le_succ k)
   rw [e]
   have i2:=i2 he
   refine ⟨fun h=>?_,fun _=>?_⟩
   ·rw [h] at he;cases he
   ·rw [xT (j:=k) (by rw [i2];exact he) (Nat.le_succ k),i2]
  |false=>
   have h0:(eachN S k).2=0:=by simpa using he
   obtain ⟨m0,m1⟩:=i1 h0
   have hm:=Mz m0
   cases hs:(S k).2 !=0 with
   |true=>
    have e:=jg h0 hs
    rw [e,hm,hs]
    refine ⟨fun h=>?_,fun _=>rfl⟩
    rw [show (S k).2=0 from h] at hs;cases hs
   |false=>
    have hs0:(S k).2=0:=by simpa using hs
    have e:=bh h0 hs0
    have hl:=bq h0
    rw [e,hm,hs,cond_false]
    refine ⟨fun _=>⟨rfl,fun _=>?_⟩,fun h=>by cases h⟩
    show (bif decide (0<cmpx (S k).1 (od S k).1) then (S k).1 else (od S k).1)=v6 ((eachN S k).1++[(S k).1]) k
    rcases Nat.eq_zero_or_pos k with h |h
    ·subst h
     show (bif decide (0<cmpx (S 0).1 zX) then (S 0).1 else zX)=(S 0).1
     rcases ns_max (hN 0 (by omega) hs0) with c |c
     ·rw [c];rfl
     ·rw [c];cases decide (0<cmpx zX zX)<;>rfl
    ·obtain ⟨k,rfl⟩:∃ i,k=i+1:=⟨k - 1,by omega⟩
     have hg:((eachN S (k+1)).1++[(S (k+1)).1]).getD (k+1) zX=(S (k+1)).1:=by
      have:=CY (l:=(eachN S (k+1)).1) (x:=(S (k+1)).1);rw [hl] at this;exact this
     rw [show v6 ((eachN S (k+1)).1++[(S (k+1)).1]) (k+1)=bif decide (0<cmpx (((eachN S (k+1)).1++[(S (k+1)).1]).getD (k+1) zX) (v6 ((eachN S (k+1)).1++[(S (k+1)).1]) k)) then ((eachN S (k+1)).1++[(S (k+1)).1]).getD (k+1) zX else v6 ((eachN S (k+1)).1++[(S (k+1)).1]) k from rfl]
     rw [hg,KY k (by omega),m1 (by omega)];rfl
theorem pT (p:Int):jR p 8 256=prb p:=by
 unfold jR prb
 cases hd:decide (8≤p)
 ·rfl
 ·rfl
theorem Lu {m:List (List J)} (h:rightM m=true):∀ r∈m,rightB r=true∧r.length=m.length:=by
 have hs:=aP h
 unfold rightM at h
 cases hr:jR (m.length:Int) 1 4 with
 |false=>rw [hr] at h;cases h
 |true=>
  rw [hr,cond_true] at h
  intro r hm
  have:=List.all_eq_true.1 h r hm
  unfold mZ at this
  refine ⟨?_,hs.2.2 r hm⟩
  cases hl:((r.length:Int)!=(m.length:Int)) with
  |true=>rw [hl] at this;cases this
  |false=>rw [hl] at this;exact this
theorem wc {l:List J} (h:rightB l=true):∀ j∈l,okJ j=true:=by
 unfold rightB at h
 rw [Bool.and_eq_true] at h
 exact List.all_eq_true.1 h.2
def BZ (m:List (List J)):Prop:=∀ r∈m,∀ j∈r,GJ j
theorem jq {m:List (List J)} (h:rightM m=true) {i:Nat} (hi:i<m.length):rightB (m.getD i [])=true∧(m.getD i []).length=m.length∧m.getD i []∈m:=by
 have hr:=Lu h
 have hm:m.getD i []∈m:=List.mem_of_getElem? (aB [] hi)
 exact ⟨(hr _ hm).1,(hr _ hm).2,hm⟩
theorem nh {m:List (List J)} (h:rightM m=true) (hs:BZ m) {i k:Nat} (hi:i<m.length) (hk:k<m.length):fP (bS m i k):=by
 obtain ⟨h1,h2,h3⟩:=jq h hi
 have hm:bS m i k∈m.getD i []:=List.mem_of_getElem? (aB zJ (show k<(m.getD i []).length by omega))
 exact ⟨wc h1 _ hm,hs _ h3 _ hm⟩
theorem Ig {φ:J→J→J×Int} {k z:Int} {l m:List J} (hz:prb z=true) (hl:rightB l=true) (hm:rightB m=true) (he:l.length=m.length) (h:∀ j,j<l.length→φ (l.getD j zJ) (m.getD j zJ)=ft k (l.getD j zJ) (m.getD j zJ) z):cR φ l m=Ek k l m z:=by
 have hn:((l.length:Int)!=(m.length:Int))=false:=by rw [he];exact bne_self_eq_false _
 unfold cR Ek
 rw [hl,hm,hn,aY (b:=true) rfl,aY (b:=true) rfl,aY (b:=!false) rfl,aY hz]
 exact di h
theorem Ib {α:Type} {a b:List (List J)} {p:Int} {r s:List α×Int} (h:rightM a=true→rightM b=true→a.length=b.length→prb p=true→r=s):fL (mN a b p) r=fL (rightM a) (fL (rightM b) (fL (!((a.length:Int)!=(b.length:Int))) (fL (prb p) s))):=by
 unfold mN
 rw [pT]
 cases ha:rightM a<;>cases hb:rightM b<;>cases hp:prb p<;>cases hl:((a.length:Int)!=(b.length:Int))<;>try rfl
 rw [h ha hb (by have:=bne_eq_false_iff_eq.1 hl;omega) hp];rfl
theorem Rm {α:Type} {a:List (List J)} {p:Int} {r s:List α×Int} (h:rightM a=true→prb p=true→r=s):fL (we a p) r=fL (rightM a) (fL (prb p) s):=by
 unfold we
 rw [pT]
 cases ha:rightM a<;>cases hp:prb p<;>try rfl
 rw [h ha hp];rfl
theorem Ho {φ:J→J→J×Int} {k:Int} (a b:List (List J)) (p:Int) (h:∀ x y,φ x y=ft k x y p):fL (mN a b p) (eachN (fun i=>cR φ (a.getD i []) (b.getD i [])) a.length)=OX k a b p:=by
 unfold OX
 refine Ib fun ha hb hl hp=>di fun i hi=>?_
 obtain ⟨h1,h2,_⟩:=jq ha hi
 obtain ⟨h3,h4,_⟩:=jq hb (show i<b.length by omega)
 exact Ig hp h1 h3 (by omega) fun j _=>h _ _
theorem BS {φ:Nat→J} {a c:List J} {p:Int} {n:Nat} (ha:a.length=n) (hc:∀ k,k<n→c.getD k zJ=φ k) (hg:∀ k,k<n→GJ (a.getD k zJ)∧GJ (φ k)):aC zJ (fun k=>cB (a.getD k zJ) (φ k) p) (fun s x=>cH s x p) n=ic a c p:=by
 unfold ic
 rw [ha,show (fun s x=>cH s x p)=(fun s x=>ft 0 s x p) from by funext s x;exact lB _ _ _]
 exact tL fun k hk=>by rw [hc k hk,lH (hg k hk).1 (hg k hk).2]
theorem KS {a b:List (List J)} (ha:BZ a) (hb:BZ b) (p:Int):fL (mN a b p) (eachN (fun i=>eachN (fun j=>aC zJ (fun k=>cB (bS a i k) (bS b k j) p) (fun s x=>cH s x p) a.length) a.length) a.length)=OL a b p:=by
 unfold OL
 refine Ib fun h1 h2 hl hp=>di fun i hi=>di fun j hj=>?_
 exact BS (jq h1 hi).2.1 (fun k hk=>F0 (by omega)) fun k hk=>⟨(nh h1 ha hi hk).2,(nh h2 hb (by omega) (by omega)).2⟩
theorem KV {a:List (List J)} {b:List J} (ha:BZ a) (hb:∀ j∈b,GJ j) (p:Int):fL (OS a b p) (eachN (fun i=>aC zJ (fun k=>cB (bS a i k) (b.getD k zJ) p) (fun s x=>cH s x p) a.length) a.length)=Pz a b p:=by
 unfold OS Pz
 rw [pT]
 cases h1:rightM a<;>cases h2:rightB b<;>cases hp:prb p<;>cases hl:((a.length:Int)!=(b.length:Int))<;>try rfl
 have hl':a.length=b.length:=by have:=bne_eq_false_iff_eq.1 hl;omega
 show eachN _ _=eachN _ _
 refine di fun i hi=>?_
 exact BS (jq h1 hi).2.1 (fun k hk=>rfl) fun k hk=>⟨(nh h1 ha hi hk).2,hb _ (List.mem_of_getElem? (aB zJ (show k<b.length by omega)))⟩
theorem K9 {x:J} {l:List J} {p:Int} (hp:prb p=true) (hl:rightB l=true) (hx:okJ x=true) (h:∀ j,j<l.length→cB x (l.getD j zJ) p=ft 2 x (l.getD j zJ) p):fU (fun y=>cB x y p) l=En x l p:=by
 unfold fU En
 rw [hl,hx,aY rfl,aY rfl,aY hp]
 exact di h
theorem KU {x:J} {m:List (List J)} (hx:GJ x) (hm:BZ m) (p:Int):fL (bif okJ x then we m p else false) (eachN (fun i=>fU (fun y=>cB x y p) (m.getD i [])) m.length)=Pt x m p:=by
 unfold we Pt
 rw [pT]
 cases h1:rightM m<;>cases h2:okJ x<;>cases hp:prb p<;>try rfl
 show eachN _ _=eachN _ _
 refine di fun i hi=>?_
 obtain ⟨h3,h4,h5⟩:=jq h1 hi
 exact K9 hp h3 h2 fun j hj=>lH hx (hm _ h5 _ (List.mem_of_getElem? (aB zJ hj))) p
theorem KR {m:List (List J)} (hm:BZ m) (p:Int):fL (we m p) (eachN (fun i=>fU (fun y=>iZ y p) (m.getD i [])) m.length)=OI m p:=by
 unfold OI
 refine Rm fun h1 hp=>di fun i hi=>?_
 obtain ⟨h3,h4,h5⟩:=jq h1 hi
 unfold fU Ht
 rw [h3,aY rfl,aY hp]
 exact di fun j hj=>v5 (hm _ h5 _ (List.mem_of_getElem? (aB zJ hj))) p
theorem Hn {m:List (List J)} (hm:BZ m) (p:Int):sU m p=Rk m p:=by
 unfold sU Rk we
 rw [pT]
 cases h1:rightM m<;>cases hp:prb p<;>try rfl
 show PM _=od (ue m p) m.length
 have hn:=(aP h1).1
 have e:eachN (fun i=>aC zX (fun k=>(iD (bS m i k),0)) (qc p) m.length) m.length=eachN (ue m p) m.length:=by
  refine di fun i hi=>?_
  unfold ue
  rw [show qc p=fR p from by funext s x;unfold qc fR;rw [N8]]
  exact tL fun k hk=>by rw [OH (nh h1 hm hi hk).2]
 rw [e]
 have hS:∀ i,i<m.length→(ue m p i).2=0→Ns (ue m p i).1:=fun i hi h=>Pu (by rw [←jD];exact hp) _ (fun k hk=>OP (nh h1 hm hi hk)) hn.1 h
 obtain ⟨g1,g2⟩:=Oa hS m.length (Nat.le_refl _)
 unfold PM
 cases hE:(eachN (ue m p) m.length).2 !=0 with
 |true=>rw [cond_true,g2 hE]
 |false=>
  have h0:(eachN (ue m p) m.length).2=0:=by simpa using hE
  obtain ⟨k1,k2⟩:=g1 h0
  rw [cond_false,bq h0,←k2 hn.1,←k1]
end Go.Proofs.YtpacpmmdjmnamaaGreatDoor
