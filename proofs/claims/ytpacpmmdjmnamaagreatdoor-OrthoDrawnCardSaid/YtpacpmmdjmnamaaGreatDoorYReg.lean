/- A drawn region by an invariant; the statement 'x, y := f(a), g(b)' with variables in memory. -/
import Derived.Test.YtpacpmmdjmnamaaGreatDoorYFld
import Derived.Test.YtpacpmmdjmnamaaGreatDoorYNumPR
namespace Go.Proofs.YtpacpmmdjmnamaaGreatDoor
open Go.RowKit Nx
section
theorem wW {l:List Bool} {i:Nat} (h:l[i]? =some false):(l.set i true).count false+1=l.count false:=by
 induction l generalizing i with
 |nil=>simp at h
 |cons b t ih=>
  cases i with
  |zero=>simp at h;subst h;simp
  |succ i=>
   simp at h
   have:=ih h
   rw [List.set_cons_succ,List.count_cons,List.count_cons]
   omega
theorem vv {P:Program} {ops:Array Oper} {Q:Exit→Act→World→Prop} {id N:Nat} {a:Act} {w:World} (hm:P.follows .mixedOrders=true) (hN:ops.size=N) (J:Array Bool→Act→World→Prop) (h0:J (Array.replicate N false) a w.drew)
  (hcnt:∀ L a w,L.size=N→J L a w→∀ i∈Region.ready .any ops L,L[i]? =some false)
  (hstep:∀ L a w,L.size=N→J L a w→∀ i∈Region.ready .any ops L,wpOp P ops Q i (fun a' w'=>J (L.setIfInBounds i true) a' w') a w)
  (hdone:∀ L a w,L.size=N→J L a w→Region.ready .any ops L=[]→Q .normal a w):(Code.region id ops true).wp P Q a w:=by
 refine wp_region_any hm ?_
 rw [hN]
 have key:∀ (n:Nat) (L:Array Bool) (a:Act) (w:World),L.size=N→L.toList.count false≤n→J L a w→wpAny P .any ops Q n L a w:=by
  intro n
  induction n with
  |zero=>
   intro L a w hs hc hJ
   have hr:Region.ready .any ops L=[]:=by
    cases hr:Region.ready .any ops L with
    |nil=>rfl
    |cons i t=>
     have h1:=hcnt L a w hs hJ i (by rw [hr];simp)
     have h2:false∈L.toList:=by rw [←Array.getElem?_toList] at h1;exact List.mem_of_getElem? h1
     have:=List.count_pos_iff.2 h2
     omega
   exact ⟨hr,hdone L a w hs hJ hr⟩
  |succ n ih=>
   intro L a w hs hc hJ
   refine ⟨fun hr=>hdone L a w hs hJ hr,fun i hi=>?_⟩
   have h1:=hcnt L a w hs hJ i hi
   refine wpOp_mono (fun a' w' h'=>ih _ a' w' (by simp [hs]) ?_ h') (hstep L a w hs hJ i hi)
   rw [←Array.getElem?_toList] at h1
   have:=wW h1
   rw [Array.toList_setIfInBounds]
   omega
 refine key N _ a _ (by simp) ?_ h0
 simp [Array.toList_replicate]
def yn (g:Nat):Value:=.pointer (some ⟨g,0,none⟩)
theorem rI {g h:Nat} (e:yn g=yn h):g=h:=by simpa [yn] using e
def ValAt (w:World) (v:Value) (q:Q) (b:Bool) (x:Value) (b':Bool) (y:Value):Prop:=
 ∃ (A:Option Addr) (n c:Nat),v= .agg #[.bool q.s,.slice A n c,.int .i64 q.e]∧Dg w A n c q.m∧∀ ad,0<n→A=some ad→(b=true→x≠yn ad.block)∧(b'=true→y≠yn ad.block)
def VarAt (w4 w:World) (v:Value) (b:Bool) (x:Value):Prop:=
 ∃ g,v=yn g∧w4.heap.size≤g∧∃ (s:Bool) (A:Option Addr) (n c:Nat) (e:Int),Vx w g s A n c e∧(b=true→x= .agg #[.bool s,.slice A n c,.int .i64 e])
theorem ValAt.step {w w':World} {v x y:Value} {q:Q} {b b':Bool} (h:ValAt w v q b x b' y) (hb:Below w.heap.size w w'):ValAt w' v q b x b' y:=by
 obtain ⟨A,n,c,e,h1,h2⟩:=h;exact ⟨A,n,c,e,h1.step hb,h2⟩
theorem VarAt.step {w4 w w':World} {v x:Value} {b:Bool} (h:VarAt w4 w v b x) (hb:Below w.heap.size w w'):VarAt w4 w' v b x:=by
 obtain ⟨g,e,hg,s,A,n,c,ee,k,hx⟩:=h;exact ⟨g,e,hg,s,A,n,c,ee,k.step hb,hx⟩
theorem VarAt.far {w4 w:World} {v x:Value} {b:Bool} {g:Nat} (h:VarAt w4 w v b x) (hv:v≠yn g) (p q r:Value):VarAt w4 (bc w g p q r) v b x:=by
 obtain ⟨g',e,hg,s,A,n,c,ee,k,hx⟩:=h
 have hne:g'≠g:=fun h=>hv (by rw [e,h])
 refine ⟨g',e,hg,s,A,n,c,ee,?_,hx⟩
 unfold bc
 exact Blk.far (Blk.far (Blk.far k hne _) hne _) hne _
theorem VarAt.new (w4 w:World) (h:w4.heap.size≤w.heap.size) (x:Value):VarAt w4 (w.alloc (.cells #[.bool false,.slice none 0 0,.int .i64 0] 127)) (yn w.heap.size) false x:=⟨_,rfl,h,false,none,0,0,0,Vx.new w false none 0 0 0,fun h=>by cases h⟩
theorem VarAt.lt {w4 w:World} {v x:Value} {b:Bool} (h:VarAt w4 w v b x):v≠yn w.heap.size:=by
 obtain ⟨g,e,_,s,A,n,c,ee,k,_⟩:=h
 rw [e];intro h
 have:=rI h;have:=k.lt;omega
theorem ValPost.at_ {w w':World} {q:Q} {e:Ending} {x y:Value} {b b':Bool} (h:ValPost w 0 q e w') (hx:b=true→∃ g,x=yn g∧g<w.heap.size) (hy:b'=true→∃ g,y=yn g∧g<w.heap.size):∃ v,e= .returned v∧ValAt w' v q b x b' y∧Below w.heap.size w w':=by
 obtain ⟨v,he,⟨A,n,c,rfl,h1,h2⟩,hb⟩:=h
 refine ⟨_,he,⟨A,n,c,rfl,h1,fun ad h0 hA=>?_⟩,hb⟩
 have h3:=h2 ad h0 hA
 refine ⟨fun hbt e=>?_,fun hbt e=>?_⟩
 ·obtain ⟨g,e1,hg⟩:=hx hbt
  rw [e1] at e
  have:=rI e;omega
 ·obtain ⟨g,e1,hg⟩:=hy hbt
  rw [e1] at e
  have:=rI e;omega
theorem VarAt.old {w4 w:World} {v x:Value} {b:Bool} (h:VarAt w4 w v b x):∃ g,v=yn g∧g<w.heap.size:=by
 obtain ⟨g,e,_,s,A,n,c,ee,k,_⟩:=h
 exact ⟨g,e,k.lt⟩
end
section
theorem Hy {a:Act} {t:Nat} {v:Value} (h:a.tmps[t]? =some v):a.eval (.tmp t)=v:=by
 simp only [Act.eval,Array.getD_eq_getD_getElem?];rw [h];rfl
end
end Go.Proofs.YtpacpmmdjmnamaaGreatDoor
