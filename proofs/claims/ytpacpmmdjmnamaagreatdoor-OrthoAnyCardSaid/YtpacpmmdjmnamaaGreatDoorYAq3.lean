/- Two columns at right angles: what is reckoned of them, exactly. -/
import Derived.Test.YtpacpmmdjmnamaaGreatDoorYAq2
import Derived.Test.YtpacpmmdjmnamaaGreatDoorYNat1
namespace Go.Proofs.YtpacpmmdjmnamaaGreatDoor
set_option linter.unusedSimpArgs false
set_option linter.unusedVariables false
open Go.RowKit Nx
section
def Sx (q:Q):Prop:=bg q∧q.m<64∧ -40≤q.e∧q.e≤40
section
variable {a b:Q} {z:Int}
theorem fP (h:Sx a):aH a:=⟨h.1,Nat.lt_of_lt_of_le h.2.1 (Nat.le_trans (by unfold B64;omega) uI),by have:=h.2.2.1;omega,by have:=h.2.2.2;omega⟩
theorem dW (h:Few a):Sx a:=⟨h.1,h.2.1,by have:=h.2.2.1;omega,by have:=h.2.2.2;omega⟩
theorem wK (h:Sx a):Bd 40 a:=⟨Nat.lt_of_lt_of_le h.2.1 (by decide),h.2.2.1,h.2.2.2⟩
theorem kK (h:Sx a):(qx a).ok=true∧(qx a).q=a:=⟨(gF (fP h)).1,(gF (fP h)).2.2⟩
theorem IZ (h:Sx a):GX (qx a):=uW (fP h)
theorem Bk (ha:Sx a) (hb:Sx b):bg (times a b)∧(times a b).m<4096∧ -80≤(times a b).e∧(times a b).e≤80:=by
 by_cases h:a.m=0∨b.m=0
 ·rw [lU ha.1 hb.1 h]
  exact ⟨fm,by decide,by decide,by decide⟩
 ·have h1:a.m≠0:=fun e=>h (.inl e)
  have h2:b.m≠0:=fun e=>h (.inr e)
  obtain ⟨s,m,e⟩:=a
  obtain ⟨s',m',e'⟩:=b
  have hc:bg (times ⟨s,m,e⟩ ⟨s',m',e'⟩):=gD _ _ _
  rw [nt ha.1 hb.1 h1 h2] at hc ⊢
  have q1:m<64:=ha.2.1
  have q2:m'<64:=hb.2.1
  have q3:m*m'<4096:=Nat.lt_of_le_of_lt (Nat.mul_le_mul (Nat.le_of_lt_succ q1) (Nat.le_of_lt_succ q2)) (by decide)
  have:=ha.2.2.1;have:=ha.2.2.2;have:=hb.2.2.1;have:=hb.2.2.2
  simp only at this
  refine ⟨hc,q3,?_,?_⟩<;>show _≤_<;>simp only at* <;>omega
theorem Ce {k p:Nat} {up:Bool} {q:Q} (h:Bd k q) (hp:1≤p) (h2:p≤256) (hk:2*k+257≤65536):iX (dP p up q):=by
 have hb:=ER (p:=p) (up:=up) h
 exact sX (Nat.le_trans (lb up q hp) h2) (by have:=hb.2.1;omega) (by have:=hb.2.2;omega)
theorem pz (hz:12≤z∧z≤256):pQ z=true:=by
 unfold pQ
 rw [decide_eq_true (show 8≤z by omega),decide_eq_true hz.2];rfl
theorem vj (hz:12≤z∧z≤256) (ha:Sx a) (hb:Sx b):an (bf z false) z (qx a) (qx b)=(times a b,0):=by
 obtain ⟨h1,h2,h3,h4⟩:=Bk ha hb
 have hn:nbits (times a b).m≤12:=bh (show _<2^12 from h2)
 rw [rJ (kK ha).1 (kK hb).1 (pz hz),(kK ha).2,(kK hb).2,rL h1 (by omega),eF (sX (by omega) (by omega) (by omega))]
theorem pH (ha:Sx a) (hb:Sx b):aH (times a b):=by
 obtain ⟨h1,h2,h3,h4⟩:=Bk ha hb
 exact ⟨h1,Nat.lt_of_lt_of_le h2 (Nat.le_trans (by unfold B64;omega) uI),by omega,by omega⟩
theorem yD {x y:Q} (hz:12≤z∧z≤256) (hx:aH x) (hy:aH y) (bx:Bd 160 x) (bY:Bd 160 y):an (eB z false) z (qx x) (qx y)=(dP z.toNat false (plus x y),0):=by
 rw [gp (gF hx).1 (gF hy).1 (pz hz),(gF hx).2.2,(gF hy).2.2]
 show res (dP z.toNat false (plus x y))=_
 exact eF (Ce (BU bx bY) (by omega) (by omega) (by omega))
theorem IR (k:Nat):Bd k q0:=⟨Nat.two_pow_pos k,by show -(k:Int)≤0;omega,by show (0:Int)≤k;omega⟩
theorem vG:aH q0:=⟨fm,by decide,by decide,by decide⟩
theorem wv {t:Q} (hc:bg t):plus q0 t=t:=by
 have h1: -(t.e.natAbs:Int)≤t.e:=by omega
 have h0: -(t.e.natAbs:Int)≤q0.e:=by show _≤(0:Int);omega
 refine EM (E:=t.e.natAbs) (nb _ _) hc (zA h0 h1) h1 ?_
 rw [BS h0 h1]
 show q0.at _+_=_
 unfold Q.at Q.z
 simp [q0]
theorem yZ {u0 u1 v0 v1:Q} (hz:12≤z∧z≤256) (h0:Sx u0) (h1:Sx u1) (k0:Sx v0) (k1:Sx v1):aJ z [qx u0,qx u1] [qx v0,qx v1]=(qx (dP z.toNat false (plus (times u0 v0) (times u1 v1))),0):=by
 have b0:Bd 160 (times u0 v0):=sI (wK h0) (wK k0)
 have b1:Bd 160 (times u1 v1):=sI (wK h1) (wK k1)
 have t0:=Bk h0 k0
 have e1:dM z [qx u0,qx u1] [qx v0,qx v1] 1=(qx (times u0 v0),0):=by
  show (bif (0:Int)!=0 then _ else bif (an (bf z false) z (qx u0) (qx v0)).2 !=0 then _ else bif (an (eB z false) z zX (qx (an (bf z false) z (qx u0) (qx v0)).1)).2 !=0 then _ else (qx (an (eB z false) z zX (qx (an (bf z false) z (qx u0) (qx v0)).1)).1,0))=_
  rw [vj hz h0 k0]
  show (bif (an (eB z false) z zX (qx (times u0 v0))).2 !=0 then _ else (qx (an (eB z false) z zX (qx (times u0 v0))).1,0))=_
  rw [←um,yD hz vG (pH h0 k0) (IR _) b0,wv t0.1,rL t0.1 (by have:nbits (times u0 v0).m≤12:=bh (show _<2^12 from t0.2.1);omega)]
  rfl
 show dM z [qx u0,qx u1] [qx v0,qx v1] (1+1)=_
 show (bif (dM z [qx u0,qx u1] [qx v0,qx v1] 1).2 !=0 then _ else bif (an (bf z false) z (qx u1) (qx v1)).2 !=0 then _ else bif (an (eB z false) z (dM z [qx u0,qx u1] [qx v0,qx v1] 1).1 (qx (an (bf z false) z (qx u1) (qx v1)).1)).2 !=0 then _ else (qx (an (eB z false) z (dM z [qx u0,qx u1] [qx v0,qx v1] 1).1 (qx (an (bf z false) z (qx u1) (qx v1)).1)).1,0))=_
 rw [e1,vj hz h1 k1]
 show (bif (an (eB z false) z (qx (times u0 v0)) (qx (times u1 v1))).2 !=0 then _ else (qx (an (eB z false) z (qx (times u0 v0)) (qx (times u1 v1))).1,0))=_
 rw [yD hz (pH h0 k0) (pH h1 k1) b0 b1]
 rfl
theorem IX {k:Int} (h:Few a) (hk: -20≤k∧k≤20):Sx (jX a k):=by
 have:=h.2.2.1;have:=h.2.2.2
 unfold jX
 split
 ·exact ⟨fm,by decide,by decide,by decide⟩
 ·rename_i h0
  exact ⟨⟨fun e=>absurd e h0,h.1.2⟩,h.2.1,by show -40≤a.e+k;omega,by show a.e+k≤40;omega⟩
theorem Gm {k:Int} (h:Few a) (hk: -20≤k∧k≤20):ar (qx a) k=(jX a k,0):=by
 rw [yb (fP (dW h)) k,eF (fP (IX h hk)).2]
theorem me (h:Few a):Few a.abs:=by
 refine ⟨qi h.1,?_⟩
 unfold Q.abs
 split
 ·exact ⟨by decide,by decide,by decide⟩
 ·exact h.2
theorem uB (h:a.m≠0):a.abs.m≠0:=by unfold Q.abs;rw [if_neg h];exact h
theorem oh (h:Few a):absx (qx a)=a.abs:=vJ (fP (dW h))
theorem Fw (ha:Few a) (hb:Few b) (h0:a.m≠0∨b.m≠0):∃ g,Few g∧g.m≠0∧grN [qx a,qx b] 2=qx g:=by
 have e1:grN [qx a,qx b] 1=bif decide (0<cmpx (qx (absx (qx a))) zX) then qx (absx (qx a)) else zX:=rfl
 have e2:grN [qx a,qx b] 2=bif decide (0<cmpx (qx (absx (qx b))) (grN [qx a,qx b] 1)) then qx (absx (qx b)) else grN [qx a,qx b] 1:=rfl
 have pos:∀ {q:Q},Few q→q.m≠0→decide (0<cmpx (qx q.abs) zX)=true:=fun {q} hq h=>by
  refine decide_eq_true ((jO (kK (dW (me hq))).1 rfl).2 ?_)
  rw [zX_v,nZ (fP (dW hq))]
  have hl: -((65536:Nat):Int)≤q.e:=by have:=hq.2.2.1;omega
  have:=rg (E:=65536) q
  have h3:0<q.m*2^(q.e+(65536:Nat)).toNat:=Nat.mul_pos (Nat.pos_of_ne_zero h) (Nat.two_pow_pos _)
  omega
 rw [oh ha] at e1
 rw [oh hb] at e2
 by_cases h1:a.m=0
 ·have e3:grN [qx a,qx b] 1=zX:=by
   rw [e1,show a.abs=q0 by unfold Q.abs;rw [if_pos h1],um];rfl
  have hb0:b.m≠0:=by rcases h0 with h |h;exact absurd h1 h;exact h
  rw [e3,pos hb hb0] at e2
  exact ⟨_,me hb,uB hb0,e2⟩
 ·rw [pos ha h1] at e1
  rw [e1,cond_true] at e2
  cases h2:decide (0<cmpx (qx b.abs) (qx a.abs)) with
  |true=>
   rw [h2,cond_true] at e2
   refine ⟨_,me hb,uB fun hb0=>?_,e2⟩
   rw [show b.abs=q0 by unfold Q.abs;rw [if_pos hb0],um] at h2
   have h3:=(jO rfl (kK (dW (me ha))).1).1 (of_decide_eq_true h2)
   rw [zX_v,nZ (fP (dW ha))] at h3
   omega
  |false=>rw [h2,cond_false] at e2;exact ⟨_,me ha,uB h1,e2⟩
theorem AS (hg:Few a) (h:a.m≠0):(dF (qx a)==0)=false:=by
 rw [tR (kK (dW hg)).1,(kK (dW hg)).2]
 unfold signq
 rw [if_neg h]
 cases a.s<;>rfl
theorem Dw (hg:Few a) (h:a.m≠0): -5≤cd a∧cd a≤14:=by
 have h1:=dS h
 have h2:nbits a.m≤6:=bh (show _<2^6 from hg.2.1)
 have:=hg.2.2.1;have:=hg.2.2.2
 unfold cd
 omega
theorem Dm (ha:Few a) (hb:Few b) (h0:a.m≠0∨b.m≠0):∃ k:Int,(-20≤k∧k≤20)∧scaS [qx a,qx b]=([qx (jX a k),qx (jX b k)],0):=by
 obtain ⟨g,hg,g0,hG⟩:=Fw ha hb h0
 have ht:=Dw hg g0
 have hk:kS [qx a,qx b]= -cd g:=by
  show IntKind.i64.wrap (0 - cd (grN [qx a,qx b] 2).q)=_
  rw [hG,(kK (dW hg)).2,show IntKind.i64.wrap (0 - cd g)=0 - cd g by rw [IntKind.wrap_i64];omega];omega
 refine ⟨-cd g,by omega,?_⟩
 show (bif dF (grN [qx a,qx b] 2)==0 then ([],3) else eachN (fun i=>(qx (ar ([qx a,qx b].getD i zX) (kS [qx a,qx b])).1,(ar ([qx a,qx b].getD i zX) (kS [qx a,qx b])).2)) 2)=_
 rw [hG,AS hg g0,cond_false,hk]
 have f0:=Gm (k:= -cd g) ha (by omega)
 have f1:=Gm (k:= -cd g) hb (by omega)
 have q0':(fun i=>(qx (ar ([qx a,qx b].getD i zX) (-cd g)).1,(ar ([qx a,qx b].getD i zX) (-cd g)).2)) 0=(qx (jX a (-cd g)),0):=by show (qx (ar (qx a) _).1,(ar (qx a) _).2)=_;rw [f0]
 have q1':(fun i=>(qx (ar ([qx a,qx b].getD i zX) (-cd g)).1,(ar ([qx a,qx b].getD i zX) (-cd g)).2)) 1=(qx (jX b (-cd g)),0):=by show (qx (ar (qx b) _).1,(ar (qx b) _).2)=_;rw [f1]
 generalize (fun i=>(qx (ar ([qx a,qx b].getD i zX) (-cd g)).1,(ar ([qx a,qx b].getD i zX) (-cd g)).2))=F at q0' q1'
 show (bif (bif (0:Int)!=0 then ([],0) else bif (F 0).2 !=0 then ([],(F 0).2) else ([]++[(F 0).1],0)).2 !=0 then _ else bif (F 1).2 !=0 then ([],(F 1).2) else ((bif (0:Int)!=0 then ([],0) else bif (F 0).2 !=0 then ([],(F 0).2) else ([]++[(F 0).1],0)).1++[(F 1).1],0))=_
 rw [q0',q1'];rfl
end
end
section
attribute [local irreducible] be
noncomputable def lX:fR:=one 36 (DN fun l l1=>(l=l1,bA true))
theorem sD:TbOK Tryz.prog lX:=cC (ew Tryz.func36 (by kernel_rfl) rfl) fun args e h hp=>by
 obtain ⟨l,l1,rfl,rfl⟩:=Fm h
 have hp:l=l1:=hp
 subst hp
 exact JF rfl (fun w Al nl cl Al1 nl1 cl1 ht hl hn hl1 hn1=>(vH w 0 w.heap.size 0 w.heap.size Al Al1 nl cl nl1 cl1 l hl.1 hl1.1 (by omega)).mono fun _ _ h=>by obtain ⟨m,he,hw⟩:=h;subst hw;exact rH ⟨he,cm (Below.refl _ _) m⟩)
def tX (T:fR) (g:FuncId):eJ:=fun f d st args=>if f=g then (match args with
 |.v false [.osl b n]::rest=>(match look st (2*b+1) with
  |some (.v _ ls)=>(match jg (ls.map (jp st)) with
   |some ks=>if ls.length=n*(ls.length / n)∧(rest.map (ir st)).all nU=true then (match T f (.v false [.sl false (ls.length / n) n ks]::rest.map (ir st)) with
    |some e=>some (e.1,(2*b+1)::(ls.flatMap olL++rest.flatMap olA),[(2*d,e.2)])
    |none=>none) else none
   |none=>none)
  |_=>none)
 |_=>none) else none
theorem yd {T:fR} {g:FuncId}:BH (tX T g) g:=fun f d st args h=>by unfold tX;rw [if_neg h]
theorem dnL_noO:∀ {ls:List Lf} {ks:List Lc},jg ls=some ks→ls.all ot=true:=by
 intro ls
 induction ls with
 |nil=>intro ks _;rfl
 |cons l ls ih=>
  intro ks h
  cases l<;>simp only [jg] at h<;>first |(cases h;done)|(split at h<;>first |(cases h;done)|(rename_i k hk;rw [List.all_cons,ih hk];rfl))
theorem Du {T:fR} {g:FuncId} {w0:World} (h:TbOK Tryz.prog T):OrOK Tryz.prog (tX T g) (fun _=>False) w0:=by
 have inv:∀ f d st args e,tX T g f d st args=some e→∃ b n rest m ls ks q,args= .v false [.osl b n]::rest∧look st (2*b+1)=some (.v m ls)∧jg (ls.map (jp st))=some ks∧(ls.length=n*(ls.length / n)∧(rest.map (ir st)).all nU=true)∧T f (.v false [.sl false (ls.length / n) n ks]::rest.map (ir st))=some q∧e=(q.1,(2*b+1)::(ls.flatMap olL++rest.flatMap olA),[(2*d,q.2)]):=by
  intro f d st args e he
  unfold tX at he
  split at he
  case isFalse=>cases he
  split at he
  case h_2=>cases he
  rename_i b n rest
  split at he
  case h_2=>cases he
  rename_i m ls hl
  split at he
  case h_2=>cases he
  rename_i ks hk
  split at he
  case isFalse=>cases he
  rename_i hn
  split at he
  case h_2=>cases he
  rename_i q hq
  injection he with he
  exact ⟨b,n,rest,m,ls,ks,q,rfl,hl,hk,hn,hq,he.symm⟩
 refine ⟨fun f d st args e he=>?_,fun f d st args e he hp N ρ a w us hz hd hA=>?_,fun f d st st' args e he hkk=>?_⟩
 ·obtain ⟨b,n,rest,m,ls,ks,q,_,_,_,_,hq,_⟩:=inv _ _ _ _ _ he
  exact h.enters f _ q hq
 ·obtain ⟨b,n,rest,m,ls,ks,q,rfl,hl,hk,hn,hq,rfl⟩:=inv _ _ _ _ _ he
  obtain ⟨u,r,rfl,hu,hr⟩:=hA
  have hu:(Lf.osl b n).R ρ (dom st) w u:=RL.one.1 hu
  have hA2:RA ρ.no (fun _=>false) w (.v false [.sl false (ls.length / n) n ks]::rest.map (ir st)) (u::r):=by
   refine ⟨u,r,rfl,RL.one.2 ?_,yW hz hr hn.2⟩
   obtain ⟨hdb,hu⟩:=hu
   obtain ⟨g0,ls0,T0,cs,e0,hB,hr0,ho0,hg⟩:=hz.mv hl
   injection e0 with e1 e0;subst e0
   have hlen:=hr0.len
   rw [Array.length_toList] at hlen
   have hkl:=uN hk
   rw [List.length_map] at hkl
   refine ⟨by rw [hkl];exact hn.1,_,n,hu,Nat.le_refl _,.inr ⟨⟨ρ b,0,none⟩,T0,cs,rfl,rfl,⟨mZ,fun e=>(by cases e)⟩,hB.wb,?_,?_⟩⟩
   ·show 0+ks.length≤cs.size;omega
   ·show LcL _ w ks ((cs.toList.drop 0).take ks.length)
    rw [List.drop_zero,List.take_of_length_le (by rw [Array.length_toList];omega)]
    exact Ff (fun g hg=>⟨hg,fun e=>(by cases e)⟩) hk (cv_RL hz hr0 (dnL_noO hk))
  refine (h.ct f _ q hq hp ρ.no (fun _=>false) w _ (hz.tb.tab hz.bel) hA2).mono ?_
  rintro en w' ⟨v,r0,rfl,rfl,hc,hR,hb⟩
  exact ⟨v,ρ,rfl,hz.val hb hd (hR _ _ hz.old)⟩
 ·obtain ⟨b,n,rest,m,ls,ks,q,rfl,hl,hk,hn,hq,rfl⟩:=inv _ _ _ _ _ he
  have hm:ls.map (jp st')=ls.map (jp st):=List.map_congr_left fun l hl'=>qn fun k hk'=>hkk k (List.mem_cons_of_mem _ (List.mem_append_left _ (List.mem_flatMap.2 ⟨l,hl',hk'⟩)))
  have hm2:rest.map (ir st')=rest.map (ir st):=List.map_congr_left fun x hx=>kT fun k hk'=>hkk k (List.mem_cons_of_mem _ (List.mem_append_right _ (List.mem_flatMap.2 ⟨x,hx,hk'⟩)))
  rw [←he]
  unfold tX
  simp only [hkk (2*b+1) (List.mem_cons_self ..),hl,hm,hm2]
abbrev y2:Q:=⟨false,1,1⟩
abbrev yh:Q:=⟨false,1, -1⟩
abbrev y4:Q:=⟨false,1,2⟩
theorem Hz {e:Int} (h1: -6≤e) (h2:e≤8):Few ⟨false,1,e⟩:=⟨⟨(fun h=>by cases h),fun _=>rfl⟩,(show (1:Nat)<64 by decide),h1,h2⟩
theorem Ki {e:Int} (h1: -6≤e) (h2:e≤8):Sx ⟨false,1,e⟩:=dW (Hz h1 h2)
theorem IN:12≤(16:Int)∧(16:Int)≤256:=by decide
theorem gf:Few y2:=Hz (by decide) (by decide)
theorem lG:Sx yh:=Ki (by decide) (by decide)
theorem rm (x:X):cmpx x x=0:=by
 unfold cmpx kp
 split
 ·rw [vS (E:=x.e.natAbs) (show -((x.e.natAbs:Nat):Int)≤x.e by omega) (show -((x.e.natAbs:Nat):Int)≤x.e by omega)];simp
 ·rfl
theorem DQ:absx (qx y2)=y2:=by rw [oh gf];rfl
theorem zu (r:List X):grN (qx y2::r) 1=qx y2:=by
 show (bif decide (0<cmpx (qx (absx (qx y2))) zX) then qx (absx (qx y2)) else zX)=_
 rw [DQ,show decide (0<cmpx (qx y2) zX)=true by kernel_rfl];rfl
theorem DR:grN [qx y2,qx y2] 2=qx y2:=by
 show (bif decide (0<cmpx (qx (absx (qx y2))) (grN [qx y2,qx y2] 1)) then qx (absx (qx y2)) else grN [qx y2,qx y2] 1)=_
 rw [zu,DQ,rm];rfl
theorem zw:ar (qx y2) (-2)=(yh,0):=by
 rw [Gm gf (by decide),AQ _ (by decide)];rfl
theorem Ik:scaS [qx y2]=([qx yh],0):=by
 have hk:kS [qx y2]= -2:=by
  show IntKind.i64.wrap (0 - cd (grN [qx y2] 1).q)=_
  rw [zu];kernel_rfl
 show (bif dF (grN [qx y2] 1)==0 then ([],3) else bif (0:Int)!=0 then ([],0) else bif (ar (qx y2) (kS [qx y2])).2 !=0 then ([],(ar (qx y2) (kS [qx y2])).2) else ([]++[qx (ar (qx y2) (kS [qx y2])).1],0))=_
 rw [zu,AS gf (by decide),hk,zw];rfl
theorem Il:scaS [qx y2,qx y2]=([qx yh,qx yh],0):=by
 have hk:kS [qx y2,qx y2]= -2:=by
  show IntKind.i64.wrap (0 - cd (grN [qx y2,qx y2] 2).q)=_
  rw [DR];kernel_rfl
 obtain ⟨k,_,h⟩:=Dm gf gf (.inl (by decide))
 show (bif dF (grN [qx y2,qx y2] 2)==0 then ([],3) else eachN (fun i=>(qx (ar ([qx y2,qx y2].getD i zX) (kS [qx y2,qx y2])).1,(ar ([qx y2,qx y2].getD i zX) (kS [qx y2,qx y2])).2)) 2)=_
 rw [DR,AS gf (by decide),hk,cond_false]
 have f0:(fun i=>(qx (ar ([qx y2,qx y2].getD i zX) (-2)).1,(ar ([qx y2,qx y2].getD i zX) (-2)).2)) 0=(qx yh,0):=by show (qx (ar (qx y2) (-2)).1,(ar (qx y2) (-2)).2)=_;rw [zw]
 have f1:(fun i=>(qx (ar ([qx y2,qx y2].getD i zX) (-2)).1,(ar ([qx y2,qx y2].getD i zX) (-2)).2)) 1=(qx yh,0):=by show (qx (ar (qx y2) (-2)).1,(ar (qx y2) (-2)).2)=_;rw [zw]
 generalize (fun i=>(qx (ar ([qx y2,qx y2].getD i zX) (-2)).1,(ar ([qx y2,qx y2].getD i zX) (-2)).2))=F at f0 f1
 show (bif (bif (0:Int)!=0 then ([],0) else bif (F 0).2 !=0 then ([],(F 0).2) else ([]++[(F 0).1],0)).2 !=0 then _ else bif (F 1).2 !=0 then ([],(F 1).2) else ((bif (0:Int)!=0 then ([],0) else bif (F 0).2 !=0 then ([],(F 0).2) else ([]++[(F 0).1],0)).1++[(F 1).1],0))=_
 rw [f0,f1];rfl
theorem JK:facS 16 [qx y2,qx y2] [qx yh,qx yh]=(qx y4,0):=by
 have d1:=yZ IN lG lG (dW gf) (dW gf)
 have d2:=yZ IN lG lG lG lG
 rw [show dP (16:Int).toNat false (plus (times yh y2) (times yh y2))=y2 by kernel_rfl] at d1
 rw [show dP (16:Int).toNat false (plus (times yh yh) (times yh yh))=yh by kernel_rfl] at d2
 unfold facS
 rw [d1,d2]
 show (qx (an (dq 16 false) 16 (qx y2) (qx yh)).1,(an (dq 16 false) 16 (qx y2) (qx yh)).2)=_
 rw [CV (kK (dW gf)).1 (kK lG).1 (pz IN) (by rw [(kK lG).2];decide),(kK (dW gf)).2,(kK lG).2,show ib (16:Int).toNat false y2 yh=y4 by kernel_rfl,eF (fP (Ki (by decide) (by decide))).2]
theorem JM:gy 16 (qx y4) (qx yh) (qx y2)=(zX,0):=by
 unfold gy
 rw [vj IN (Ki (by decide) (by decide)) lG]
 show (qx (an (jQ 16 false) 16 (qx y2) (qx (times y4 yh))).1,(an (jQ 16 false) 16 (qx y2) (qx (times y4 yh))).2)=_
 rw [show times y4 yh=y2 by kernel_rfl,gp (kK (dW gf)).1 (kK (dW gf)).1 (pz IN),(kK (dW gf)).2]
 show (qx (res (dP (16:Int).toNat false (minus y2 y2))).1,(res (dP (16:Int).toNat false (minus y2 y2))).2)=_
 rw [show dP (16:Int).toNat false (minus y2 y2)=q0 by kernel_rfl,eF ju,um]
theorem JN:witS 16 [qx y2,qx y2] [qx yh,qx yh]=([zX,zX],0):=by
 unfold witS
 rw [JK]
 show (bif (bif (0:Int)!=0 then ([],0) else bif (gy 16 (qx y4) (qx yh) (qx y2)).2 !=0 then ([],(gy 16 (qx y4) (qx yh) (qx y2)).2) else ([]++[(gy 16 (qx y4) (qx yh) (qx y2)).1],0)).2 !=0 then _ else bif (gy 16 (qx y4) (qx yh) (qx y2)).2 !=0 then ([],(gy 16 (qx y4) (qx yh) (qx y2)).2) else ((bif (0:Int)!=0 then ([],0) else bif (gy 16 (qx y4) (qx yh) (qx y2)).2 !=0 then ([],(gy 16 (qx y4) (qx yh) (qx y2)).2) else ([]++[(gy 16 (qx y4) (qx yh) (qx y2)).1],0)).1++[(gy 16 (qx y4) (qx yh) (qx y2)).1],0))=_
 rw [JM];rfl
theorem JO:scaS [zX,zX]=([],3):=by
 have ab:absx zX=q0:=by rw [←um,oh ⟨fm,by decide,by decide,by decide⟩];rfl
 have g1:grN [zX,zX] 1=zX:=by
  show (bif decide (0<cmpx (qx (absx zX)) zX) then qx (absx zX) else zX)=_
  rw [ab,um,rm];rfl
 have g2:grN [zX,zX] 2=zX:=by
  show (bif decide (0<cmpx (qx (absx zX)) (grN [zX,zX] 1)) then qx (absx zX) else grN [zX,zX] 1)=_
  rw [g1,ab,um,rm];rfl
 show (bif dF (grN [zX,zX] 2)==0 then ([],3) else _)=_
 rw [g2];rfl
theorem JI:colsS 16 [[qx y2]]=([[qx yh]],0):=by
 have c1:colN 16 [[qx y2]] 1=([[qx yh]],0):=by
  show (bif (0:Int)!=0 then _ else bif (0:Int)!=0 then _ else bif (scaS [qx y2]).2 !=0 then _ else ([]++[(scaS [qx y2]).1],0))=_
  rw [Ik];rfl
 unfold colsS
 rw [show ft [[qx y2]] 16=true by kernel_rfl,cond_true]
 show (bif (colN 16 [[qx y2]] 1).2 !=0 then _ else (trn (colN 16 [[qx y2]] 1).1,0))=_
 rw [c1];rfl
theorem JJ:colsS 16 [[qx y2,qx y2],[qx y2,qx y2]]=([],3):=by
 have c1:colN 16 [[qx y2,qx y2],[qx y2,qx y2]] 1=([[qx yh,qx yh]],0):=by
  show (bif (0:Int)!=0 then _ else bif (0:Int)!=0 then _ else bif (scaS [qx y2,qx y2]).2 !=0 then _ else ([]++[(scaS [qx y2,qx y2]).1],0))=_
  rw [Il];rfl
 have c2:colN 16 [[qx y2,qx y2],[qx y2,qx y2]] 2=([],3):=by
  show (bif (colN 16 [[qx y2,qx y2],[qx y2,qx y2]] 1).2 !=0 then _ else bif (witN 16 (colN 16 [[qx y2,qx y2],[qx y2,qx y2]] 1).1 [qx y2,qx y2] 1).2 !=0 then _ else bif (scaS (witN 16 (colN 16 [[qx y2,qx y2],[qx y2,qx y2]] 1).1 [qx y2,qx y2] 1).1).2 !=0 then ([],(scaS (witN 16 (colN 16 [[qx y2,qx y2],[qx y2,qx y2]] 1).1 [qx y2,qx y2] 1).1).2) else _)=_
  rw [c1]
  show (bif (0:Int)!=0 then _ else bif (witS 16 [qx y2,qx y2] [qx yh,qx yh]).2 !=0 then _ else bif (scaS (witS 16 [qx y2,qx y2] [qx yh,qx yh]).1).2 !=0 then ([],(scaS (witS 16 [qx y2,qx y2] [qx yh,qx yh]).1).2) else _)=_
  rw [JN]
  show (bif (scaS [zX,zX]).2 !=0 then ([],(scaS [zX,zX]).2) else _)=_
  rw [JO];rfl
 unfold colsS
 rw [show ft [[qx y2,qx y2],[qx y2,qx y2]] 16=true by kernel_rfl,cond_true]
 show (bif (colN 16 [[qx y2,qx y2],[qx y2,qx y2]] 2).2 !=0 then ([],(colN 16 [[qx y2,qx y2],[qx y2,qx y2]] 2).2) else _)=_
 rw [c2];rfl
def JT:List (List X)→AV
 |[[_]]=>Ge ([[(⟨false, -1,[1]⟩:X)]],0)
 |_=>Ge ([],3)
noncomputable def yx:fR:=one 22 (gA vN fun m=>gA kg fun z=>gE ((m=[[(⟨false,1,[1]⟩:X)]]∨m=[[(⟨false,1,[1]⟩:X),(⟨false,1,[1]⟩:X)],[(⟨false,1,[1]⟩:X),(⟨false,1,[1]⟩:X)]])∧z=16,JT m))
theorem yz:TbOK Tryz.prog yx:=fM (ew Tryz.func22 (by kernel_rfl) rfl) (.a kq fun m=>.a iq fun z=>.e fun h=>by
 obtain ⟨rfl |rfl,rfl⟩:=h
 ·have:=zU [[(⟨false,1,[1]⟩:X)]] 16 (fun r hr x hx=>by
   rw [List.mem_singleton] at hr;subst hr
   rw [List.mem_singleton] at hx;subst hx
   exact vy (by decide))
  rw [show ([[(⟨false,1,[1]⟩:X)]]:List (List X))=[[qx y2]] by kernel_rfl,JI,show qx yh=(⟨false, -1,[1]⟩:X) by kernel_rfl] at this
  rw [show ([[(⟨false,1,[1]⟩:X)]]:List (List X))=[[qx y2]] by kernel_rfl]
  exact this
 ·have:=zU [[(⟨false,1,[1]⟩:X),(⟨false,1,[1]⟩:X)],[(⟨false,1,[1]⟩:X),(⟨false,1,[1]⟩:X)]] 16 (fun r hr x hx=>by
   simp only [List.mem_cons,List.not_mem_nil,or_false,or_self] at hr;subst hr
   simp only [List.mem_cons,List.not_mem_nil,or_false,or_self] at hx;subst hx
   exact vy (by decide))
  rw [show ([[(⟨false,1,[1]⟩:X),(⟨false,1,[1]⟩:X)],[(⟨false,1,[1]⟩:X),(⟨false,1,[1]⟩:X)]]:List (List X))=[[qx y2,qx y2],[qx y2,qx y2]] by kernel_rfl,JJ] at this
  rw [show ([[(⟨false,1,[1]⟩:X),(⟨false,1,[1]⟩:X)],[(⟨false,1,[1]⟩:X),(⟨false,1,[1]⟩:X)]]:List (List X))=[[qx y2,qx y2],[qx y2,qx y2]] by kernel_rfl]
  exact this)
theorem JR:JT [[(⟨false,1,[1]⟩:X)]]= .tup [(false,[.sl true 1 1 [.sl 3 1 [.lit (.bool false),.lit (.int .i64 (-1)),.ws [1]]]]),(false,[.lit (.int .i64 0)])]:=rfl
theorem JS:JT [[(⟨false,1,[1]⟩:X),(⟨false,1,[1]⟩:X)],[(⟨false,1,[1]⟩:X),(⟨false,1,[1]⟩:X)]]= .tup [(false,[.sl true 1 0 []]),(false,[.lit (.int .i64 3)])]:=rfl
theorem JP:vN (.v false [.sl false 1 1 [.sl 3 1 [.lit (.bool false),.lit (.int .i64 1),.ws [1]]]])=some [[(⟨false,1,[1]⟩:X)]]:=rfl
theorem JQ:vN (.v false [.sl false 1 2 [.sl 3 2 [.lit (.bool false),.lit (.int .i64 1),.ws [1],.lit (.bool false),.lit (.int .i64 1),.ws [1]],.sl 3 2 [.lit (.bool false),.lit (.int .i64 1),.ws [1],.lit (.bool false),.lit (.int .i64 1),.ws [1]]]])=some [[(⟨false,1,[1]⟩:X),(⟨false,1,[1]⟩:X)],[(⟨false,1,[1]⟩:X),(⟨false,1,[1]⟩:X)]]:=rfl
set_option maxRecDepth 100000 in
set_option maxHeartbeats 4000000 in
theorem zx:Ct Tryz.prog 20 [] (·=bA true):=by
 refine bF (O:=fB (tX yx 22) (aD lX)) (by kernel_rfl) az (fun w=>dv yd (Du yz) (ao sD _ w) (fun d st args=>by simp [aD,lX,one])) [] 900 63 [.tmp 0] Tryz.func20 rfl Tryz.ntmps20 (by rw [Tryz.results20]) (by simp) rfl (fun hsm=>?_)
 simp (maxSteps:=10000000) only [run,seval,dX,X.L,J.L,vL,X.eta,J.eta,Q.eta,List.cons_append,List.nil_append,iH,dU,dV,bW,bX,da,nc,dA,iE,eq,aG,bj,aL,aR,bi,cL,cK,cS,cN,cD,pN,fN,okO,je,pT,cQ,cR,cM,inL,aS,bE,dom,fH,kU,nD,evd,okeys,look,dN,di,co,cV,lenOf,fw,jb,qK,jw,qQ,fv,qf,np,qh,qg,nL,pF,eX,jF,eY,jG,bu,nV,keysOf,aD,ir,jp,jg,olA,olL,ot,nU,mS,nT,dh,↓cond_true,↓cond_false,↓cw,jx,one,cT,fi,cu,bq,gG,gH,outPs,ep,outL,fT,eO,jf,iO,cH,decide_true,decide_false,reduceCtorEq,List.all_cons,List.all_nil,Bool.and_true,Bool.and_self,true_and,and_true,and_self,List.length_cons,List.length_nil,List.drop_succ_cons,List.drop_zero,List.take_succ_cons,List.take_zero,List.getElem?_cons_zero,List.getElem?_cons_succ,List.map_cons,List.map_nil,false_implies,true_implies,Option.bind_some,List.getElem?_toArray,Bool.false_eq_true,List.append_nil,List.flatMap_cons,List.flatMap_nil,true_or,or_true,forall_const,List.reverse_cons,List.reverse_nil,Option.isSome_some,Option.any_some,Nat.lt_irrefl,not_true_eq_false,Bool.not_true,Bool.not_false,imp_self,implies_true,Bool.not_eq_true',Bool.not_eq_false',Bool.true_eq_false,fL,jo,lQ,lV,oq,pR,qo,rD,cO,qw,iJ,fB,sy,Int.toNat_zero,decide_eq_true_eq,fW,fX,so,sr,BEq.rfl,beq_self_eq_true,Int.natCast_zero,ge_iff_le,gt_iff_lt,Int.le_refl,Nat.zero_mul,Nat.one_mul,Nat.zero_add,Nat.zero_lt_succ,Nat.lt_add_one,Nat.le_refl,List.append_eq,aT,aE,aY,aF,↓aW,↓aX,↓bI,↓bJ,↓bR,↓bS,↓aU,↓aV,↓bT,↓bU,↓bK,↓bL,↓bP,↓bQ,↓bG,↓bH,↓bM,↓bN,bne_self_eq_false,wr2,nM,nN,nO,nP,nQ,nR,gN,pP,pO,gI,kc,ek,gJ,su,sv,ka,ss,gB,gP,nF,nG,nH,gu,cG,bw,cJ,aN,nE,Lc.up,pU,Int.toNat_natCast,List.replicate_succ,List.replicate_zero,List.flatten_cons,List.flatten_nil,Int.ofNat_lt,Int.cast_ofNat_Int,Int.ofNat_eq_natCast,List.isEmpty_nil,List.isEmpty_cons,and_false,false_and,List.cons_ne_nil,Nat.add_zero,ite_true,ite_false,if_true,if_false,Nat.le_zero_eq,eq_self,Bool.and_false,Bool.false_and,Bool.true_and,nY,gA,gE,kg,oO,ip,fF,ed,ef,eA,eg,ite_self,bv,tX,JR,JS,JP,JQ,yx,lX,DN,Int.toNat_one,jY,iU,kZ,jh,hd1,pick,bD,go,iI,dE,gW,fx]
 repeat' with_reducible first |apply And.intro |apply condP<;>intro _
 all_goals first |(show be _ _=true;kernel_rfl)|(simp only [Ha];decide)|assumption |rfl |(exact ⟨.inl rfl,rfl⟩)|(exact ⟨.inr rfl,rfl⟩)|(simp only [go_sem, *]<;>rfl)
noncomputable def ez:fR:=one 20 (gE (True,bA true))
theorem kj:TbOK Tryz.prog ez:=fM (ew Tryz.func20 (by kernel_rfl) rfl) (.e fun _=>zx)
end
section
section
variable {v w:List X}
theorem Hn {x:X} (h:GX x):(qx (absx x)).ok=true∧(qx (absx x)).v=((x.q.at 65536).natAbs:Int):=by
 have hv:=eQ h.1 h.2
 rw [rc h.1 h.2]
 exact ⟨(gF (kO hv)).1,nZ hv⟩
theorem rx (hv:∀ x∈v,GX x) {i:Nat} (h:i<v.length):GX (v.getD i zX):=hv _ (List.mem_of_getElem? (ba zX h))
theorem wg (hv:∀ x∈v,GX x):∀ j,j≤v.length→(grN v j).ok=true∧0≤(grN v j).v∧(∀ i,i<j→(((v.getD i zX).q.at 65536).natAbs:Int)≤(grN v j).v)∧(grN v j=zX∨∃ i,i<j∧grN v j=qx (absx (v.getD i zX))):=by
 intro j
 induction j with
 |zero=>intro _;exact ⟨gx_nil.1,by rw [show grN v 0=zX from rfl,zX_v];exact Int.le_refl _,fun i hi=>by omega,.inl rfl⟩
 |succ j ih=>
  intro hj
  obtain ⟨h1,h2,h3,h4⟩:=ih (by omega)
  obtain ⟨a1,a2⟩:=Hn (rx hv (i:=j) (by omega))
  have e:grN v (j+1)=bif decide (0<cmpx (qx (absx (v.getD j zX))) (grN v j)) then qx (absx (v.getD j zX)) else grN v j:=rfl
  by_cases hc:(grN v j).v<(qx (absx (v.getD j zX))).v
  ·rw [decide_eq_true ((jO a1 h1).2 hc),cond_true] at e
   rw [e]
   refine ⟨a1,by omega,fun i hi=>?_,.inr ⟨j,by omega,rfl⟩⟩
   rcases Nat.lt_or_ge i j with hij |hij
   ·have:=h3 i hij;omega
   ·obtain rfl:i=j:=by omega
    omega
  ·rw [decide_eq_false (fun g=>hc ((jO a1 h1).1 g)),cond_false] at e
   rw [e]
   refine ⟨h1,h2,fun i hi=>?_,h4.imp id fun ⟨i,hi,h⟩=>⟨i,by omega,h⟩⟩
   rcases Nat.lt_or_ge i j with hij |hij
   ·exact h3 i hij
   ·obtain rfl:i=j:=by omega
    omega
end
theorem Dy {m:List (List X)} {i:Nat} (h:i<m.length):(trn m)[i]? =some (m.map fun r=>r.getD i zX):=by
 unfold trn
 rw [List.getElem?_map,List.getElem?_range h];rfl
theorem Dc {m:List (List X)} {i j:Nat} (h:j<m.length):(m.map fun r=>r.getD i zX)[j]? =some ((m.getD j []).getD i zX):=by
 rw [List.getElem?_map,ba [] h];rfl
end
end Go.Proofs.YtpacpmmdjmnamaaGreatDoor
