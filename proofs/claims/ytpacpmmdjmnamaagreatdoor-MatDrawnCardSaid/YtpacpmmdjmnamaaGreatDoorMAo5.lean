/- Some matrices that the statements know. -/
import Derived.Test.YtpacpmmdjmnamaaGreatDoorMAo4
import Derived.Test.YtpacpmmdjmnamaaGreatDoorMAj1
import Derived.Test.YtpacpmmdjmnamaaGreatDoorMAj2
namespace Go.Proofs.YtpacpmmdjmnamaaGreatDoor
open Go.RowKit Nx
set_option linter.unusedVariables false
set_option linter.unusedSimpArgs false
attribute [local irreducible] ar
noncomputable def r8:b9:=one 36 (CX fun l l1=>(l=l1,bA true))
theorem wZ:TbOK Tryz.prog r8:=aH (aX Tryz.func36 (by kernel_rfl) rfl) fun args e h hp=>by
 obtain ⟨l,l1,rfl,rfl⟩:=N6 h
 have hp:l=l1:=hp
 subst hp
 exact Ss rfl (fun w Al nl cl Al1 nl1 cl1 ht hl hn hl1 hn1=>(AC w 0 w.heap.size 0 w.heap.size Al Al1 nl cl nl1 cl1 l hl.1 hl1.1 (by omega)).mono fun _ _ h=>by obtain ⟨m,he,hw⟩:=h;subst hw;exact te ⟨he,bV (Below.refl _ _) m⟩)
theorem dX {s:Bool} {m:Nat} {e:Int} (h1:nbits m≤256) (h2: -65536≤e) (h3:e≤65536):fm ⟨s,m,e⟩:=l4 h1 h2 h3
theorem mG {a b:Q} (fa:fm a) (fb:fm b):dr a b=(⟨qx a,qx b⟩,0):=by unfold dr;rw [cC fa,cC fb];rfl
abbrev x0:X:=⟨false,0,[]⟩
abbrev x1:X:=⟨false,0,[1]⟩
abbrev x2:X:=⟨false,1,[1]⟩
abbrev x4:X:=⟨false,2,[1]⟩
abbrev x5:X:=⟨false,0,[5]⟩
abbrev pt (x:X):J:=⟨x,x⟩
theorem GI:cB (pt x1) (pt x1) 16=(pt x1,0):=by
 rw [lH ⟨ca (by decide),ca (by decide)⟩ ⟨ca (by decide),ca (by decide)⟩,show ft 2 (pt x1) (pt x1) 16=dr ⟨false,1,0⟩ ⟨false,1,0⟩ by kernel_rfl,mG (dX (by decide) (by decide) (by decide)) (dX (by decide) (by decide) (by decide))]
 kernel_rfl
theorem Ms:cB (pt x1) (pt x2) 16=(pt x2,0):=by
 rw [lH ⟨ca (by decide),ca (by decide)⟩ ⟨ca (by decide),ca (by decide)⟩,show ft 2 (pt x1) (pt x2) 16=dr ⟨false,1,1⟩ ⟨false,1,1⟩ by kernel_rfl,mG (dX (by decide) (by decide) (by decide)) (dX (by decide) (by decide) (by decide))]
 kernel_rfl
theorem QX:cB (pt x1) (pt x0) 16=(pt x0,0):=by
 rw [lH ⟨ca (by decide),ca (by decide)⟩ ⟨Small.nil,Small.nil⟩,show ft 2 (pt x1) (pt x0) 16=dr ⟨false,0,0⟩ ⟨false,0,0⟩ by kernel_rfl,mG (dX (by decide) (by decide) (by decide)) (dX (by decide) (by decide) (by decide))]
 kernel_rfl
theorem Mt:cB (pt x2) (pt x0) 16=(pt x0,0):=by
 rw [lH ⟨ca (by decide),ca (by decide)⟩ ⟨Small.nil,Small.nil⟩,show ft 2 (pt x2) (pt x0) 16=dr ⟨false,0,0⟩ ⟨false,0,0⟩ by kernel_rfl,mG (dX (by decide) (by decide) (by decide)) (dX (by decide) (by decide) (by decide))]
 kernel_rfl
theorem GK:cB (pt x2) (pt x1) 16=(pt x2,0):=by
 rw [lH ⟨ca (by decide),ca (by decide)⟩ ⟨ca (by decide),ca (by decide)⟩,show ft 2 (pt x2) (pt x1) 16=dr ⟨false,1,1⟩ ⟨false,1,1⟩ by kernel_rfl,mG (dX (by decide) (by decide) (by decide)) (dX (by decide) (by decide) (by decide))]
 kernel_rfl
theorem Mr:cB (pt x0) (pt x1) 16=(pt x0,0):=by
 rw [lH ⟨Small.nil,Small.nil⟩ ⟨ca (by decide),ca (by decide)⟩,show ft 2 (pt x0) (pt x1) 16=dr ⟨false,0,0⟩ ⟨false,0,0⟩ by kernel_rfl,mG (dX (by decide) (by decide) (by decide)) (dX (by decide) (by decide) (by decide))]
 kernel_rfl
theorem QW:cB (pt x0) (pt x2) 16=(pt x0,0):=by
 rw [lH ⟨Small.nil,Small.nil⟩ ⟨ca (by decide),ca (by decide)⟩,show ft 2 (pt x0) (pt x2) 16=dr ⟨false,0,0⟩ ⟨false,0,0⟩ by kernel_rfl,mG (dX (by decide) (by decide) (by decide)) (dX (by decide) (by decide) (by decide))]
 kernel_rfl
theorem Mu:cB (pt x2) (pt x2) 16=(pt x4,0):=by
 rw [lH ⟨ca (by decide),ca (by decide)⟩ ⟨ca (by decide),ca (by decide)⟩,show ft 2 (pt x2) (pt x2) 16=dr ⟨false,1,2⟩ ⟨false,1,2⟩ by kernel_rfl,mG (dX (by decide) (by decide) (by decide)) (dX (by decide) (by decide) (by decide))]
 kernel_rfl
theorem QR:cH (pt x1) (pt x0) 16=(pt x1,0):=by
 rw [lB,show ft 0 (pt x1) (pt x0) 16=dr ⟨false,1,0⟩ ⟨false,1,0⟩ by kernel_rfl,mG (dX (by decide) (by decide) (by decide)) (dX (by decide) (by decide) (by decide))]
 kernel_rfl
theorem QU:cH (pt x2) (pt x2) 16=(pt x4,0):=by
 rw [lB,show ft 0 (pt x2) (pt x2) 16=dr ⟨false,1,2⟩ ⟨false,1,2⟩ by kernel_rfl,mG (dX (by decide) (by decide) (by decide)) (dX (by decide) (by decide) (by decide))]
 kernel_rfl
theorem Mp:cH (pt x0) (pt x0) 16=(pt x0,0):=by
 rw [lB,show ft 0 (pt x0) (pt x0) 16=dr ⟨false,0,0⟩ ⟨false,0,0⟩ by kernel_rfl,mG (dX (by decide) (by decide) (by decide)) (dX (by decide) (by decide) (by decide))]
 kernel_rfl
theorem QO:cH (pt x0) (pt x1) 16=(pt x1,0):=by
 rw [lB,show ft 0 (pt x0) (pt x1) 16=dr ⟨false,1,0⟩ ⟨false,1,0⟩ by kernel_rfl,mG (dX (by decide) (by decide) (by decide)) (dX (by decide) (by decide) (by decide))]
 kernel_rfl
theorem QS:cH (pt x1) (pt x4) 16=(pt x5,0):=by
 rw [lB,show ft 0 (pt x1) (pt x4) 16=dr ⟨false,5,0⟩ ⟨false,5,0⟩ by kernel_rfl,mG (dX (by decide) (by decide) (by decide)) (dX (by decide) (by decide) (by decide))]
 kernel_rfl
theorem QP:cH (pt x0) (pt x2) 16=(pt x2,0):=by
 rw [lB,show ft 0 (pt x0) (pt x2) 16=dr ⟨false,1,1⟩ ⟨false,1,1⟩ by kernel_rfl,mG (dX (by decide) (by decide) (by decide)) (dX (by decide) (by decide) (by decide))]
 kernel_rfl
theorem Mq:cH (pt x1) (pt x1) 16=(pt x2,0):=by
 rw [lB,show ft 0 (pt x1) (pt x1) 16=dr ⟨false,1,1⟩ ⟨false,1,1⟩ by kernel_rfl,mG (dX (by decide) (by decide) (by decide)) (dX (by decide) (by decide) (by decide))]
 kernel_rfl
theorem QT:cH (pt x2) (pt x0) 16=(pt x2,0):=by
 rw [lB,show ft 0 (pt x2) (pt x0) 16=dr ⟨false,1,1⟩ ⟨false,1,1⟩ by kernel_rfl,mG (dX (by decide) (by decide) (by decide)) (dX (by decide) (by decide) (by decide))]
 kernel_rfl
theorem Mw:lM (pt x2) (pt x1) 16=(pt x1,0):=by
 rw [wI,show ft 1 (pt x2) (pt x1) 16=dr ⟨false,1,0⟩ ⟨false,1,0⟩ by kernel_rfl,mG (dX (by decide) (by decide) (by decide)) (dX (by decide) (by decide) (by decide))]
 kernel_rfl
theorem QZ:lM (pt x2) (pt x0) 16=(pt x2,0):=by
 rw [wI,show ft 1 (pt x2) (pt x0) 16=dr ⟨false,1,1⟩ ⟨false,1,1⟩ by kernel_rfl,mG (dX (by decide) (by decide) (by decide)) (dX (by decide) (by decide) (by decide))]
 kernel_rfl
theorem QY:lM (pt x0) (pt x0) 16=(pt x0,0):=by
 rw [wI,show ft 1 (pt x0) (pt x0) 16=dr ⟨false,0,0⟩ ⟨false,0,0⟩ by kernel_rfl,mG (dX (by decide) (by decide) (by decide)) (dX (by decide) (by decide) (by decide))]
 kernel_rfl
theorem SD:iZ (pt x0) 16=(x0,0):=by
 rw [v5 ⟨Small.nil,Small.nil⟩]
 unfold lK
 rw [show rnd (Int.toNat 16) false (Bi (plus (pt x0).lo.q (pt x0).hi.q))=⟨false,0,0⟩ by kernel_rfl,cC (dX (by decide) (by decide) (by decide))]
 kernel_rfl
theorem QV:iZ (pt x1) 16=(x1,0):=by
 rw [v5 ⟨ca (by decide),ca (by decide)⟩]
 unfold lK
 rw [show rnd (Int.toNat 16) false (Bi (plus (pt x1).lo.q (pt x1).hi.q))=⟨false,1,0⟩ by kernel_rfl,cC (dX (by decide) (by decide) (by decide))]
 kernel_rfl
theorem SE:iZ (pt x2) 16=(x2,0):=by
 rw [v5 ⟨ca (by decide),ca (by decide)⟩]
 unfold lK
 rw [show rnd (Int.toNat 16) false (Bi (plus (pt x2).lo.q (pt x2).hi.q))=⟨false,1,1⟩ by kernel_rfl,cC (dX (by decide) (by decide) (by decide))]
 kernel_rfl
def mA2:List (List J):=[[pt x1,pt x2],[pt x0,pt x1]]
def Tp:List (List J):=[[pt x1,pt x4],[pt x0,pt x1]]
def mI2:List (List J):=[[pt x1,pt x0],[pt x0,pt x1]]
def mS2:List (List J):=[[pt x2,pt x2],[pt x0,pt x2]]
def Tq:List (List J):=[[pt x2,pt x4],[pt x0,pt x2]]
def wL (T:b9) (g:FuncId):dI:=fun f d st args=>if f=g then (match args with
 |[.v false [.osl b n]]=>(match look st (2*b+1) with
  |some (.v _ ls)=>(match rj (ls.map (po st)) with
   |some ks=>if ls.length=n*(ls.length / n) then (match T f [.v false [.sl false (ls.length / n) n ks]] with
    |some e=>some (e.1,(2*b+1)::ls.flatMap olL,[(2*d,e.2)])
    |none=>none) else none
   |none=>none)
  |_=>none)
 |_=>none) else none
theorem dnL_no:∀ {ls:List Lf} {ks:List Lc},rj ls=some ks→ls.all Ej=true:=by
 intro ls
 induction ls with
 |nil=>intro ks _;rfl
 |cons l ls ih=>
  intro ks h
  cases l<;>simp only [rj] at h<;>first |(cases h;done)|(split at h<;>first |(cases h;done)|(rename_i k hk;rw [List.all_cons,ih hk];rfl))
theorem LI {T:b9} {g:FuncId} {w0:World} (h:TbOK Tryz.prog T):OrOK Tryz.prog (wL T g) (fun _=>False) w0:=by
 have inv:∀ f d st args e,wL T g f d st args=some e→∃ b n m ls ks q,args=[.v false [.osl b n]]∧look st (2*b+1)=some (.v m ls)∧rj (ls.map (po st))=some ks∧ls.length=n*(ls.length / n)∧T f [.v false [.sl false (ls.length / n) n ks]]=some q∧e=(q.1,(2*b+1)::ls.flatMap olL,[(2*d,q.2)]):=by
  intro f d st args e he
  unfold wL at he
  split at he
  case isFalse=>cases he
  split at he
  case h_2=>cases he
  rename_i b n
  split at he
  case h_2=>cases he
  rename_i m ls hl
  split at he
  case h_2=>cases he
  rename_i ks hk
  split at he
  case isFalse=>cases he
  rename_i hn
  split at he
  case h_2=>cases he
  rename_i q hq
  injection he with he
  exact ⟨b,n,m,ls,ks,q,rfl,hl,hk,hn,hq,he.symm⟩
 refine ⟨fun f d st args e he=>?_,fun f d st args e he hp N ρ a w us hz hd hA=>?_,fun f d st st' args e he hkk=>?_⟩
 ·obtain ⟨b,n,m,ls,ks,q,_,_,_,_,hq,_⟩:=inv _ _ _ _ _ he
  exact h.enters f _ q hq
 ·obtain ⟨b,n,m,ls,ks,q,rfl,hl,hk,hn,hq,rfl⟩:=inv _ _ _ _ _ he
  obtain ⟨u,r,rfl,hu,hr⟩:=hA
  have hu:(Lf.osl b n).R ρ (dom st) w u:=RL.one.1 hu
  have hA2:RA ρ.no (fun _=>false) w [.v false [.sl false (ls.length / n) n ks]] (u::r):=by
   refine ⟨u,r,rfl,RL.one.2 ?_,hr⟩
   obtain ⟨hdb,hu⟩:=hu
   obtain ⟨g0,ls0,T0,cs,e0,hB,hr0,ho0,hg⟩:=hz.mv hl
   injection e0 with e1 e0;subst e0
   have hlen:=hr0.len
   rw [Array.length_toList] at hlen
   have hkl:=zo hk
   rw [List.length_map] at hkl
   refine ⟨by rw [hkl];exact hn,_,n,hu,Nat.le_refl _,.inr ⟨⟨ρ b,0,none⟩,T0,cs,rfl,rfl,⟨qC,fun e=>(by cases e)⟩,hB.wb,?_,?_⟩⟩
   ·show 0+ks.length≤cs.size;omega
   ·show LcL _ w ks ((cs.toList.drop 0).take ks.length)
    rw [List.drop_zero,List.take_of_length_le (by rw [Array.length_toList];omega)]
    exact NT (fun g hg=>⟨hg,fun e=>(by cases e)⟩) hk (cv_RL hz hr0 (dnL_no hk))
  refine (h.ct f _ q hq hp ρ.no (fun _=>false) w _ (hz.tb.tab hz.bel) hA2).mono ?_
  rintro en w' ⟨v,r0,rfl,rfl,hc,hR,hb⟩
  exact ⟨v,ρ,rfl,hz.val hb hd (hR _ _ hz.old)⟩
 ·obtain ⟨b,n,m,ls,ks,q,rfl,hl,hk,hn,hq,rfl⟩:=inv _ _ _ _ _ he
  have hm:ls.map (po st')=ls.map (po st):=List.map_congr_left fun l hl'=>ui fun k hk'=>hkk k (List.mem_cons_of_mem _ (List.mem_flatMap.2 ⟨l,hl',hk'⟩))
  rw [←he]
  unfold wL
  simp only [hkk (2*b+1) (List.mem_cons_self ..),hl,hm]
theorem LJ {T:b9} {g:FuncId} {B:dI} {w0:World} (hA:OrOK Tryz.prog (wL T g) (fun _=>False) w0) (hB:OrOK Tryz.prog B (fun _=>False) w0) (hn:∀ d st args,B g d st args=none):OrOK Tryz.prog (bO (wL T g) B) (fun _=>False) w0:=
 mO hA hB fun f d st args e he st'=>by
  unfold wL
  split
  ·rename_i h;subst h;rw [hn] at he;cases he
  ·rfl
theorem fG {α:Type} {F:Nat→α×Int} {x y:α} (h0:F 0=(x,0)) (h1:F 1=(y,0)):eachN F 2=([x,y],0):=by
 rw [bh (F:=F) (j:=1) (by rw [bh (F:=F) (j:=0) rfl (by rw [h0])]) (by rw [h1]),bh (F:=F) (j:=0) rfl (by rw [h0]),h0,h1];rfl
theorem lu {α:Type} {z:α} {F:Nat→α×Int} {add:α→α→α×Int} {x y s:α} (h0:F 0=(x,0)) (h1:F 1=(y,0)) (h2:add x y=(s,0)):aC z F add 2=(s,0):=by
 have e:aC z F add 1=(x,0):=by rw [pc (j:=0) rfl,h0];rfl
 rw [pc (j:=1) (by rw [e]),e,h1]
 show (bif (add x y).2 !=0 then (z,(add x y).2) else ((add x y).1,0))=_
 rw [h2];rfl
theorem rV {α:Type} {φ:J→α×Int} {l:List J} {x y:α} (hr:rightB l=true) (hl:l.length=2) (h0:φ (l.getD 0 zJ)=(x,0)) (h1:φ (l.getD 1 zJ)=(y,0)):fU φ l=([x,y],0):=by
 unfold fU;rw [hr,hl];exact fG h0 h1
theorem pZ {α:Type} {φ:J→J→α×Int} {l m:List J} {x y:α} (hr:rightB l=true) (hm:rightB m=true) (hl:l.length=2) (hk:m.length=2) (h0:φ (l.getD 0 zJ) (m.getD 0 zJ)=(x,0)) (h1:φ (l.getD 1 zJ) (m.getD 1 zJ)=(y,0)):cR φ l m=([x,y],0):=by
 unfold cR;rw [hr,hm,hl,hk];exact fG h0 h1
theorem Ox:fL (mN mA2 mA2 16) (eachN (fun i=>eachN (fun j=>aC zJ (fun k=>cB (bS mA2 i k) (bS mA2 k j) 16) (fun s x=>cH s x 16) mA2.length) mA2.length) mA2.length)=(Tp,0):=by
 rw [show mN mA2 mA2 16=true by kernel_rfl]
 exact fG (fG (lu GI Mt QR) (lu Ms GK QU)) (fG (lu Mr QX Mp) (lu QW GI QO))
theorem Ou:fL (mN mA2 mI2 16) (eachN (fun i=>cR (fun x y=>cH x y 16) (mA2.getD i []) (mI2.getD i [])) mA2.length)=(mS2,0):=by
 rw [show mN mA2 mI2 16=true by kernel_rfl]
 exact fG (pZ (by kernel_rfl) (by kernel_rfl) rfl rfl Mq QT) (pZ (by kernel_rfl) (by kernel_rfl) rfl rfl Mp Mq)
theorem Oy:fL (mN mS2 mI2 16) (eachN (fun i=>cR (fun x y=>lM x y 16) (mS2.getD i []) (mI2.getD i [])) mS2.length)=(mA2,0):=by
 rw [show mN mS2 mI2 16=true by kernel_rfl]
 exact fG (pZ (by kernel_rfl) (by kernel_rfl) rfl rfl Mw QZ) (pZ (by kernel_rfl) (by kernel_rfl) rfl rfl QY Mw)
theorem Oz:fL (bif okJ (pt x2) then we mA2 16 else false) (eachN (fun i=>fU (fun y=>cB (pt x2) y 16) (mA2.getD i [])) mA2.length)=(Tq,0):=by
 rw [show (bif okJ (pt x2) then we mA2 16 else false)=true by kernel_rfl]
 exact fG (rV (by kernel_rfl) rfl GK Mu) (rV (by kernel_rfl) rfl Mt GK)
theorem Ow:fL (we mA2 16) (eachN (fun i=>fU (fun y=>iZ y 16) (mA2.getD i [])) mA2.length)=([[x1,x2],[x0,x1]],0):=by
 rw [show we mA2 16=true by kernel_rfl]
 exact fG (rV (by kernel_rfl) rfl QV SE) (rV (by kernel_rfl) rfl SD QV)
theorem OA:fL (OS mA2 [pt x1,pt x2] 16) (eachN (fun i=>aC zJ (fun k=>cB (bS mA2 i k) ([pt x1,pt x2].getD k zJ) 16) (fun s x=>cH s x 16) mA2.length) mA2.length)=([pt x5,pt x2],0):=by
 rw [show OS mA2 [pt x1,pt x2] 16=true by kernel_rfl]
 exact fG (lu GI Mu QS) (lu Mr Ms QP)
theorem Mo {a b:X} {q:Q} (ha:a.ok=true) (hb:b.ok=true) (hr:rnd (Int.toNat 16) true (plus a.q b.q)=q) (hq:fm q):qc 16 a b=(qx q,0):=by
 unfold qc
 rw [iS ha hb (by kernel_rfl)]
 unfold mI
 rw [hr,cC hq]
theorem Ov:PM ([⟨false,0,[3]⟩,x1],0)=(⟨false,0,[3]⟩,0):=by kernel_rfl
theorem Kf:sU mA2 16=(⟨false,0,[3]⟩,0):=by
 unfold sU
 rw [show we mA2 16=true by kernel_rfl,cond_true]
 have h1:qc 16 x1 x2=(⟨false,0,[3]⟩,0):=(Mo (q:=⟨false,3,0⟩) (by kernel_rfl) (by kernel_rfl) (by kernel_rfl) (dX (by decide) (by decide) (by decide))).trans (by kernel_rfl)
 have h2:qc 16 x0 x1=(x1,0):=(Mo (q:=⟨false,1,0⟩) (by kernel_rfl) (by kernel_rfl) (by kernel_rfl) (dX (by decide) (by decide) (by decide))).trans (by kernel_rfl)
 have e0:aC zX (fun k=>(iD (bS mA2 0 k),0)) (qc 16) 2=(⟨false,0,[3]⟩,0):=lu (x:=x1) (y:=x2) (by kernel_rfl) (by kernel_rfl) h1
 have e1:aC zX (fun k=>(iD (bS mA2 1 k),0)) (qc 16) 2=(x1,0):=lu (x:=x0) (y:=x1) (by kernel_rfl) (by kernel_rfl) h2
 have e2:eachN (fun i=>aC zX (fun k=>(iD (bS mA2 i k),0)) (qc 16) mA2.length) mA2.length=([⟨false,0,[3]⟩,x1],0):=fG (F:=fun i=>aC zX (fun k=>(iD (bS mA2 i k),0)) (qc 16) 2) e0 e1
 rw [e2]
 exact Ov
theorem QM:qh 2=mI2:=by kernel_rfl
theorem QN:Mm mA2 mA2=true:=by kernel_rfl
theorem Kg:rr mA2 mA2=true:=by kernel_rfl
theorem SC:rightM mA2=true:=by kernel_rfl
theorem Nf (a:List (List X)) (h0:1≤a.length) (h1:a.length≤100) (h2:∀ r∈a,r.length≤100):Ct Tryz.prog 16 [wl a] (·= .s (.sl true 1 (a.map poi).length ((a.map poi).map rC))):=Hv a h0 h1 h2
noncomputable def Nd:b9:=one 16 (gA Jp fun a=>gE (a=[[x1,x2],[x0,x1]],.s (mL mA2)))
theorem Jh:TbOK Tryz.prog Nd:=bI (aX Tryz.func16 (by kernel_rfl) rfl) (.a sn fun a=>.e fun h=>by subst h;exact Nf [[x1,x2],[x0,x1]] (by decide) (by decide) (by decide))
noncomputable def EJ:b9:=one 26 (gA kU fun a=>gA kU fun b=>gA jd fun p=>gE (a=mA2∧b=mA2∧p=16,.tup [(false,[.sl true 1 2 [.sl 6 2 [.lit (.bool false),.lit (.int .i64 0),.ws [1],.lit (.bool false),.lit (.int .i64 0),.ws [1],.lit (.bool false),.lit (.int .i64 2),.ws [1],.lit (.bool false),.lit (.int .i64 2),.ws [1]],.sl 6 2 [.lit (.bool false),.lit (.int .i64 0),.ws [],.lit (.bool false),.lit (.int .i64 0),.ws [],.lit (.bool false),.lit (.int .i64 0),.ws [1],.lit (.bool false),.lit (.int .i64 0),.ws [1]]]]),(false,[.lit (.int .i64 0)])]))
theorem EK:TbOK Tryz.prog EJ:=bI (aX Tryz.func26 (by kernel_rfl) rfl) (.a bi fun a=>.a bi fun b=>.a bK fun p=>.e fun h=>by
 obtain ⟨rfl,rfl,rfl⟩:=h
 have:=Rb mA2 mA2 16
 rw [Ox] at this;exact this)
noncomputable def ED:b9:=one 30 (gA kU fun a=>gA kU fun b=>gA jd fun p=>gE (a=mA2∧b=mI2∧p=16,oz (mS2,0)))
theorem EE:TbOK Tryz.prog ED:=bI (aX Tryz.func30 (by kernel_rfl) rfl) (.a bi fun a=>.a bi fun b=>.a bK fun p=>.e fun h=>by
 obtain ⟨rfl,rfl,rfl⟩:=h
 have:=Q7 mA2 mI2 16
 rw [Ou] at this;exact this)
noncomputable def EN:b9:=one 32 (gA kU fun a=>gA kU fun b=>gA jd fun p=>gE (a=mS2∧b=mI2∧p=16,oz (mA2,0)))
theorem EO:TbOK Tryz.prog EN:=bI (aX Tryz.func32 (by kernel_rfl) rfl) (.a bi fun a=>.a bi fun b=>.a bK fun p=>.e fun h=>by
 obtain ⟨rfl,rfl,rfl⟩:=h
 have:=Re mS2 mI2 16
 rw [Oy] at this;exact this)
noncomputable def EP:b9:=one 33 (gA ki fun x=>gA kU fun a=>gA jd fun p=>gE (x=pt x2∧a=mA2∧p=16,.tup [(false,[.sl true 1 2 [.sl 6 2 [.lit (.bool false),.lit (.int .i64 1),.ws [1],.lit (.bool false),.lit (.int .i64 1),.ws [1],.lit (.bool false),.lit (.int .i64 2),.ws [1],.lit (.bool false),.lit (.int .i64 2),.ws [1]],.sl 6 2 [.lit (.bool false),.lit (.int .i64 0),.ws [],.lit (.bool false),.lit (.int .i64 0),.ws [],.lit (.bool false),.lit (.int .i64 1),.ws [1],.lit (.bool false),.lit (.int .i64 1),.ws [1]]]]),(false,[.lit (.int .i64 0)])]))
theorem EQ:TbOK Tryz.prog EP:=bI (aX Tryz.func33 (by kernel_rfl) rfl) (.a nU fun x=>.a bi fun a=>.a bK fun p=>.e fun h=>by
 obtain ⟨rfl,rfl,rfl⟩:=h
 have:=Rf (pt x2) mA2 16
 rw [Oz] at this;exact this)
noncomputable def EH:b9:=one 35 (gA kU fun a=>gA jd fun p=>gE (a=mA2∧p=16,.tup [(false,[.sl true 1 2 [.sl 3 2 [.lit (.bool false),.lit (.int .i64 0),.ws [1],.lit (.bool false),.lit (.int .i64 1),.ws [1]],.sl 3 2 [.lit (.bool false),.lit (.int .i64 0),.ws [],.lit (.bool false),.lit (.int .i64 0),.ws [1]]]]),(false,[.lit (.int .i64 0)])]))
theorem EI:TbOK Tryz.prog EH:=bI (aX Tryz.func35 (by kernel_rfl) rfl) (.a bi fun a=>.a bK fun p=>.e fun h=>by
 obtain ⟨rfl,rfl⟩:=h
 have:=Ra mA2 16
 rw [Ow] at this;exact this)
noncomputable def ER:b9:=one 28 (gA kU fun a=>gA jC fun b=>gA jd fun p=>gE (a=mA2∧b=[pt x1,pt x2]∧p=16,.tup [(false,[.sl true 6 2 [.lit (.bool false),.lit (.int .i64 0),.ws [5],.lit (.bool false),.lit (.int .i64 0),.ws [5],.lit (.bool false),.lit (.int .i64 1),.ws [1],.lit (.bool false),.lit (.int .i64 1),.ws [1]]]),(false,[.lit (.int .i64 0)])]))
theorem ES:TbOK Tryz.prog ER:=bI (aX Tryz.func28 (by kernel_rfl) rfl) (.a bi fun a=>.a dB fun b=>.a bK fun p=>.e fun h=>by
 obtain ⟨rfl,rfl,rfl⟩:=h
 have:=Rg mA2 [pt x1,pt x2] 16
 rw [OA] at this;exact this)
noncomputable def EL:b9:=one 27 (gA kU fun a=>gA jd fun p=>gE (a=mA2∧p=16,.tup [(true,[.lit (.bool false),.lit (.int .i64 0),.ws [3]]),(false,[.lit (.int .i64 0)])]))
theorem EM:TbOK Tryz.prog EL:=bI (aX Tryz.func27 (by kernel_rfl) rfl) (.a bi fun a=>.a bK fun p=>.e fun h=>by
 obtain ⟨rfl,rfl⟩:=h
 have:=Rc mA2 16
 rw [Kf] at this;exact this)
noncomputable def Nb:b9:=one 31 (gA jd fun z=>gE (z=2,.s (mL mI2)))
theorem Jf:TbOK Tryz.prog Nb:=bI (aX Tryz.func31 (by kernel_rfl) rfl) (.a bK fun z=>.e fun h=>by
 subst h
 have:=SF 2 (by kernel_rfl)
 rw [QM] at this;exact this)
noncomputable def EF:b9:=one 29 (gA tY fun l=>gE (l=[x1,x2],.s (.sl true 6 2 [.lit (.bool false),.lit (.int .i64 0),.ws [1],.lit (.bool false),.lit (.int .i64 0),.ws [1],.lit (.bool false),.lit (.int .i64 1),.ws [1],.lit (.bool false),.lit (.int .i64 1),.ws [1]])))
theorem EG:TbOK Tryz.prog EF:=bI (aX Tryz.func29 (by kernel_rfl) rfl) (.a vu fun l=>.e fun h=>by subst h;exact FN [x1,x2] (by decide) (by decide))
noncomputable def y8:b9:=one 37 (gA kU fun a=>gA kU fun b=>gE (a=mA2∧b=mA2,bA true))
theorem Cf:TbOK Tryz.prog y8:=bI (aX Tryz.func37 (by kernel_rfl) rfl) (.a bi fun a=>.a bi fun b=>.e fun h=>by
 obtain ⟨rfl,rfl⟩:=h
 have:=KW mA2 mA2 (by decide)
 rw [Kg] at this;exact this)
noncomputable def vj:b9:=one 19 (gA kU fun a=>gE (a=mA2,bA true))
theorem y7:TbOK Tryz.prog vj:=bI (aX Tryz.func19 (by kernel_rfl) rfl) (.a bi fun a=>.e fun h=>by
 subst h
 have:=Bn mA2
 rw [SC] at this;exact this)
noncomputable def Nc:b9:=one 15 (gA kU fun a=>gA kU fun b=>gE (a=mA2∧b=mA2,bA true))
theorem Jg:TbOK Tryz.prog Nc:=bI (aX Tryz.func15 (by kernel_rfl) rfl) (.a bi fun a=>.a bi fun b=>.e fun h=>by
 obtain ⟨rfl,rfl⟩:=h
 have:=My mA2 mA2 (by decide)
 rw [QN] at this;exact this)
attribute [local irreducible] mA2 mS2 mI2
set_option maxRecDepth 100000 in
set_option maxHeartbeats 4000000 in
theorem GL:Ct Tryz.prog 6 [] (·=bA true):=by
 refine ak (O:=bO (wL Nd 16) (ai (aF EJ (aF EL (aF EF (aF ER (aF Nb (aF ED (aF EN (aF jW (aF EP (aF EH (aF r8 (aF y8 (aF vj Nc))))))))))))))) (by kernel_rfl) ah (fun w=>LJ (LI Jh) (aa (ab EK (ab EM (ab EG (ab ES (ab Jf (ab EE (ab EO (ab nQ (ab EQ (ab EI (ab wZ (ab Cf (ab y7 Jg))))))))))))) _ w) (fun _ _ _=>bf fun _=>dx (bz (by decide)) (dx (bz (by decide)) (dx (bz (by decide)) (dx (bz (by decide)) (dx (bz (by decide)) (dx (bz (by decide)) (dx (bz (by decide)) (dx (bz (by decide)) (dx (bz (by decide)) (dx (bz (by decide)) (dx (bz (by decide)) (dx (bz (by decide)) (dx (bz (by decide)) (bz (by decide)))))))))))))))) [] 4000 176 [.tmp 0] Tryz.func6 rfl Tryz.ntmps6 (by rw [Tryz.results6]) (by simp) rfl (fun hsm=>?_)
 simp (maxSteps:=10000000) only [run,seval,ji,X.L,J.L,vL,X.eta,J.eta,Q.eta,List.cons_append,List.nil_append,tZ,cu,cw,aZ,a5,bN,Aa,kN,tX,m6,bR,eG,dH,eF,eE,iV,iU,jx,jy,il,I3,qE,okO,v8,I8,ju,jw,iW,inL,bH,bx,dom,kV,tQ,Bb,evd,okeys,look,lZ,lC,jG,j7,lenOf,ri,vE,MN,xG,MT,rc,LO,MP,Em,MS,MQ,yN,MR,I9,ru,yw,rv,yx,cZ,Dy,keysOf,ai,mn,po,rj,olA,olL,Ej,Bt,qu,Cp,aF,↓cond_true,↓cond_false,↓bu,eJ,one,fK,k7,e7,aT,nG,rE,outPs,mX,outL,fD,k8,oI,rI,jf,decide_true,decide_false,reduceCtorEq,List.all_cons,List.all_nil,Bool.and_true,Bool.and_self,true_and,and_true,and_self,List.length_cons,List.length_nil,List.drop_succ_cons,List.drop_zero,List.take_succ_cons,List.take_zero,List.getElem?_cons_zero,List.getElem?_cons_succ,List.map_cons,List.map_nil,false_implies,true_implies,Option.bind_some,List.getElem?_toArray,Bool.false_eq_true,List.append_nil,List.flatMap_cons,List.flatMap_nil,true_or,or_true,forall_const,List.reverse_cons,List.reverse_nil,Option.isSome_some,Option.any_some,Nat.lt_irrefl,not_true_eq_false,Bool.not_true,Bool.not_false,imp_self,implies_true,Bool.not_eq_true',Bool.not_eq_false',Bool.true_eq_false,dQ,cntF,nmL,o8,nmA,tn,tR,uc,bB,pH,cT,bO,rp,Int.toNat_zero,decide_eq_true_eq,eH,eU,rf,rh,BEq.rfl,beq_self_eq_true,Int.natCast_zero,ge_iff_le,gt_iff_lt,Int.le_refl,Nat.zero_mul,Nat.one_mul,Nat.zero_add,Nat.zero_lt_succ,Nat.lt_add_one,Nat.le_refl,List.append_eq,dM,cV,dS,cW,↓fc,↓fd,↓gG,↓gH,↓gT,↓gU,↓dR,↓eu,↓gW,↓gX,↓gK,↓gL,↓gR,↓gS,↓gw,↓gD,↓gO,↓gQ,bne_self_eq_false,wr2,Eo,Ep,Er,Es,Et,Eu,gN,ur,I6,gI,CW,mW,gJ,l5,PK,sG,I4,gB,gP,zu,Eh,Ei,ry,g9,cU,iP,dz,jM,Lc.up,AA,BO,pY,Int.toNat_natCast,List.replicate_succ,List.replicate_zero,List.flatten_cons,List.flatten_nil,Int.ofNat_lt,Int.cast_ofNat_Int,Int.ofNat_eq_natCast,List.isEmpty_nil,List.isEmpty_cons,and_false,false_and,List.cons_ne_nil,Nat.add_zero,ite_true,ite_false,if_true,if_false,Nat.le_zero_eq,eq_self,Bool.and_false,Bool.false_and,Bool.true_and,nN,ou,fJ,gA,gE,jd,yK,ki,oy,jH,jI,j8,j9,ite_self,fN,mo,cm,jh,lF,bT,Nd,EJ,EL,EF,ER,Nb,ED,EN,jW,EP,EH,r8,y8,vj,Nc,jC,ox,nw,qg,tY,m7,Jp,xg,CX,x0,x1,x2,pt,mL,oz,wL,bP,cp,eZ,dU,hd1,pick,ax,eo,eY,cr,eI,dt]
 repeat' with_reducible first |apply And.intro |apply condP<;>intro _
 all_goals first |(show ar _ _=true;kernel_rfl)|(simp only [QL];decide)|assumption |rfl |(simp only [go_sem, *]<;>rfl)
noncomputable def fV:b9:=one 6 (gE (True,bA true))
theorem w9:TbOK Tryz.prog fV:=bI (aX Tryz.func6 (by kernel_rfl) rfl) (.e fun _=>GL)
end Go.Proofs.YtpacpmmdjmnamaaGreatDoor
