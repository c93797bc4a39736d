/- fathomlineref1.Bits. fathomlineref1: Div, what its loop keeps. fathomlineref1: Div. fathomlineref1: Down, and whether bits were lost. -/
import Derived.Test.YtpacpmmdjmnamaaGreatDoorYRefX
import Derived.Test.YtpacpmmdjmnamaaGreatDoorYRefY
namespace Go.Proofs.YtpacpmmdjmnamaaGreatDoor
set_option maxHeartbeats 4000000
set_option maxRecDepth 100000
open Go.RowKit Nx
section
def Ep (N m:Nat) (u v:Value):Prop:=∃ y c:Nat,u= .int .u32 (y:Int)∧v= .int .i64 (c:Int)∧Hid (N=c+nbits y)∧c≤32*m+64∧Hid (y<B32)
theorem lJ (w:World) (lo hi:Nat) (A:Option Addr) (n c N:Nat) (h:Rd .u32 w lo hi A n c (digs B32 N)) (hn:n≤100000000):
  Calls Tryz.prog 127 #[.slice A n c] w fun e w'=>e= .returned (.int .i64 (nbits N:Int))∧w=w':=by
 have H:=Lib.hid h
 clear h
 obtain ⟨M,hM⟩:∃ M,M=nbits N:=⟨_,rfl⟩
 rw [←hM]
 have HM:=Lib.hid hM
 clear hM
 rcases Nat.eq_zero_or_pos n with e |e
 ·subst e
  have hz:M=0:=by
   have:=(dl ah).1 (List.eq_nil_of_length_eq_zero H.out.1)
   rw [HM.out,this];rfl
  have HZ:=Lib.hid hz
  clear hz
  go_enter Tryz.func127,Tryz.ntmps127
  go_wp2
  go_ret
  exact ⟨by rw [HZ.out];rfl,rfl⟩
 ·obtain ⟨ad,x,hA,_,_,hx,hcx⟩:=H.out.get_ (j:=n - 1) (by omega)
  subst hA
  have f0:((n:Int)==0)=false:=by simp;omega
  have hxB:x<B32:=(af ah _).get hx.out
  have hN:=Lib.hid (HM.out.trans (lO ah lC H.out.1 e hx.out))
  have hb32:M≤32*n:=by
   have h1:=hN.out
   have h2:nbits x≤32:=bh (show x<2^32 from hxB)
   omega
  have i3:((n:Int) - 1).toNat=n - 1:=by omega
  have HXB:=Lib.hid hxB
  clear hxB
  go_enter Tryz.func127,Tryz.ntmps127
  go_wp2
  go_loop [4,3] (fun u v=>Ep M n u v) (fun u _=>(intOf u).toNat)
  case atStart=>exact ⟨x,32*(n - 1),rfl,by go_num,hN,by omega,HXB⟩
  case round=>
   obtain ⟨y,cc,rfl,rfl,hI,hcc,hy⟩:=hrel
   rcases Nat.eq_zero_or_pos y with e0 |e0
   ·subst e0
    have hMc:M=cc:=by have:=hI.out;rw [dK] at this;exact this
    have HMc:=Lib.hid hMc
    clear hMc
    go_wp2
    go_ret
    exact ⟨by rw [HMc.out];rfl,rfl⟩
   ·have f1:decide ((0:Int)<(y:Int))=true:=by simp;omega
    have hI2:=Lib.hid (show M=cc+1+nbits (y / 2) by have:=hI.out;rw [iy (by omega)] at this;omega)
    have hy2:=Lib.hid (show y / 2<B32 by have:=hy.out;omega)
    have hcM:cc+1≤32*n:=by have:=hI2.out;omega
    go_wp2
    go_round
    case rel=>exact ⟨y / 2,cc+1,by go_num,by go_num,hI2,by omega,hy2⟩
    case measure=>simp [intOf];omega
theorem pu {W:World} {A:Option Addr} {n c N k:Nat} (ha:Dg W A n c N) (hN:N<B64^k) (hk:k≤100000):Calls Tryz.prog 127 #[.slice A n c] W fun e w'=>e= .returned (.int .i64 (nbits N:Int))∧W=w':=
 lJ W 0 _ A n c N ha (by have:=ha.len hN;omega)
end
section
theorem wq {xs:List Nat} {s x:Nat} (hs:Small B32 xs) (hx:xs[s]? =some x):∃ r,nval B32 xs / B32^s=x+B32*r:=by
 have hl:=dB hx
 refine ⟨nval B32 (xs.drop (s+1)),?_⟩
 rw [←ii ah hs s (by omega),List.drop_eq_getElem_cons hl]
 rw [List.getElem?_eq_getElem hl] at hx
 injection hx with hx
 rw [hx]
 rfl
theorem ES {xs:List Nat} {s q x X:Nat} (hs:Small B32 xs) (hX:nval B32 xs=X) (hx:xs[s]? =some x) (hq:q<32):X / 2^(32*s+q)%2=x / 2^q%2:=by
 obtain ⟨r,hr⟩:=wq hs hx
 rw [Nat.pow_add,←lC,←Nat.div_div_eq_div_mul,←hX,hr]
 have hp:B32=2^q*(2*2^(31 - q)):=by
  rw [show 2*2^(31 - q)=2^(31 - q+1) by rw [Nat.pow_succ,Nat.mul_comm],←Nat.pow_add,show q+(31 - q+1)=32 by omega];rfl
 rw [hp,Nat.mul_assoc,Nat.add_mul_div_left _ _ (Nat.two_pow_pos q),Nat.mul_assoc,Nat.add_mul_mod_self_left]
def DvI (n k X Y:Nat) (cur:List Nat) (R:Nat):Prop:=
 cur.length=n∧Small B32 cur∧R<Y∧∃ Q,nval B32 cur=Q*2^k∧Q*Y+R=X / 2^k
theorem DvI.start {n X Y:Nat} (hY:Y≠0):DvI n (nbits X) X Y (List.replicate n 0) 0:=
 ⟨by simp,cP (by unfold B32;omega),by omega,0,by rw [fp];simp,by rw [Nat.div_eq_of_lt (dt X)];simp⟩
theorem td (X j:Nat):X / 2^j=2*(X / 2^(j+1))+X / 2^j%2:=by
 rw [Nat.pow_succ,←Nat.div_div_eq_div_mul];omega
theorem DvI.keep {n j X Y R b:Nat} {cur:List Nat} (h:DvI n (j+1) X Y cur R) (hb:b=X / 2^j%2) (hlt:R*2+b<Y):DvI n j X Y cur (R*2+b):=by
 obtain ⟨h1,h2,h3,Q,h4,h5⟩:=h
 refine ⟨h1,h2,hlt,2*Q,by rw [h4,Nat.pow_succ];grind,?_⟩
 have e:=td X j
 rw [←hb,←h5] at e
 have:2*Q*Y=2*(Q*Y):=Nat.mul_assoc _ _ _
 omega
theorem DvI.set {n j s q X Y R b h0:Nat} {cur:List Nat} (h:DvI n (j+1) X Y cur R) (hb:b=X / 2^j%2) (hge:Y≤R*2+b) (hj:j=32*s+q) (hq:q<32) (hh:cur[s]? =some h0):
  h0|||2^q=h0+2^q∧h0+2^q<B32∧DvI n j X Y (cur.set s (h0+2^q)) (R*2+b - Y):=by
 obtain ⟨h1,h2,h3,Q,h4,h5⟩:=h
 obtain ⟨r,hr⟩:=wq h2 hh
 have hB:=h2.get hh
 have hl:=dB hh
 have hjp:2^j=B32^s*2^q:=by rw [hj,Nat.pow_add,lC]
 have hBp:0<B32^s:=Nat.pow_pos (by unfold B32;omega)
 have hp:B32=2^(q+1)*2^(31 - q):=by rw [←Nat.pow_add,show q+1+(31 - q)=32 by omega];rfl
 have hQ:h0+B32*r=2^(q+1)*Q:=by
  rw [←hr,h4,Nat.pow_succ,hjp,show Q*(B32^s*2^q*2)=B32^s*(2^(q+1)*Q) by rw [Nat.pow_succ];grind,Nat.mul_div_cancel_left _ hBp]
 have hd:2^(q+1)∣h0:=by
  have d1:2^(q+1)∣h0+B32*r:=⟨Q,hQ⟩
  have d2:2^(q+1)∣B32*r:=⟨2^(31 - q)*r,by rw [←Nat.mul_assoc,←hp]⟩
  exact (Nat.dvd_add_left d2).1 d1
 obtain ⟨t,ht⟩:=hd
 have hlt:2^q<2^(q+1):=by rw [Nat.pow_succ];have:=Nat.two_pow_pos q;omega
 have ho:h0|||2^q=h0+2^q:=by rw [ht,←Nat.two_pow_add_eq_or_of_lt hlt]
 have hlb:h0+2^q<B32:=by
  rw [←ho,show B32=2^32 from rfl]
  exact Nat.or_lt_two_pow hB (Nat.pow_lt_pow_right (by omega) hq)
 refine ⟨ho,hlb,by simpa using h1,h2.set s hlb,?_,2*Q+1,?_,?_⟩
 ·have:=Nat.mod_lt (X / 2^j) (show 0<2 by omega)
  omega
 ·have hs:=kF B32 cur s (h0+2^q) hl
  rw [getD_of hh,Nat.mul_add,←hjp,h4,Nat.pow_succ] at hs
  have e:(2*Q+1)*2^j=Q*(2^j*2)+2^j:=by grind
  rw [e];omega
 ·have e:=td X j
  rw [←hb,←h5] at e
  have:(2*Q+1)*Y=2*(Q*Y)+Y:=by grind
  omega
theorem DvI.done {n X Y R:Nat} {cur:List Nat} (h:DvI n 0 X Y cur R):nval B32 cur=X / Y∧R=X%Y:=by
 obtain ⟨h1,h2,h3,Q,h4,h5⟩:=h
 rw [Nat.pow_zero,Nat.mul_one] at h4
 rw [Nat.pow_zero,Nat.div_one] at h5
 rw [h4,←h5]
 constructor
 ·rw [Nat.mul_comm,Nat.mul_add_div (by omega),Nat.div_eq_of_lt h3,Nat.add_zero]
 ·rw [Nat.mul_comm,Nat.mul_add_mod,Nat.mod_eq_of_lt h3]
theorem fJ {W W':World} {row:Option Nat} (h:Below W.heap.size W W'):W.grownBy W' row:=⟨h.os,h.tape,h.output,h.size,fun i hi _=>h.block i hi⟩
theorem Rd.far_set {k:IntKind} {w:World} {lo hi n c:Nat} {A:Option Addr} {xs:List Nat} (h:Rd k w lo hi A n c xs) {p:Addr} (hp:p.block<lo) (u:Value):Rd k (w.setCell p u) lo hi A n c xs:=
 ⟨h.1,h.2.1,fun hn=>by
  obtain ⟨ad,e,hl,hb,hc⟩:=h.2.2 hn
  refine ⟨ad,e,hl,hb,fun j v hv=>(World.cell?_setCell_other w p _ u (fun e=>?_)).trans (hc j v hv)⟩
  have:=congrArg Addr.block e
  rw [aj] at this
  omega⟩
end
section
def Hh (w0:World) (g n m X Y:Nat) (u r:Value) (wr:World):Prop:=
 ∃ (k:Nat) (cur:List Nat) (R:Nat) (A:Option Addr) (nr c:Nat),k≤32*n∧u= .int .i64 ((k:Int) - 1)∧r= .slice A nr c∧nr≤m∧Hid (DvI n k X Y cur R)∧
  Hid (Rd .u32 wr w0.heap.size wr.heap.size A nr c (digs B32 R))∧Hid (Row .u32 wr g 157 cur)∧Hid (w0.grownBy wr (some g))
def Es (w:World) (X Y:Nat) (e:Ending) (w':World):Prop:=
 ∃ (Aq Ar:Option Addr) (nq cq nr cr:Nat),e= .returned (.tuple #[.slice Aq nq cq,.slice Ar nr cr])∧Rd .u32 w' w.heap.size w'.heap.size Aq nq cq (digs B32 (X / Y))∧Rd .u32 w' w.heap.size w'.heap.size Ar nr cr (digs B32 (X%Y))∧Below w.heap.size w w'
theorem wu (w:World):Rd .u32 (w.alloc (.cells #[.int .u32 1] 157)) 0 (w.alloc (.cells #[.int .u32 1] 157)).heap.size (some ⟨w.heap.size,0,none⟩) 1 1 [1]:=by
 have h:Row .u32 (w.alloc (.cells #[.int .u32 1] 157)) w.heap.size 157 [1]:=Blk.new w _ _
 exact h.rd0 (lo:=0) (hi:=_) (c:=1) (Nat.zero_le _) h.lt (by simp)
theorem wZ (w:World) (lo hi lo' hi':Nat) (A B:Option Addr) (n c m cb X Y:Nat) (ha:Rd .u32 w lo hi A n c (digs B32 X)) (hb:Rd .u32 w lo' hi' B m cb (digs B32 Y))
  (hn:n≤1000000) (hm:m≤1000000) (hhi:hi≤w.heap.size) (hhi':hi'≤w.heap.size) (hY:Y≠0):
  Calls Tryz.prog 219 #[.slice A n c,.slice B m cb] w (Es w X Y):=by
 have HA:=Lib.hid ha;have HB:=Lib.hid hb;have HLx:=Lib.hid ha.1;have HLy:=Lib.hid hb.1;have HY0:=Lib.hid hY
 have HYm:=Lib.hid (show Y<B32^m by have:=aM (af ah Y);rwa [ae ah,hb.1] at this)
 have HXn:=Lib.hid (show X<B32^n by have:=aM (af ah X);rwa [ae ah,ha.1] at this)
 have hbx:nbits X≤32*n:=bh (by rw [←lC];exact HXn.out)
 clear ha hb hY
 have hmk:=fun W=>vi (n:Int) n (by omega) (by omega) W
 have HRow:=Lib.hid (eI .u32 157 n w)
 have HB0:=Lib.hid ((Below.refl w.heap.size w).alloc (Nat.le_refl _) (zrow .u32 157 n))
 have HSz:=Lib.hid (show (w.alloc (zrow .u32 157 n)).heap.size=w.heap.size+1 by simp)
 go_enter Tryz.func219,Tryz.ntmps219
 go_wp2_with fail
 generalize hw0:w.alloc (zrow .u32 157 n)=w0 at*
 clear hw0
 refine (lJ w0 lo hi A n c X (HA.out.below (HB0.out.mono hhi)) (by omega)).mono ?_
 rintro _ w' ⟨rfl,rfl⟩
 obtain ⟨M,hM⟩:∃ M,M=nbits X:=⟨_,rfl⟩
 rw [←hM] at hbx ⊢
 have HM:=Lib.hid hM
 clear hM
 go_wp2
 go_loopw [8,7] (fun u r wr=>Hh w0 w.heap.size n m X Y u r wr) (fun u _ _=>(intOf u+1).toNat)
 case atStart=>exact ⟨M,_,0,none,0,0,hbx,rfl,rfl,Nat.zero_le _,Lib.hid (by rw [HM.out];exact DvI.start HY0.out),Lib.hid (by rw [aq];exact Rd.none_),HRow,Lib.hid (cW _ _)⟩
 case round=>
  obtain ⟨k,cur,R,A0,n0,c0,hk,rfl,rfl,hn0,hI,hRd,hR,hG⟩:=hrel
  have hbw:Below w.heap.size w wr:=HB0.out.trans (cj hG.out (by have:=HSz.out;omega) (Nat.le_refl _))
  by_cases hlt:0<k
  ·obtain ⟨j,rfl⟩:∃ j,k=j+1:=⟨k - 1,by omega⟩
   obtain ⟨s,hs⟩:∃ s,s=j / 32:=⟨_,rfl⟩
   obtain ⟨q,hq⟩:∃ q,q=j%32:=⟨_,rfl⟩
   have hjs:j=32*s+q:=by omega
   have hq32:q<32:=by omega
   have hsn:s<n:=by omega
   have e1:(j:Int) / 32=(s:Int):=by omega
   have e2:(j:Int)%32=(q:Int):=by omega
   have ej:((j+1:Nat):Int) - 1=(j:Int):=by omega
   rw [ej]
   obtain ⟨ad,x,hA,_,hbl,hx,hcx0⟩:=HA.out.get_ (j:=s) hsn
   subst hA
   obtain ⟨h0,hh0⟩:∃ h0,cur[s]? =some h0:=⟨cur[s]'(by have:=hI.out.1;omega),List.getElem?_eq_getElem _⟩
   have hxB:=(af ah X).get hx.out
   have hbit:=ES (af ah X) (ae ah X) hx.out hq32
   rw [←hjs] at hbit
   obtain ⟨y,hy⟩:∃ y,y=x / 2^q:=⟨_,rfl⟩
   have hyB:y<B32:=by have:=Nat.div_le_self x (2^q);omega
   have p0:(x:Int) / 2^q=(y:Int):=by rw [hy];simp
   have p1:=wi y hyB
   rw [←hy] at hbit
   have HH0:=Lib.hid hh0;have HBt:=Lib.hid hbit;have HJ:=Lib.hid hjs;have HBW:=Lib.hid hbw;have HCx:=Lib.hid hcx0
   have hRY:=hI.out.2.2.1
   have hT2:∀ b,b≤1→R*2+b<B32^(m+1):=by
    intro b hb
    have h1:=HYm.out
    have h2:B32^m*2≤B32^m*B32:=Nat.mul_le_mul_left _ ah
    rw [Nat.pow_succ];omega
   have HT2:=Lib.hid hT2
   have i1:(0:Int)≤(s:Int):=by omega
   have i2:(s:Int)<(n:Int):=by omega
   have i3:(0:Int)≤(j:Int):=by omega
   clear hs hq hjs hbw hcx0 hh0 hbit hxB hyB hy hRY hT2 ej
   rcases (show y%2=1∨y%2=0 by omega) with hb1 |hb1
   focus
    rw [hb1] at p1 HBt
    clear hb1
    go_wp2_with fail
    refine (lM wr w0.heap.size wr.heap.size A0 n0 c0 0 1 1 _ hRd.out (af ah R) (by omega) (Nat.le_refl _) (by omega) rfl rfl).mono ?_
    rintro _ w2 ⟨A2,n2,c2,rfl,h2,b2⟩
    rw [ae ah] at h2
    have hn2:n2≤m+1:=by rw [←h2.1];exact bk ah (by have:=HT2.out 0 (by omega);omega)
    have G2:=Lib.hid (eD hG.out (fJ b2));have R2:=Lib.hid (Blk.below (t:=157) hR.out b2 hR.out.lt)
    have BW2:=Lib.hid (aa HBW.out b2);have H2:=Lib.hid (h2.less (lo':=w0.heap.size) hG.out.size)
    have hcx:w2.cell? (ad.add s)=some (.int .u32 (x:Int)):=by rw [←HCx.out];exact BW2.out.cell (by rw [aj];omega)
    clear h2 b2 hG hR HBW hRd
    go_wp2_with fail
    have b3:=ac w2 (.cells #[.int .u32 1] 157)
    refine (mQ _ w0.heap.size w2.heap.size 0 _ A2 _ n2 c2 1 1 _ [1] (H2.out.below b3) (wu w2) (af ah _) (Small.cons (by unfold B32;omega) Small.nil) (by omega) (by omega) b3.size (Nat.le_refl _)).mono ?_
    rintro _ w3 ⟨A3,n3,c3,rfl,h3,b4⟩
    have b5:Below w2.heap.size w2 w3:=b3.trans (b4.mono b3.size)
    rw [ae ah,show R*2^1+nval B32 [1]=R*2+1 by simp [nval]] at h3
    have hn3:n3≤m+1:=by rw [←h3.1];exact bk ah (HT2.out 1 (by omega))
    have G3:=Lib.hid (eD G2.out (fJ b5));have R3:=Lib.hid (Blk.below (t:=157) R2.out b5 (Blk.lt (t:=157) R2.out))
    have BW3:=Lib.hid (aa BW2.out b5);have H3:=Lib.hid (h3.less (lo':=w0.heap.size) (Nat.le_trans G2.out.size b3.size))
    clear h3 b3 b4 b5 G2 R2 BW2 H2 hcx
    obtain ⟨b,hb⟩:∃ b,b=1:=⟨_,rfl⟩
    rw [←hb] at HBt H3
   rotate_left
   focus
    rw [hb1] at p1 HBt
    clear hb1
    go_wp2_with fail
    refine (lM wr w0.heap.size wr.heap.size A0 n0 c0 0 1 1 _ hRd.out (af ah R) (by omega) (Nat.le_refl _) (by omega) rfl rfl).mono ?_
    rintro _ w3 ⟨A3,n3,c3,rfl,h3,b3⟩
    rw [ae ah,show R*2^1=R*2+0 by omega] at h3
    have hn3:n3≤m+1:=by rw [←h3.1];exact bk ah (HT2.out 0 (by omega))
    have G3:=Lib.hid (eD hG.out (fJ b3));have R3:=Lib.hid (Blk.below (t:=157) hR.out b3 hR.out.lt)
    have BW3:=Lib.hid (aa HBW.out b3);have H3:=Lib.hid (h3.less (lo':=w0.heap.size) hG.out.size)
    clear h3 b3 hG hR HBW hRd
    obtain ⟨b,hb⟩:∃ b,b=0:=⟨_,rfl⟩
    rw [←hb] at HBt H3
   all_goals
    clear hb
    obtain ⟨T,hT⟩:∃ T,T=R*2+b:=⟨_,rfl⟩
    rw [←hT] at H3
    have hcx:w3.cell? (ad.add s)=some (.int .u32 (x:Int)):=by rw [←HCx.out];exact BW3.out.cell (by rw [aj];omega)
    have HB3:=Lib.hid (HB.out.below (BW3.out.mono hhi'))
    have R3':Hid (Row .u32 w3 w.heap.size 157 cur):=Lib.hid R3.out
    clear R3
    rcases Nat.lt_or_ge T Y with hTY |hTY
    ·have hcmp:=Lib.hid (mT w3 w0.heap.size w3.heap.size lo' hi' A3 B n3 c3 m cb T Y H3.out HB3.out (by omega) (by omega))
     have HTY:=Lib.hid hTY
     have hn3':n3≤m:=by rw [←H3.out.1];exact bk ah (Nat.lt_trans hTY HYm.out)
     have HI2:=Lib.hid (show DvI n j X Y cur T by rw [hT];exact hI.out.keep HBt.out.symm (by omega))
     clear hTY hT
     go_wp2_with fail
     refine hcmp.out.mono ?_
     rintro _ w4 ⟨t,rfl,rfl⟩
     rw [iQ HTY.out]
     go_wp2
     go_roundw
     case rel=>exact ⟨j,cur,T,A3,n3,c3,by omega,by go_num,rfl,hn3',HI2,Lib.hid (H3.out.drewN t),Lib.hid (R3'.out.drewN t),Lib.hid (jR G3.out t)⟩
     case measure=>first |(simp [intOf];done)|(simp [intOf];omega)
    ·have hcmp:=Lib.hid (mT w3 w0.heap.size w3.heap.size lo' hi' A3 B n3 c3 m cb T Y H3.out HB3.out (by omega) (by omega))
     have HTY:=Lib.hid hTY
     have hc0:0≤cmpv T Y:=by
      rcases Nat.lt_or_ge Y T with h |h
      ·rw [iP h];omega
      ·rw [md (by omega)];omega
     generalize cmpv T Y=cv at*
     obtain ⟨y1,y2,y3⟩:=hI.out.set HBt.out.symm (by omega) HJ.out hq32 HH0.out
     rw [←hT] at y3
     have HY3:=Lib.hid y3
     have hTm:T - Y<Y:=y3.2.2.1
     obtain ⟨P,hP⟩:∃ P,P=2^q:=⟨_,rfl⟩
     rw [←hP] at y1 y2 HY3
     obtain ⟨v,hv⟩:∃ v,v=h0+P:=⟨_,rfl⟩
     rw [←hv] at y1 y2 HY3
     unfold B32 at y2
     have hh0B:h0<4294967296:=by omega
     have hPB:P<4294967296:=by omega
     have z0:(2:Int)^q=(P:Int):=by rw [hP];simp
     have z1:IntKind.u32.wrap ((2:Int)^q)=(P:Int):=by rw [z0,IntKind.wrap_u32];omega
     have z2:(2:Int)^q%4294967296=(P:Int):=by rw [z0];omega
     have z3:bits .or .u32 (h0:Int) (P:Int)=(v:Int):=by rw [u32_or_nat h0 P hh0B hPB,y1]
     have hmn:m≤n3:=by
      rcases Nat.lt_or_ge n3 m with h |h
      ·have:=cI ah (m:=T) (n:=Y) (by rw [H3.out.1,HB3.out.1];exact h)
       omega
      ·exact h
     have HTm:=Lib.hid hTm
     clear hTY hT y1 y2 y3 hP hv hh0B hPB hTm z0
     go_wp2_with fail
     refine hcmp.out.mono ?_
     rintro _ w4 ⟨t,rfl,rfl⟩
     have G4:=Lib.hid (jR G3.out t);have R4:=Lib.hid (R3'.out.drewN t);have BW4:=Lib.hid (cm BW3.out t)
     have H4:Hid (Rd .u32 (w3.drewN t) w0.heap.size (w3.drewN t).heap.size A3 n3 c3 (digs B32 T)):=Lib.hid H3.out
     have B4:=Lib.hid (HB3.out.drewN t)
     clear G3 R3' BW3 H3 HB3 hcx hcmp
     generalize w3.drewN t=w4 at*
     go_wp2_with fail
     refine (qN w4 w0.heap.size w4.heap.size lo' hi' A3 B n3 c3 m cb _ _ H4.out B4.out (af ah _) (af ah _) (by omega) (Nat.le_refl _) (by have:=BW4.out.size;omega) hmn (by rw [ae ah,ae ah];exact HTY.out)).mono ?_
     rintro _ w5 ⟨A5,n5,c5,rfl,h5,b5⟩
     rw [ae ah,ae ah] at h5
     have hn5:n5≤m:=by rw [←h5.1];exact bk ah (Nat.lt_trans HTm.out HYm.out)
     have G5:=Lib.hid (eD G4.out (fJ b5))
     have R5:Hid (Row .u32 w5 w.heap.size 157 cur):=Lib.hid (Blk.below (t:=157) R4.out b5 R4.out.lt)
     have H5:=Lib.hid (h5.less (lo':=w0.heap.size) G4.out.size)
     have hch:=R5.out.cell (i:=s) (by have:=hI.out.1;omega)
     rw [getD_of HH0.out] at hch
     have hfr:=R5.out.frozen s
     have R6:=Lib.hid (R5.out.set_ s v)
     have G6:=Lib.hid (cA (p:=⟨w.heap.size,s,none⟩) G5.out (.inl rfl) (.int .u32 (v:Int)))
     have H6:=Lib.hid (H5.out.far_set (p:=⟨w.heap.size,s,none⟩) (by have:=HSz.out;show w.heap.size<w0.heap.size;omega) (.int .u32 (v:Int)))
     have H7:Hid (Rd .u32 (w5.setCell ⟨w.heap.size,s,none⟩ (.int .u32 (v:Int))) w0.heap.size (w5.setCell ⟨w.heap.size,s,none⟩ (.int .u32 (v:Int))).heap.size A5 n5 c5 (digs B32 (T - Y))):=Lib.hid (H6.out.more (by simp))
     clear h5 b5 G4 R4 BW4 H4 B4 G5 R5 H5 H6
     go_wp2
     go_region
     all_goals
      go_wp2
      go_roundw
      case rel=>exact ⟨j,_,T - Y,A5,n5,c5,by omega,by go_num,rfl,hn5,HY3,Lib.hid H7.out.drew,Lib.hid R6.out,Lib.hid (gb G6.out)⟩
      case measure=>first |(simp [intOf];done)|(simp [intOf];omega)
  ·obtain rfl:k=0:=by omega
   obtain ⟨hq,hr⟩:=hI.out.done
   have hl:=hI.out.1
   have hrd:Rd .u32 wr w.heap.size wr.heap.size (some ⟨w.heap.size,0,none⟩) n n cur:=by
    have:=hR.out.rd0 (lo:=w.heap.size) (hi:=wr.heap.size) (c:=n) (Nat.le_refl _) hR.out.lt (by rw [hl];omega)
    rw [hl] at this;exact this
   have HRD:=Lib.hid hrd
   have HQ:=Lib.hid hq;have HRm:=Lib.hid hr
   have HBW:=Lib.hid hbw
   clear hl hq hr hrd hbw
   go_wp2_with fail
   refine (eH wr w.heap.size wr.heap.size (some ⟨w.heap.size,0,none⟩) n n cur HRD.out hI.out.2.1 (by omega)).mono ?_
   rintro e w' ⟨A3,c3,rfl,rfl,hA3,hc3⟩
   have hfin:=HRD.out.trim hI.out.2.1 hA3 hc3
   rw [HQ.out] at hfin
   have HF:=Lib.hid hfin
   clear hfin
   go_wp2
   go_ret2
   exact ⟨_,_,_,_,_,_,rfl,HF.out,by rw [←HRm.out];exact hRd.out.less (by have:=HSz.out;omega),HBW.out⟩
end
section
def sB (w:World) (N:Nat) (l:Bool) (e:Ending) (w':World):Prop:=
 ∃ (A:Option Addr) (n c:Nat),e= .returned (.tuple #[.slice A n c,.bool l])∧Rd .u32 w' w.heap.size w'.heap.size A n c (digs B32 N)∧Below w.heap.size w w'
def oZ (xs:List Nat) (k:Nat):Bool:=decide (nval B32 (xs.take k)≠0)
def qp (n s b:Nat) (xs:List Nat):Bool:=if s<n then decide (nval B32 xs%2^b≠0) else decide (0<n)
theorem vP (x:Nat):((x:Int)!=0)=decide (x≠0):=by
 by_cases h:x=0
 ·subst h;rfl
 ·have:(x:Int)≠0:=by omega
  simp [h]
theorem vg {xs:List Nat} {k x:Nat} (hx:xs[k]? =some x):oZ xs (k+1)=(oZ xs k||decide (x≠0)):=by
 unfold oZ
 rw [ag,getD_of hx]
 have hp:0<B32^k:=Nat.pow_pos (by unfold B32;omega)
 by_cases h1:nval B32 (xs.take k)=0<;>by_cases h2:x=0
 ·simp [h1,h2]
 ·have:B32^k*x≠0:=Nat.mul_ne_zero (by omega) h2
  simp [h1,h2];omega
 ·simp [h1,h2]
 ·simp [h1,h2]
theorem ve {xs:List Nat} {s x q:Nat} (hs:Small B32 xs) (hx:xs[s]? =some x) (hq:q<32):decide (nval B32 xs%(B32^s*2^q)≠0)=(oZ xs s||decide (x%2^q≠0)):=by
 have hl:=dB hx
 have h1:=aQ B32 xs s (by omega)
 have h2:xs.drop s=x::xs.drop (s+1):=by
  rw [List.drop_eq_getElem_cons hl]
  congr 1
  rw [List.getElem?_eq_getElem hl] at hx;injection hx
 rw [h2] at h1
 have h3:nval B32 (x::xs.drop (s+1))=x+B32*nval B32 (xs.drop (s+1)):=rfl
 rw [h3] at h1
 have hlow:nval B32 (xs.take s)<B32^s:=by
  have:=aM (hs.take s)
  rwa [List.length_take,Nat.min_eq_left (by omega)] at this
 unfold oZ
 generalize nval B32 (xs.take s)=L at*
 generalize nval B32 (xs.drop (s+1))=R at*
 have e1:nval B32 xs%(B32^s*2^q)=L+B32^s*(x%2^q):=by
  rw [h1,Nat.mod_mul,Nat.add_mul_mod_self_left,Nat.mod_eq_of_lt hlow,Nat.add_mul_div_left _ _ (Nat.pow_pos (by unfold B32;omega)),Nat.div_eq_of_lt hlow,Nat.zero_add]
  have e2:B32=2^q*2^(32 - q):=by rw [←Nat.pow_add,show q+(32 - q)=32 by omega];rfl
  rw [e2,Nat.mul_assoc,Nat.add_mul_mod_self_left]
 rw [e1]
 have hp:0<B32^s:=Nat.pow_pos (by unfold B32;omega)
 by_cases c1:L=0<;>by_cases c2:x%2^q=0
 ·simp [c1,c2]
 ·have:B32^s*(x%2^q)≠0:=Nat.mul_ne_zero (by omega) c2
  simp [c1,c2];omega
 ·simp [c1,c2]
 ·simp [c1,c2]
theorem BP {x q:Nat} (hx:x<B32) (hq:q<32):bits .and .u32 (x:Int) (((2:Int)^q - 1)%4294967296)=((x%2^q:Nat):Int):=by
 have h1:2^q<4294967296:=by
  have:=Nat.pow_lt_pow_right (a:=2) (by omega) hq
  simpa using this
 have h2:=Nat.two_pow_pos q
 have h3:((2:Int)^q - 1)%4294967296=((2^q - 1:Nat):Int):=by
  have:((2:Int)^q)=((2^q:Nat):Int):=by rw [Int.natCast_pow];rfl
  rw [this];omega
 rw [h3,u32_and_nat x (2^q - 1) hx (by omega),Nat.and_two_pow_sub_one_eq_mod]
theorem sS (w:World) (lo hi:Nat) (A:Option Addr) (n c s q b:Nat) (xs:List Nat) (ha:Rd .u32 w lo hi A n c xs) (hxs:Small B32 xs) (hn:n≤100000000) (hhi:hi≤w.heap.size)
  (hb:b≤1000000) (hs:s=b / 32) (hq:q=b%32):
  Calls Tryz.prog 220 #[.slice A n c,.int .i64 (b:Int)] w (sB w (nval B32 xs / 2^b) (qp n s b xs)):=by
 have HA:=Lib.hid ha;have HX:=Lib.hid hxs
 have HL:=Lib.hid ha.1
 have e1:(b:Int) / 32=(s:Int):=by omega
 have e2:(b:Int)%32=(q:Int):=by omega
 have hq32:q<32:=by omega
 have hs32:s≤1000000:=by omega
 have HB:=Lib.hid (show B32^s*2^q=2^b by rw [lC,←Nat.pow_add];congr 1;omega)
 clear ha hxs hs hq
 rcases Nat.lt_or_ge s n with hsn |hsn
 rotate_left
 ·have hz:nval B32 xs / 2^b=0:=by
   apply Nat.div_eq_of_lt
   have h1:=aM HX.out
   rw [HL.out] at h1
   have h2:B32^n≤B32^s:=Nat.pow_le_pow_right (by unfold B32;omega) hsn
   have h3:B32^s*1≤B32^s*2^q:=Nat.mul_le_mul_left _ (Nat.two_pow_pos q)
   have:=HB.out
   omega
  have HZ:=Lib.hid hz
  clear hz
  go_enter Tryz.func220,Tryz.ntmps220
  go_wp2
  go_ret2
  exact ⟨none,0,0,by unfold qp;rw [if_neg (by omega)];simp,by rw [HZ.out,aq];exact Rd.none_,Below.refl _ _⟩
 ·go_enter Tryz.func220,Tryz.ntmps220
  go_wp2
  go_loop [7,6] (fun u v=>∃ (k:Nat) (l:Bool),k≤s∧u= .int .i64 (k:Int)∧v= .bool l∧Hid (l=oZ xs k)) (fun u _=>s - (intOf u).toNat)
  case atStart=>exact ⟨0,false,Nat.zero_le _,rfl,rfl,Lib.hid (by simp [oZ,nval])⟩
  case round=>
   obtain ⟨k,l,hk,rfl,rfl,HLL⟩:=hrel
   by_cases hlt:k<s
   ·obtain ⟨ad,x,hA,_,hbl,hx,hcx⟩:=HA.out.get_ (j:=k) (by omega)
    subst hA
    have i1:(0:Int)≤(k:Int):=by omega
    have i2:(k:Int)<(n:Int):=by omega
    have HLS:=Lib.hid (vg hx.out)
    cases l
    ·go_wp2
     go_round
     case rel=>exact ⟨k+1,_,by omega,by go_num,rfl,Lib.hid (by rw [HLS.out,←HLL.out];simp [vP])⟩
     case measure=>simp [intOf];omega
    ·go_wp2
     go_round
     case rel=>exact ⟨k+1,_,by omega,by go_num,rfl,Lib.hid (by rw [HLS.out,←HLL.out];simp)⟩
     case measure=>simp [intOf];omega
   ·obtain ⟨ad,x,hA,_,hbl,hx,hcx⟩:=HA.out.get_ (j:=s) (by omega)
    subst hA
    have i1:(0:Int)≤(s:Int):=by omega
    have i2:(s:Int)<(n:Int):=by omega
    rw [show k=s by omega] at HLL
    have HXB:=Lib.hid (HX.out.get hx.out)
    have HFL:=Lib.hid (ve (q:=q) HX.out hx.out hq32)
    have HX0:=hx
    clear hx
    have HSN:=Lib.hid hsn
    obtain ⟨M,hM⟩:∃ M:Int,M=((2:Int)^q - 1)%4294967296:=⟨_,rfl⟩
    have m1:((2:Int)^q - 1)%4294967296=M:=hM.symm
    have m2:IntKind.u32.wrap ((2:Int)^q - 1)=M:=by rw [IntKind.wrap_u32,hM]
    obtain ⟨V,hV⟩:∃ V:Int,V=bits .and .u32 (x:Int) M:=⟨_,rfl⟩
    have m3:bits .and .u32 (x:Int) M=V:=hV.symm
    obtain ⟨l2,hl2⟩:∃ l2:Bool,l2=(V !=0):=⟨_,rfl⟩
    have m4:(V !=0)=l2:=hl2.symm
    have hfl:(l||l2)=qp n s b xs:=by
     unfold qp
     rw [if_pos hsn,←HB.out,HFL.out,←HLL.out,hl2,hV,hM,BP HXB.out hq32,vP]
    clear i1 hM hV hl2
    cases l
    all_goals
     go_wp2
     go_quiet (fail)
     go_wp2
     try rw [e2]
     try generalize Value.int IntKind.u32 ((2:Int)^q%4294967296)=va
     try generalize Value.int IntKind.u32 (((2:Int)^q%4294967296 - 1)%4294967296)=vb
     go_loopw [9,8] (fun u v wr=>vI w n s q xs u v wr) (fun u _ _=>n - (intOf u).toNat)
     case atStart=>exact ⟨s,[],Nat.le_refl _,by omega,rfl,Lib.hid (by rw [Nat.sub_self];exact DownI.start),Lib.hid (OutL.nil _ _ _ _),Lib.hid (cm (Below.refl _ _) _)⟩
     case round=>
      obtain ⟨k2,out,hks,hkn,rfl,hI,hO,hBw⟩:=hrel
      obtain ⟨A0,n0,c0,rfl,hn0,hrd0⟩:=hO.out.rdn
      clear hcx HX0
      by_cases hlt:k2<n
      ·obtain ⟨ad2,x2,hA,_,hbl2,hx2,hcx0⟩:=HA.out.get_ (j:=k2) hlt
       obtain rfl:ad=ad2:=by injection hA
       have hcx:wr.cell? (ad.add k2)=some (.int .u32 (x2:Int)):=by rw [←hcx0];exact hBw.out.cell (by rw [aj];omega)
       have hxB:=HX.out.get hx2.out
       have hyB:=kX HX.out (by unfold B32;omega) (k2+1)
       have hdig:∀ (W:World) (t:Int),Rd .u32 W lo hi (some ad) n c xs→t=(k2:Int)+1→Calls Tryz.prog 233 #[.slice (some ad) n c,.int .i64 t] W fun e w'=>e= .returned (.int .u64 ((xs.getD (k2+1) 0:Nat):Int))∧W=w':=by
        rintro W t h rfl
        exact jq W lo hi (some ad) n c (k2+1) xs h HX.out
       have hb1:=Lib.hid (HA.out.below (hBw.out.mono hhi))
       have hstep:=fun z T d=>hI.out.step (z:=z) (T:=T) (d:=d) hq32
       rw [kW,kW,show s+(k2 - s)=k2 by omega,show s+(k2 - s+1)=k2+1 by omega,getD_of hx2.out,show k2 - s+1=k2+1 - s by omega] at hstep
       have hlen:=hI.out.1
       generalize xs.getD (k2+1) 0=y at*
       have z0:=eZ x2 hxB
       obtain ⟨z1,z2⟩:=ne x2 y hxB hyB
       unfold B32 at hxB hyB
       obtain ⟨yy,hyy⟩:∃ yy,yy=y*4294967296:=⟨_,rfl⟩
       obtain ⟨z,hz⟩:∃ z,z=x2+4294967296*y:=⟨_,rfl⟩
       have hzB:z<18446744073709551616:=by omega
       rw [←hyy] at z1 z2
       rw [←hz] at z2
       obtain ⟨T,hT⟩:∃ T,T=z / 2^q:=⟨_,rfl⟩
       have z3:(z:Int) / 2^q=(T:Int):=by rw [hT];simp
       have hTB:T<18446744073709551616:=by
        have:=Nat.div_le_self z (2^q)
        omega
       have z4:=ix T hTB
       obtain ⟨d,hd⟩:∃ d,d=T%4294967296:=⟨_,rfl⟩
       rw [←hd] at z4
       have z5:IntKind.u32.wrap (d:Int)=(d:Int):=by rw [IntKind.wrap_u32];omega
       have hI2:=Lib.hid (hstep z T d hxB hz hT hd)
       obtain ⟨v',w',hrun,hO',hB'⟩:=qC wr.drew w.heap.size _ _ [d] hO.out.drew_ hBw.out.size (by rw [hlen];simp;omega)
       have HR:=Lib.hid (show (Builtin.append_ #[124,124] 124 #[.slice A0 n0 c0,.slice (some ⟨wr.heap.size,0,none⟩) 1 1]).run Tryz.prog ((wr.alloc (.cells #[.int .u32 (d:Int)] 157)).drew)= .ok v' w' from hrun)
       have HO2:=Lib.hid hO';have HB2:=Lib.hid (hBw.out.trans (show Below w.heap.size wr w' from ⟨hB'.os,hB'.tape,hB'.output,hB'.size,hB'.block⟩))
       have HC:=Lib.hid hdig
       have i1:(0:Int)≤(k2:Int):=by omega
       have i3:(k2:Int)<(n:Int):=by omega
       have j1:IntKind.i64.wrap ((k2:Int)+1)=(k2:Int)+1:=IntWalk.i64_in _ (by omega)
       clear hcx0 hdig hstep hlen hrun hO' hB' hyy hz hT hd hxB hyB hzB hTB hA
       go_wp2
       go_region_with (go_at_call 233;refine (HC.out _ _ ?_ ?_).mono ?_;(exact hb1.out);(first |rfl |omega);rintro _ w3 ⟨rfl,rfl⟩)
       all_goals
        go_wp2_with (at_builtin;refine bV rfl (.tmp 66) (.tmp 73) _ rfl _ _ _ _ rfl rfl HR.out ?_)
        go_roundw
        case rel=>exact ⟨k2+1,_,by omega,by omega,by go_num,hI2,HO2,HB2⟩
        case measure=>simp [intOf];omega
      ·obtain rfl:k2=n:=by omega
       have hN:=hI.out.done (by rw [List.length_drop];have:=HL.out;omega)
       rw [ii ah HX.out s (by have:=HL.out;omega),Nat.div_div_eq_div_mul,HB.out] at hN
       have HN:=Lib.hid hN
       have hlen:n0≤k2:=by rw [←hn0.out,hI.out.1];omega
       clear hN
       go_wp2_with fail
       refine (eH wr w.heap.size wr.heap.size A0 n0 c0 out hrd0.out hI.out.2.1 (by omega)).mono ?_
       rintro e w' ⟨A3,c3,rfl,rfl,hA3,hc3⟩
       have hfin:=hrd0.out.trim hI.out.2.1 hA3 hc3
       rw [HN.out] at hfin
       have HF:=Lib.hid hfin
       clear hfin hA3 hc3
       go_wp2
       go_ret2
       exact ⟨_,_,_,by rw [←hfl];simp,HF.out,hBw.out⟩
theorem Cm {w:World} {A:Option Addr} {n c N k b:Nat} (ha:Dg w A n c N) (hN:N<B64^k) (hk:k≤100000) (hb:b≤1000000):
  Calls Tryz.prog 220 #[.slice A n c,.int .i64 (b:Int)] w (sB w (N / 2^b) (decide (N%2^b≠0))):=by
 have h:=sS w 0 _ A n c _ _ b _ ha (af ah _) (by have:=ha.len hN;omega) (Nat.le_refl _) hb rfl rfl
 rw [ae ah] at h
 have e:qp n (b / 32) b (digs B32 N)=decide (N%2^b≠0):=by
  unfold qp
  rw [ae ah]
  split
  ·rfl
  ·rename_i hs
   have h1:N<B32^n:=by have:=aM (af ah N);rwa [ae ah,ha.1] at this
   have h2:N<2^b:=by
    refine Nat.lt_of_lt_of_le h1 ?_
    rw [lC]
    exact Nat.pow_le_pow_right (by omega) (by omega)
   rw [Nat.mod_eq_of_lt h2]
   have h3:n=0↔N=0:=by
    constructor
    ·intro e;subst e;exact (dl ah).1 (List.eq_nil_of_length_eq_zero ha.1)
    ·intro e;subst e;have:=ha.1;rw [aq] at this;exact this.symm
   apply decide_eq_decide.2
   omega
 rwa [e] at h
end
end Go.Proofs.YtpacpmmdjmnamaaGreatDoor
