/- fathomlineref1.Bits. fathomlineref1: Div, what its loop keeps. fathomlineref1: Div. fathomlineref1: Down, and whether bits were lost. -/
import Derived.Test.YtpacpmmdjmnamaaGreatDoorMRefX
import Derived.Test.YtpacpmmdjmnamaaGreatDoorMRefY
namespace Go.Proofs.YtpacpmmdjmnamaaGreatDoor
set_option maxHeartbeats 2000000
set_option maxRecDepth 100000
open Go.RowKit Nx
section
def M3 (N m:Nat) (u v:Value):Prop:=∃ y c:Nat,u= .int .u32 (y:Int)∧v= .int .i64 (c:Int)∧Hid (N=c+nbits y)∧c≤32*m+64∧Hid (y<B32)
theorem zj (w:World) (lo hi:Nat) (A:Option Addr) (n c N:Nat) (h:Rd .u32 w lo hi A n c (aS B32 N)) (hn:n≤100000000):
  Calls Tryz.prog 127 #[.slice A n c] w fun e w'=>e= .returned (.int .i64 (nbits N:Int))∧w=w':=by
 have H:=Lib.hid h
 clear h
 obtain ⟨M,hM⟩:∃ M,M=nbits N:=⟨_,rfl⟩
 rw [←hM]
 have HM:=Lib.hid hM
 clear hM
 rcases Nat.eq_zero_or_pos n with e |e
 ·subst e
  have hz:M=0:=by
   have:=(dN aD).1 (List.eq_nil_of_length_eq_zero H.out.1)
   rw [HM.out,this];rfl
  have HZ:=Lib.hid hz
  clear hz
  go_enter Tryz.func127,Tryz.ntmps127
  go_wp2
  go_ret
  exact ⟨by rw [HZ.out];rfl,rfl⟩
 ·obtain ⟨ad,x,hA,_,_,hx,hcx⟩:=H.out.get_ (j:=n - 1) (by omega)
  subst hA
  have f0:((n:Int)==0)=false:=by simp;omega
  have hxB:x<B32:=(az aD _).get hx.out
  have hN:=Lib.hid (HM.out.trans (sQ aD rq H.out.1 e hx.out))
  have hb32:M≤32*n:=by
   have h1:=hN.out
   have h2:nbits x≤32:=du (show x<2^32 from hxB)
   omega
  have i3:((n:Int) - 1).toNat=n - 1:=by omega
  have HXB:=Lib.hid hxB
  clear hxB
  go_enter Tryz.func127,Tryz.ntmps127
  go_wp2
  go_loop [4,3] (fun u v=>M3 M n u v) (fun u _=>(intOf u).toNat)
  case atStart=>exact ⟨x,32*(n - 1),rfl,by go_num,hN,by omega,HXB⟩
  case round=>
   obtain ⟨y,cc,rfl,rfl,hI,hcc,hy⟩:=hrel
   rcases Nat.eq_zero_or_pos y with e0 |e0
   ·subst e0
    have hMc:M=cc:=by have:=hI.out;rw [dY] at this;exact this
    have HMc:=Lib.hid hMc
    clear hMc
    go_wp2
    go_ret
    exact ⟨by rw [HMc.out];rfl,rfl⟩
   ·have f1:decide ((0:Int)<(y:Int))=true:=by simp;omega
    have hI2:=Lib.hid (show M=cc+1+nbits (y / 2) by have:=hI.out;rw [o5 (by omega)] at this;omega)
    have hy2:=Lib.hid (show y / 2<B32 by have:=hy.out;omega)
    have hcM:cc+1≤32*n:=by have:=hI2.out;omega
    go_wp2
    go_round
    case rel=>exact ⟨y / 2,cc+1,by go_num,by go_num,hI2,by omega,hy2⟩
    case measure=>simp [intOf];omega
theorem Im {W:World} {A:Option Addr} {n c N k:Nat} (ha:Dg W A n c N) (hN:N<B64^k) (hk:k≤100000):Calls Tryz.prog 127 #[.slice A n c] W fun e w'=>e= .returned (.int .i64 (nbits N:Int))∧W=w':=
 zj W 0 _ A n c N ha (by have:=ha.len hN;omega)
end
section
theorem K7 {xs:List Nat} {s x:Nat} (hs:Small B32 xs) (hx:xs[s]? =some x):∃ r,nval B32 xs / B32^s=x+B32*r:=by
 have hl:=eq hx
 refine ⟨nval B32 (xs.drop (s+1)),?_⟩
 rw [←kA aD hs s (by omega),List.drop_eq_getElem_cons hl]
 rw [List.getElem?_eq_getElem hl] at hx
 injection hx with hx
 rw [hx]
 rfl
def DvI (n k X Y:Nat) (cur:List Nat) (R:Nat):Prop:=
 cur.length=n∧Small B32 cur∧R<Y∧∃ Q,nval B32 cur=Q*2^k∧Q*Y+R=X / 2^k
theorem DvI.start {n X Y:Nat} (hY:Y≠0):DvI n (nbits X) X Y (List.replicate n 0) 0:=
 ⟨by simp,dG (by unfold B32;omega),by omega,0,by rw [jo];simp,by rw [Nat.div_eq_of_lt (e9 X)];simp⟩
theorem xy (X j:Nat):X / 2^j=2*(X / 2^(j+1))+X / 2^j%2:=by
 rw [Nat.pow_succ,←Nat.div_div_eq_div_mul];omega
theorem DvI.keep {n j X Y R b:Nat} {cur:List Nat} (h:DvI n (j+1) X Y cur R) (hb:b=X / 2^j%2) (hlt:R*2+b<Y):DvI n j X Y cur (R*2+b):=by
 obtain ⟨h1,h2,h3,Q,h4,h5⟩:=h
 refine ⟨h1,h2,hlt,2*Q,by rw [h4,Nat.pow_succ];grind,?_⟩
 have e:=xy X j
 rw [←hb,←h5] at e
 have:2*Q*Y=2*(Q*Y):=Nat.mul_assoc _ _ _
 omega
theorem DvI.set {n j s q X Y R b h0:Nat} {cur:List Nat} (h:DvI n (j+1) X Y cur R) (hb:b=X / 2^j%2) (hge:Y≤R*2+b) (hj:j=32*s+q) (hq:q<32) (hh:cur[s]? =some h0):
  h0|||2^q=h0+2^q∧h0+2^q<B32∧DvI n j X Y (cur.set s (h0+2^q)) (R*2+b - Y):=by
 obtain ⟨h1,h2,h3,Q,h4,h5⟩:=h
 obtain ⟨r,hr⟩:=K7 h2 hh
 have hB:=h2.get hh
 have hl:=eq hh
 have hjp:2^j=B32^s*2^q:=by rw [hj,Nat.pow_add,rq]
 have hBp:0<B32^s:=Nat.pow_pos (by unfold B32;omega)
 have hp:B32=2^(q+1)*2^(31 - q):=by rw [←Nat.pow_add,show q+1+(31 - q)=32 by omega];rfl
 have hQ:h0+B32*r=2^(q+1)*Q:=by
  rw [←hr,h4,Nat.pow_succ,hjp,show Q*(B32^s*2^q*2)=B32^s*(2^(q+1)*Q) by rw [Nat.pow_succ];grind,Nat.mul_div_cancel_left _ hBp]
 have hd:2^(q+1)∣h0:=by
  have d1:2^(q+1)∣h0+B32*r:=⟨Q,hQ⟩
  have d2:2^(q+1)∣B32*r:=⟨2^(31 - q)*r,by rw [←Nat.mul_assoc,←hp]⟩
  exact (Nat.dvd_add_left d2).1 d1
 obtain ⟨t,ht⟩:=hd
 have hlt:2^q<2^(q+1):=by rw [Nat.pow_succ];have:=Nat.two_pow_pos q;omega
 have ho:h0|||2^q=h0+2^q:=by rw [ht,←Nat.two_pow_add_eq_or_of_lt hlt]
 have hlb:h0+2^q<B32:=by
  rw [←ho,show B32=2^32 from rfl]
  exact Nat.or_lt_two_pow hB (Nat.pow_lt_pow_right (by omega) hq)
 refine ⟨ho,hlb,by simpa using h1,h2.set s hlb,?_,2*Q+1,?_,?_⟩
 ·have:=Nat.mod_lt (X / 2^j) (show 0<2 by omega)
  omega
 ·have hs:=nB B32 cur s (h0+2^q) hl
  rw [getD_of hh,Nat.mul_add,←hjp,h4,Nat.pow_succ] at hs
  have e:(2*Q+1)*2^j=Q*(2^j*2)+2^j:=by grind
  rw [e];omega
 ·have e:=xy X j
  rw [←hb,←h5] at e
  have:(2*Q+1)*Y=2*(Q*Y)+Y:=by grind
  omega
theorem DvI.done {n X Y R:Nat} {cur:List Nat} (h:DvI n 0 X Y cur R):nval B32 cur=X / Y∧R=X%Y:=by
 obtain ⟨h1,h2,h3,Q,h4,h5⟩:=h
 rw [Nat.pow_zero,Nat.mul_one] at h4
 rw [Nat.pow_zero,Nat.div_one] at h5
 rw [h4,←h5]
 constructor
 ·rw [Nat.mul_comm,Nat.mul_add_div (by omega),Nat.div_eq_of_lt h3,Nat.add_zero]
 ·rw [Nat.mul_comm,Nat.mul_add_mod,Nat.mod_eq_of_lt h3]
end
section
theorem Lb (w:World):Rd .u32 (w.alloc (.cells #[.int .u32 1] 157)) 0 (w.alloc (.cells #[.int .u32 1] 157)).heap.size (some ⟨w.heap.size,0,none⟩) 1 1 [1]:=by
 have h:Row .u32 (w.alloc (.cells #[.int .u32 1] 157)) w.heap.size 157 [1]:=Blk.new w _ _
 exact h.rd0 (lo:=0) (hi:=_) (c:=1) (Nat.zero_le _) h.lt (by simp)
end
section
def wW (w:World) (N:Nat) (l:Bool) (e:Ending) (w':World):Prop:=
 ∃ (A:Option Addr) (n c:Nat),e= .returned (.tuple #[.slice A n c,.bool l])∧Rd .u32 w' w.heap.size w'.heap.size A n c (aS B32 N)∧Below w.heap.size w w'
def sM (xs:List Nat) (k:Nat):Bool:=decide (nval B32 (xs.take k)≠0)
def uu (n s b:Nat) (xs:List Nat):Bool:=if s<n then decide (nval B32 xs%2^b≠0) else decide (0<n)
theorem AM (x:Nat):((x:Int)!=0)=decide (x≠0):=by
 by_cases h:x=0
 ·subst h;rfl
 ·have:(x:Int)≠0:=by omega
  simp [h]
theorem zL {xs:List Nat} {k x:Nat} (hx:xs[k]? =some x):sM xs (k+1)=(sM xs k||decide (x≠0)):=by
 unfold sM
 rw [ao,getD_of hx]
 have hp:0<B32^k:=Nat.pow_pos (by unfold B32;omega)
 by_cases h1:nval B32 (xs.take k)=0<;>by_cases h2:x=0
 ·simp [h1,h2]
 ·have:B32^k*x≠0:=Nat.mul_ne_zero (by omega) h2
  simp [h1,h2];omega
 ·simp [h1,h2]
 ·simp [h1,h2]
theorem zI {xs:List Nat} {s x q:Nat} (hs:Small B32 xs) (hx:xs[s]? =some x) (hq:q<32):decide (nval B32 xs%(B32^s*2^q)≠0)=(sM xs s||decide (x%2^q≠0)):=by
 have hl:=eq hx
 have h1:=bF B32 xs s (by omega)
 have h2:xs.drop s=x::xs.drop (s+1):=by
  rw [List.drop_eq_getElem_cons hl]
  congr 1
  rw [List.getElem?_eq_getElem hl] at hx;injection hx
 rw [h2] at h1
 have h3:nval B32 (x::xs.drop (s+1))=x+B32*nval B32 (xs.drop (s+1)):=rfl
 rw [h3] at h1
 have hlow:nval B32 (xs.take s)<B32^s:=by
  have:=ck (hs.take s)
  rwa [List.length_take,Nat.min_eq_left (by omega)] at this
 unfold sM
 generalize nval B32 (xs.take s)=L at*
 generalize nval B32 (xs.drop (s+1))=R at*
 have e1:nval B32 xs%(B32^s*2^q)=L+B32^s*(x%2^q):=by
  rw [h1,Nat.mod_mul,Nat.add_mul_mod_self_left,Nat.mod_eq_of_lt hlow,Nat.add_mul_div_left _ _ (Nat.pow_pos (by unfold B32;omega)),Nat.div_eq_of_lt hlow,Nat.zero_add]
  have e2:B32=2^q*2^(32 - q):=by rw [←Nat.pow_add,show q+(32 - q)=32 by omega];rfl
  rw [e2,Nat.mul_assoc,Nat.add_mul_mod_self_left]
 rw [e1]
 have hp:0<B32^s:=Nat.pow_pos (by unfold B32;omega)
 by_cases c1:L=0<;>by_cases c2:x%2^q=0
 ·simp [c1,c2]
 ·have:B32^s*(x%2^q)≠0:=Nat.mul_ne_zero (by omega) c2
  simp [c1,c2];omega
 ·simp [c1,c2]
 ·simp [c1,c2]
theorem Jl {x q:Nat} (hx:x<B32) (hq:q<32):bits .and .u32 (x:Int) (((2:Int)^q - 1)%4294967296)=((x%2^q:Nat):Int):=by
 have h1:2^q<4294967296:=by
  have:=Nat.pow_lt_pow_right (a:=2) (by omega) hq
  simpa using this
 have h2:=Nat.two_pow_pos q
 have h3:((2:Int)^q - 1)%4294967296=((2^q - 1:Nat):Int):=by
  have:((2:Int)^q)=((2^q:Nat):Int):=by rw [Int.natCast_pow];rfl
  rw [this];omega
 rw [h3,u32_and_nat x (2^q - 1) hx (by omega),Nat.and_two_pow_sub_one_eq_mod]
theorem xq (w:World) (lo hi:Nat) (A:Option Addr) (n c s q b:Nat) (xs:List Nat) (ha:Rd .u32 w lo hi A n c xs) (hxs:Small B32 xs) (hn:n≤100000000) (hhi:hi≤w.heap.size)
  (hb:b≤1000000) (hs:s=b / 32) (hq:q=b%32):
  Calls Tryz.prog 220 #[.slice A n c,.int .i64 (b:Int)] w (wW w (nval B32 xs / 2^b) (uu n s b xs)):=by
 have HA:=Lib.hid ha;have HX:=Lib.hid hxs
 have HL:=Lib.hid ha.1
 have e1:(b:Int) / 32=(s:Int):=by omega
 have e2:(b:Int)%32=(q:Int):=by omega
 have hq32:q<32:=by omega
 have hs32:s≤1000000:=by omega
 have HB:=Lib.hid (show B32^s*2^q=2^b by rw [rq,←Nat.pow_add];congr 1;omega)
 clear ha hxs hs hq
 rcases Nat.lt_or_ge s n with hsn |hsn
 rotate_left
 ·have hz:nval B32 xs / 2^b=0:=by
   apply Nat.div_eq_of_lt
   have h1:=ck HX.out
   rw [HL.out] at h1
   have h2:B32^n≤B32^s:=Nat.pow_le_pow_right (by unfold B32;omega) hsn
   have h3:B32^s*1≤B32^s*2^q:=Nat.mul_le_mul_left _ (Nat.two_pow_pos q)
   have:=HB.out
   omega
  have HZ:=Lib.hid hz
  clear hz
  go_enter Tryz.func220,Tryz.ntmps220
  go_wp2
  go_ret2
  exact ⟨none,0,0,by unfold uu;rw [if_neg (by omega)];simp,by rw [HZ.out,aK];exact Rd.none_,Below.refl _ _⟩
 ·go_enter Tryz.func220,Tryz.ntmps220
  go_wp2
  go_loop [7,6] (fun u v=>∃ (k:Nat) (l:Bool),k≤s∧u= .int .i64 (k:Int)∧v= .bool l∧Hid (l=sM xs k)) (fun u _=>s - (intOf u).toNat)
  case atStart=>exact ⟨0,false,Nat.zero_le _,rfl,rfl,Lib.hid (by simp [sM,nval])⟩
  case round=>
   obtain ⟨k,l,hk,rfl,rfl,HLL⟩:=hrel
   by_cases hlt:k<s
   ·obtain ⟨ad,x,hA,_,hbl,hx,hcx⟩:=HA.out.get_ (j:=k) (by omega)
    subst hA
    have i1:(0:Int)≤(k:Int):=by omega
    have i2:(k:Int)<(n:Int):=by omega
    have HLS:=Lib.hid (zL hx.out)
    cases l
    ·go_wp2
     go_round
     case rel=>exact ⟨k+1,_,by omega,by go_num,rfl,Lib.hid (by rw [HLS.out,←HLL.out];simp [AM])⟩
     case measure=>simp [intOf];omega
    ·go_wp2
     go_round
     case rel=>exact ⟨k+1,_,by omega,by go_num,rfl,Lib.hid (by rw [HLS.out,←HLL.out];simp)⟩
     case measure=>simp [intOf];omega
   ·obtain ⟨ad,x,hA,_,hbl,hx,hcx⟩:=HA.out.get_ (j:=s) (by omega)
    subst hA
    have i1:(0:Int)≤(s:Int):=by omega
    have i2:(s:Int)<(n:Int):=by omega
    rw [show k=s by omega] at HLL
    have HXB:=Lib.hid (HX.out.get hx.out)
    have HFL:=Lib.hid (zI (q:=q) HX.out hx.out hq32)
    have HX0:=hx
    clear hx
    have HSN:=Lib.hid hsn
    obtain ⟨M,hM⟩:∃ M:Int,M=((2:Int)^q - 1)%4294967296:=⟨_,rfl⟩
    have m1:((2:Int)^q - 1)%4294967296=M:=hM.symm
    have m2:IntKind.u32.wrap ((2:Int)^q - 1)=M:=by rw [IntKind.wrap_u32,hM]
    obtain ⟨V,hV⟩:∃ V:Int,V=bits .and .u32 (x:Int) M:=⟨_,rfl⟩
    have m3:bits .and .u32 (x:Int) M=V:=hV.symm
    obtain ⟨l2,hl2⟩:∃ l2:Bool,l2=(V !=0):=⟨_,rfl⟩
    have m4:(V !=0)=l2:=hl2.symm
    have hfl:(l||l2)=uu n s b xs:=by
     unfold uu
     rw [if_pos hsn,←HB.out,HFL.out,←HLL.out,hl2,hV,hM,Jl HXB.out hq32,AM]
    clear i1 hM hV hl2
    cases l
    all_goals
     go_wp2
     go_quiet (fail)
     go_wp2
     try rw [e2]
     try generalize Value.int IntKind.u32 ((2:Int)^q%4294967296)=va
     try generalize Value.int IntKind.u32 (((2:Int)^q%4294967296 - 1)%4294967296)=vb
     go_loopw [9,8] (fun u v wr=>AF w n s q xs u v wr) (fun u _ _=>n - (intOf u).toNat)
     case atStart=>exact ⟨s,[],Nat.le_refl _,by omega,rfl,Lib.hid (by rw [Nat.sub_self];exact DownI.start),Lib.hid (OutL.nil _ _ _ _),Lib.hid (bV (Below.refl _ _) _)⟩
     case round=>
      obtain ⟨k2,out,hks,hkn,rfl,hI,hO,hBw⟩:=hrel
      obtain ⟨A0,n0,c0,rfl,hn0,hrd0⟩:=hO.out.rdn
      clear hcx HX0
      by_cases hlt:k2<n
      ·obtain ⟨ad2,x2,hA,_,hbl2,hx2,hcx0⟩:=HA.out.get_ (j:=k2) hlt
       obtain rfl:ad=ad2:=by injection hA
       have hcx:wr.cell? (ad.add k2)=some (.int .u32 (x2:Int)):=by rw [←hcx0];exact hBw.out.cell (by rw [au];omega)
       have hxB:=HX.out.get hx2.out
       have hyB:=nY HX.out (by unfold B32;omega) (k2+1)
       have hdig:∀ (W:World) (t:Int),Rd .u32 W lo hi (some ad) n c xs→t=(k2:Int)+1→Calls Tryz.prog 233 #[.slice (some ad) n c,.int .i64 t] W fun e w'=>e= .returned (.int .u64 ((xs.getD (k2+1) 0:Nat):Int))∧W=w':=by
        rintro W t h rfl
        exact lW W lo hi (some ad) n c (k2+1) xs h HX.out
       have hb1:=Lib.hid (HA.out.below (hBw.out.mono hhi))
       have hstep:=fun z T d=>hI.out.step (z:=z) (T:=T) (d:=d) hq32
       rw [nX,nX,show s+(k2 - s)=k2 by omega,show s+(k2 - s+1)=k2+1 by omega,getD_of hx2.out,show k2 - s+1=k2+1 - s by omega] at hstep
       have hlen:=hI.out.1
       generalize xs.getD (k2+1) 0=y at*
       have z0:=gt x2 hxB
       obtain ⟨z1,z2⟩:=qF x2 y hxB hyB
       unfold B32 at hxB hyB
       obtain ⟨yy,hyy⟩:∃ yy,yy=y*4294967296:=⟨_,rfl⟩
       obtain ⟨z,hz⟩:∃ z,z=x2+4294967296*y:=⟨_,rfl⟩
       have hzB:z<18446744073709551616:=by omega
       rw [←hyy] at z1 z2
       rw [←hz] at z2
       obtain ⟨T,hT⟩:∃ T,T=z / 2^q:=⟨_,rfl⟩
       have z3:(z:Int) / 2^q=(T:Int):=by rw [hT];simp
       have hTB:T<18446744073709551616:=by
        have:=Nat.div_le_self z (2^q)
        omega
       have z4:=mK T hTB
       obtain ⟨d,hd⟩:∃ d,d=T%4294967296:=⟨_,rfl⟩
       rw [←hd] at z4
       have z5:IntKind.u32.wrap (d:Int)=(d:Int):=by rw [IntKind.wrap_u32];omega
       have hI2:=Lib.hid (hstep z T d hxB hz hT hd)
       obtain ⟨v',w',hrun,hO',hB'⟩:=uK wr.drew w.heap.size _ _ [d] hO.out.drew_ hBw.out.size (by rw [hlen];simp;omega)
       have HR:=Lib.hid (show (Builtin.append_ #[124,124] 124 #[.slice A0 n0 c0,.slice (some ⟨wr.heap.size,0,none⟩) 1 1]).run Tryz.prog ((wr.alloc (.cells #[.int .u32 (d:Int)] 157)).drew)= .ok v' w' from hrun)
       have HO2:=Lib.hid hO';have HB2:=Lib.hid (hBw.out.trans (show Below w.heap.size wr w' from ⟨hB'.os,hB'.tape,hB'.output,hB'.size,hB'.block⟩))
       have HC:=Lib.hid hdig
       have i1:(0:Int)≤(k2:Int):=by omega
       have i3:(k2:Int)<(n:Int):=by omega
       have j1:IntKind.i64.wrap ((k2:Int)+1)=(k2:Int)+1:=IntWalk.i64_in _ (by omega)
       clear hcx0 hdig hstep hlen hrun hO' hB' hyy hz hT hd hxB hyB hzB hTB hA
       go_wp2
       go_region_with (go_at_call 233;refine (HC.out _ _ ?_ ?_).mono ?_;(exact hb1.out);(first |rfl |omega);rintro _ w3 ⟨rfl,rfl⟩)
       all_goals
        go_wp2_with (at_builtin;refine bX rfl (.tmp 66) (.tmp 73) _ rfl _ _ _ _ rfl rfl HR.out ?_)
        go_roundw
        case rel=>exact ⟨k2+1,_,by omega,by omega,by go_num,hI2,HO2,HB2⟩
        case measure=>simp [intOf];omega
      ·obtain rfl:k2=n:=by omega
       have hN:=hI.out.done (by rw [List.length_drop];have:=HL.out;omega)
       rw [kA aD HX.out s (by have:=HL.out;omega),Nat.div_div_eq_div_mul,HB.out] at hN
       have HN:=Lib.hid hN
       have hlen:n0≤k2:=by rw [←hn0.out,hI.out.1];omega
       clear hN
       go_wp2_with fail
       refine (io wr w.heap.size wr.heap.size A0 n0 c0 out hrd0.out hI.out.2.1 (by omega)).mono ?_
       rintro e w' ⟨A3,c3,rfl,rfl,hA3,hc3⟩
       have hfin:=hrd0.out.trim hI.out.2.1 hA3 hc3
       rw [HN.out] at hfin
       have HF:=Lib.hid hfin
       clear hfin hA3 hc3
       go_wp2
       go_ret2
       exact ⟨_,_,_,by rw [←hfl];simp,HF.out,hBw.out⟩
theorem Kq {w:World} {A:Option Addr} {n c N k b:Nat} (ha:Dg w A n c N) (hN:N<B64^k) (hk:k≤100000) (hb:b≤1000000):
  Calls Tryz.prog 220 #[.slice A n c,.int .i64 (b:Int)] w (wW w (N / 2^b) (decide (N%2^b≠0))):=by
 have h:=xq w 0 _ A n c _ _ b _ ha (az aD _) (by have:=ha.len hN;omega) (Nat.le_refl _) hb rfl rfl
 rw [ay aD] at h
 have e:uu n (b / 32) b (aS B32 N)=decide (N%2^b≠0):=by
  unfold uu
  rw [ay aD]
  split
  ·rfl
  ·rename_i hs
   have h1:N<B32^n:=by have:=ck (az aD N);rwa [ay aD,ha.1] at this
   have h2:N<2^b:=by
    refine Nat.lt_of_lt_of_le h1 ?_
    rw [rq]
    exact Nat.pow_le_pow_right (by omega) (by omega)
   rw [Nat.mod_eq_of_lt h2]
   have h3:n=0↔N=0:=by
    constructor
    ·intro e;subst e;exact (dN aD).1 (List.eq_nil_of_length_eq_zero ha.1)
    ·intro e;subst e;have:=ha.1;rw [aK] at this;exact this.symm
   apply decide_eq_decide.2
   omega
 rwa [e] at h
end
end Go.Proofs.YtpacpmmdjmnamaaGreatDoor
