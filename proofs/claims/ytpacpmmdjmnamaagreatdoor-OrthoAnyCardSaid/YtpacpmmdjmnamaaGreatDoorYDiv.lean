/- math/bits.LeadingZeros64. Plain arithmetic: a quotient of two words by one, a half word at a time. No program stands in it. math/bits.Div64: the quotient. Plain arithmetic: long division in words. No program stands in it. -/
import Derived.Test.YtpacpmmdjmnamaaGreatDoorYNatB
import Derived.Test.YtpacpmmdjmnamaaGreatDoorYNatA
import Derived.LoopTactic
import Derived.Deep.QuietTactic
import Derived.BigQuiet
import Derived.Deep.DeepCutAuto
import Derived.Deep.CutBlock
import Derived.Test.YtpacpmmdjmnamaaGreatDoorYNat1
namespace Go.Proofs.YtpacpmmdjmnamaaGreatDoor
set_option maxHeartbeats 2000000
set_option maxRecDepth 100000
open Go.RowKit Nx
theorem oX (x:Nat) (w:World) (h:x<B64):Calls Tryz.prog 240 #[.int .u64 (x:Int)] w fun e w'=>e= .returned (.int .i64 ((64 - nbits x:Nat):Int))∧w=w':=by
 have hb:nbits x≤64:=bh (show x<2^64 by unfold B64 at h;omega)
 go_enter Tryz.func240,Tryz.ntmps240
 go_wp2_with (go_at_call 173;refine (mX _ _ h).mono ?_;rintro e w' ⟨rfl,rfl⟩)
 go_ret
 exact ⟨congrArg (fun z=>Ending.returned (Value.int IntKind.i64 z)) (by omega),rfl⟩
end Go.Proofs.YtpacpmmdjmnamaaGreatDoor
namespace Go.Proofs.YtpacpmmdjmnamaaGreatDoor.Nx
structure Guess (b Y y1 y0 U n q r:Nat):Prop where
 hY:Y=y1*b+y0
 h0:y0<b
 hr:q*y1+r=U
 hn:n<b
 hU:U<Y
 up:(U*b+n) / Y≤q
theorem Guess.full {b Y y1 y0 U n q r:Nat} (g:Guess b Y y1 y0 U n q r):q*Y+b*r=U*b+q*y0:=by
 rw [g.hY,←g.hr];grind
theorem Guess.lt {b Y y1 y0 U n q r:Nat} (g:Guess b Y y1 y0 U n q r):(U*b+n) / Y<b:=by
 have h1:=g.hU;have h2:=g.hn
 rw [Nat.div_lt_iff_lt_mul (by omega)]
 have:b*(U+1)≤b*Y:=Nat.mul_le_mul_left b h1
 rw [Nat.mul_add] at this
 rw [Nat.mul_comm U b];omega
theorem Guess.done {b Y y1 y0 U n q r:Nat} (g:Guess b Y y1 y0 U n q r) (h:q*y0≤b*r+n):(U*b+n) / Y=q:=by
 have h1:=g.full;have h2:=g.up;have h3:=g.hU
 have:q≤(U*b+n) / Y:=by
  rw [Nat.le_div_iff_mul_le (by omega)];omega
 omega
theorem Guess.high {b Y y1 y0 U n q r:Nat} (g:Guess b Y y1 y0 U n q r) (h:b≤q∨b*r+n<q*y0):(U*b+n) / Y+1≤q:=by
 rcases h with h |h
 ·have:=g.lt;omega
 ·have h1:=g.full;have h3:=g.hU
  have:(U*b+n) / Y<q:=by
   rw [Nat.div_lt_iff_lt_mul (by omega)];omega
  omega
theorem Guess.next {b Y y1 y0 U n q r:Nat} (g:Guess b Y y1 y0 U n q r) (h:b≤q∨b*r+n<q*y0):Guess b Y y1 y0 U n (q - 1) (r+y1):=by
 have hh:=g.high h
 refine ⟨g.hY,g.h0,?_,g.hn,g.hU,Nat.le_sub_of_add_le hh⟩
 have h1:=g.hr
 have hq0:0<q:=Nat.lt_of_lt_of_le (Nat.succ_pos _) hh
 obtain ⟨q',rfl⟩:∃ q',q=q'+1:=⟨q - 1,by omega⟩
 rw [Nat.add_mul] at h1
 rw [Nat.add_sub_cancel];omega
theorem Guess.broke {b Y y1 y0 U n q r:Nat} (g:Guess b Y y1 y0 U n q r) (hq:q≤b) (hb:b≤r):(U*b+n) / Y=q:=by
 refine g.done ?_
 have h1:q*y0≤b*b:=Nat.mul_le_mul hq (Nat.le_of_lt g.h0)
 have h2:b*b≤b*r:=Nat.mul_le_mul_left b hb
 omega
theorem Guess.first {b Y y1 y0 U n:Nat} (hY:Y=y1*b+y0) (h0:y0<b) (hn:n<b) (hU:U<Y) (hy:0<y1):Guess b Y y1 y0 U n (U / y1) (U%y1):=by
 refine ⟨hY,h0,Nat.div_add_mod' U y1,hn,hU,?_⟩
 have hb:0<b:=by omega
 have h1:(U*b+n) / Y≤(U*b+n) / (y1*b):=Nat.div_le_div_left (by omega) (Nat.mul_pos hy hb)
 have h2:(U*b+n) / (y1*b)=U / y1:=by
  rw [Nat.mul_comm y1 b,←Nat.div_div_eq_div_mul,Nat.mul_comm U b,Nat.mul_add_div hb,Nat.div_eq_of_lt hn,Nat.add_zero]
 omega
theorem Guess.le {b Y y1 y0 U n q r:Nat} (g:Guess b Y y1 y0 U n q r) (hy:b≤2*y1):U / y1≤b+1:=by
 have h1:=g.hU;have h2:=g.hY;have h0:=g.h0
 have hy1:0<y1:=by omega
 have:U / y1<b+2:=by
  rw [Nat.div_lt_iff_lt_mul hy1,Nat.add_mul,Nat.mul_comm b y1];omega
 omega
theorem vE (b U n1 n0 Y:Nat) (hY:0<Y):((U*b+n1)*b+n0) / Y=(U*b+n1) / Y*b+((U*b+n1)%Y*b+n0) / Y:=by
 have h:=Nat.div_add_mod (U*b+n1) Y
 generalize (U*b+n1) / Y=Q at*
 generalize (U*b+n1)%Y=V at*
 rw [←h,show (Y*Q+V)*b+n0=Y*(Q*b)+(V*b+n0) by grind,Nat.mul_add_div hY]
theorem Dn (hi lo s:Nat) (hs:s≤64):
  (hi*18446744073709551616+lo)*2^s=((hi*2^s+lo / 2^(64 - s))*4294967296+lo*2^s%18446744073709551616 / 4294967296)*4294967296+lo*2^s%18446744073709551616%4294967296:=by
 have hp:2^(64 - s)*2^s=18446744073709551616:=by rw [←Nat.pow_add,Nat.sub_add_cancel hs]
 have hd:lo*2^s / 18446744073709551616=lo / 2^(64 - s):=by
  rw [←hp,Nat.mul_div_mul_right _ _ (Nat.two_pow_pos s)]
 rw [←hd,Nat.add_mul]
 have:=Nat.mul_right_comm hi 18446744073709551616 (2^s)
 generalize lo*2^s=L at*
 generalize hi*2^s=H at*
 omega
end Go.Proofs.YtpacpmmdjmnamaaGreatDoor.Nx
namespace Go.Proofs.YtpacpmmdjmnamaaGreatDoor
open Go.RowKit Nx
def qW (q:Nat) (w:World) (e:Ending) (w':World):Prop:=∃ (r:Value) (m:Nat),e= .returned (.tuple #[.int .u64 (q:Int),r])∧w'=w.drewN m
theorem pq (a s:Nat):(a:Int)*2^s=((a*2^s:Nat):Int):=by simp
theorem yX (a s:Nat):(a:Int) / 2^s=((a / 2^s:Nat):Int):=by simp
theorem sP (lo y:Nat) (hlo:lo<B64) (hy:y<B64) (h:0<y) (w:World):
  Calls Tryz.prog 245 #[.int .u64 (0:Int),.int .u64 (lo:Int),.int .u64 (y:Int)] w (qW (lo / y) w):=by
 unfold B64 at hlo hy
 have h0:((y:Int)==0)=false:=by simp;omega
 have h1:(0:Int)<y:=by omega
 have hq:lo / y≤lo:=Nat.div_le_self lo y
 have e:IntKind.u64.wrap ((lo:Int) / (y:Int))=((lo / y:Nat):Int):=by
  rw [show (lo:Int) / (y:Int)=((lo / y:Nat):Int) from (Int.natCast_ediv lo y).symm,aC _ (by omega)]
 go_enter Tryz.func245,Tryz.ntmps245
 go_wp2
 go_quiet (fail)
 go_wp2
 go_ret2
 exact ⟨_,_,rfl,rfl⟩
theorem sO (hi lo y s Y y1 y0 U L n1 n0:Nat) (hlo:lo<18446744073709551616) (hy:y<18446744073709551616) (hh:hi<y) (hs:s=64 - nbits y)
  (hY:Y=y*2^s) (hy1:y1=Y / 4294967296) (hy0:y0=Y%4294967296) (hU:U=hi*2^s+lo / 2^(64 - s)) (hL:L=lo*2^s%18446744073709551616)
  (hn1:n1=L / 4294967296) (hn0:n0=L%4294967296):
  Y<18446744073709551616∧U<Y∧4294967296≤2*y1∧U<18446744073709551616∧hi*2^s<18446744073709551616∧
  IntKind.u64.wrap ((y:Int)*2^s)=(Y:Int)∧(Y:Int) / 4294967296=(y1:Int)∧bits .and .u64 (Y:Int) 4294967295=(y0:Int)∧
  bits .or .u64 (IntKind.u64.wrap ((hi:Int)*2^s)) ((lo:Int) / 2^(64 - s))=(U:Int)∧
  IntKind.u64.wrap ((lo:Int)*2^s)=(L:Int)∧(L:Int) / 4294967296=(n1:Int)∧bits .and .u64 (L:Int) 4294967295=(n0:Int):=by
 have hb:nbits y≤64:=bh (show y<2^64 from hy)
 have hyne:y≠0:=by omega
 have hlt:=dt y
 have hge:=gz hyne
 have hpos:=dS hyne
 have hp:2^nbits y*2^s=18446744073709551616:=by rw [←Nat.pow_add,show nbits y+s=64 by omega]
 have hp':2^(nbits y - 1)*2^s=9223372036854775808:=by rw [←Nat.pow_add,show nbits y - 1+s=63 by omega]
 have hsp:=Nat.two_pow_pos s
 have hYlt:Y<18446744073709551616:=by rw [hY,←hp];exact Nat.mul_lt_mul_of_pos_right hlt hsp
 have hYge:9223372036854775808≤Y:=by rw [hY,←hp'];exact Nat.mul_le_mul_right _ hge
 have hq:2^(64 - s)*2^s=18446744073709551616:=by rw [←Nat.pow_add,show 64 - s+s=64 by omega]
 have hlow:lo / 2^(64 - s)<2^s:=by
  rw [Nat.div_lt_iff_lt_mul (Nat.two_pow_pos _),Nat.mul_comm,hq];exact hlo
 have hhi:(hi+1)*2^s≤Y:=by rw [hY];exact Nat.mul_le_mul_right _ hh
 rw [Nat.add_mul,Nat.one_mul] at hhi
 have hUY:U<Y:=by omega
 refine ⟨hYlt,hUY,by omega,by omega,by omega,?_,by omega,?_,?_,?_,by omega,?_⟩
 ·rw [pq,aC _ (by omega),hY]
 ·rw [ix Y hYlt,hy0]
 ·rw [pq,aC _ (by omega),yX,bits_or_u64_nat _ _ (by omega) (by omega),hU]
  congr 1
  rw [Nat.mul_comm hi,←Nat.two_pow_add_eq_or_of_lt hlow]
 ·rw [pq,lm,hL]
 ·rw [ix L (by omega),hn0]
def oC (Y y1 y0 U n:Nat) (u v:Value):Prop:=∃ a r:Int,u= .int .u64 a∧v= .int .u64 r∧0≤a∧0≤r∧Hid (a≤4294967297∧r<4294967296∧Guess 4294967296 Y y1 y0 U n a.toNat r.toNat)
theorem px {Y y1 y0 U n:Nat} {a r:Int} (ha0:0≤a) (hr0:0≤r) (ha:a≤4294967297) (hr:r<4294967296) (g:Guess 4294967296 Y y1 y0 U n a.toNat r.toNat) (hy1:y1<4294967296):
  ∃ a2 r2 m z z0:Int,IntKind.u64.wrap (r+(y1:Int))=r2∧(1≤a→IntKind.u64.wrap (a - 1)=a2)∧(a<4294967296→IntKind.u64.wrap (a*(y0:Int))=m)∧
   IntKind.u64.wrap (4294967296*r)=z0∧IntKind.u64.wrap (z0+(n:Int))=z∧IntKind.u64.wrap (4294967296*r+(n:Int))=z∧0≤r2∧
   ((4294967296≤a∨(a<4294967296∧z<m))→1≤a∧0≤a2∧a2<a∧(r2<4294967296→oC Y y1 y0 U n (.int .u64 a2) (.int .u64 r2))∧(4294967296≤r2→a2=(((U*4294967296+n) / Y:Nat):Int)))∧
   (a<4294967296→m≤z→a=(((U*4294967296+n) / Y:Nat):Int)):=by
 have h0:=g.h0;have hn:=g.hn
 obtain ⟨A,rfl⟩:=Int.eq_ofNat_of_zero_le ha0
 obtain ⟨R,rfl⟩:=Int.eq_ofNat_of_zero_le hr0
 rw [Int.toNat_natCast,Int.toNat_natCast] at g
 have hz:IntKind.u64.wrap (4294967296*(R:Int)+(n:Int))=((4294967296*R+n:Nat):Int):=by
  rw [show (4294967296:Int)*(R:Int)+(n:Int)=((4294967296*R+n:Nat):Int) by omega,aC _ (by omega)]
 have hz0:IntKind.u64.wrap (4294967296*(R:Int))=((4294967296*R:Nat):Int):=by
  rw [show (4294967296:Int)*(R:Int)=((4294967296*R:Nat):Int) by omega,aC _ (by omega)]
 have hm:(A:Int)<4294967296→IntKind.u64.wrap ((A:Int)*(y0:Int))=((A*y0:Nat):Int):=by
  intro h
  have h2:A*y0<18446744073709551616:=by
   have:=Nat.mul_lt_mul_of_le_of_lt (show A≤4294967296 by omega) h0 (by omega:0<4294967296)
   omega
  rw [ku,aC _ h2]
 refine ⟨((A - 1:Nat):Int),((R+y1:Nat):Int),((A*y0:Nat):Int),((4294967296*R+n:Nat):Int),((4294967296*R:Nat):Int),?_,?_,hm,hz0,?_,hz,Int.natCast_nonneg _,?_,?_⟩
 ·rw [gt,aC _ (by omega)]
 ·intro h;rw [show (A:Int) - 1=((A - 1:Nat):Int) by omega,aC _ (by omega)]
 ·rw [gt,aC _ (by omega)]
 ·intro t
  have t':4294967296≤A∨4294967296*R+n<A*y0:=by
   rcases t with t |⟨_,t⟩
   ·left;omega
   ·right;exact Int.ofNat_lt.1 t
  have hp:=g.high t'
  have hp':0<A:=Nat.lt_of_lt_of_le (Nat.succ_pos _) hp
  have nx:=g.next t'
  refine ⟨by omega,by omega,by omega,fun h=>⟨_,_,rfl,rfl,Int.natCast_nonneg _,Int.natCast_nonneg _,Lib.hid ⟨by omega,h,?_⟩⟩,fun h=>?_⟩
  ·rw [Int.toNat_natCast,Int.toNat_natCast];exact nx
  ·rw [nx.broke (by omega) (by omega)]
 ·intro _ h
  rw [g.done (Int.ofNat_le.1 h)]
theorem zF {Y y1 y0 U n1 n0:Nat} (hY:Y=y1*4294967296+y0) (h0:y0<4294967296) (hn1:n1<4294967296) (hn0:n0<4294967296) (hU:U<Y) (hYb:Y<18446744073709551616) (hy1:4294967296≤2*y1):
  ∃ (Q1 V q r Q0:Nat) (p p2 p3 p4 p5:Int),Q1=(U*4294967296+n1) / Y∧Q0=(V*4294967296+n0) / Y∧
   IntKind.u64.wrap ((U:Int)*4294967296)=p∧IntKind.u64.wrap (p+(n1:Int))=p2∧IntKind.u64.wrap ((Q1:Int)*(Y:Int))=p3∧IntKind.u64.wrap (p2 - p3)=(V:Int)∧
   IntKind.u64.wrap ((V:Int) / (y1:Int))=(q:Int)∧IntKind.u64.wrap ((V:Int).tdiv (y1:Int))=(q:Int)∧IntKind.u64.wrap ((q:Int)*(y1:Int))=p4∧IntKind.u64.wrap ((V:Int) - p4)=(r:Int)∧
   IntKind.u64.wrap ((Q1:Int)*4294967296)=p5∧IntKind.u64.wrap (p5+(Q0:Int))=((((U*4294967296+n1)*4294967296+n0) / Y:Nat):Int)∧
   oC Y y1 y0 V n0 (.int .u64 (q:Int)) (.int .u64 (r:Int)):=by
 have hYp:0<Y:=by omega
 have hdm:=Nat.div_add_mod (U*4294967296+n1) Y
 have hV:(U*4294967296+n1)%Y<Y:=Nat.mod_lt _ hYp
 have hth:=vE 4294967296 U n1 n0 Y hYp
 have g1:Guess 4294967296 Y y1 y0 U n1 (U / y1) (U%y1):=Guess.first hY h0 hn1 hU (by omega)
 have hQ1:=g1.lt
 obtain ⟨Q1,hq⟩:∃ Q1,Q1=(U*4294967296+n1) / Y:=⟨_,rfl⟩
 obtain ⟨V,hv⟩:∃ V,V=(U*4294967296+n1)%Y:=⟨_,rfl⟩
 rw [←hq] at hdm hth hQ1
 rw [←hv] at hdm hth hV
 clear hv g1
 have g:Guess 4294967296 Y y1 y0 V n0 (V / y1) (V%y1):=Guess.first hY h0 hn0 hV (by omega)
 have hQ0:=g.lt
 have hqb:=g.le hy1
 have hdv:=Nat.div_add_mod' V y1
 have hrm:V%y1<y1:=Nat.mod_lt _ (by omega)
 have hqV:V / y1≤V:=Nat.div_le_self _ _
 have hq':IntKind.u64.wrap ((V:Int) / (y1:Int))=((V / y1:Nat):Int):=by
  rw [show (V:Int) / (y1:Int)=((V / y1:Nat):Int) from (Int.natCast_ediv V y1).symm,aC _ (by omega)]
 have hrel:oC Y y1 y0 V n0 (.int .u64 ((V / y1:Nat):Int)) (.int .u64 ((V%y1:Nat):Int)):=
  ⟨_,_,rfl,rfl,Int.natCast_nonneg _,Int.natCast_nonneg _,Lib.hid ⟨by omega,by omega,by rw [Int.toNat_natCast,Int.toNat_natCast];exact g⟩⟩
 refine ⟨Q1,V,V / y1,V%y1,(V*4294967296+n0) / Y,IntKind.u64.wrap ((U:Int)*4294967296),IntKind.u64.wrap (IntKind.u64.wrap ((U:Int)*4294967296)+(n1:Int)),IntKind.u64.wrap ((Q1:Int)*(Y:Int)),
  IntKind.u64.wrap (((V / y1:Nat):Int)*(y1:Int)),IntKind.u64.wrap ((Q1:Int)*4294967296),?_⟩
 refine And.intro ?_ (And.intro ?_ (And.intro ?_ (And.intro ?_ (And.intro ?_ (And.intro ?_ (And.intro hq' (And.intro ?_ (And.intro ?_ (And.intro ?_ (And.intro ?_ (And.intro ?_ hrel)))))))))))
 ·exact hq
 ·rfl
 ·rfl
 ·rfl
 ·rfl
 ·rw [ku,show (U:Int)*4294967296=((U*4294967296:Nat):Int) by omega]
  rw [Nat.mul_comm Q1 Y]
  obtain ⟨a,ha⟩:∃ a,a=Y*Q1:=⟨_,rfl⟩
  rw [←ha] at hdm ⊢
  clear hth hq ha
  simp only [IntKind.wrap_u64]
  omega
 ·rw [Int.tdiv_eq_ediv_of_nonneg (by omega)];exact hq'
 ·rfl
 ·rw [ku]
  obtain ⟨a,ha⟩:∃ a,a=V / y1*y1:=⟨_,rfl⟩
  rw [←ha] at hdv ⊢
  clear hth hq ha hq' hrel
  simp only [IntKind.wrap_u64]
  omega
 ·rfl
 ·rw [hth]
  obtain ⟨Q0,h0q⟩:∃ Q0,Q0=(V*4294967296+n0) / Y:=⟨_,rfl⟩
  rw [←h0q] at hQ0 ⊢
  clear hth hq h0q hq' hrel
  simp only [IntKind.wrap_u64]
  omega
theorem xb (hi lo y s Y y1 y0 U L n1 n0 q r T:Nat) (hT:((U*4294967296+n1)*4294967296+n0) / Y=T) (hlo:lo<B64) (hy:y<B64) (hh:hi<y) (h0:0<hi) (hs:s=64 - nbits y)
  (hY:Y=y*2^s) (hy1:y1=Y / 4294967296) (hy0:y0=Y%4294967296) (hU:U=hi*2^s+lo / 2^(64 - s)) (hL:L=lo*2^s%18446744073709551616)
  (hn1:n1=L / 4294967296) (hn0:n0=L%4294967296) (hq:q=U / y1) (hr:r=U%y1) (w:World):
  Calls Tryz.prog 245 #[.int .u64 (hi:Int),.int .u64 (lo:Int),.int .u64 (y:Int)] w (qW T w):=by
 have hyB:=Lib.hid hy
 unfold B64 at hlo hy
 obtain ⟨b1,b2,b3,b4,b5,e1,e2,e3,e4,e5,e6,e7⟩:=sO hi lo y s Y y1 y0 U L n1 n0 hlo hy hh hs hY hy1 hy0 hU hL hn1 hn0
 have hqU:q≤U:=by rw [hq];exact Nat.div_le_self U y1
 have hdm:q*y1+r=U:=by rw [hq,hr];exact Nat.div_add_mod' U y1
 have hqy:q*y1<18446744073709551616:=by omega
 have e8:IntKind.u64.wrap ((U:Int) / (y1:Int))=(q:Int):=by
  rw [show (U:Int) / (y1:Int)=((U / y1:Nat):Int) from (Int.natCast_ediv U y1).symm,←hq,aC _ (by omega)]
 have e8':IntKind.u64.wrap ((U:Int).tdiv (y1:Int))=(q:Int):=by
  rw [Int.tdiv_eq_ediv_of_nonneg (by omega)];exact e8
 have e9:IntKind.u64.wrap ((U:Int) - (q:Int)*(y1:Int))=(r:Int):=by
  rw [ku,show (U:Int) - ((q*y1:Nat):Int)=(r:Int) by omega,aC _ (by omega)]
 have g:Guess 4294967296 Y y1 y0 U n1 q r:=by
  rw [hq,hr];exact Guess.first (by omega) (by omega) (by omega) b2 (by omega)
 have hr1:r<y1:=by rw [hr];exact Nat.mod_lt _ (by omega)
 have hqb:q≤4294967297:=by rw [hq];exact g.le b3
 have h0y:((y:Int)==0)=false:=by simp;omega
 have h0h:((hi:Int)==0)=false:=by simp;omega
 have hny:((y1:Int)==0)=false:=by simp;omega
 have hs64:s≤64:=by omega
 have HS:=Lib.hid hs
 have HG:=Lib.hid g
 have HT:=Lib.hid hT
 have HN0:=Lib.hid (show n0<4294967296 by omega)
 clear hs hY hy1 hy0 hU hL hn1 hn0 hq hr hdm g hT
 go_enter Tryz.func245,Tryz.ntmps245
 go_upto_block 0 with (go_at_call 240;refine (oX _ _ hyB.out).mono ?_;rintro e w' ⟨rfl,rfl⟩;rw [←HS.out])
 go_cut [15] (fun u wx=>u= .int .u64 (((U*4294967296+n1) / Y:Nat):Int)∧w=wx)
 case first=>
  clear e1 e2 e3 e4 e5 e6 e7 e8 e8' e9
  have y1b:y1<4294967296:=by have:=HG.out.hY;omega
  go_wp2_with fail
  go_loop [15,16] (fun u v=>oC Y y1 y0 U n1 u v) (fun u _=>(intOf u).toNat)
  case atStart=>exact ⟨_,_,rfl,rfl,Int.natCast_nonneg q,Int.natCast_nonneg r,Lib.hid ⟨by omega,by omega,by rw [Int.toNat_natCast,Int.toNat_natCast];exact HG.out⟩⟩
  case round=>
   obtain ⟨a,r',rfl,rfl,ha0,hr0,hg⟩:=hrel
   obtain ⟨a2,r2,m,z,z0,e1,e2,e3,e4,e5,e6,hr2,hyes,hno⟩:=px ha0 hr0 hg.out.1 hg.out.2.1 hg.out.2.2 y1b
   have HN:=Lib.hid hno
   have HY:=Lib.hid hyes
   clear hno hyes hlo hy hh h0 b1 b2 b3 b4 b5 hqU hqy hr1 hqb y1b h0y h0h hny hs64
   by_cases t:4294967296≤a
   ·obtain ⟨g1,g2,g3,g4,g5⟩:=HY.out (.inl t)
    have e2':=e2 g1
    have G4:=Lib.hid g4
    have G5:=Lib.hid g5
    clear g4 g5 e2 e3
    by_cases t2:4294967296≤r2
    ·go_wp2_with fail
     go_meet
     exact ⟨by rw [G5.out t2],rfl⟩
    ·go_wp2_with fail
     go_round
     case rel=>exact G4.out (by omega)
     case measure=>simp [intOf];omega
   ·have e3':=e3 (by omega)
    clear e3
    by_cases t3:z<m
    ·obtain ⟨g1,g2,g3,g4,g5⟩:=HY.out (.inr ⟨by omega,t3⟩)
     have e2':=e2 g1
     have G4:=Lib.hid g4
     have G5:=Lib.hid g5
     clear g4 g5 e2
     by_cases t2:4294967296≤r2
     ·go_wp2_with fail
      go_meet
      exact ⟨by rw [G5.out t2],rfl⟩
     ·go_wp2_with fail
      go_round
      case rel=>exact G4.out (by omega)
      case measure=>simp [intOf];omega
    ·clear e2
     go_wp2_with fail
     go_meet
     exact ⟨by rw [HN.out (by omega) (by omega)],rfl⟩
 case rest=>
  obtain ⟨rfl,rfl⟩:=hcut
  have y1b:y1<4294967296:=by have:=HG.out.hY;omega
  have hy1p:0<y1:=by omega
  obtain ⟨Q1,V,q',r',Q0,p,p2,p3,p4,p5,hQ1,hQ0,f1,f2,f3,f4,f5,f6,f7,f8,f9,f10,hrel0⟩:=zF HG.out.hY HG.out.h0 HG.out.hn HN0.out b2 b1 b3
  rw [←hQ1]
  rw [HT.out] at f10
  have HR:=Lib.hid hrel0
  have HQ0:=Lib.hid hQ0
  have HY1:=Lib.hid y1b
  clear e1 e2 e3 e4 e5 e6 e7 e8 e8' e9 hrel0 hQ0 hQ1 hlo hy hh h0 b1 b2 b3 b4 b5 hqU hqy hr1 hqb h0y h0h hs64 hny y1b
  go_upto_block 2 with fail
  go_cut [18] (fun u wx=>u= .int .u64 (Q0:Int)∧w=wx)
  case first=>
   clear f1 f2 f3 f4 f5 f6 f7 f8 f9 f10
   go_wp2_with fail
   go_loop [18,16] (fun u v=>oC Y y1 y0 V n0 u v) (fun u _=>(intOf u).toNat)
   case atStart=>exact HR.out
   case round=>
    obtain ⟨a,r',rfl,rfl,ha0,hr0,hg⟩:=hrel
    obtain ⟨a2,r2,m,z,z0,e1,e2,e3,e4,e5,e6,hr2,hyes,hno⟩:=px ha0 hr0 hg.out.1 hg.out.2.1 hg.out.2.2 HY1.out
    have HN:=Lib.hid hno
    have HY:=Lib.hid hyes
    clear hno hyes
    by_cases t:4294967296≤a
    ·obtain ⟨g1,g2,g3,g4,g5⟩:=HY.out (.inl t)
     have e2':=e2 g1
     have G4:=Lib.hid g4
     have G5:=Lib.hid g5
     clear g4 g5 e2 e3
     by_cases t2:4294967296≤r2
     ·go_wp2_with fail
      go_meet
      exact ⟨by rw [G5.out t2,HQ0.out],rfl⟩
     ·go_wp2_with fail
      go_round
      case rel=>exact G4.out (by omega)
      case measure=>simp [intOf];omega
    ·have e3':=e3 (by omega)
     clear e3
     by_cases t3:z<m
     ·obtain ⟨g1,g2,g3,g4,g5⟩:=HY.out (.inr ⟨by omega,t3⟩)
      have e2':=e2 g1
      have G4:=Lib.hid g4
      have G5:=Lib.hid g5
      clear g4 g5 e2
      by_cases t2:4294967296≤r2
      ·go_wp2_with fail
       go_meet
       exact ⟨by rw [G5.out t2,HQ0.out],rfl⟩
      ·go_wp2_with fail
       go_round
       case rel=>exact G4.out (by omega)
       case measure=>simp [intOf];omega
     ·clear e2
      go_wp2_with fail
      go_meet
      exact ⟨by rw [HN.out (by omega) (by omega),HQ0.out],rfl⟩
  case rest=>
   obtain ⟨rfl,rfl⟩:=hcut
   clear f1 f2 f3 f4 f5 f6 f7 f8
   go_wp2_with fail
   go_ret2
   exact ⟨_,0,rfl,rfl⟩
theorem xa (hi lo y:Nat) (hlo:lo<B64) (hy:y<B64) (hh:hi<y) (w:World):
  Calls Tryz.prog 245 #[.int .u64 (hi:Int),.int .u64 (lo:Int),.int .u64 (y:Int)] w (qW ((hi*B64+lo) / y) w):=by
 rcases Nat.eq_zero_or_pos hi with e |e
 ·subst e
  have:=sP lo y hlo hy hh w
  rw [Nat.zero_mul,Nat.zero_add]
  exact this
 ·refine xb hi lo y _ _ _ _ _ _ _ _ _ _ _ ?_ hlo hy hh e rfl rfl rfl rfl rfl rfl rfl rfl rfl rfl w
  have hs:64 - nbits y≤64:=by omega
  unfold B64
  rw [←Dn hi lo _ hs,Nat.mul_div_mul_right _ _ (Nat.two_pow_pos _)]
end Go.Proofs.YtpacpmmdjmnamaaGreatDoor
namespace Go.Proofs.YtpacpmmdjmnamaaGreatDoor.Nx
theorem zp {B n t pn pm:Nat} {ps ds:List Nat} (hB:2≤B) (hps:Small B ps) (hn:0<n) (hl:ds.length=n) (hpl:ps.length=n+1) (ht:ds[n - 1]? =some t) (h1:ps[n]? =some pn) (h2:ps[n - 1]? =some pm) (ht0:t≠0):
  nval B ps / nval B ds≤(pn*B+pm) / t:=by
 obtain ⟨j,rfl⟩:∃ j,n=j+1:=⟨n - 1,by omega⟩
 rw [Nat.add_sub_cancel] at ht h2
 have hD:nval B ds=nval B (ds.take j)+B^j*t:=by
  have:=ag B ds j
  rw [List.take_of_length_le (by omega),getD_of ht] at this;exact this
 have hP:nval B ps=nval B (ps.take j)+B^j*(pn*B+pm):=by
  have e1:=ag B ps (j+1)
  have e2:=ag B ps j
  rw [List.take_of_length_le (by omega),getD_of h1,e2,getD_of h2,Nat.pow_succ] at e1
  rw [e1];grind
 have hlow:=aM (hps.take j)
 rw [List.length_take,Nat.min_eq_left (by omega)] at hlow
 have hBj:0<B^j:=Nat.pow_pos (by omega)
 rw [Nat.le_div_iff_mul_le (by omega)]
 have hq:nval B ps / nval B ds*nval B ds≤nval B ps:=Nat.div_mul_le_self _ _
 generalize nval B ps / nval B ds=q at*
 rw [hD,hP,Nat.mul_add] at hq
 have h3:B^j*(q*t)<B^j*(pn*B+pm+1):=by
  rw [Nat.mul_add (B^j),Nat.mul_one]
  have:q*(B^j*t)=B^j*(q*t):=by grind
  rw [this] at hq
  generalize q*nval B (ds.take j)=z at*
  omega
 have:=Nat.lt_of_mul_lt_mul_left h3
 omega
def RedI (B n k c b f:Nat) (cur seg ys:List Nat):Prop:=
 cur.length=n∧Small B cur∧cur.drop k=seg.drop k∧nval B (cur.take k)+f*nval B (ys.take k)=nval B (seg.take k)+B^k*(c+b)
theorem RedI.start {B n f:Nat} {seg ys:List Nat} (hn:seg.length=n) (hs:Small B seg):RedI B n 0 0 0 f seg seg ys:=⟨hn,hs,rfl,by simp [nval]⟩
theorem RedI.step {B n k c b f x y v l c' b':Nat} {cur seg ys:List Nat} (h:RedI B n k c b f cur seg ys) (hx:cur[k]? =some x) (hy:ys.getD k 0=y) (hv:v<B) (he:v+l+b=x+B*b') (hm:l+B*c'=y*f+c):
  RedI B n (k+1) c' b' f (cur.set k v) seg ys:=by
 obtain ⟨h1,h2,h3,h4⟩:=h
 have hk:=dB hx
 refine ⟨by simpa using h1,h2.set k hv,by rw [dR];exact gU h3,?_⟩
 rw [ag,ag,ag,cF,dr _ _ _ hk,getD_of (ky h3 hx),hy,Nat.pow_succ]
 generalize nval B (cur.take k)=a at*
 generalize nval B (seg.take k)=s at*
 generalize nval B (ys.take k)=e at*
 generalize B^k=P at*
 have e1:P*(v+l+b)=P*(x+B*b'):=by rw [he]
 have e2:P*(l+B*c')=P*(y*f+c):=by rw [hm]
 have e3:f*(e+P*y)=f*e+P*(y*f):=by grind
 rw [e3]
 have e4:P*B*(c'+b')=P*(B*c')+P*(B*b'):=by grind
 rw [e4]
 simp only [Nat.mul_add] at e1 e2 h4 ⊢
 omega
theorem RedI.done {B m c b f x v b':Nat} {cur seg ys:List Nat} (h:RedI B (m+1) m c b f cur seg ys) (hn:seg.length=m+1) (hm:ys.length=m) (hx:cur[m]? =some x) (he:v+c+b=x+B*b'):
  nval B (cur.set m v)+f*nval B ys=nval B seg+B^(m+1)*b':=by
 obtain ⟨h1,h2,h3,h4⟩:=h
 have hk:=dB hx
 rw [List.take_of_length_le (l:=ys) (by omega)] at h4
 have e1:nval B (cur.set m v)=nval B (cur.take m)+B^m*v:=by
  have:=ag B (cur.set m v) m
  rw [List.take_of_length_le (by simp;omega),cF,dr _ _ _ hk] at this;exact this
 have e2:nval B seg=nval B (seg.take m)+B^m*x:=by
  have:=ag B seg m
  rw [List.take_of_length_le (by omega),getD_of (ky h3 hx)] at this;exact this
 rw [e1,e2,Nat.pow_succ]
 have e3:B^m*(v+c+b)=B^m*(x+B*b'):=by rw [he]
 have e4:B^m*B*b'=B^m*(B*b'):=by grind
 rw [e4]
 simp only [Nat.mul_add] at e3 h4 ⊢
 omega
def QuoI (P D M wd bo V:Nat):Prop:=V+wd*D=P+M*bo∧bo≤1∧P / D≤wd∧V<M
theorem QuoI.done {P D M wd V:Nat} (hD:0<D) (h:QuoI P D M wd 0 V):wd=P / D∧V=P%D:=by
 obtain ⟨h1,_,h3,_⟩:=h
 have h4:wd≤P / D:=by rw [Nat.le_div_iff_mul_le hD];omega
 have h5:wd=P / D:=by omega
 refine ⟨h5,?_⟩
 have:=Nat.div_add_mod' P D
 rw [←h5] at this;omega
theorem QuoI.high {P D M wd V:Nat} (hD:0<D) (h:QuoI P D M wd 1 V):P / D+1≤wd:=by
 obtain ⟨h1,_,_,h4⟩:=h
 have:P / D<wd:=by rw [Nat.div_lt_iff_lt_mul hD];omega
 omega
theorem QuoI.next {P D M wd V V' cy:Nat} (hD:0<D) (h:QuoI P D M wd 1 V) (hV:V'+M*cy=V+D) (hcy:cy≤1) (hlt:V'<M):QuoI P D M (wd - 1) (1 - cy) V':=by
 have hh:=h.high hD
 obtain ⟨h1,_,_,_⟩:=h
 have hw:0<wd:=Nat.lt_of_lt_of_le (Nat.succ_pos _) hh
 refine ⟨?_,by omega,Nat.le_sub_of_add_le hh,hlt⟩
 obtain ⟨u,rfl⟩:∃ u,wd=u+1:=⟨wd - 1,by omega⟩
 rw [Nat.add_mul,Nat.one_mul] at h1
 rw [Nat.add_sub_cancel]
 rcases (show cy=0∨cy=1 by omega) with e |e<;>subst e<;>simp at* <;>omega
end Go.Proofs.YtpacpmmdjmnamaaGreatDoor.Nx
namespace Go.Proofs.YtpacpmmdjmnamaaGreatDoor
open Go.RowKit Nx
theorem Seg.rd {k:IntKind} {w:World} {g:Nat} {t:TypeId} {pre seg post:List Nat} (h:Seg k w g t pre seg post) {lo hi o n c:Nat} (ho:pre.length=o) (hn:seg.length=n) (hl:lo≤g) (hh:g<hi) (hc:n≤c):
  Rd k w lo hi (some ⟨g,o,none⟩) n c seg:=by
 have:=Row.rd (zs:=pre++seg++post) h (lo:=lo) (hi:=hi) (o:=o) (n:=n) (c:=c) hl hh (by simp;omega) hc
 subst ho;subst hn
 rw [List.append_assoc,List.drop_left,List.take_left] at this
 exact this
def GuessPost (w:World) (q:Nat) (e:Ending) (w':World):Prop:=∃ wd m:Nat,e= .returned (.int .u64 (wd:Int))∧w'=w.drewN m∧wd<B64∧q≤wd
theorem GuessPost.of {w w':World} {q:Nat} {e:Ending} (wd:Nat) (he:e= .returned (.int .u64 (wd:Int))) (h:∃ m,w'=w.drewN m) (h1:wd<B64) (h2:q≤wd):GuessPost w q e w':=by
 obtain ⟨m,hm⟩:=h;exact ⟨wd,m,he,hm,h1,h2⟩
theorem xj (w:World) (lo hi lo' hi':Nat) (A B:Option Addr) (n c cb t:Nat) (ps ds:List Nat) (hp:Rd .u64 w lo hi A (n+1) c ps) (hd:Rd .u64 w lo' hi' B n cb ds) (hps:Small B64 ps) (hds:Small B64 ds)
  (hn0:0<n) (hn:n≤100000000) (ht:ds[n - 1]? =some t) (ht0:t≠0) (hlt:nval B64 ps<B64*nval B64 ds):
  Calls Tryz.prog 243 #[.slice A (n+1) c,.slice B n cb] w (GuessPost w (nval B64 ps / nval B64 ds)):=by
 obtain ⟨ad,pn,hA,_,_,hpn,hcn⟩:=hp.get_ (j:=n) (by omega)
 subst hA
 obtain ⟨ad',pm,hA,_,_,hpm,hcm⟩:=hp.get_ (j:=n - 1) (by omega)
 obtain rfl:ad=ad':=by injection hA
 obtain ⟨bd,t',hA',_,_,ht',hct⟩:=hd.get_ (j:=n - 1) (by omega)
 subst hA'
 obtain rfl:t=t':=by have:=ht'.out;rw [ht] at this;injection this
 have htB:=hds.get ht
 have hge:=zp (B:=B64) B64_two hps hn0 hd.1 hp.1 ht hpn.out hpm.out ht0
 have hD0:0<nval B64 ds:=by
  rcases Nat.eq_zero_or_pos (nval B64 ds) with e |e
  ·rw [e] at hlt;omega
  ·exact e
 have hqB:nval B64 ps / nval B64 ds<B64:=by rw [Nat.div_lt_iff_lt_mul hD0];exact hlt
 have hpmB:=hps.get hpm.out
 have hpnB:=hps.get hpn.out
 obtain ⟨Q,hQ⟩:∃ Q,Q=nval B64 ps / nval B64 ds:=⟨_,rfl⟩
 rw [←hQ] at hge hqB ⊢
 have HQB:=Lib.hid hqB;have HGE:=Lib.hid hge;have HPM:=Lib.hid hpmB;have HTB:=Lib.hid htB
 have i1:((n:Int) - 1).toNat=n - 1:=by omega
 have i2:(0:Int)≤(n:Int) - 1:=by omega
 have i3:(n:Int) - 1<(n:Int):=by omega
 have i4:(n:Int)<(n:Int)+1:=by omega
 have i5:(n:Int) - 1<(n:Int)+1:=by omega
 clear hA ht hqB hge hpmB hpnB htB hlt hD0 hQ hps hds hp hd ht0
 rcases Nat.lt_or_ge pn t with hc |hc
 ·have hcall:=fun W=>Lib.hid (xa pn pm t HPM.out HTB.out hc W)
  have hquo:(pn*B64+pm) / t<B64:=by
   rw [Nat.div_lt_iff_lt_mul (by omega)]
   have h1:(pn+1)*B64≤t*B64:=Nat.mul_le_mul_right _ hc
   have:=HPM.out
   rw [Nat.add_mul,Nat.mul_comm t] at h1;omega
  have HQ2:=Lib.hid hquo
  have f1:decide (t≤pn)=false:=by simp;omega
  clear hquo
  go_enter Tryz.func243,Tryz.ntmps243
  have j1:IntKind.i64.wrap ((n:Int) - 1)=(n:Int) - 1:=IntWalk.i64_in _ (by omega)
  go_wp2
  go_region_with (go_at_call 245;refine (hcall _).out.mono ?_;rintro e w' ⟨r,dn,rfl,rfl⟩)
  all_goals
   go_wp2
   go_ret
   exact GuessPost.of _ rfl (by first |exact ⟨_,rfl⟩|exact Ca _ _ _ |exact ⟨_,World.drewN_drew ..⟩) HQ2.out HGE.out
 ·have f1:decide (t≤pn)=true:=by simp;omega
  go_enter Tryz.func243,Tryz.ntmps243
  go_wp2
  go_ret
  exact GuessPost.of 18446744073709551615 rfl ⟨0,rfl⟩ (by unfold B64;omega) (by have:=HQB.out;unfold B64 at this;omega)
end Go.Proofs.YtpacpmmdjmnamaaGreatDoor
namespace Go.Proofs.YtpacpmmdjmnamaaGreatDoor
open Go.RowKit Nx
def Ew (w:World) (g:Nat) (pre seg post ys:List Nat) (f n m:Nat) (u c b:Value) (wr:World):Prop:=
 ∃ (k cy bo:Nat) (cur:List Nat),k≤m∧u= .int .i64 (k:Int)∧c= .int .u64 (cy:Int)∧b= .int .u64 (bo:Int)∧bo≤1∧
  Hid (RedI B64 n k cy bo f cur seg ys∧cy<B64)∧Hid (Seg .u64 wr g 50 pre cur post)∧Hid (w.grownBy wr (some g))
def BJ (w:World) (g:Nat) (pre seg post ys:List Nat) (f m:Nat) (e:Ending) (w':World):Prop:=
 ∃ (bo:Nat) (out:List Nat),e= .returned (.int .u64 (bo:Int))∧bo≤1∧out.length=m+1∧Small B64 out∧nval B64 out+f*nval B64 ys=nval B64 seg+B64^(m+1)*bo∧
  Seg .u64 w' g 50 pre out post∧w.grownBy w' (some g)
theorem vB (w:World) (lo hi g o m c cb f:Nat) (A:Option Addr) (pre seg post ys:List Nat) (hs:Seg .u64 w g 50 pre seg post) (ho:pre.length=o) (hn:seg.length=m+1) (hnc:m+1≤c)
  (hb:Rd .u64 w lo hi A m cb ys) (hg:hi≤g) (hsm:Small B64 seg) (hys:Small B64 ys) (hf:f<B64) (hbig:m≤1000000000):
  Calls Tryz.prog 244 #[.slice (some ⟨g,o,none⟩) (m+1) c,.slice A m cb,.int .u64 (f:Int)] w (BJ w g pre seg post ys f m):=by
 have HS:=Lib.hid hs;have HO:=Lib.hid ho;have HN:=Lib.hid hn;have HB:=Lib.hid hb;have HM:=Lib.hid hsm;have HY:=Lib.hid hys;have HF:=Lib.hid hf
 have HL:=Lib.hid hb.1
 clear hs ho hn hb hsm hys hf
 go_enter Tryz.func244,Tryz.ntmps244
 go_wp2
 go_loopw [13,7,8] (fun u c b wr=>Ew w g pre seg post ys f (m+1) m u c b wr) (fun u _ _ _=>m - (intOf u).toNat)
 case atStart=>exact ⟨0,0,0,seg,Nat.zero_le _,rfl,rfl,rfl,Nat.zero_le _,Lib.hid ⟨RedI.start HN.out HM.out,by unfold B64;omega⟩,HS,Lib.hid (cW _ _)⟩
 case round=>
  obtain ⟨k,cy,bo,cur,hk,rfl,rfl,rfl,hbo,hI,hS,hG⟩:=hrel
  obtain ⟨x,hx⟩:∃ x,cur[k]? =some x:=⟨cur[k]'(by have:=hI.out.1.1;omega),List.getElem?_eq_getElem _⟩
  have hcx:=hS.out.cell HO.out hx
  have hfx:=hS.out.frozen (o+k)
  have HX:=Lib.hid hx
  clear hx
  have hxB:=hI.out.1.2.1.get HX.out
  have i1:(0:Int)≤(k:Int):=by omega
  have i2:(k:Int)<(m:Int)+1:=by omega
  have hS2:=fun v=>Lib.hid (hS.out.set_ HO.out (i:=k) (by have:=hI.out.1.1;omega) v)
  by_cases hlt:k<m
  ·have i3:(k:Int)<(m:Int):=by omega
   obtain ⟨ad,y,hA,_,hbl,hy,hcy0⟩:=HB.out.get_ (j:=k) (by omega)
   subst hA
   have hcy1:wr.cell? (ad.add k)=some (.int .u64 (y:Int)):=by
    rw [←hcy0];exact World.cell?_of_block (hG.out.block _ (by rw [aj];have:=HS.out.lt;omega) (by rw [aj];intro e;injection e with e;omega))
   have hyB:=HY.out.get hy.out
   have hcall:=fun W=>Lib.hid (ko 0 y f cy (by unfold B64;omega) hyB HF.out hI.out.2 W)
   rw [show ((0:Nat):Int)=0 from rfl] at hcall
   have hc2:=mul_carry (x:=0) (by unfold B64;omega) hyB HF.out hI.out.2
   have hdm:=Nat.mod_add_div (0+y*f+cy) B64
   have hlB:(0+y*f+cy)%B64<B64:=Nat.mod_lt _ (by unfold B64;omega)
   obtain ⟨l,hl⟩:∃ l,l=(0+y*f+cy)%B64:=⟨_,rfl⟩
   obtain ⟨d,hd⟩:∃ d,d=(0+y*f+cy) / B64:=⟨_,rfl⟩
   rw [←hl,←hd] at hcall hdm
   rw [←hl] at hlB
   rw [←hd] at hc2
   obtain ⟨hw1,hw2⟩:=mL hxB hlB hbo
   have hsub:=lj x l bo hbo
   have hI2:=hI.out.1.step HX.out (getD_of hy.out) hw2 hw1 (by rw [hdm,Nat.zero_add])
   have hd1:(if x<l+bo then 1 else 0)≤1:=by split<;>omega
   obtain ⟨v,hv⟩:∃ v,v=(x+B64 - l - bo)%B64:=⟨_,rfl⟩
   obtain ⟨b2,hb2⟩:∃ b2,b2=(if x<l+bo then 1 else 0):=⟨_,rfl⟩
   rw [←hv,←hb2] at hsub hI2
   rw [←hb2] at hd1
   have HI2:=Lib.hid (And.intro hI2 hc2)
   have hS3:=hS2 v
   have HC:=Lib.hid hcall
   clear hcy0 hl hd hv hb2 hw1 hw2 hI2 hc2 hdm hlB hxB hyB hS2 hcall
   go_wp2_with (go_at_call 239;refine (HC.out _).out.mono ?_;rintro e w' ⟨rfl,rfl⟩)
   go_roundw
   case rel=>exact ⟨k+1,d,b2,_,by omega,by go_num,rfl,rfl,hd1,HI2,Lib.hid hS3.out,Lib.hid (cA hG.out (.inl rfl) _)⟩
   case measure=>simp [intOf];omega
  ·have hkn:k=m:=by omega
   subst hkn
   obtain ⟨hw1,hw2⟩:=mL hxB hI.out.2 hbo
   have hsub:=lj x cy bo hbo
   have hfin:=hI.out.1.done HN.out HL.out HX.out hw1
   have hd1:(if x<cy+bo then 1 else 0)≤1:=by split<;>omega
   obtain ⟨v,hv⟩:∃ v,v=(x+B64 - cy - bo)%B64:=⟨_,rfl⟩
   obtain ⟨b2,hb2⟩:∃ b2,b2=(if x<cy+bo then 1 else 0):=⟨_,rfl⟩
   rw [←hv,←hb2] at hsub hfin
   rw [←hv] at hw2
   rw [←hb2] at hd1
   have HF2:=Lib.hid hfin
   have HV:=Lib.hid hw2
   have hS3:=hS2 v
   clear hv hb2 hw1 hw2 hfin hxB hS2
   go_wp2
   go_ret
   exact ⟨b2,_,rfl,hd1,by simpa using hI.out.1.1,hI.out.1.2.1.set k HV.out,HF2.out,hS3.out,cA hG.out (.inl rfl) _⟩
end Go.Proofs.YtpacpmmdjmnamaaGreatDoor
namespace Go.Proofs.YtpacpmmdjmnamaaGreatDoor
open Go.RowKit Nx
def Ev (w:World) (g:Nat) (pre post:List Nat) (P D n:Nat) (u b:Value) (wr:World):Prop:=
 ∃ (wd bo:Nat) (out:List Nat),u= .int .u64 (wd:Int)∧b= .int .u64 (bo:Int)∧bo≤1∧
  Hid (wd<B64∧out.length=n+1∧Small B64 out∧QuoI P D (B64^(n+1)) wd bo (nval B64 out))∧Hid (Seg .u64 wr g 50 pre out post)∧Hid (w.grownBy wr (some g))
def ur (w:World) (g:Nat) (pre post:List Nat) (P D n:Nat) (e:Ending) (w':World):Prop:=
 ∃ (out:List Nat),e= .returned (.int .u64 ((P / D:Nat):Int))∧P / D<B64∧out.length=n+1∧Small B64 out∧nval B64 out=P%D∧
  Seg .u64 w' g 50 pre out post∧w.grownBy w' (some g)
theorem vu (w:World) (lo hi g o n c cb t:Nat) (A:Option Addr) (pre seg post ds:List Nat) (hs:Seg .u64 w g 50 pre seg post) (ho:pre.length=o) (hn:seg.length=n+1) (hnc:n+1≤c)
  (hb:Rd .u64 w lo hi A n cb ds) (hg:hi≤g) (hsm:Small B64 seg) (hds:Small B64 ds) (hn0:0<n) (hbig:n≤100000000) (ht:ds[n - 1]? =some t) (ht0:t≠0) (hlt:nval B64 seg<B64*nval B64 ds):
  Calls Tryz.prog 241 #[.slice (some ⟨g,o,none⟩) (n+1) c,.slice A n cb] w (ur w g pre post (nval B64 seg) (nval B64 ds) n):=by
 have hlen:=hb.1
 have hD0:0<nval B64 ds:=by
  rcases Nat.eq_zero_or_pos (nval B64 ds) with e |e
  ·rw [e] at hlt;omega
  ·exact e
 obtain ⟨P,hP⟩:∃ P,P=nval B64 seg:=⟨_,rfl⟩
 obtain ⟨D,hD⟩:∃ D,D=nval B64 ds:=⟨_,rfl⟩
 have hgu:=fun W (h1:Seg .u64 W g 50 pre seg post) (h2:Rd .u64 W lo hi A n cb ds)=>
  xj W g (g+1) lo hi (some ⟨g,o,none⟩) A n c cb t seg ds (h1.rd ho hn (Nat.le_refl _) (Nat.lt_succ_self _) hnc) h2 hsm hds hn0 hbig ht ht0 hlt
 rw [←hP,←hD] at hgu ⊢
 have HS:=Lib.hid hs;have HO:=Lib.hid ho;have HN:=Lib.hid hn;have HB:=Lib.hid hb;have HM:=Lib.hid hsm;have HY:=Lib.hid hds
 have HG:=Lib.hid hgu;have HP:=Lib.hid hP;have HD:=Lib.hid hD;have HD0:=Lib.hid (show 0<D by omega);have HL:=Lib.hid hlen
 clear hs ho hn hb hsm hds hgu hP hD hD0 ht ht0 hlt hlen
 go_enter Tryz.func241,Tryz.ntmps241
 go_wp2_with fail
 refine (HG.out w HS.out HB.out).mono ?_
 rintro e w' ⟨wd,dn,rfl,rfl,hwd,hge⟩
 have HW:=Lib.hid (And.intro hwd hge)
 clear hwd hge
 go_wp2_with fail
 refine (vB (w.drewN dn) lo hi g o n c cb wd A pre seg post ds HS.out HO.out HN.out hnc HB.out hg HM.out HY.out HW.out.1 (by omega)).mono ?_
 rintro e w2 ⟨bo,out,rfl,hbo,hol,hos,hov,hseg,hon⟩
 have hq:QuoI P D (B64^(n+1)) wd bo (nval B64 out):=by
  refine ⟨?_,hbo,HW.out.2,by rw [←hol];exact aM hos⟩
  rw [HP.out,HD.out];exact hov
 have HQ:=Lib.hid (And.intro HW.out.1 (And.intro hol (And.intro hos hq)))
 have HS2:=Lib.hid hseg
 have HO2:=Lib.hid (show w.grownBy w2 (some g) from eD (jR (cW w (some g)) dn) hon)
 clear hol hos hov hseg hon hq
 go_wp2
 go_loopw [5,6] (fun u b wr=>Ev w g pre post P D n u b wr) (fun u _ _=>(intOf u).toNat)
 case atStart=>exact ⟨wd,bo,out,rfl,rfl,hbo,HQ,HS2,HO2⟩
 case round=>
  obtain ⟨wx,bx,ox,rfl,rfl,hbx,hI,hS,hG⟩:=hrel
  rcases (show bx=0∨bx=1 by omega) with e |e
  ·have f1:((bx:Int)!=0)=false:=by simp;omega
   have hd:=QuoI.done HD0.out (by have:=hI.out.2.2.2;rw [e] at this;exact this)
   have HDn:=Lib.hid hd
   clear hd e
   go_wp2
   go_ret
   refine ⟨ox,?_,?_,hI.out.2.1,hI.out.2.2.1,HDn.out.2,hS.out,hG.out⟩
   ·rw [←HDn.out.1];rfl
   ·rw [←HDn.out.1];exact hI.out.1
  ·subst e
   have hI1:=hI.out.2.2.2
   have hhi:=hI1.high HD0.out
   have hw0:0<wx:=Nat.lt_of_lt_of_le (Nat.succ_pos _) hhi
   have hwB:=hI.out.1
   have e1:IntKind.u64.wrap ((wx:Int) - 1)=((wx - 1:Nat):Int):=by
    rw [show (wx:Int) - 1=((wx - 1:Nat):Int) by omega,aC _ (by unfold B64 at hwB;omega)]
   have hrd:Rd .u64 wr lo hi A n cb ds:=HB.out.grown hG.out (by have:=HS.out.lt;omega) (fun k hk=>by injection hk with hk;omega)
   obtain ⟨w1,hw1⟩:∃ w1,w1=wx - 1:=⟨_,rfl⟩
   rw [←hw1] at e1
   have HW1:=Lib.hid hw1
   have hlt1:w1<wx:=by omega
   have HH:=Lib.hid hI1
   have HRd:=Lib.hid hrd
   have HWB:=Lib.hid hwB
   clear hI1 hhi hw0 hwB hrd hw1
   have f1:(((1:Nat):Int)!=0)=true:=by simp
   go_wp2_with fail
   refine (qj wr lo hi g o (n+1) c n cb A pre ox post ds hS.out HO.out hI.out.2.1 hnc HRd.out hg (by omega) hI.out.2.2.1 HY.out (by omega)).mono ?_
   rintro e w3 ⟨cy,o3,rfl,hcy,hol,hos,hov,hseg,hon⟩
   have hnx:QuoI P D (B64^(n+1)) w1 (1 - cy) (nval B64 o3):=by
    rw [HW1.out]
    refine HH.out.next HD0.out ?_ hcy ?_
    ·rw [hI.out.2.1] at hov;rw [HD.out];exact hov
    ·have:=aM hos;rw [hol,hI.out.2.1] at this;exact this
   have e2:IntKind.u64.wrap (((1:Nat):Int) - (cy:Int))=((1 - cy:Nat):Int):=by
    rw [show ((1:Nat):Int) - (cy:Int)=((1 - cy:Nat):Int) by omega,aC _ (by omega)]
   have e2':IntKind.u64.wrap ((1:Int) - (cy:Int))=((1 - cy:Nat):Int):=e2
   have hb2:1 - cy≤1:=by omega
   have HN2:=Lib.hid (And.intro (show w1<B64 by have:=HWB.out;omega) (And.intro (hol.trans hI.out.2.1) (And.intro hos hnx)))
   have HS3:=Lib.hid hseg
   have HO3:=Lib.hid (eD hG.out hon)
   clear hol hos hov hseg hon hnx
   generalize 1 - cy=b2 at*
   go_wp2
   go_roundw
   case rel=>exact ⟨w1,b2,o3,rfl,rfl,hb2,HN2,HS3,HO3⟩
   case measure=>simp [intOf];omega
end Go.Proofs.YtpacpmmdjmnamaaGreatDoor
namespace Go.Proofs.YtpacpmmdjmnamaaGreatDoor.Nx
def DivJ (B n m k X D:Nat) (R Q:List Nat):Prop:=
 R.length=n+1∧Q.length=n - m+1∧Small B R∧Small B Q∧nval B R+D*(B^(n - m+1 - k)*nval B (Q.drop (n - m+1 - k)))=X∧nval B (R.drop (n - m+1 - k))<D
theorem ii {B:Nat} {xs:List Nat} (h:Small B xs) (k:Nat) (hk:k≤xs.length):nval B (xs.drop k)=nval B xs / B^k:=by
 have h1:=aQ B xs k hk
 have h2:=aM (h.take k)
 rw [List.length_take,Nat.min_eq_left hk] at h2
 rw [h1,Nat.add_mul_div_left _ _ (by omega),Nat.div_eq_of_lt h2,Nat.zero_add]
theorem DivJ.start {B n m X Y D g:Nat} {R:List Nat} (hB:2≤B) (hmn:m≤n) (hm:0<m) (hX:X<B^n) (hY:B^(m - 1)≤Y) (hD:D=Y*2^g) (hR:R.length=n+1) (hRs:Small B R) (hRv:nval B R=X*2^g):
  DivJ B n m 0 (X*2^g) D R (List.replicate (n - m+1) 0):=by
 refine ⟨hR,by simp,hRs,cP (by omega),?_,?_⟩
 ·rw [List.drop_of_length_le (by simp)];simp [nval,hRv]
 ·rw [ii hRs _ (by omega),hRv,hD,Nat.sub_zero]
  rw [Nat.div_lt_iff_lt_mul (Nat.pow_pos (by omega))]
  have h1:B^(m - 1)*B^(n - m+1)=B^n:=by rw [←Nat.pow_add];congr 1;omega
  have h2:B^(m - 1)*B^(n - m+1)≤Y*B^(n - m+1):=Nat.mul_le_mul_right _ hY
  have h3:X<Y*B^(n - m+1):=by omega
  have h4:X*2^g<Y*B^(n - m+1)*2^g:=Nat.mul_lt_mul_of_pos_right h3 (Nat.two_pow_pos g)
  rw [Nat.mul_right_comm] at h4
  exact h4
theorem DivJ.parts {B n m k j X D:Nat} {R Q:List Nat} (hB:2≤B) (h:DivJ B n m k X D R Q) (hk:k<n - m+1) (hj:j=n - m - k) (hmn:m≤n) (hDm:D<B^m):
  ∃ pre seg post:List Nat,R=pre++seg++post∧pre.length=j∧seg.length=m+1∧Small B seg∧nval B seg<B*D∧
   ∀ out:List Nat,out.length=m+1→Small B out→nval B out=nval B seg%D→nval B seg / D<B→DivJ B n m (k+1) X D (pre++out++post) (Q.set j (nval B seg / D)):=by
 obtain ⟨h1,h2,h3,h4,h5,h6⟩:=h
 have e1:n - m+1 - k=j+1:=by omega
 have e2:n - m+1 - (k+1)=j:=by omega
 rw [e1] at h5 h6
 have hD0:0<D:=by omega
 have hpost:nval B (R.drop (j+m+1))=0:=by
  have a1:=ii (h3.drop (j+1)) m (by simp;omega)
  rw [List.drop_drop,show j+1+m=j+m+1 by omega] at a1
  rw [a1];exact Nat.div_eq_of_lt (by omega)
 have hsp:=aQ B (R.drop j) (m+1) (by simp;omega)
 rw [List.drop_drop,show j+(m+1)=j+m+1 by omega,hpost,Nat.mul_zero,Nat.add_zero] at hsp
 have hseg:nval B (R.drop j)<B*D:=by
  have a2:R.drop j=R.getD j 0::R.drop (j+1):=by
   rw [List.drop_eq_getElem_cons (by omega)];simp [List.getD_eq_getElem?_getD,List.getElem?_eq_getElem (show j<R.length by omega)]
  rw [a2,nval]
  have a3:=kX h3 (by omega) j
  have a4:B*(nval B (R.drop (j+1))+1)≤B*D:=Nat.mul_le_mul_left _ h6
  rw [Nat.mul_add] at a4;omega
 refine ⟨R.take j,(R.drop j).take (m+1),R.drop (j+m+1),?_,by simp;omega,by simp;omega,(h3.drop j).take _,by rw [←hsp];exact hseg,?_⟩
 ·rw [List.append_assoc,show R.drop (j+m+1)=(R.drop j).drop (m+1) by rw [List.drop_drop,Nat.add_assoc],List.take_append_drop,List.take_append_drop]
 ·intro out g1 g2 g3 g4
  have hdm:=Nat.div_add_mod' (nval B ((R.drop j).take (m+1))) D
  rw [←g3] at hdm
  have hlt:nval B out<D:=by rw [g3];exact Nat.mod_lt _ hD0
  have hRj:=aQ B R j (by omega)
  rw [hsp] at hRj
  have l1:(R.take j).length=j:=by simp;omega
  generalize nval B ((R.drop j).take (m+1)) / D=q at*
  have hQ:(Q.set j q).drop j=q::Q.drop (j+1):=by
   rw [List.drop_eq_getElem_cons (by simp;omega)];simp [List.drop_set]
  have hR':nval B (R.take j++out++R.drop (j+m+1))=nval B (R.take j)+B^j*nval B out:=by
   rw [List.append_assoc,du,du,hpost,l1,Nat.mul_zero,Nat.add_zero]
  have hRd:(R.take j++out++R.drop (j+m+1)).drop j=out++R.drop (j+m+1):=by
   rw [List.append_assoc,List.drop_append,l1,Nat.sub_self,List.drop_zero,List.drop_of_length_le (by omega),List.nil_append]
  refine ⟨by simp;omega,by simpa using h2,((h3.take j).append g2).append (h3.drop _),h4.set j g4,?_,?_⟩
  ·rw [e2,hQ,hR',nval,←h5,hRj,←hdm,Nat.pow_succ]
   generalize nval B (R.take j)=a at*
   generalize nval B (Q.drop (j+1))=b at*
   generalize nval B out=o at*
   generalize B^j=P at*
   clear h5 hRj hdm hR' hseg hsp g3 h6 hlt
   grind
  ·rw [e2,hRd,du,hpost,Nat.mul_zero,Nat.add_zero];exact hlt
theorem DivJ.done {B n m X Y D g:Nat} {R Q:List Nat} (h:DivJ B n m (n - m+1) (X*2^g) D R Q) (hD:D=Y*2^g) (hY:0<Y):
  nval B Q=X / Y∧nval B R=X%Y*2^g:=by
 obtain ⟨_,_,_,_,h5,h6⟩:=h
 rw [Nat.sub_self] at h5 h6
 rw [List.drop_zero,Nat.pow_zero,Nat.one_mul] at h5
 rw [List.drop_zero] at h6
 have hD0:0<D:=by rw [hD];exact Nat.mul_pos hY (Nat.two_pow_pos g)
 have q1:X*2^g / D=nval B Q:=by rw [←h5,Nat.add_mul_div_left _ _ hD0,Nat.div_eq_of_lt h6,Nat.zero_add]
 have q2:X*2^g%D=nval B R:=by rw [←h5,Nat.add_mul_mod_self_left,Nat.mod_eq_of_lt h6]
 constructor
 ·rw [←q1,hD,Nat.mul_div_mul_right _ _ (Nat.two_pow_pos g)]
 ·rw [←q2,hD,Nat.mul_mod_mul_right]
theorem ti {B N m t:Nat} (hB:2≤B) (hBp:∀ k,B^k=2^(64*k)) (hm:(digs B N).length=m) (h0:0<m) (ht:(digs B N)[m - 1]? =some t):(digs B (N*2^(64 - nbits t))).length=m∧N*2^(64 - nbits t)<B^m∧t≠0:=by
 have ht0:t≠0:=jr hB N t (by rw [List.getLast?_eq_getElem?,hm];exact ht)
 have htB:=(af hB N).get ht
 have hb64:nbits t≤64:=bh (by have:=hBp 1;rw [Nat.pow_one,Nat.mul_one] at this;omega)
 have hs:=aQ B (digs B N) (m - 1) (by omega)
 have hd:(digs B N).drop (m - 1)=[t]:=by
  rw [List.drop_eq_getElem_cons (by omega),show m - 1+1=m by omega,List.drop_of_length_le (by omega)]
  rw [List.getElem?_eq_getElem (by omega)] at ht;injection ht with ht;rw [ht]
 have hl:=aM ((af hB N).take (m - 1))
 rw [List.length_take,Nat.min_eq_left (by omega)] at hl
 rw [ae hB,hd] at hs
 simp only [nval,Nat.mul_zero,Nat.add_zero] at hs
 have hlt:=dt t
 have hN:N<B^(m - 1)*2^nbits t:=by
  have:B^(m - 1)*(t+1)≤B^(m - 1)*2^nbits t:=Nat.mul_le_mul_left _ hlt
  rw [Nat.mul_add] at this;omega
 have hup:N*2^(64 - nbits t)<B^m:=by
  have h1:N*2^(64 - nbits t)<B^(m - 1)*2^nbits t*2^(64 - nbits t):=Nat.mul_lt_mul_of_pos_right hN (Nat.two_pow_pos _)
  rw [Nat.mul_assoc,←Nat.pow_add,show nbits t+(64 - nbits t)=64*1 by omega,←hBp 1,←Nat.pow_add,show m - 1+1=m by omega] at h1
  exact h1
 refine ⟨?_,hup,ht0⟩
 have h1:=bk hB hup
 have hN0:N≠0:=by rintro rfl;rw [aq] at hm;simp at hm;omega
 have h2:=kv hB hN0
 rw [hm] at h2
 rcases Nat.lt_or_ge (digs B (N*2^(64 - nbits t))).length m with h3 |h3
 ·have h4:=aM (af hB (N*2^(64 - nbits t)))
  rw [ae hB] at h4
  have h5:B^(digs B (N*2^(64 - nbits t))).length≤B^(m - 1):=Nat.pow_le_pow_right (by omega) (by omega)
  have h6:N*1≤N*2^(64 - nbits t):=Nat.mul_le_mul_left _ (Nat.two_pow_pos _)
  omega
 ·omega
end Go.Proofs.YtpacpmmdjmnamaaGreatDoor.Nx
namespace Go.Proofs.YtpacpmmdjmnamaaGreatDoor
open Go.RowKit Nx
def BG (w:World) (gr gq n m X D:Nat) (u:Value) (wr:World):Prop:=
 ∃ (k:Nat) (R Q:List Nat),k≤n - m+1∧u= .int .i64 (k:Int)∧Hid (DivJ B64 n m k X D R Q)∧Hid (Row .u64 wr gr 50 R∧Row .u64 wr gq 50 Q)∧Hid (Below gr w wr)
def uo (w:World) (X Y:Nat) (e:Ending) (w':World):Prop:=
 ∃ (Aq Ar:Option Addr) (nq cq nr cr:Nat),e= .returned (.tuple #[.slice Aq nq cq,.slice Ar nr cr])∧Rd .u64 w' w.heap.size w'.heap.size Aq nq cq (digs B64 (X / Y))∧
  Rd .u64 w' w.heap.size w'.heap.size Ar nr cr (digs B64 (X%Y))∧Below w.heap.size w w'
theorem wG (X g:Nat) (hg:g≤64):yo X (g:Int)=X*2^g:=lT (by omega)
theorem AW (X g:Nat) (hg:g≤64):yo (X*2^g) (-(g:Int))=X:=by
 rcases Nat.eq_zero_or_pos g with e |e
 ·subst e;rw [lT (b:=0) (by omega)];simp
 ·rw [mI (b:=g) (by omega) e,Nat.mul_div_cancel _ (Nat.two_pow_pos g)]
theorem uM (w:World) (lo hi:Nat) (A B:Option Addr) (n c m cb X Y:Nat) (ha:Rd .u64 w lo hi A n c (digs B64 X)) (hb:Rd .u64 w lo hi B m cb (digs B64 Y))
  (hn:n≤90000000) (hmn:m≤n) (hm0:0<m) (hhi:hi≤w.heap.size):
  Calls Tryz.prog 238 #[.slice A n c,.slice B m cb] w (uo w X Y):=by
 obtain ⟨bd,t,hA,_,_,ht,hct⟩:=hb.get_ (j:=m - 1) (by omega)
 subst hA
 obtain ⟨hlD,hDm,ht0⟩:=ti B64_two dC hb.1 hm0 ht.out
 have htB:=(af B64_two Y).get ht.out
 obtain ⟨gap,hgap⟩:∃ gap,gap=64 - nbits t:=⟨_,rfl⟩
 have hlead:=fun W=>oX t W htB
 rw [←hgap] at hlead hlD hDm
 have hg64:gap≤64:=by omega
 obtain ⟨D,hD⟩:∃ D,D=Y*2^gap:=⟨_,rfl⟩
 rw [←hD] at hlD hDm
 have hXn:X<B64^n:=by have:=aM (af B64_two X);rwa [ae B64_two,ha.1] at this
 have hY0:Y≠0:=by rintro rfl;have:=hb.1;rw [aq] at this;simp at this;omega
 have hYm:B64^(m - 1)≤Y:=by have:=kv B64_two hY0;rwa [hb.1] at this
 have HA:=Lib.hid ha;have HB:=Lib.hid hb;have HL:=Lib.hid hlead;have HD:=Lib.hid (And.intro hD (And.intro hlD (And.intro hDm (And.intro hXn (And.intro hYm hY0)))))
 have i1:((m:Int) - 1).toNat=m - 1:=by omega
 clear ha hb hlead hlD hDm hXn hYm hY0 htB ht0 hgap hD ht
 go_enter Tryz.func238,Tryz.ntmps238
 go_wp2_with fail
 refine (HL.out _).mono ?_
 rintro e w' ⟨rfl,rfl⟩
 clear i1 hct
 go_wp2_with fail
 refine (ij w lo hi (some bd) m cb (gap:Int) (digs B64 Y) HB.out (af B64_two _) (by omega) hhi).mono ?_
 rintro e w1 ⟨A1,n1,c1,rfl,h1,hb1,_⟩
 rw [ae B64_two,wG _ _ hg64,←HD.out.1] at h1
 obtain rfl:m=n1:=by rw [←HD.out.2.1,h1.1]
 have H1:=Lib.hid h1;have HB1:=Lib.hid hb1
 have hmk:=fun W=>kD ((n:Int)+1) (n+1) (by omega) (by omega) W
 clear h1 hb1
 go_wp2_with fail
 have HA1:=Lib.hid ((HA.out.below (HB1.out.mono hhi)).alloc (Nat.le_trans hhi HB1.out.size) (zrow .u64 50 (n+1)))
 refine (ij (w1.alloc (zrow .u64 50 (n+1))) lo hi A n c (gap:Int) (digs B64 X) HA1.out (af B64_two _) (by omega) (by have:=HB1.out.size;simp;omega)).mono ?_
 rintro e w2 ⟨A2,n2,c2,rfl,h2,hb2,_⟩
 rw [ae B64_two,wG _ _ hg64] at h2
 have hsz:(w1.alloc (zrow .u64 50 (n+1))).heap.size=w1.heap.size+1:=by simp
 rw [hsz] at h2 hb2
 have hrow:Row .u64 w2 w1.heap.size 50 (List.replicate (n+1) 0):=Blk.below (eI .u64 50 (n+1) w1) hb2 (by omega)
 have hn2:n2≤n+1:=by
  rw [←h2.1]
  refine bk B64_two ?_
  have h3:X*2^gap≤X*2^64:=Nat.mul_le_mul_left _ (Nat.pow_le_pow_right (by omega) hg64)
  have h4:X*2^64<B64^n*2^64:=Nat.mul_lt_mul_of_pos_right HD.out.2.2.2.1 (by omega)
  rw [Nat.pow_succ,qV] at*
  omega
 obtain ⟨w3,hcp,hrow3,hon3⟩:=ro w2 (w1.heap.size+1) w2.heap.size w1.heap.size (n+1) n2 c2 A2 _ _ hrow h2 (by simp;exact hn2)
 rw [List.length_replicate] at hcp
 have hb3:Below w1.heap.size w1 w3:=(((Below.refl _ _).alloc (Nat.le_refl _) _).trans (hb2.mono (by omega))).trans (cj hon3 (by have:=hb2.size;simp at this;omega) (Nat.le_refl _))
 have hR3l:(digs B64 (X*2^gap)++List.drop n2 (List.replicate (n+1) 0)).length=n+1:=by simp [h2.1];omega
 have hR3s:Small B64 (digs B64 (X*2^gap)++List.drop n2 (List.replicate (n+1) 0)):=(af B64_two _).append ((cP (by unfold B64;omega)).drop _)
 have hR3v:nval B64 (digs B64 (X*2^gap)++List.drop n2 (List.replicate (n+1) 0))=X*2^gap:=by
  rw [du,List.drop_replicate,fp,ae B64_two];simp
 have HJ:=Lib.hid (DivJ.start B64_two hmn hm0 HD.out.2.2.2.1 HD.out.2.2.2.2.1 HD.out.1 hR3l hR3s hR3v)
 have hsz3:w1.heap.size<w3.heap.size:=hrow3.lt
 obtain ⟨R0,hR0⟩:∃ R0,R0=digs B64 (X*2^gap)++List.drop n2 (List.replicate (n+1) 0):=⟨_,rfl⟩
 rw [←hR0] at HJ hrow3
 have HR3:=Lib.hid hrow3;have HB3:=Lib.hid hb3
 clear h2 hb2 hsz hrow hrow3 hon3 hb3 hR3l hR3s hR3v hR0 hmk
 obtain ⟨L,hL⟩:∃ L,L=n - m+1:=⟨_,rfl⟩
 have hmk:=fun W=>kD ((n:Int) - (m:Int)+1) L (by omega) (by omega) W
 have hRow4:=HR3.out
 have hq0:=eI .u64 50 L w3
 have HRows:=Lib.hid (And.intro (show Row .u64 (w3.alloc (zrow .u64 50 L)) w1.heap.size 50 R0 from Blk.alloc hRow4 _) hq0)
 have HB4:=Lib.hid (show Below w1.heap.size w1 (w3.alloc (zrow .u64 50 L)) from HB3.out.alloc (by omega) _)
 rw [←hL] at HJ
 have HLv:=Lib.hid hL
 have hLn:L≤n+1:=by omega
 have hL0:L+m≤n+1:=by omega
 have hL1:n+1≤L+m:=by omega
 clear hRow4 hq0 hL HA HA1 HB
 go_wp2
 generalize hw4:w3.alloc (zrow .u64 50 L)=w4 at*
 clear hw4
 obtain ⟨tD,htD⟩:∃ tD,(digs B64 D)[m - 1]? =some tD:=⟨(digs B64 D)[m - 1]'(by rw [HD.out.2.1];omega),List.getElem?_eq_getElem _⟩
 have htD0:tD≠0:=jr B64_two D tD (by rw [List.getLast?_eq_getElem?,HD.out.2.1];exact htD)
 have HT:=Lib.hid (And.intro htD htD0)
 have hgrq:w1.heap.size<w3.heap.size:=hsz3
 clear htD htD0 hmk hcp hsz3
 obtain ⟨gr,hgr⟩:∃ gr,gr=w1.heap.size:=⟨_,rfl⟩
 obtain ⟨gq,hgq⟩:∃ gq,gq=w3.heap.size:=⟨_,rfl⟩
 rw [←hgr] at HRows HB4 hgrq H1 ⊢
 rw [←hgq] at HRows hgrq ⊢
 have HGR:=Lib.hid hgr
 clear hgr hgq HR3 HB3
 go_loopw [40] (fun u wr=>BG w4 gr gq n m (X*2^gap) D u wr) (fun u _=>L - (intOf u).toNat)
 case atStart=>exact ⟨0,R0,_,Nat.zero_le _,rfl,HJ,HRows,Lib.hid (Below.refl _ _)⟩
 case round=>
  obtain ⟨k,R,Q,hk,rfl,hI,hR,hBw⟩:=hrel
  have hkL:k≤L:=by rw [HLv.out];exact hk
  clear hk
  have HRd:=Lib.hid ((H1.out.below HB4.out).below hBw.out)
  by_cases hlt:k<L
  ·obtain ⟨j,hj⟩:∃ j,j=n - m - k:=⟨_,rfl⟩
   have hjL:j+k+1≤L:=by have:=HLv.out;omega
   have hjL':L≤j+k+1:=by have:=HLv.out;omega
   obtain ⟨pre,seg,post,q1,q2,q3,q4,q5,q6⟩:=hI.out.parts B64_two (by have:=HLv.out;omega) hj hmn HD.out.2.2.1
   obtain ⟨q0,hq0⟩:∃ q0,Q[j]? =some q0:=⟨Q[j]'(by have:=hI.out.2.1;have:=HLv.out;omega),List.getElem?_eq_getElem _⟩
   have HQ:=Lib.hid (And.intro (hR.out.1.toSeg q1) (And.intro q2 (And.intro q3 (And.intro q4 (And.intro q5 (And.intro q6 hq0))))))
   clear q1 q2 q3 q4 q5 q6 hq0 hj
   have e1:(L:Int) - 1 - (k:Int)=(j:Int):=by omega
   have i1:(0:Int)≤(j:Int):=by omega
   have i2:(j:Int)<(L:Int):=by omega
   have hsl:=fun W=>wI gr (n+1) (n+1) j (j+m+1) (j:Int) ((j:Int)+(m:Int)+1) rfl (by omega) (by omega) (by omega) (by omega) W
   rw [show j+m+1 - j=m+1 by omega] at hsl
   go_wp2_with fail
   refine (vu wr w.heap.size gr gr j m (n+1 - j) c1 tD A1 pre seg post (digs B64 D) HQ.out.1 HQ.out.2.1 HQ.out.2.2.1 (by omega) HRd.out (Nat.le_refl _) HQ.out.2.2.2.1 (af B64_two _) hm0 (by omega) HT.out.1 HT.out.2 (by rw [ae B64_two];exact HQ.out.2.2.2.2.1)).mono ?_
   rw [ae B64_two]
   rintro e w5 ⟨out,rfl,z1,z2,z3,z4,z5,z6⟩
   have hJ2:=HQ.out.2.2.2.2.2.1 out z2 z3 z4 z1
   have hR2:Row .u64 w5 gr 50 (pre++out++post):=z5
   have hQ2:Row .u64 w5 gq 50 Q:=Blk.grown hR.out.2 z6 (by intro e;injection e with e;omega)
   have hBw5:Below gr w4 w5:=hBw.out.trans (cj z6 (by have:=hR.out.1.lt;omega) (Nat.le_refl _))
   obtain ⟨qd,hqd⟩:∃ qd,qd=nval B64 seg / D:=⟨_,rfl⟩
   rw [←hqd] at hJ2 ⊢
   have hlQ:=hI.out.2.1
   have hcq:=hQ2.cell (i:=j) (by have:=HLv.out;omega)
   rw [getD_of HQ.out.2.2.2.2.2.2] at hcq
   have hfq:=hQ2.frozen j
   have hQ3:=hQ2.set_ j qd
   have hR3:Row .u64 (w5.setCell ⟨gq,j,none⟩ (.int .u64 (qd:Int))) gr 50 (pre++out++post):=Blk.far hR2 (by simp;omega) _
   have hBw6:Below gr w4 (w5.setCell ⟨gq,j,none⟩ (.int .u64 (qd:Int))):=hBw5.setCell (by simp;omega) _
   have HJ2:=Lib.hid hJ2;have HR2:=Lib.hid (And.intro hR3 hQ3);have HB6:=Lib.hid hBw6
   clear z1 z2 z3 z4 z5 z6 hJ2 hR2 hQ2 hBw5 hqd hlQ hQ3 hR3 hBw6 hsl
   go_wp2
   go_roundw
   case rel=>exact ⟨k+1,_,_,by have:=HLv.out;omega,by go_num,HJ2,HR2,HB6⟩
   case measure=>simp [intOf];omega
  ·have hkn:k=L:=by omega
   subst hkn
   have hY0:0<Y:=by have:=HD.out.2.2.2.2.2;omega
   have hfin:=hI.out
   rw [HLv.out] at hfin
   obtain ⟨d1,d2⟩:=hfin.done HD.out.1 hY0
   have hlR:=hI.out.1
   have hlQ:=hI.out.2.1
   rw [←HLv.out] at hlQ
   have hrq:Rd .u64 wr gq wr.heap.size (some ⟨gq,0,none⟩) k k Q:=by
    have:=hR.out.2.rd0 (lo:=gq) (hi:=wr.heap.size) (c:=k) (Nat.le_refl _) hR.out.2.lt (by omega)
    rw [hlQ] at this;exact this
   have hrr:Rd .u64 wr gr wr.heap.size (some ⟨gr,0,none⟩) (n+1) (n+1) R:=by
    have:=hR.out.1.rd0 (lo:=gr) (hi:=wr.heap.size) (c:=n+1) (Nat.le_refl _) hR.out.1.lt (by omega)
    rw [hlR] at this;exact this
   have hbw:Below w.heap.size w wr:=HB1.out.trans ((HB4.out.trans hBw.out).mono (by rw [HGR.out];exact HB1.out.size))
   have hwg:w.heap.size≤gr:=by rw [HGR.out];exact HB1.out.size
   have HRQ:=Lib.hid hrq;have HRR:=Lib.hid hrr;have HBW:=Lib.hid hbw;have HD2:=Lib.hid (And.intro d1 d2)
   clear hY0 hfin d1 d2 hlR hlQ hrq hrr hbw
   go_wp2_with fail
   refine (ck wr gq wr.heap.size (some ⟨gq,0,none⟩) k k Q HRQ.out hI.out.2.2.2.1 (by omega)).mono ?_
   rintro e w' ⟨A3,c3,rfl,rfl,hA3,hc3⟩
   have hq:=HRQ.out.used hI.out.2.2.2.1 hA3 hc3
   rw [HD2.out.1] at hq
   have HQf:=Lib.hid hq
   clear hq hA3 hc3
   generalize ulen Q=nq at*
   go_wp2_with fail
   refine (ij wr gr wr.heap.size (some ⟨gr,0,none⟩) (n+1) (n+1) (-(gap:Int)) R HRR.out hI.out.2.2.1 (by omega) (Nat.le_refl _)).mono ?_
   rintro e w6 ⟨A4,n4,c4,rfl,h4,hb4,_⟩
   rw [HD2.out.2,AW _ _ hg64] at h4
   have HF4:=Lib.hid h4;have HB6:=Lib.hid hb4
   clear h4 hb4
   go_wp2
   go_ret2
   have hws:w.heap.size≤wr.heap.size:=HBW.out.size
   exact ⟨_,_,_,_,_,_,rfl,((HQf.out.below HB6.out).more HB6.out.size).less (Nat.le_trans hwg (Nat.le_of_lt hgrq)),HF4.out.less hws,HBW.out.trans (HB6.out.mono hws)⟩
end Go.Proofs.YtpacpmmdjmnamaaGreatDoor
namespace Go.Proofs.YtpacpmmdjmnamaaGreatDoor
open Go.RowKit Nx
def Er (w:World) (X Y:Nat) (e:Ending) (w':World):Prop:=
 ∃ (Aq Ar:Option Addr) (nq cq nr cr:Nat) (qs rs:List Nat),e= .returned (.tuple #[.slice Aq nq cq,.slice Ar nr cr,.bool (decide (Y≠0))])∧Rd .u64 w' w.heap.size w'.heap.size Aq nq cq qs∧
  Rd .u64 w' w.heap.size w'.heap.size Ar nr cr rs∧Below w.heap.size w w'∧(Y≠0→qs=digs B64 (X / Y)∧rs=digs B64 (X%Y))∧(Y=0→qs=[]∧rs=[])
theorem BY (w:World) (lo hi:Nat) (A B:Option Addr) (n c m cb:Nat) (xs ys:List Nat) (ha:Rd .u64 w lo hi A n c xs) (hb:Rd .u64 w lo hi B m cb ys) (hxs:Small B64 xs) (hys:Small B64 ys)
  (hn:n≤90000000) (hm:m≤90000000) (hhi:hi≤w.heap.size):
  Calls Tryz.prog 234 #[.slice A n c,.slice B m cb] w (Er w (nval B64 xs) (nval B64 ys)):=by
 have ux:=et hxs
 have uy:=et hys
 rw [ha.1] at ux
 rw [hb.1] at uy
 have HA:=Lib.hid ha;have HB:=Lib.hid hb;have HX:=Lib.hid hxs;have HY:=Lib.hid hys
 clear ha hb hxs hys
 obtain ⟨X,hX⟩:∃ X,X=nval B64 xs:=⟨_,rfl⟩
 obtain ⟨Y,hY⟩:∃ Y,Y=nval B64 ys:=⟨_,rfl⟩
 rw [←hX,←hY]
 have HXv:=Lib.hid hX;have HYv:=Lib.hid hY
 clear hX hY
 go_enter Tryz.func234,Tryz.ntmps234
 go_wp2_with fail
 refine (ck w lo hi A n c xs HA.out HX.out (by omega)).mono ?_
 rintro e w' ⟨A1,c1,rfl,rfl,hA1,hc1⟩
 have H1:=Lib.hid (HA.out.used HX.out hA1 hc1)
 clear hA1 hc1
 go_wp2_with fail
 refine (ck w lo hi B m cb ys HB.out HY.out (by omega)).mono ?_
 rintro e w' ⟨A2,c2,rfl,rfl,hA2,hc2⟩
 have H2:=Lib.hid (HB.out.used HY.out hA2 hc2)
 clear hA2 hc2 HA HB HX HY
 generalize ulen xs=n1 at*
 generalize ulen ys=n2 at*
 rw [←HXv.out] at H1
 rw [←HYv.out] at H2
 rcases Nat.eq_zero_or_pos n2 with e2 |e2
 ·have hY0:Y=0:=(dl B64_two).1 (List.eq_nil_of_length_eq_zero (H2.out.1.trans e2))
  have HY0:=Lib.hid hY0
  clear hY0
  subst e2
  go_wp2
  go_ret3
  refine ⟨none,none,0,0,0,0,[],[],?_,Rd.none_,Rd.none_,Below.refl _ _,fun h=>absurd HY0.out h,fun _=>⟨rfl,rfl⟩⟩
  exact congrArg (fun b=>Ending.returned (.tuple #[.slice none 0 0,.slice none 0 0,.bool b])) (by rw [HY0.out];simp)
 ·have hY0:Y≠0:=by rintro rfl;have:=H2.out.1;rw [aq] at this;simp at this;omega
  have f2:((n2:Int)==0)=false:=by simp;omega
  have HY0:=Lib.hid hY0
  clear hY0
  rcases Nat.lt_or_ge n1 n2 with hlt |hge
  ·have hXY:X<Y:=cI B64_two (m:=X) (n:=Y) (by rw [H1.out.1,H2.out.1];exact hlt)
   have HXY:=Lib.hid hXY
   clear hXY
   go_wp2_with fail
   refine (ud w lo hi A1 n1 c1 _ H1.out (af B64_two _) (by omega) hhi).mono ?_
   rintro e w1 ⟨A3,n3,c3,rfl,h1,h2,_⟩
   rw [ae B64_two] at h1
   have K1:=Lib.hid h1;have K2:=Lib.hid h2
   clear h1 h2
   go_wp2
   go_ret3
   refine ⟨none,A3,0,0,n3,c3,[],digs B64 X,?_,Rd.none_,K1.out,K2.out,fun _=>⟨?_,?_⟩,fun h=>absurd h HY0.out⟩
   ·exact congrArg (fun b=>Ending.returned (.tuple #[.slice none 0 0,.slice A3 n3 c3,.bool b])) (by have:=HY0.out;simp [this])
   ·rw [Nat.div_eq_of_lt HXY.out,aq]
   ·rw [Nat.mod_eq_of_lt HXY.out]
  ·have f3:decide (n1<n2)=false:=by simp;omega
   go_wp2_with fail
   refine (uM w lo hi A1 A2 n1 c1 n2 c2 X Y H1.out H2.out (by omega) hge e2 hhi).mono ?_
   rintro e w1 ⟨Aq,Ar,nq,cq,nr,cr,rfl,h1,h2,h3⟩
   have K1:=Lib.hid h1;have K2:=Lib.hid h2;have K3:=Lib.hid h3
   clear h1 h2 h3
   go_wp2
   go_ret3
   refine ⟨Aq,Ar,nq,cq,nr,cr,_,_,?_,K1.out,K2.out,K3.out,fun _=>⟨rfl,rfl⟩,fun h=>absurd h HY0.out⟩
   exact congrArg (fun b=>Ending.returned (.tuple #[.slice Aq nq cq,.slice Ar nr cr,.bool b])) (by have:=HY0.out;simp [this])
end Go.Proofs.YtpacpmmdjmnamaaGreatDoor
namespace Go.Proofs.YtpacpmmdjmnamaaGreatDoor
open Go.RowKit Nx
section
variable {W:World} {A B:Option Addr} {n c m d X Y k l:Nat}
theorem Fe (ha:Has W A n c X k) (hb:Has W B m d Y l) (hk:k≤100000) (hl:l≤100000) (hY:Y≠0):Calls Tryz.prog 234 #[.slice A n c,.slice B m d] W
  fun e w'=>∃ (Aq Ar:Option Addr) (nq cq nr cr:Nat),e= .returned (.tuple #[.slice Aq nq cq,.slice Ar nr cr,.bool true])∧Is w' Aq nq cq (X / Y)∧Is w' Ar nr cr (X%Y)∧Below W.heap.size W w':=by
 obtain ⟨xs,a1,a2,rfl,a4⟩:=ha
 obtain ⟨ys,b1,b2,rfl,b4⟩:=hb
 refine (BY W 0 _ A B n c m d xs ys a1 b1 a2 b2 (by omega) (by omega) (Nat.le_refl _)).mono ?_
 rintro e w' ⟨Aq,Ar,nq,cq,nr,cr,qs,rs,rfl,g1,g2,g3,g4,_⟩
 obtain ⟨rfl,rfl⟩:=g4 hY
 exact ⟨Aq,Ar,nq,cq,nr,cr,by simp [hY],g1.less (Nat.zero_le _),g2.less (Nat.zero_le _),g3⟩
end
end Go.Proofs.YtpacpmmdjmnamaaGreatDoor
