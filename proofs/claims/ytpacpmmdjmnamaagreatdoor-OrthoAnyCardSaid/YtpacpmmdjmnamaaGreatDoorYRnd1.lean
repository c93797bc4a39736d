/- round.right, round.direction; fathomlineref1.bad; light. round.fit. -/
import Derived.Test.YtpacpmmdjmnamaaGreatDoorYNumPR
import Derived.Test.YtpacpmmdjmnamaaGreatDoorYMathX
import Derived.Test.YtpacpmmdjmnamaaGreatDoorYRefZ
import Derived.Test.YtpacpmmdjmnamaaGreatDoorYDiv
namespace Go.Proofs.YtpacpmmdjmnamaaGreatDoor
set_option maxHeartbeats 8000000
set_option maxRecDepth 100000
open Go.RowKit Nx
section
def yv (w:World) (g n:Nat) (oks:List Bool):Prop:=oks.length=n∧g<w.heap.size∧∀ i,i<n→∃ (s:Bool) (e:Int) (A:Option Addr) (m c:Nat) (xs:List Nat),
 w.cell? ⟨g,i*3,none⟩=some (.bool s)∧w.cell? ⟨g,i*3+1,none⟩=some (.int .i64 e)∧w.cell? ⟨g,i*3+2,none⟩=some (.slice A m c)∧Arg w A m c xs∧m≤100000∧oks[i]? =some (eP s e m xs)
def dO (p:Int):Bool:=decide (8≤p∧p≤256)
theorem EF {oks:List Bool} {n:Nat} (hl:oks.length=n) (h:∀ j,j<n→oks[j]? =some true):oks.all id=true:=by
 rw [List.all_eq_true]
 intro b hb
 obtain ⟨j,hj⟩:=List.getElem?_of_mem hb
 have:j<oks.length:=by
  rcases Nat.lt_or_ge j oks.length with a |a
  ·exact a
  ·rw [List.getElem?_eq_none a] at hj;cases hj
 have:=h j (by omega)
 rw [hj] at this;injection this
theorem BO {oks:List Bool} {j:Nat} (h:oks[j]? =some false):oks.all id=false:=by
 rw [List.all_eq_false]
 exact ⟨false,List.mem_of_getElem? h,by simp⟩
theorem Below.sz {B:Nat} {a w:World} (h:Below B a w):a.heap.size≤w.heap.size:=h.size
theorem mD (w:World) (g n:Nat) (p:Int) (oks:List Bool) (h:yv w g n oks) (hs:n≤10):
  Calls Tryz.prog 136 #[.int .i64 p,.slice (some ⟨g,0,none⟩) n n] w (BoolPost w (oks.all id&&dO p)):=by
 obtain ⟨hl,hg,hc⟩:=h
 have HL:=Lib.hid hl;have HC:=Lib.hid hc
 clear hl hc
 obtain ⟨b,hb⟩:∃ b,b=(oks.all id&&dO p):=⟨_,rfl⟩
 rw [←hb]
 have HB:=Lib.hid hb
 clear hb
 go_enter Tryz.func136,Tryz.ntmps136
 go_wp2
 go_loopw [9] (fun u wr=>∃ k:Nat,k≤n∧u= .int .i64 (k:Int)∧Hid (∀ j,j<k→oks[j]? =some true)∧Hid (Below w.heap.size w wr)) (fun u _=>n - (intOf u).toNat)
 case atStart=>exact ⟨0,Nat.zero_le _,rfl,Lib.hid (fun j hj=>absurd hj (by omega)),Lib.hid (Below.refl _ _)⟩
 case round=>
  obtain ⟨k,hk,rfl,hz,hB⟩:=hrel
  by_cases hlt:k<n
  ·obtain ⟨s,e,A,m,c,xs,c0,c1,c2,ha,hm,ho⟩:=HC.out k hlt
   have c0':wr.cell? ⟨g,k*3,none⟩=some (.bool s):=(hB.out.cell hg).trans c0
   have c1':wr.cell? ⟨g,k*3+1,none⟩=some (.int .i64 e):=(hB.out.cell hg).trans c1
   have c2':wr.cell? ⟨g,k*3+2,none⟩=some (.slice A m c):=(hB.out.cell hg).trans c2
   have i1:(0:Int)≤(k:Int):=by omega
   have i2:(k:Int)<(n:Int):=by omega
   have hsz:=hB.out.size
   have ob:=ac wr (.cells #[.bool s,.int .i64 e,.slice A m c] 30)
   have D:=Lib.hid (ga _ s e A m c xs (ha.step (aa hB.out ob)) hm)
   have HO:=Lib.hid ho
   have HB1:=Lib.hid (aa hB.out ob)
   clear c0 c1 c2 ha ho
   cases hv:eP s e m xs
   ·rw [hv] at D HO
    go_wp2_with fail
    refine D.out.mono ?_
    rintro _ w2 ⟨rfl,b2⟩
    have HB2:=Lib.hid (aa HB1.out b2)
    clear D b2
    go_wp2
    go_ret
    exact ⟨by rw [HB.out,BO HO.out];rfl,HB2.out⟩
   ·rw [hv] at D HO
    go_wp2_with fail
    refine D.out.mono ?_
    rintro _ w2 ⟨rfl,b2⟩
    have HB2:=Lib.hid (aa HB1.out b2)
    clear D b2
    go_wp2
    go_roundw
    case rel=>exact ⟨k+1,by omega,by go_num,Lib.hid (fun j hj=>by
     rcases Nat.lt_or_ge j k with h1 |h1
     ·exact hz.out j h1
     ·obtain rfl:j=k:=by omega
      exact HO.out),HB2⟩
    case measure=>simp [intOf];omega
  ·obtain rfl:k=n:=by omega
   have HA:=Lib.hid (EF HL.out hz.out)
   have hbp:b=dO p:=by rw [HB.out,HA.out];rfl
   have HBp:=Lib.hid hbp
   clear hbp
   by_cases h1:8≤p
   ·by_cases h2:p≤256
    ·go_wp2
     go_ret
     exact ⟨by rw [HBp.out];simp [dO,h1,h2],hB.out⟩
    ·go_wp2
     go_ret
     exact ⟨by rw [HBp.out];simp [dO,h1,h2],hB.out⟩
   ·go_wp2
    go_ret
    exact ⟨by rw [HBp.out];simp [dO];omega,hB.out⟩
def Ux (w:World) (g:Nat) (up:Bool):Prop:=Blk w g 4 #[.bool up]
theorem Ux.c0 {w:World} {g:Nat} {up:Bool} (h:Ux w g up):w.cell? ⟨g,0,none⟩=some (.bool up):=by have:=Blk.cell h 0;simpa using this
theorem Ux.step {w w':World} {g:Nat} {up:Bool} (h:Ux w g up) (hb:Below w.heap.size w w'):Ux w' g up:=Blk.below h hb h.lt
def kt (g:Nat):Value:=.func (.func 191) #[] #[.pointer (some ⟨g,0,none⟩)]
theorem og (w:World) (up:Bool):Calls Tryz.prog 139 #[.bool up] w fun e w'=>e= .returned (kt w.heap.size)∧Ux w' w.heap.size up∧Below w.heap.size w w':=by
 have h:=Blk.new w 4 #[.bool up]
 have hmf:∀ (fn:Fn) (first cap:Array Value) (w:World),(Instr.makeFunc fn first cap).run Tryz.prog w= .ok (.func fn first cap) w:=fun _ _ _ _=>rfl
 go_enter Tryz.func139,Tryz.ntmps139
 go_wp2
 go_ret
 exact ⟨rfl,h,ac _ _⟩
theorem yJ (w:World) (g:Nat) (s up:Bool) (h:Ux w g up):Calls Tryz.prog 191 #[.bool s,.pointer (some ⟨g,0,none⟩)] w fun e w'=>e= .returned (.bool (s !=up))∧w=w':=by
 have c0:=h.c0
 clear h
 go_enter Tryz.func191,Tryz.ntmps191
 go_wp2
 go_ret
 exact ⟨by simp [bne],rfl⟩
end
section
theorem vf {M low:Nat} (h0:M≠0):decide ((ntz M:Int)<(low:Int))=decide (M%2^low≠0):=by
 apply decide_eq_decide.2
 obtain ⟨m,hm,ho⟩:=na h0
 constructor
 ·intro h hd
  have h1:2^(ntz M+1)∣M:=Nat.dvd_trans (Nat.pow_dvd_pow 2 (by omega)) (Nat.dvd_of_mod_eq_zero hd)
  obtain ⟨c,hc⟩:=h1
  rw [Nat.pow_succ,Nat.mul_assoc] at hc
  have h2:2^ntz M*m=2^ntz M*(2*c):=by rw [←hm];exact hc
  have:=Nat.eq_of_mul_eq_mul_left (Nat.two_pow_pos _) h2
  omega
 ·intro h
  rcases Nat.lt_or_ge (ntz M) low with h1 |h1
  ·omega
  ·exfalso
   apply h
   rw [hm]
   obtain ⟨d,hd⟩:∃ d,ntz M=low+d:=⟨ntz M - low,by omega⟩
   apply Nat.mod_eq_zero_of_dvd
   rw [hd,Nat.pow_add,Nat.mul_assoc]
   exact Nat.dvd_mul_right _ _
theorem wt (w:World):Has (w.alloc (.cells #[.int .u64 1] 50)) (some ⟨w.heap.size,0,none⟩) 1 1 1 1:=⟨[1],FY w 1,vy (by unfold B64;omega),DU 1,Nat.le_refl _⟩
theorem oi (w:World) (q:Q) (A:Option Addr) (n c k g:Nat) (p:Int) (up:Bool) (ha:Is w A n c q.m) (hM:q.m<B64^k) (hk:k≤4090) (h1: -100000000≤q.e) (h2:q.e≤100000000) (hp:8≤p) (hp2:p≤256) (hu:Ux w g up) (ht:Tab w):
  Calls Tryz.prog 137 #[.agg #[.bool q.s,.int .i64 q.e,.slice A n c],.int .i64 p,kt g] w (dL w (res (dP p.toNat up q))):=by
 unfold kt
 obtain ⟨k1,k2,b3⟩:=ph w q.s q.e A n c
 have K1:=Lib.hid k1;have K2:=Lib.hid k2;have B3:=Lib.hid b3
 obtain ⟨M,hMM⟩:∃ M,M=q.m:=⟨_,rfl⟩
 have I1:=Lib.hid (ha.step b3);have T3:=Lib.hid (ht.below b3);have U3:=Lib.hid (hu.step b3)
 have LM:=Lib.hid hM
 have C1:=Lib.hid (mb (I1.out.has hM) (by omega))
 have hnb:nbits q.m≤64*k:=bh (by rw [←dC];exact hM)
 obtain ⟨s,M',e⟩:=q
 simp only at*
 clear k1 k2 b3 ha ht hu hM
 subst hMM
 obtain ⟨P,hP⟩:∃ P:Nat,p=(P:Int):=⟨p.toNat,by omega⟩
 subst hP
 rw [show ((P:Int)).toNat=P by simp]
 obtain ⟨r,hr⟩:∃ r,r=res (dP P up ⟨s,M,e⟩):=⟨_,rfl⟩
 rw [←hr]
 have g0:=db (nbits M:Int) (P:Int) (by omega) (by omega)
 by_cases hlow:nbits M≤P
 ·have CM:=Lib.hid (mr s e I1.out LM.out (by omega) T3.out)
  rw [wz hlow] at hr
  rw [←hr] at CM
  have f0:(nbits M:Int) - (P:Int)≤0:=by omega
  clear hr
  have y0:=K1.out.c0;have y1:=K1.out.c1;have y2:=K1.out.c2
  go_enter Tryz.func137,Tryz.ntmps137
  go_wp2_with fail
  refine C1.out.mono ?_
  rintro _ w4 ⟨rfl,rfl⟩
  clear C1
  go_wp2_with fail
  refine CM.out.mono ?_
  rintro _ w6 ⟨_,rfl,⟨A6,n6,c6,rfl,h6⟩,b6⟩
  have K26:=Lib.hid (K2.out.step b6)
  have r0:=K26.out.c0;have r1:=K26.out.c1;have r2:=K26.out.c2
  have z0:=K26.out.fz 0;have z1:=K26.out.fz 1;have z2:=K26.out.fz 2
  have RN:=Lib.hid (cE B3.out (Nat.le_add_right w.heap.size 1) K26.out K2.out.lt b6 h6)
  clear h6 b6 CM
  go_wp2
  obtain ⟨kr,nr,br⟩:=RN.out
  refine bodyPost_ret (v:=.tuple #[.agg #[.bool r.1.s,.int .i64 r.1.e,.slice A6 n6 c6],.int .i64 r.2]) ?_ rfl ⟨_,rfl,nr,br⟩
  have q0:=kr.c0;have q1:=kr.c1;have q2:=kr.c2
  unfold bc at q0 q1 q2
  simp [results,Tryz.results137,go_sem,q0,q1,q2]
 ·obtain ⟨low,hl⟩:∃ low:Nat,low=nbits M - P:=⟨_,rfl⟩
  have hl':(nbits M:Int) - (P:Int)=(low:Int):=by omega
  have h0:M≠0:=fun h=>by rw [h,dK] at hlow;omega
  have hlp:0<low:=by omega
  have f0:¬ ((low:Int)≤0):=by omega
  have g1:IntKind.i64.wrap (-(low:Int))= -(low:Int):=by rw [IntKind.wrap_i64];omega
  have g2:=eL e (low:Int) (by omega) (by omega)
  have CS:=Lib.hid (jE (-(low:Int)) (I1.out.has LM.out) (by omega))
  rw [mI (b:=low) (by omega) hlp] at CS
  have hr2:r=res (nm s (M / 2^low+(if M%2^low≠0∧(s !=up)=true then 1 else 0)) (e+low)):=by
   rw [hr];unfold dP iK;simp only;rw [←hl]
  have HZ:=Lib.hid (vf (low:=low) h0)
  have LH:=Lib.hid (show M / 2^low<B64^k from Nat.lt_of_le_of_lt (Nat.div_le_self _ _) LM.out)
  have HR:=Lib.hid hr2
  replace g0:=g0.trans hl'
  clear hl'
  clear hr hr2 hl h0 hlow
  have y0:=K1.out.c0;have y1:=K1.out.c1;have y2:=K1.out.c2
  go_enter Tryz.func137,Tryz.ntmps137
  go_wp2_with fail
  refine C1.out.mono ?_
  rintro _ w4 ⟨rfl,rfl⟩
  clear C1
  go_wp2_with fail
  refine CS.out.mono ?_
  rintro _ w5 ⟨A5,n5,c5,rfl,h5,b5⟩
  have K15:=Lib.hid (K1.out.step b5);have K25:=Lib.hid (K2.out.step b5);have B5:=Lib.hid (aa B3.out b5);have T5:=Lib.hid (T3.out.below b5);have U5:=Lib.hid (U3.out.step b5)
  have I5:=Lib.hid (I1.out.step b5);have H5:=Lib.hid h5
  have CZ:=Lib.hid (yl (I5.out.has LM.out) (by omega) T5.out)
  clear y0 y1 y2 b5 h5 CS K1 K2 B3 T3 U3 I1
  have y0:=K15.out.c0;have y1:=K15.out.c1;have y2:=K15.out.c2
  go_wp2_with fail
  refine CZ.out.mono ?_
  rintro _ w6 ⟨rfl,rfl⟩
  clear CZ
  by_cases hz:M%2^low=0
  ·have fz:¬ ((ntz M:Int)<(low:Int)):=by
    have:=HZ.out
    rw [decide_eq_false (by simp [hz]:¬ M%2^low≠0)] at this
    simpa using this
   have CM:=Lib.hid (mr s (e+low) H5.out LH.out (by omega) T5.out)
   have hr:r=res (nm s (M / 2^low) (e+low)):=by rw [HR.out,if_neg (by simp [hz])];rfl
   rw [←hr] at CM
   clear HR hr hz HZ
   go_wp2_with fail
   refine CM.out.mono ?_
   rintro _ w8 ⟨_,rfl,⟨A8,n8,c8,rfl,h8⟩,b8⟩
   have K28:=Lib.hid (K25.out.step b8)
   have r0:=K28.out.c0;have r1:=K28.out.c1;have r2:=K28.out.c2
   have z0:=K28.out.fz 0;have z1:=K28.out.fz 1;have z2:=K28.out.fz 2
   have RN:=Lib.hid (cE B5.out (Nat.le_add_right w.heap.size 1) K28.out K25.out.lt b8 h8)
   clear h8 b8 CM
   go_wp2
   obtain ⟨kr,nr,br⟩:=RN.out
   refine bodyPost_ret (v:=.tuple #[.agg #[.bool r.1.s,.int .i64 r.1.e,.slice A8 n8 c8],.int .i64 r.2]) ?_ rfl ⟨_,rfl,nr,br⟩
   have q0:=kr.c0;have q1:=kr.c1;have q2:=kr.c2
   unfold bc at q0 q1 q2
   simp [results,Tryz.results137,go_sem,q0,q1,q2]
  ·have fz:(ntz M:Int)<(low:Int):=by
    have:=HZ.out
    rw [decide_eq_true hz] at this
    simpa using this
   have CD:=Lib.hid (yJ w5 g s up U5.out)
   cases hd:(s !=up)
   ·rw [hd] at CD
    have CM:=Lib.hid (mr s (e+low) H5.out LH.out (by omega) T5.out)
    have hr:r=res (nm s (M / 2^low) (e+low)):=by rw [HR.out,if_neg (by simp [hd])];rfl
    rw [←hr] at CM
    clear HR hr hz HZ
    go_wp2_with fail
    refine CD.out.mono ?_
    rintro _ w6 ⟨rfl,rfl⟩
    clear CD
    go_wp2_with fail
    refine CM.out.mono ?_
    rintro _ w8 ⟨_,rfl,⟨A8,n8,c8,rfl,h8⟩,b8⟩
    have K28:=Lib.hid (K25.out.step b8)
    have r0:=K28.out.c0;have r1:=K28.out.c1;have r2:=K28.out.c2
    have z0:=K28.out.fz 0;have z1:=K28.out.fz 1;have z2:=K28.out.fz 2
    have RN:=Lib.hid (cE B5.out (Nat.le_add_right w.heap.size 1) K28.out K25.out.lt b8 h8)
    clear h8 b8 CM
    go_wp2
    obtain ⟨kr,nr,br⟩:=RN.out
    refine bodyPost_ret (v:=.tuple #[.agg #[.bool r.1.s,.int .i64 r.1.e,.slice A8 n8 c8],.int .i64 r.2]) ?_ rfl ⟨_,rfl,nr,br⟩
    have q0:=kr.c0;have q1:=kr.c1;have q2:=kr.c2
    unfold bc at q0 q1 q2
    simp [results,Tryz.results137,go_sem,q0,q1,q2]
   ·rw [hd] at CD
    have hr:r=res (nm s (M / 2^low+1) (e+low)):=by rw [HR.out,if_pos ⟨hz,hd⟩]
    have HR2:=Lib.hid hr
    have ob:=ac w5 (.cells #[.int .u64 1] 50)
    have CA:=Lib.hid (EE ((H5.out.has LH.out).step ob) (wt w5) (by omega) (by omega))
    have K25o:=Lib.hid (K25.out.step ob);have K15o:=Lib.hid (K15.out.step ob);have B5o:=Lib.hid (aa B5.out ob);have T5o:=Lib.hid (T5.out.below ob)
    have LH2:=Lib.hid (vh LH.out (show 1<B64^1 by unfold B64;omega))
    clear HR hr hz HZ ob
    go_wp2_with fail
    refine CD.out.mono ?_
    rintro _ w6 ⟨rfl,rfl⟩
    clear CD
    go_wp2_with fail
    refine CA.out.mono ?_
    rintro _ w7 ⟨A7,n7,c7,rfl,h7,b7⟩
    have K17:=Lib.hid (K15o.out.step b7);have K27:=Lib.hid (K25o.out.step b7);have B7:=Lib.hid (aa B5o.out b7);have T7:=Lib.hid (T5o.out.below b7)
    have CM:=Lib.hid (mr s (e+low) h7 LH2.out (by omega) T7.out)
    rw [←HR2.out] at CM
    clear y0 y1 y2 h7 b7 CA
    have y0:=K17.out.c0;have y1:=K17.out.c1;have y2:=K17.out.c2
    go_wp2_with fail
    refine CM.out.mono ?_
    rintro _ w8 ⟨_,rfl,⟨A8,n8,c8,rfl,h8⟩,b8⟩
    have K28:=Lib.hid (K27.out.step b8)
    have r0:=K28.out.c0;have r1:=K28.out.c1;have r2:=K28.out.c2
    have z0:=K28.out.fz 0;have z1:=K28.out.fz 1;have z2:=K28.out.fz 2
    have RN:=Lib.hid (cE B7.out (Nat.le_add_right w.heap.size 1) K28.out K27.out.lt b8 h8)
    clear h8 b8 CM
    go_wp2
    obtain ⟨kr,nr,br⟩:=RN.out
    refine bodyPost_ret (v:=.tuple #[.agg #[.bool r.1.s,.int .i64 r.1.e,.slice A8 n8 c8],.int .i64 r.2]) ?_ rfl ⟨_,rfl,nr,br⟩
    have q0:=kr.c0;have q1:=kr.c1;have q2:=kr.c2
    unfold bc at q0 q1 q2
    simp [results,Tryz.results137,go_sem,q0,q1,q2]
end
section
def yu (W:World) (N:Nat) (e:Ending) (w':World):Prop:=∃ (A:Option Addr) (n c:Nat),e= .returned (.slice A n c)∧Rd .u64 w' W.heap.size w'.heap.size A n c (digs B64 N)∧Below W.heap.size W w'
section
variable {W:World} {A B:Option Addr} {n c m d X Y k l:Nat}
theorem yC (ha:Has W A n c X k) (hb:Has W B m d Y l) (hk:k≤100000) (hl:l≤100000):Calls Tryz.prog 189 #[.slice A n c,.slice B m d] W (yu W (X+Y)):=by
 obtain ⟨xs,a1,a2,rfl,a4⟩:=ha
 obtain ⟨ys,b1,b2,rfl,b4⟩:=hb
 exact (vK W 0 _ A B n c m d xs ys a1 b1 a2 b2 (by omega) (by omega) (Nat.le_refl _)).mono fun e w' ⟨A,n,c,he,h1,h2,_⟩=>⟨A,n,c,he,h1,h2⟩
theorem FF (ha:Has W A n c X k) (hb:Has W B m d Y l) (hk:k≤100000) (hl:l≤100000):Calls Tryz.prog 222 #[.slice A n c,.slice B m d] W (yu W (X*Y)):=by
 obtain ⟨xs,a1,a2,rfl,a4⟩:=ha
 obtain ⟨ys,b1,b2,rfl,b4⟩:=hb
 exact (Co W 0 _ A B n c m d xs ys a1 b1 a2 b2 (by omega) (by omega) (Nat.le_refl _)).mono fun e w' ⟨A,n,c,he,h1,h2,_⟩=>⟨A,n,c,he,h1,h2⟩
theorem AU (t:Int) (ha:Has W A n c X k) (hk:k≤100000):Calls Tryz.prog 187 #[.slice A n c,.int .i64 t] W (yu W (yo X t)):=by
 obtain ⟨xs,a1,a2,rfl,a4⟩:=ha
 exact (ij W 0 _ A n c t xs a1 a2 (by omega) (Nat.le_refl _)).mono fun e w' ⟨A,n,c,he,h1,h2,_⟩=>⟨A,n,c,he,h1,h2⟩
theorem Bb (ha:Has W A n c X k) (hb:Has W B m d Y l) (hk:k≤100000) (hl:l≤100000):Calls Tryz.prog 190 #[.slice A n c,.slice B m d] W
  fun e w'=>∃ (A':Option Addr) (n' c':Nat),e= .returned (.tuple #[.slice A' n' c',.bool (decide (Y≤X))])∧Rd .u64 w' W.heap.size w'.heap.size A' n' c' (digs B64 (X - Y))∧Below W.heap.size W w':=by
 obtain ⟨xs,a1,a2,rfl,a4⟩:=ha
 obtain ⟨ys,b1,b2,rfl,b4⟩:=hb
 refine (Dr W 0 _ A B n c m d xs ys a1 b1 a2 b2 (by omega) (by omega) (Nat.le_refl _)).mono ?_
 rintro e w' ⟨A',n',c',rfl,h1,h2,_⟩
 exact ⟨A',n',c',rfl,h1,h2⟩
end
def qX (w:World) (r:Q) (K:Nat) (e:Ending) (w':World):Prop:=∃ q:Q,kh w q e w'∧nm q.s q.m q.e=r∧q.m<B64^K∧ -1000000≤q.e∧q.e≤1000000
theorem nu {X k:Nat} {t:Nat} (h:X<B64^k) (ht:t≤131072):X*2^t<B64^(k+2048):=by
 obtain ⟨E,hE⟩:∃ E:Nat,E=2048:=⟨_,rfl⟩
 rw [←hE]
 have h1:2^t≤B64^E:=by rw [dC];exact Nat.pow_le_pow_right (by omega) (by omega)
 rw [Nat.pow_add]
 exact Nat.lt_of_lt_of_le (Nat.mul_lt_mul_of_pos_right h (Nat.pow_pos (by omega))) (Nat.mul_le_mul_left _ h1)
theorem la {k x y:Nat} (hx:x<B64^k) (hy:y<B64^k):x+y<B64^(k+1):=by
 rw [Nat.pow_succ]
 have:B64^k*2≤B64^k*B64:=Nat.mul_le_mul_left _ (by unfold B64;omega)
 omega
theorem tL (w:World) (a b:Q) (A B:Option Addr) (n c m d:Nat) (ha:Is w A n c a.m) (hb:Is w B m d b.m) (hX:a.m<B64^64) (hY:b.m<B64^64)
  (h1: -65536≤a.e) (h2:a.e≤65536) (h3: -65536≤b.e) (h4:b.e≤65536):
  Calls Tryz.prog 138 #[.agg #[.bool a.s,.int .i64 a.e,.slice A n c],.agg #[.bool b.s,.int .i64 b.e,.slice B m d]] w (qX w (plus a b) 2120):=by
 obtain ⟨k1,k2,k3,b3⟩:=iD w a.s b.s a.e b.e A B n c m d
 obtain ⟨X,hXv⟩:∃ X,X=a.m*2^(a.e - lowe a b).toNat:=⟨_,rfl⟩
 obtain ⟨Y,hYv⟩:∃ Y,Y=b.m*2^(b.e - lowe a b).toNat:=⟨_,rfl⟩
 have PS:=Lib.hid (qE hXv hYv);have PL:=Lib.hid (nf hXv hYv);have PR:=Lib.hid (po hXv hYv)
 have hl1:(a.e - lowe a b).toNat≤131072:=by unfold lowe;omega
 have hl2:(b.e - lowe a b).toNat≤131072:=by unfold lowe;omega
 obtain ⟨k0,hk0⟩:∃ k0:Nat,k0=64:=⟨_,rfl⟩
 obtain ⟨K,hK⟩:∃ K:Nat,K=2120:=⟨_,rfl⟩
 rw [←hK]
 have hX':a.m<B64^k0:=by rw [hk0];exact hX
 have hY':b.m<B64^k0:=by rw [hk0];exact hY
 have LX:=Lib.hid (show X<B64^(k0+2048) by rw [hXv];exact nu hX' hl1)
 have LY:=Lib.hid (show Y<B64^(k0+2048) by rw [hYv];exact nu hY' hl2)
 have LXY:=Lib.hid (nJ (la LX.out LY.out) (show k0+2048+1≤K by omega))
 have LXK:=Lib.hid (nJ LX.out (show k0+2048≤K by omega));have LYK:=Lib.hid (nJ LY.out (show k0+2048≤K by omega))
 have ha2:=Lib.hid ((ha.step b3).has hX');have hb2:=Lib.hid ((hb.step b3).has hY')
 have q1:=Lib.hid (ou (M:=a.m) (e:=a.e) (t:=lowe a b) (by unfold lowe;omega) (by unfold lowe;omega));have q2:=Lib.hid (ou (M:=b.m) (e:=b.e) (t:=lowe a b) (by unfold lowe;omega) (by unfold lowe;omega))
 rw [←hXv] at q1
 rw [←hYv] at q2
 clear hX' hY' hl1 hl2
 have K1:=Lib.hid k1;have K2:=Lib.hid k2;have K3:=Lib.hid k3;have B3:=Lib.hid b3
 clear k1 k2 k3 b3 hXv hYv ha hb hX hY
 have t1: -65536≤lowe a b:=by unfold lowe;omega
 have t2:lowe a b≤a.e:=by unfold lowe;omega
 have t3:lowe a b≤b.e:=by unfold lowe;omega
 have f1:min a.e b.e=lowe a b:=rfl
 generalize plus a b=r at*
 generalize lowe a b=t at*
 obtain ⟨s,am,e⟩:=a
 obtain ⟨s',bm,e'⟩:=b
 simp only at*
 go_enter Tryz.func138,Tryz.ntmps138
 go_wp2_with fail
 generalize (((w.alloc (.cells #[.bool s,.int .i64 e,.slice A n c] 30)).alloc (.cells #[.bool s',.int .i64 e',.slice B m d] 30)).alloc (.cells #[.bool false,.int .i64 0,.slice none 0 0] 30))=w2 at*
 have S0:w2.cell? ⟨w.heap.size,0,none⟩=some (.bool s)∧w2.cell? ⟨w.heap.size,1,none⟩=some (.int .i64 e)∧w2.cell? ⟨w.heap.size,2,none⟩=some (.slice A n c)∧w2.cell? ⟨w.heap.size+1,0,none⟩=some (.bool s')∧w2.cell? ⟨w.heap.size+1,1,none⟩=some (.int .i64 e')∧w2.cell? ⟨w.heap.size+1,2,none⟩=some (.slice B m d):=⟨K1.out.c0,K1.out.c1,K1.out.c2,K2.out.c0,K2.out.c1,K2.out.c2⟩
 try rw [f1]
 have x1:=db e t (by omega) (by omega)
 have x2:=db e' t (by omega) (by omega)
 have d2:=lw (Below.refl w2.heap.size w2)
 have C1:=Lib.hid (jE (e - t) (ha2.out.step d2) (by omega))
 have K1d:=Lib.hid (K1.out.step d2);have K2d:=Lib.hid (K2.out.step d2);have K3d:=Lib.hid (K3.out.step d2);have B2d:=Lib.hid (aa B3.out d2);have hb2d:=Lib.hid (hb2.out.step d2)
 rw [q1.out] at C1
 clear f1 d2 B3 K1 K2 K3 ha2 hb2
 go_region_held3 (fun w'=>w'.cell? ⟨w.heap.size,0,none⟩=some (.bool s)∧w'.cell? ⟨w.heap.size,1,none⟩=some (.int .i64 e)∧w'.cell? ⟨w.heap.size,2,none⟩=some (.slice A n c)∧w'.cell? ⟨w.heap.size+1,0,none⟩=some (.bool s')∧w'.cell? ⟨w.heap.size+1,1,none⟩=some (.int .i64 e')∧w'.cell? ⟨w.heap.size+1,2,none⟩=some (.slice B m d))
  (first |exact S0 |assumption)
  (first
   | (go_at_call 187
      refine C1.out.mono ?_
      rintro _ w3 ⟨A3,n3,c3,rfl,h3,b3⟩
      have K13:=Lib.hid (K1d.out.step b3);have K23:=Lib.hid (K2d.out.step b3);have K33:=Lib.hid (K3d.out.step b3)
      have S3:w3.cell? ⟨w.heap.size,0,none⟩=some (.bool s)∧w3.cell? ⟨w.heap.size,1,none⟩=some (.int .i64 e)∧w3.cell? ⟨w.heap.size,2,none⟩=some (.slice A n c)∧w3.cell? ⟨w.heap.size+1,0,none⟩=some (.bool s')∧w3.cell? ⟨w.heap.size+1,1,none⟩=some (.int .i64 e')∧w3.cell? ⟨w.heap.size+1,2,none⟩=some (.slice B m d):=⟨K13.out.c0,K13.out.c1,K13.out.c2,K23.out.c0,K23.out.c1,K23.out.c2⟩
      have C3:=Lib.hid (jE (e' - t) (hb2d.out.step b3) (by omega))
      have B3:=Lib.hid (aa B2d.out b3);have H3:=Lib.hid h3
      rw [q2.out] at C3
      clear h3 b3 C1)
   | (go_at_call 187
      refine C3.out.mono ?_
      rintro _ w4 ⟨A4,n4,c4,rfl,h4,b4⟩
      have K14:=Lib.hid (K13.out.step b4);have K24:=Lib.hid (K23.out.step b4);have K34:=Lib.hid (K33.out.step b4)
      have S4:w4.cell? ⟨w.heap.size,0,none⟩=some (.bool s)∧w4.cell? ⟨w.heap.size,1,none⟩=some (.int .i64 e)∧w4.cell? ⟨w.heap.size,2,none⟩=some (.slice A n c)∧w4.cell? ⟨w.heap.size+1,0,none⟩=some (.bool s')∧w4.cell? ⟨w.heap.size+1,1,none⟩=some (.int .i64 e')∧w4.cell? ⟨w.heap.size+1,2,none⟩=some (.slice B m d):=⟨K14.out.c0,K14.out.c1,K14.out.c2,K24.out.c0,K24.out.c1,K24.out.c2⟩
      have B4:=Lib.hid (aa B3.out b4);have G1:=Lib.hid (H3.out.step b4);have G2:=Lib.hid h4
      clear h4 b4 C3))
 clear S3 S4 S0 x1 x2 K13 K23 K33 K1d K2d K3d B3 B2d hb2d H3 q1 q2
 have c0:=K14.out.c0;have c0':=K24.out.c0
 by_cases hs:s=s'
 ·subst hs
  have P:=Lib.hid (PS.out rfl)
  clear PS PL PR
  have CA:=Lib.hid (yC (G1.out.has LX.out|>.step (lw (Below.refl _ w4))) (G2.out.has LY.out|>.step (lw (Below.refl _ w4))) (by omega) (by omega))
  have K14d:=Lib.hid (K14.out.step (lw (Below.refl _ w4)));have K34d:=Lib.hid (K34.out.step (lw (Below.refl _ w4)));have B4d:=Lib.hid (lw B4.out)
  clear K24 K34 K14 G1 G2 B4
  have f0:(s==s)=true:=by simp
  focus
   go_wp2_with fail
   go_region_held3 (fun w'=>w'.cell? ⟨w.heap.size,0,none⟩=some (.bool s))
    (first |exact c0 |assumption |go_keep)
    (first
     | (go_at_call 189
        refine CA.out.mono ?_
        rintro _ w5 ⟨A5,n5,c5,rfl,h5,b5⟩
        have K15:=Lib.hid (K14d.out.step b5);have K35:=Lib.hid (K34d.out.step b5)
        have s5:=K15.out.c0
        have r0:=K35.out.c0;have r1:=K35.out.c1;have r2:=K35.out.c2
        have z0:=K35.out.fz 0;have z1:=K35.out.fz 1;have z2:=K35.out.fz 2
        have s7:=(eV w5 (w.heap.size+1+1) w.heap.size 0 (.bool s) (.int .i64 t) (.slice A5 n5 c5) (by omega)).trans s5
        have RN:=Lib.hid (cE (q:=⟨s,X+Y,t⟩) B4d.out (Nat.le_add_right w.heap.size 2) K35.out K34d.out.lt b5 h5)
        clear h5 b5))
   go_wp2
   obtain ⟨kr,nr,br⟩:=RN.out
   refine bodyPost_ret (v:=.agg #[.bool s,.int .i64 t,.slice A5 n5 c5]) ?_ rfl ⟨⟨s,X+Y,t⟩,⟨_,rfl,nr,br⟩,P.out,LXY.out,by show -1000000≤t;omega,by show t≤1000000;omega⟩
   have q0:=kr.c0;have q1:=kr.c1;have q2:=kr.c2
   unfold bc at q0 q1 q2
   simp [results,Tryz.results138,go_sem,q0,q1,q2]
 ·have hs':s'= !s:=by revert hs;cases s<;>cases s'<;>simp
  subst hs'
  have f0:(s== !s)=false:=by cases s<;>rfl
  have CS:=Lib.hid (Bb (G1.out.has LX.out) (G2.out.has LY.out) (by omega) (by omega))
  by_cases hle:Y≤X
  ·have P:=Lib.hid (PL.out hs hle)
   have hd:decide (Y≤X)=true:=decide_eq_true hle
   rw [hd] at CS
   clear PS PL PR hs K24
   go_wp2_with fail
   refine CS.out.mono ?_
   rintro _ w5 ⟨A5,n5,c5,rfl,h5,b5⟩
   have K15:=Lib.hid (K14.out.step b5);have K35:=Lib.hid (K34.out.step b5)
   have s5:=K15.out.c0
   have r0:=K35.out.c0;have r1:=K35.out.c1;have r2:=K35.out.c2
   have z0:=K35.out.fz 0;have z1:=K35.out.fz 1;have z2:=K35.out.fz 2
   have RN:=Lib.hid (cE (q:=⟨s,X - Y,t⟩) B4.out (Nat.le_add_right w.heap.size 2) K35.out K34.out.lt b5 h5)
   have LR:=Lib.hid (Nat.lt_of_le_of_lt (Nat.sub_le X Y) LXK.out)
   clear h5 b5 CS
   go_wp2
   obtain ⟨kr,nr,br⟩:=RN.out
   refine bodyPost_ret (v:=.agg #[.bool s,.int .i64 t,.slice A5 n5 c5]) ?_ rfl ⟨⟨s,X - Y,t⟩,⟨_,rfl,nr,br⟩,P.out,LR.out,by show -1000000≤t;omega,by show t≤1000000;omega⟩
   have q0:=kr.c0;have q1:=kr.c1;have q2:=kr.c2
   unfold bc at q0 q1 q2
   simp [results,Tryz.results138,go_sem,q0,q1,q2]
  ·have P:=Lib.hid (PR.out hs hle)
   have hd:decide (Y≤X)=false:=decide_eq_false hle
   rw [hd] at CS
   clear PS PL PR hs
   go_wp2_with fail
   refine CS.out.mono ?_
   rintro _ w5 ⟨A5,n5,c5,rfl,_,b5⟩
   have K25:=Lib.hid (K24.out.step b5);have K35:=Lib.hid (K34.out.step b5);have B5:=Lib.hid (aa B4.out b5)
   have CT:=Lib.hid (Bb ((G2.out.has LY.out).step b5) ((G1.out.has LX.out).step b5) (by omega) (by omega))
   clear b5 K14 K24 K34 B4 CS
   go_wp2_with fail
   refine CT.out.mono ?_
   rintro _ w6 ⟨A6,n6,c6,rfl,h6,b6⟩
   have K26:=Lib.hid (K25.out.step b6);have K36:=Lib.hid (K35.out.step b6)
   have s5:=K26.out.c0
   have r0:=K36.out.c0;have r1:=K36.out.c1;have r2:=K36.out.c2
   have z0:=K36.out.fz 0;have z1:=K36.out.fz 1;have z2:=K36.out.fz 2
   have RN:=Lib.hid (cE (q:=⟨!s,Y - X,t⟩) B5.out (Nat.le_add_right w.heap.size 2) K36.out K35.out.lt b6 h6)
   have LR:=Lib.hid (Nat.lt_of_le_of_lt (Nat.sub_le Y X) LYK.out)
   clear h6 b6 CT
   go_wp2
   obtain ⟨kr,nr,br⟩:=RN.out
   refine bodyPost_ret (v:=.agg #[.bool (!s),.int .i64 t,.slice A6 n6 c6]) ?_ rfl ⟨⟨!s,Y - X,t⟩,⟨_,rfl,nr,br⟩,P.out,LR.out,by show -1000000≤t;omega,by show t≤1000000;omega⟩
   have q0:=kr.c0;have q1:=kr.c1;have q2:=kr.c2
   unfold bc at q0 q1 q2
   simp [results,Tryz.results138,go_sem,q0,q1,q2]
end
section
theorem xW (w:World) (a b:Q) (A B:Option Addr) (n c m d:Nat) (ha:Is w A n c a.m) (hb:Is w B m d b.m) (hX:a.m<B64^64) (hY:b.m<B64^64)
  (h1: -65536≤a.e) (h2:a.e≤65536) (h3: -65536≤b.e) (h4:b.e≤65536):
  Calls Tryz.prog 171 #[.agg #[.bool a.s,.int .i64 a.e,.slice A n c],.agg #[.bool b.s,.int .i64 b.e,.slice B m d]] w (qX w (times a b) 2120):=by
 obtain ⟨k1,k2,k3,b3⟩:=iD w a.s b.s a.e b.e A B n c m d
 obtain ⟨k0,hk0⟩:∃ k0:Nat,k0=64:=⟨_,rfl⟩
 obtain ⟨K,hK⟩:∃ K:Nat,K=2120:=⟨_,rfl⟩
 rw [←hK]
 have hX':a.m<B64^k0:=by rw [hk0];exact hX
 have hY':b.m<B64^k0:=by rw [hk0];exact hY
 have LM:=Lib.hid (nJ (zC hX' hY') (show k0+k0≤K by omega))
 have ha2:=Lib.hid ((ha.step b3).has hX');have hb2:=Lib.hid ((hb.step b3).has hY')
 have K1:=Lib.hid k1;have K2:=Lib.hid k2;have K3:=Lib.hid k3;have B3:=Lib.hid b3
 clear k1 k2 k3 b3 ha hb hX hY hX' hY'
 obtain ⟨s,X,e⟩:=a
 obtain ⟨s',Y,e'⟩:=b
 have PT:=Lib.hid (tt (s:=s) (s':=s') (M:=X) (M':=Y) (e:=e) (e':=e'))
 simp only at*
 generalize times ⟨s,X,e⟩ ⟨s',Y,e'⟩=r at*
 go_enter Tryz.func171,Tryz.ntmps171
 go_wp2_with fail
 generalize (((w.alloc (.cells #[.bool s,.int .i64 e,.slice A n c] 30)).alloc (.cells #[.bool s',.int .i64 e',.slice B m d] 30)).alloc (.cells #[.bool false,.int .i64 0,.slice none 0 0] 30))=w2 at*
 have S0:w2.cell? ⟨w.heap.size,0,none⟩=some (.bool s)∧w2.cell? ⟨w.heap.size,1,none⟩=some (.int .i64 e)∧w2.cell? ⟨w.heap.size,2,none⟩=some (.slice A n c)∧w2.cell? ⟨w.heap.size+1,0,none⟩=some (.bool s')∧w2.cell? ⟨w.heap.size+1,1,none⟩=some (.int .i64 e')∧w2.cell? ⟨w.heap.size+1,2,none⟩=some (.slice B m d):=⟨K1.out.c0,K1.out.c1,K1.out.c2,K2.out.c0,K2.out.c1,K2.out.c2⟩
 have x1:=eL e e' (by omega) (by omega)
 have d2:=lw (Below.refl w2.heap.size w2)
 have C1:=Lib.hid (FF (ha2.out.step d2) (hb2.out.step d2) (by omega) (by omega))
 have K1d:=Lib.hid (K1.out.step d2);have K2d:=Lib.hid (K2.out.step d2);have K3d:=Lib.hid (K3.out.step d2);have B2d:=Lib.hid (aa B3.out d2)
 clear d2 B3 K1 K2 K3 ha2 hb2
 go_region_held3 (fun w'=>w'.cell? ⟨w.heap.size,0,none⟩=some (.bool s)∧w'.cell? ⟨w.heap.size,1,none⟩=some (.int .i64 e)∧w'.cell? ⟨w.heap.size,2,none⟩=some (.slice A n c)∧w'.cell? ⟨w.heap.size+1,0,none⟩=some (.bool s')∧w'.cell? ⟨w.heap.size+1,1,none⟩=some (.int .i64 e')∧w'.cell? ⟨w.heap.size+1,2,none⟩=some (.slice B m d))
  (first |exact S0 |assumption)
  (first
   | (go_at_call 222
      refine C1.out.mono ?_
      rintro _ w3 ⟨A3,n3,c3,rfl,h3,b3⟩
      have K13:=Lib.hid (K1d.out.step b3);have K23:=Lib.hid (K2d.out.step b3);have K33:=Lib.hid (K3d.out.step b3)
      have S3:w3.cell? ⟨w.heap.size,0,none⟩=some (.bool s)∧w3.cell? ⟨w.heap.size,1,none⟩=some (.int .i64 e)∧w3.cell? ⟨w.heap.size,2,none⟩=some (.slice A n c)∧w3.cell? ⟨w.heap.size+1,0,none⟩=some (.bool s')∧w3.cell? ⟨w.heap.size+1,1,none⟩=some (.int .i64 e')∧w3.cell? ⟨w.heap.size+1,2,none⟩=some (.slice B m d):=⟨K13.out.c0,K13.out.c1,K13.out.c2,K23.out.c0,K23.out.c1,K23.out.c2⟩
      have r0:=K33.out.c0;have r1:=K33.out.c1;have r2:=K33.out.c2
      have z0:=K33.out.fz 0;have z1:=K33.out.fz 1;have z2:=K33.out.fz 2
      have F:=fun (h i:Nat) (hn:h≠w.heap.size+1+1)=>eV w3 (w.heap.size+1+1) h i (.bool (!s==s')) (.int .i64 (e+e')) (.slice A3 n3 c3) hn
      have S8:=And.intro ((F w.heap.size 0 (by omega)).trans K13.out.c0) (And.intro ((F w.heap.size 1 (by omega)).trans K13.out.c1) (And.intro ((F w.heap.size 2 (by omega)).trans K13.out.c2) (And.intro ((F (w.heap.size+1) 0 (by omega)).trans K23.out.c0) (And.intro ((F (w.heap.size+1) 1 (by omega)).trans K23.out.c1) ((F (w.heap.size+1) 2 (by omega)).trans K23.out.c2)))))
      clear F
      have RN:=Lib.hid (cE (q:=⟨!s==s',X*Y,e+e'⟩) B2d.out (Nat.le_add_right w.heap.size 2) K33.out K3d.out.lt b3 h3)
      clear h3 b3))
 go_wp2
 obtain ⟨kr,nr,br⟩:=RN.out
 refine bodyPost_ret (v:=.agg #[.bool (!s==s'),.int .i64 (e+e'),.slice A3 n3 c3]) ?_ rfl ⟨⟨!s==s',X*Y,e+e'⟩,⟨_,rfl,nr,br⟩,PT.out,LM.out,by show -1000000≤e+e';omega,by show e+e'≤1000000;omega⟩
 have q0:=kr.c0;have q1:=kr.c1;have q2:=kr.c2
 unfold bc at q0 q1 q2
 simp [results,Tryz.results171,go_sem,q0,q1,q2]
theorem xX (w:World) (a b:Q) (A B:Option Addr) (n c m d P:Nat) (ha:Is w A n c a.m) (hb:Is w B m d b.m) (hX:a.m<B64^64) (hY:b.m<B64^64) (hY0:b.m≠0) (hp:8≤P) (hp2:P≤256)
  (h1: -65536≤a.e) (h2:a.e≤65536) (h3: -65536≤b.e) (h4:b.e≤65536):
  Calls Tryz.prog 221 #[.agg #[.bool a.s,.int .i64 a.e,.slice A n c],.agg #[.bool b.s,.int .i64 b.e,.slice B m d],.int .i64 (P:Int)] w
   (qX w (nm (a.s !=b.s) (stk (a.m*2^ratk P a b) b.m) (a.e - b.e - (ratk P a b:Int) - 1)) 2120):=by
 obtain ⟨k1,k2,k3,b3⟩:=iD w a.s b.s a.e b.e A B n c m d
 obtain ⟨k0,hk0⟩:∃ k0:Nat,k0=64:=⟨_,rfl⟩
 obtain ⟨K,hK⟩:∃ K:Nat,K=2120:=⟨_,rfl⟩
 rw [←hK]
 have hX':a.m<B64^k0:=by rw [hk0];exact hX
 have hY':b.m<B64^k0:=by rw [hk0];exact hY
 have hna:nbits a.m≤64*k0:=bh (by rw [←dC];exact hX')
 have hnb:nbits b.m≤64*k0:=bh (by rw [←dC];exact hY')
 obtain ⟨k,hk⟩:∃ k,k=ratk P a b:=⟨_,rfl⟩
 have hkb:k≤4352:=by rw [hk];unfold ratk;omega
 have hmx:max 0 ((P:Int)+(nbits b.m:Int) - (nbits a.m:Int))=(k:Int):=by rw [hk];unfold ratk;omega
 rw [←hk]
 have LX:=Lib.hid (show a.m*2^k<B64^(k0+2048) from nu hX' (by omega))
 have ha2:=Lib.hid ((ha.step b3).has hX');have hb2:=Lib.hid ((hb.step b3).has hY');have IB:=Lib.hid (hb.step b3)
 have K1:=Lib.hid k1;have K2:=Lib.hid k2;have K3:=Lib.hid k3;have B3:=Lib.hid b3
 have hk1:k0≤64:=by omega
 have hK2:k0+2048+2≤K:=by omega
 clear k1 k2 k3 b3 ha hb hX hY hX' hY' hk hk0 hK
 obtain ⟨r,hr⟩:∃ r,r=nm (a.s !=b.s) (stk (a.m*2^k) b.m) (a.e - b.e - (k:Int) - 1):=⟨_,rfl⟩
 rw [←hr]
 have HRR:=Lib.hid hr
 clear hr
 obtain ⟨s,X,e⟩:=a
 obtain ⟨s',Y,e'⟩:=b
 simp only at*
 have x1:=eL (P:Int) (nbits Y:Int) (by omega) (by omega)
 have x2:=db ((P:Int)+(nbits Y:Int)) (nbits X:Int) (by omega) (by omega)
 have x3:=db e e' (by omega) (by omega)
 have x4:=db (e - e') (k:Int) (by omega) (by omega)
 have x5:=db (e - e' - (k:Int)) 1 (by omega) (by omega)
 have q1:=Lib.hid (lT (X:=X) (n:=(k:Int)) (b:=k) (by omega))
 go_enter Tryz.func221,Tryz.ntmps221
 go_wp2_with fail
 generalize (((w.alloc (.cells #[.bool s,.int .i64 e,.slice A n c] 30)).alloc (.cells #[.bool s',.int .i64 e',.slice B m d] 30)).alloc (.cells #[.bool false,.int .i64 0,.slice none 0 0] 30))=w2 at*
 have S0:w2.cell? ⟨w.heap.size,0,none⟩=some (.bool s)∧w2.cell? ⟨w.heap.size,1,none⟩=some (.int .i64 e)∧w2.cell? ⟨w.heap.size,2,none⟩=some (.slice A n c)∧w2.cell? ⟨w.heap.size+1,0,none⟩=some (.bool s')∧w2.cell? ⟨w.heap.size+1,1,none⟩=some (.int .i64 e')∧w2.cell? ⟨w.heap.size+1,2,none⟩=some (.slice B m d):=⟨K1.out.c0,K1.out.c1,K1.out.c2,K2.out.c0,K2.out.c1,K2.out.c2⟩
 have d2:=lw (Below.refl w2.heap.size w2)
 have C1:=Lib.hid (mb (hb2.out.step d2) (by omega))
 have C2:=Lib.hid (mb (ha2.out.step d2) (by omega))
 have K1d:=Lib.hid (K1.out.step d2);have K2d:=Lib.hid (K2.out.step d2);have K3d:=Lib.hid (K3.out.step d2);have B2d:=Lib.hid (aa B3.out d2);have ha2d:=Lib.hid (ha2.out.step d2);have hb2d:=Lib.hid (hb2.out.step d2)
 clear d2 B3 K1 K2 K3 ha2 hb2
 go_region_held3 (fun w'=>w'.cell? ⟨w.heap.size,0,none⟩=some (.bool s)∧w'.cell? ⟨w.heap.size,1,none⟩=some (.int .i64 e)∧w'.cell? ⟨w.heap.size,2,none⟩=some (.slice A n c)∧w'.cell? ⟨w.heap.size+1,0,none⟩=some (.bool s')∧w'.cell? ⟨w.heap.size+1,1,none⟩=some (.int .i64 e')∧w'.cell? ⟨w.heap.size+1,2,none⟩=some (.slice B m d))
  (first |exact S0 |assumption)
  (first
   | (go_at_call 186
      refine C1.out.mono ?_
      rintro _ w3 ⟨rfl,rfl⟩
      have C3:=C2
      clear C1)
   | (go_at_call 186
      refine C3.out.mono ?_
      rintro _ w3 ⟨rfl,rfl⟩
      clear C3 C2))
 clear S0 IB
 rename_i SD
 generalize w2.drew=wd at*
 have d3:=lw (Below.refl wd.heap.size wd)
 have C4:=Lib.hid (jE (k:Int) (ha2d.out.step d3) (by omega))
 rw [q1.out] at C4
 have K1e:=Lib.hid (K1d.out.step d3);have K2e:=Lib.hid (K2d.out.step d3);have K3e:=Lib.hid (K3d.out.step d3);have B3e:=Lib.hid (aa B2d.out d3);have hb2e:=Lib.hid (hb2d.out.step d3)
 have HY0:=Lib.hid hY0
 clear d3 K1d K2d K3d B2d ha2d hb2d hmx x1 x2 q1 hna hnb hY0
 go_wp2_with fail
 go_region_held3 (fun w'=>w'.cell? ⟨w.heap.size,0,none⟩=some (.bool s)∧w'.cell? ⟨w.heap.size,1,none⟩=some (.int .i64 e)∧w'.cell? ⟨w.heap.size,2,none⟩=some (.slice A n c)∧w'.cell? ⟨w.heap.size+1,0,none⟩=some (.bool s')∧w'.cell? ⟨w.heap.size+1,1,none⟩=some (.int .i64 e')∧w'.cell? ⟨w.heap.size+1,2,none⟩=some (.slice B m d))
  (first |exact SD |assumption)
  (first
   | (go_at_call 187
      refine C4.out.mono ?_
      rintro _ w3 ⟨A3,n3,c3,rfl,h3,b3⟩
      have K13:=Lib.hid (K1e.out.step b3);have K23:=Lib.hid (K2e.out.step b3);have K33:=Lib.hid (K3e.out.step b3);have B3:=Lib.hid (aa B3e.out b3)
      have S3:w3.cell? ⟨w.heap.size,0,none⟩=some (.bool s)∧w3.cell? ⟨w.heap.size,1,none⟩=some (.int .i64 e)∧w3.cell? ⟨w.heap.size,2,none⟩=some (.slice A n c)∧w3.cell? ⟨w.heap.size+1,0,none⟩=some (.bool s')∧w3.cell? ⟨w.heap.size+1,1,none⟩=some (.int .i64 e')∧w3.cell? ⟨w.heap.size+1,2,none⟩=some (.slice B m d):=⟨K13.out.c0,K13.out.c1,K13.out.c2,K23.out.c0,K23.out.c1,K23.out.c2⟩
      have C5:=Lib.hid (Fe (h3.has LX.out) (hb2e.out.step b3) (by omega) (by omega) HY0.out)
      clear h3 b3 C4)
   | (go_at_call 234
      refine C5.out.mono ?_
      rintro _ w4 ⟨Aq,Ar,nq,cq,nr,cr,rfl,hq,hr,b4⟩
      have K14:=Lib.hid (K13.out.step b4);have K24:=Lib.hid (K23.out.step b4);have K34:=Lib.hid (K33.out.step b4);have B4:=Lib.hid (aa B3.out b4)
      have S4:w4.cell? ⟨w.heap.size,0,none⟩=some (.bool s)∧w4.cell? ⟨w.heap.size,1,none⟩=some (.int .i64 e)∧w4.cell? ⟨w.heap.size,2,none⟩=some (.slice A n c)∧w4.cell? ⟨w.heap.size+1,0,none⟩=some (.bool s')∧w4.cell? ⟨w.heap.size+1,1,none⟩=some (.int .i64 e')∧w4.cell? ⟨w.heap.size+1,2,none⟩=some (.slice B m d):=⟨K14.out.c0,K14.out.c1,K14.out.c2,K24.out.c0,K24.out.c1,K24.out.c2⟩
      have HQ:=Lib.hid hq;have HR:=Lib.hid hr
      clear hq hr b4 C5))
 clear S3 S4 SD K13 K23 K33 K1e K2e K3e B3 B3e hb2e
 obtain ⟨D,hD⟩:∃ D,D=X*2^k / Y:=⟨_,rfl⟩
 obtain ⟨R,hR⟩:∃ R,R=X*2^k%Y:=⟨_,rfl⟩
 have hst:stk (X*2^k) Y=D*2+(if R≠0 then 1 else 0):=by unfold stk;rw [←hD,←hR,Nat.mul_comm]
 have LD:D<B64^(k0+2048):=by rw [hD];exact Nat.lt_of_le_of_lt (Nat.div_le_self _ _) LX.out
 have LD2:D*2<B64^(k0+2048+1):=by
  have:=la LD LD
  omega
 rw [←hD] at HQ
 rw [←hR] at HR
 have C6:=Lib.hid (AU 1 (HQ.out.has LD) (by omega))
 have hsv:yo D 1=D*2:=by have:=lT (X:=D) (n:=1) (b:=1) (by omega);rwa [Nat.pow_one] at this
 rw [hsv] at C6
 have hR0:=om HR.out
 obtain ⟨D2,hD2⟩:∃ D2,D2=D*2:=⟨_,rfl⟩
 obtain ⟨D3,hD3⟩:∃ D3,D3=D2+1:=⟨_,rfl⟩
 obtain ⟨k3,hk3⟩:∃ k3,k3=k0+2048+1:=⟨_,rfl⟩
 rw [←hD2] at C6 hst LD2
 rw [←hk3] at LD2
 have h1k:1<B64^k3:=Nat.lt_of_lt_of_le (show 1<B64^1 by unfold B64;omega) (Nat.pow_le_pow_right (by unfold B64;omega) (by omega))
 have LK:=Lib.hid (show D3<B64^K by rw [hD3];exact Nat.lt_of_lt_of_le (la LD2 h1k) (Nat.pow_le_pow_right (by unfold B64;omega) (by omega)))
 have LL:=Lib.hid (show D2<B64^K from Nat.lt_of_lt_of_le LD2 (Nat.pow_le_pow_right (by unfold B64;omega) (by omega)))
 have P0:=Lib.hid (show R=0→nm (!s==s') D2 (e - e' - (k:Int) - 1)=r from fun h=>by rw [HRR.out,hst,if_neg (by simp [h])];rfl)
 have P1:=Lib.hid (show R≠0→nm (!s==s') D3 (e - e' - (k:Int) - 1)=r from fun h=>by rw [HRR.out,hst,if_pos h,hD3];rfl)
 have HD3:=Lib.hid hD3;have LD2H:=Lib.hid LD2
 have hk4:k3≤3000:=by omega
 clear hD hR hst LD LD2 hsv LX HR HY0 hD2 hD3 hk3 h1k HRR HQ
 go_wp2_with fail
 refine C6.out.mono ?_
 rintro _ w5 ⟨A5,n5,c5,rfl,h5,b5⟩
 have K15:=Lib.hid (K14.out.step b5);have K25:=Lib.hid (K24.out.step b5);have K35:=Lib.hid (K34.out.step b5);have B5:=Lib.hid (aa B4.out b5)
 by_cases hr0:R=0
 ·have hn0:=hR0.2 hr0
  have f0:¬ ((0:Int)<(nr:Int)):=by omega
  have y0:=K15.out.c0;have y1:=K15.out.c1
  have v0:=K25.out.c0;have v1:=K25.out.c1
  have r0:=K35.out.c0;have r1:=K35.out.c1;have r2:=K35.out.c2
  have z0:=K35.out.fz 0;have z1:=K35.out.fz 1;have z2:=K35.out.fz 2
  have RN:=Lib.hid (cE (q:=⟨!s==s',D2,e - e' - (k:Int) - 1⟩) B4.out (Nat.le_add_right w.heap.size 2) K35.out K34.out.lt b5 h5)
  have PE:=Lib.hid (P0.out hr0)
  clear h5 b5 C6 hR0 hr0 hn0
  go_wp2
  obtain ⟨kr,nr,br⟩:=RN.out
  refine bodyPost_ret (v:=.agg #[.bool (!s==s'),.int .i64 (e - e' - (k:Int) - 1),.slice A5 n5 c5]) ?_ rfl ⟨⟨!s==s',D2,e - e' - (k:Int) - 1⟩,⟨_,rfl,nr,br⟩,PE.out,LL.out,by show -1000000≤e - e' - (k:Int) - 1;omega,by show e - e' - (k:Int) - 1≤1000000;omega⟩
  have q0:=kr.c0;have q1:=kr.c1;have q2:=kr.c2
  unfold bc at q0 q1 q2
  simp [results,Tryz.results221,go_sem,q0,q1,q2]
 ·have hn0:nr≠0:=fun h=>hr0 (hR0.1 h)
  have f0:(0:Int)<(nr:Int):=by omega
  have ob:=ac w5 (.cells #[.int .u64 1] 50)
  have CA:=Lib.hid (yC (((show Is w5 A5 n5 c5 D2 from h5.less (Nat.zero_le _)).has LD2H.out).step ob) (wt w5) (by omega) (by omega))
  rw [←HD3.out] at CA
  have K15o:=Lib.hid (K15.out.step ob);have K25o:=Lib.hid (K25.out.step ob);have K35o:=Lib.hid (K35.out.step ob);have B5o:=Lib.hid (aa B5.out ob)
  have PE:=Lib.hid (P1.out hr0)
  clear K15 K25 K35 B5 ob h5 b5 C6 K14 K24 K34 B4 hR0 hr0 hn0
  go_wp2_with fail
  refine CA.out.mono ?_
  rintro _ w7 ⟨A7,n7,c7,rfl,h7,b7⟩
  have K17:=Lib.hid (K15o.out.step b7);have K27:=Lib.hid (K25o.out.step b7);have K37:=Lib.hid (K35o.out.step b7)
  have y0:=K17.out.c0;have y1:=K17.out.c1
  have v0:=K27.out.c0;have v1:=K27.out.c1
  have r0:=K37.out.c0;have r1:=K37.out.c1;have r2:=K37.out.c2
  have z0:=K37.out.fz 0;have z1:=K37.out.fz 1;have z2:=K37.out.fz 2
  have RN:=Lib.hid (cE (q:=⟨!s==s',D3,e - e' - (k:Int) - 1⟩) B5o.out (Nat.le_add_right w.heap.size 2) K37.out K35o.out.lt b7 h7)
  clear h7 b7 CA
  go_wp2
  obtain ⟨kr,nr,br⟩:=RN.out
  refine bodyPost_ret (v:=.agg #[.bool (!s==s'),.int .i64 (e - e' - (k:Int) - 1),.slice A7 n7 c7]) ?_ rfl ⟨⟨!s==s',D3,e - e' - (k:Int) - 1⟩,⟨_,rfl,nr,br⟩,PE.out,LK.out,by show -1000000≤e - e' - (k:Int) - 1;omega,by show e - e' - (k:Int) - 1≤1000000;omega⟩
  have q0:=kr.c0;have q1:=kr.c1;have q2:=kr.c2
  unfold bc at q0 q1 q2
  simp [results,Tryz.results221,go_sem,q0,q1,q2]
end
section
theorem Au (w:World):Dg (w.alloc (.cells #[.int .u32 1] 157)) (some ⟨w.heap.size,0,none⟩) 1 1 1:=by
 have h:=wu w
 unfold Dg
 have:digs B32 1=[1]:=by rw [dp ah (by omega)];show [1%B32]++digs B32 (1 / B32)=[1];rw [show 1 / B32=0 from rfl,aq];rfl
 rw [this];exact h
theorem rM {P low:Nat} {up s:Bool} {M:Nat} {e:Int} (hl:low=nbits M - P):dP P up ⟨s,M,e⟩=nm s (M / 2^low+(if M%2^low≠0∧(s !=up)=true then 1 else 0)) (e+low):=by
 unfold dP iK;simp only;rw [←hl]
def RndPost (w:World) (A:Option Addr) (n:Nat) (q:Q) (e:Ending) (w':World):Prop:=
 ∃ (A':Option Addr) (n' c':Nat),e= .returned (.agg #[.bool q.s,.slice A' n' c',.int .i64 q.e])∧Dg w' A' n' c' q.m∧(∀ ad,0<n'→A'=some ad→(A'=A∧n'=n)∨w.heap.size≤ad.block)∧Below w.heap.size w w'
theorem RndPost.of {w w':World} {A A':Option Addr} {n n' c':Nat} {q:Q} (h:ValV 0 w.heap.size w' (.agg #[.bool q.s,.slice A' n' c',.int .i64 q.e]) q) (hb:Below w.heap.size w w'):RndPost w A n q (.returned (.agg #[.bool q.s,.slice A' n' c',.int .i64 q.e])) w':=by
 obtain ⟨A2,n2,c2,he,h1,h2⟩:=h
 simp at he
 obtain ⟨rfl,rfl,rfl⟩:=he
 exact ⟨_,_,_,rfl,h1,fun ad h0 hA=>.inr (by have:=h2 ad h0 hA;omega),hb⟩
theorem nh (w:World) (q:Q) (A:Option Addr) (n c k P:Nat) (up:Bool) (hq:bg q) (ha:Dg w A n c q.m) (hM:q.m<B64^k) (hk:k≤14000) (hp:8≤P) (hp2:P≤256) (h1: -50000000≤q.e) (h2:q.e≤50000000):
  Calls Tryz.prog 166 #[.agg #[.bool q.s,.slice A n c,.int .i64 q.e],.int .i64 (P:Int),.bool up] w (RndPost w A n (dP P up q)):=by
 obtain ⟨k1,k2,b3⟩:=sf w q.s false q.e 0 A none n c 0 0
 have K1:=Lib.hid k1;have K2:=Lib.hid k2;have B3:=Lib.hid b3
 have G0:=Lib.hid ha;have G1:=Lib.hid (ha.step b3);have LM:=Lib.hid hM
 have C1:=Lib.hid (pu G1.out hM (by omega))
 have hnb:nbits q.m≤64*k:=bh (by rw [←dC];exact hM)
 obtain ⟨r,hr⟩:∃ r,r=dP P up q:=⟨_,rfl⟩
 rw [←hr]
 have HQ:=Lib.hid hq
 clear k1 k2 b3 hM ha hq
 obtain ⟨s,M,e⟩:=q
 simp only at*
 have g0:=db (nbits M:Int) (P:Int) (by omega) (by omega)
 have y0:=K1.out.c0;have y1:=K1.out.c1;have y2:=K1.out.c2
 by_cases hlow:nbits M≤P
 ·have hr2:r=⟨s,M,e⟩:=by rw [hr];exact rL HQ.out hlow
  have f0:(nbits M:Int) - (P:Int)≤0:=by omega
  obtain ⟨-,k2',b3'⟩:=sf w s s e e A A n c n c
  have KE:=Lib.hid k2';have BE:=Lib.hid b3';have GE:=Lib.hid (G0.out.step b3')
  have r0:=K2.out.c0;have r1:=K2.out.c1;have r2:=K2.out.c2
  have z0:=K2.out.fz 0;have z1:=K2.out.fz 1;have z2:=K2.out.fz 2
  have HR2:=Lib.hid hr2
  clear hr hr2 G1 k2' b3'
  go_enter Tryz.func166,Tryz.ntmps166
  go_wp2_with fail
  refine C1.out.mono ?_
  rintro _ w4 ⟨rfl,rfl⟩
  clear C1
  go_wp2
  refine bodyPost_ret (v:=.agg #[.bool s,.slice A n c,.int .i64 e]) ?_ rfl (by
   rw [HR2.out]
   exact ⟨A,n,c,rfl,GE.out,fun ad h0 hA=>.inl ⟨rfl,rfl⟩,BE.out⟩)
  have q0:=KE.out.c0;have q1:=KE.out.c1;have q2:=KE.out.c2
  simp [results,Tryz.results166,go_sem,q0,q1,q2]
 ·obtain ⟨low,hl⟩:∃ low:Nat,low=nbits M - P:=⟨_,rfl⟩
  have hl':(nbits M:Int) - (P:Int)=(low:Int):=by omega
  have hlp:0<low:=by omega
  have hlb:low≤1000000:=by omega
  have f0:¬ ((low:Int)≤0):=by omega
  have g2:=eL e (low:Int) (by omega) (by omega)
  have CS:=Lib.hid (Cm (b:=low) G1.out LM.out (by omega) (by omega))
  rw [rM hl] at hr
  have LH:=Lib.hid (show M / 2^low<B64^k from Nat.lt_of_le_of_lt (Nat.div_le_self _ _) LM.out)
  have HR:=Lib.hid hr
  replace g0:=g0.trans hl'
  clear hr hl hl' hlow HQ LM G0 G1
  obtain ⟨D,hD⟩:∃ D,D=M / 2^low:=⟨_,rfl⟩
  obtain ⟨D3,hD3⟩:∃ D3,D3=D+1:=⟨_,rfl⟩
  obtain ⟨k3,hk3⟩:∃ k3,k3=k+1+1:=⟨_,rfl⟩
  rw [←hD] at CS HR LH
  have LH2:=Lib.hid (show D3<B64^k3 by rw [hD3,hk3];exact vh LH.out (show 1<B64^1 by unfold B64;omega))
  have R0:=Lib.hid (show ¬ (M%2^low≠0∧(s !=up)=true)→r=nm s D (e+low) from fun h=>by rw [HR.out,if_neg h];rfl)
  have R1:=Lib.hid (show (M%2^low≠0∧(s !=up)=true)→r=nm s D3 (e+low) from fun h=>by rw [HR.out,if_pos h,hD3])
  have HD3:=Lib.hid hD3
  have hk4:k3≤14010:=by omega
  clear HR hD hD3 hk3
  go_enter Tryz.func166,Tryz.ntmps166
  go_wp2_with fail
  refine C1.out.mono ?_
  rintro _ w4 ⟨rfl,rfl⟩
  clear C1
  go_wp2_with fail
  refine CS.out.mono ?_
  rintro _ w5 ⟨A5,n5,c5,rfl,h5,b5⟩
  have K15:=Lib.hid (K1.out.step b5);have K25:=Lib.hid (K2.out.step b5);have B5:=Lib.hid (aa B3.out b5)
  have H5:=Lib.hid (show Dg w5 A5 n5 c5 D from h5.less (Nat.zero_le _))
  clear y0 y1 y2 b5 h5 CS K1 K2 B3
  have y0:=K15.out.c0;have y1:=K15.out.c1;have y2:=K15.out.c2
  by_cases hz:M%2^low=0
  ·have hdz:decide (M%2^low≠0)=false:=by simp [hz]
   have CM:=Lib.hid (ia w5 s (e+low) A5 n5 c5 D k H5.out LH.out (by omega) (by omega) (by omega))
   rw [←R0.out (by simp [hz])] at CM
   rw [hdz]
   clear R0 R1 hz hdz
   go_wp2_with fail
   refine CM.out.mono ?_
   rintro _ w8 ⟨_,rfl,⟨A8,n8,c8,rfl,h8,p8⟩,b8⟩
   have K28:=Lib.hid (K25.out.step b8)
   have r0:=K28.out.c0;have r1:=K28.out.c1;have r2:=K28.out.c2
   have z0:=K28.out.fz 0;have z1:=K28.out.fz 1;have z2:=K28.out.fz 2
   have RN:=Lib.hid (fc (H:=0) (aa B5.out b8) (Nat.le_add_right w.heap.size 1) K28.out (Nat.zero_le _) K25.out.lt h8 (fun ad h0 hA=>.inr (by have:=p8 ad h0 hA;omega)))
   clear h8 b8 p8 CM
   go_wp2
   obtain ⟨kr,nr,br⟩:=RN.out
   refine bodyPost_ret (v:=.agg #[.bool r.s,.slice A8 n8 c8,.int .i64 r.e]) ?_ rfl (RndPost.of nr br)
   have q0:=kr.c0;have q1:=kr.c1;have q2:=kr.c2
   unfold bc at q0 q1 q2
   simp [results,Tryz.results166,go_sem,q0,q1,q2]
  ·have hdz:decide (M%2^low≠0)=true:=by simp [hz]
   rw [hdz]
   cases hd:(up==s)
   ·have hr:=R1.out ⟨hz,by revert hd;cases up<;>cases s<;>simp⟩
    have ob:=ac w5 (.cells #[.int .u32 1] 157)
    have CA:=Lib.hid (ww (H5.out.step ob) (Au w5) LH.out (show 1<B64^1 by unfold B64;omega) (by omega) (by omega))
    rw [←HD3.out] at CA
    have HR2:=Lib.hid hr
    have K25o:=Lib.hid (K25.out.step ob);have K15o:=Lib.hid (K15.out.step ob);have B5o:=Lib.hid (aa B5.out ob)
    clear R0 R1 hz hdz hr ob
    go_wp2_with fail
    refine CA.out.mono ?_
    rintro _ w7 ⟨A7,n7,c7,rfl,h7,b7⟩
    have K17:=Lib.hid (K15o.out.step b7);have K27:=Lib.hid (K25o.out.step b7);have B7:=Lib.hid (aa B5o.out b7)
    have CM:=Lib.hid (ia w7 s (e+low) A7 n7 c7 D3 k3 h7 LH2.out (by omega) (by omega) (by omega))
    rw [←HR2.out] at CM
    clear y0 y1 y2 h7 b7 CA
    have y0:=K17.out.c0;have y1:=K17.out.c1;have y2:=K17.out.c2
    go_wp2_with fail
    refine CM.out.mono ?_
    rintro _ w8 ⟨_,rfl,⟨A8,n8,c8,rfl,h8,p8⟩,b8⟩
    have K28:=Lib.hid (K27.out.step b8)
    have r0:=K28.out.c0;have r1:=K28.out.c1;have r2:=K28.out.c2
    have z0:=K28.out.fz 0;have z1:=K28.out.fz 1;have z2:=K28.out.fz 2
    have RN:=Lib.hid (fc (H:=0) (aa B7.out b8) (Nat.le_add_right w.heap.size 1) K28.out (Nat.zero_le _) K27.out.lt h8 (fun ad h0 hA=>.inr (by have:=p8 ad h0 hA;omega)))
    clear h8 b8 p8 CM
    go_wp2
    obtain ⟨kr,nr,br⟩:=RN.out
    refine bodyPost_ret (v:=.agg #[.bool r.s,.slice A8 n8 c8,.int .i64 r.e]) ?_ rfl (RndPost.of nr br)
    have q0:=kr.c0;have q1:=kr.c1;have q2:=kr.c2
    unfold bc at q0 q1 q2
    simp [results,Tryz.results166,go_sem,q0,q1,q2]
   ·have hr:=R0.out (fun h=>by have:=h.2;revert hd this;cases up<;>cases s<;>simp)
    have CM:=Lib.hid (ia w5 s (e+low) A5 n5 c5 D k H5.out LH.out (by omega) (by omega) (by omega))
    rw [←hr] at CM
    clear R0 R1 hz hdz hr
    go_wp2_with fail
    refine CM.out.mono ?_
    rintro _ w8 ⟨_,rfl,⟨A8,n8,c8,rfl,h8,p8⟩,b8⟩
    have K28:=Lib.hid (K25.out.step b8)
    have r0:=K28.out.c0;have r1:=K28.out.c1;have r2:=K28.out.c2
    have z0:=K28.out.fz 0;have z1:=K28.out.fz 1;have z2:=K28.out.fz 2
    have RN:=Lib.hid (fc (H:=0) (aa B5.out b8) (Nat.le_add_right w.heap.size 1) K28.out (Nat.zero_le _) K25.out.lt h8 (fun ad h0 hA=>.inr (by have:=p8 ad h0 hA;omega)))
    clear h8 b8 p8 CM
    go_wp2
    obtain ⟨kr,nr,br⟩:=RN.out
    refine bodyPost_ret (v:=.agg #[.bool r.s,.slice A8 n8 c8,.int .i64 r.e]) ?_ rfl (RndPost.of nr br)
    have q0:=kr.c0;have q1:=kr.c1;have q2:=kr.c2
    unfold bc at q0 q1 q2
    simp [results,Tryz.results166,go_sem,q0,q1,q2]
end
section
theorem th {w:World} {A:Option Addr} {n c X k:Nat} (t:Int) (ha:Dg w A n c X) (hX:X<B64^k) (hk:k≤100000) (h0:0≤t) (h1:t≤262144):
  Calls Tryz.prog 208 #[.slice A n c,.int .i64 t] w (NewDg w (X*2^t.toNat)):=(rB t ha hX hk h0 (by omega)).mono fun _ _ h=>NewDg.of h rfl
theorem CU {w:World} {A B:Option Addr} {n c m d X Y k l:Nat} (ha:Dg w A n c X) (hb:Dg w B m d Y) (hX:X<B64^k) (hY:Y<B64^l) (hk:k≤100000) (hl:l≤100000) (h0:Y≠0):
  Calls Tryz.prog 219 #[.slice A n c,.slice B m d] w fun e w'=>∃ (Aq Ar:Option Addr) (nq cq nr cr:Nat),e= .returned (.tuple #[.slice Aq nq cq,.slice Ar nr cr])∧Dg w' Aq nq cq (X / Y)∧Dg w' Ar nr cr (X%Y)∧Below w.heap.size w w':=by
 refine (wZ w 0 _ 0 _ A B n c m d X Y ha hb (by have:=ha.len hX;omega) (by have:=hb.len hY;omega) (Nat.le_refl _) (Nat.le_refl _) h0).mono ?_
 rintro e w' ⟨Aq,Ar,nq,cq,nr,cr,rfl,h1,h2,h3⟩
 exact ⟨Aq,Ar,nq,cq,nr,cr,rfl,h1.less (Nat.zero_le _),h2.less (Nat.zero_le _),h3⟩
theorem my {s:Bool} {N k:Nat} {E:Int} {b:Int} (hN:N<B64^k) (h1: -b≤E) (h2:E≤b) (hb:0≤b): -b≤(nm s N E).e∧(nm s N E).e≤b+64*k:=by
 unfold nm
 split
 ·show -b≤(0:Int)∧(0:Int)≤_;omega
 ·rename_i h0
  have:=iz h0 (show N<2^(64*k) by rw [←dC];exact hN)
  show -b≤E+ntz N∧E+ntz N≤_;omega
theorem AF {P k:Nat} {up:Bool} {a b:Q} (hP:1≤P) (ha:a.m≠0) (hb:b.m≠0) (hk:ratk P a b≤k):
  (a.m*2^k%b.m=0→dP P up (nm (a.s !=b.s) (a.m*2^k / b.m) (a.e - b.e - (k:Int)))=ib P up a b)∧
  (a.m*2^k%b.m≠0→dP P up (nm (a.s !=b.s) (a.m*2^k / b.m*2+1) (a.e - b.e - (k:Int) - 1))=ib P up a b):=by
 have h:=xM up hP ha hb hk
 constructor
 ·intro h0
  have e1:=mz (a.s !=b.s) (a.m*2^k / b.m) (a.e - b.e - (k:Int)) 1
  rw [←e1,lS,←h]
  unfold stk
  rw [if_neg (by simp [h0]),Nat.pow_one,Nat.mul_comm]
  rfl
 ·intro h0
  rw [lS,←h]
  unfold stk
  rw [if_pos h0,Nat.mul_comm]
theorem xJ (w:World) (a b:Q) (A B:Option Addr) (n c m d P:Nat) (up:Bool) (va:bg a) (vb:bg b) (ha:Dg w A n c a.m) (hb:Dg w B m d b.m) (hX:a.m<B64^64) (hY:b.m<B64^64) (hY0:b.m≠0) (hp:8≤P) (hp2:P≤256)
  (h1: -65536≤a.e) (h2:a.e≤65536) (h3: -65536≤b.e) (h4:b.e≤65536):
  Calls Tryz.prog 165 #[.agg #[.bool a.s,.slice A n c,.int .i64 a.e],.agg #[.bool b.s,.slice B m d,.int .i64 b.e],.int .i64 (P:Int),.bool up] w (ValPost w 0 (ib P up a b)):=by
 obtain ⟨k1,k2,k3,b3⟩:=mN w a.s b.s a.e b.e A B n c m d
 obtain ⟨r,hr⟩:∃ r,r=ib P up a b:=⟨_,rfl⟩
 rw [←hr]
 have z1:=gn ha
 by_cases ha0:a.m=0
 ·have hr0:r=q0:=by rw [hr];unfold ib;rw [if_pos ha0]
  have hn0:=z1.2 ha0
  subst hn0
  have HR:=Lib.hid hr0;have B3:=Lib.hid b3
  obtain ⟨s,X,e⟩:=a
  obtain ⟨s',Y,e'⟩:=b
  simp only at*
  have y1:=k1.c1
  have K3:=Lib.hid k3
  have r0:=k3.c0;have r1:=k3.c1;have r2:=k3.c2
  have w0:=k3.fz 0;have w1:=k3.fz 1;have w2:=k3.fz 2
  clear k1 k2 k3 b3 ha hb hX hY hY0 va vb hr hr0 z1 ha0
  go_enter Tryz.func165,Tryz.ntmps165
  go_wp2
  refine bodyPost_ret (v:=.agg #[.bool false,.slice none 0 0,.int .i64 0]) ?_ rfl (by rw [HR.out];exact ⟨_,rfl,ue _ _ _,B3.out⟩)
  have q0:=K3.out.c0;have q1:=K3.out.c1;have q2:=K3.out.c2
  simp [results,Tryz.results165,go_sem,q0,q1,q2]
 have hn0:n≠0:=fun h=>ha0 (z1.1 h)
 have f0:((n:Int)==0)=false:=by simp;omega
 obtain ⟨k0,hk0⟩:∃ k0:Nat,k0=64:=⟨_,rfl⟩
 have hX':a.m<B64^k0:=by rw [hk0];exact hX
 have hY':b.m<B64^k0:=by rw [hk0];exact hY
 have hna:nbits a.m≤64*k0:=bh (by rw [←dC];exact hX')
 have hnb:nbits b.m≤64*k0:=bh (by rw [←dC];exact hY')
 obtain ⟨k,hk⟩:∃ k,k=P+2+nbits b.m - nbits a.m:=⟨_,rfl⟩
 have hkb:k≤4360:=by omega
 have hmx:max ((P:Int)+2+(nbits b.m:Int) - (nbits a.m:Int)) 0=(k:Int):=by omega
 obtain ⟨E0,E1⟩:=AF (P:=P) (k:=k) (up:=up) (a:=a) (b:=b) (by omega) ha0 hY0 (by unfold ratk;omega)
 rw [←hr] at E0 E1
 have hk1:k0≤64:=by omega
 obtain ⟨X2,hX2⟩:∃ X2,X2=a.m*2^k:=⟨_,rfl⟩
 obtain ⟨D,hD⟩:∃ D,D=X2 / b.m:=⟨_,rfl⟩
 obtain ⟨Rm,hRm⟩:∃ Rm,Rm=X2%b.m:=⟨_,rfl⟩
 obtain ⟨D2,hD2⟩:∃ D2,D2=D*2:=⟨_,rfl⟩
 obtain ⟨D3,hD3⟩:∃ D3,D3=D2+1:=⟨_,rfl⟩
 obtain ⟨k3',hk3⟩:∃ k3',k3'=k0+2048:=⟨_,rfl⟩
 obtain ⟨k4,hk4⟩:∃ k4,k4=k3'+1:=⟨_,rfl⟩
 obtain ⟨k5,hk5⟩:∃ k5,k5=k4+1:=⟨_,rfl⟩
 rw [←hX2,←hRm,←hD] at E0 E1
 rw [←hD2,←hD3] at E1
 have lX2:X2<B64^k3':=by rw [hX2,hk3];exact nu hX' (by omega)
 have lD:D<B64^k3':=by rw [hD];exact Nat.lt_of_le_of_lt (Nat.div_le_self _ _) lX2
 have lD2:D2<B64^k4:=by rw [hD2,hk4,Nat.mul_two];exact la lD lD
 have l1:1<B64^k4:=Nat.lt_of_lt_of_le (show 1<B64^1 by unfold B64;omega) (Nat.pow_le_pow_right (by unfold B64;omega) (by omega))
 have lD3:D3<B64^k5:=by rw [hD3,hk5];exact la lD2 l1
 have lD5:D<B64^k5:=Nat.lt_of_lt_of_le lD (Nat.pow_le_pow_right (by unfold B64;omega) (by omega))
 have hk6:k5≤3000:=by omega
 have hk7:k4≤3000:=by omega
 have hk8:k3'≤3000:=by omega
 have LX2:=Lib.hid lX2;have LD:=Lib.hid lD;have LD2:=Lib.hid lD2;have LD3:=Lib.hid lD3;have LD5:=Lib.hid lD5
 have LX:=Lib.hid hX';have LY:=Lib.hid hY'
 have HX2:=Lib.hid hX2;have HD:=Lib.hid hD;have HRm:=Lib.hid hRm;have HD2:=Lib.hid hD2;have HD3:=Lib.hid hD3
 have G1:=Lib.hid (ha.step b3);have G2:=Lib.hid (hb.step b3)
 have K1:=Lib.hid k1;have K2:=Lib.hid k2;have K3:=Lib.hid k3;have B3:=Lib.hid b3
 have EE0:=Lib.hid E0;have EE1:=Lib.hid E1;have HY0:=Lib.hid hY0
 clear k1 k2 k3 b3 ha hb hX hY hX' hY' hk hk0 hX2 hD hRm hD2 hD3 hk3 hk4 hk5 lX2 lD lD2 l1 lD3 lD5 E0 E1 hr z1 ha0 hY0 va vb hn0
 obtain ⟨s,X,e⟩:=a
 obtain ⟨s',Y,e'⟩:=b
 simp only at*
 have x0:=eL (P:Int) 2 (by omega) (by omega)
 have x1:=eL ((P:Int)+2) (nbits Y:Int) (by omega) (by omega)
 have x2:=db ((P:Int)+2+(nbits Y:Int)) (nbits X:Int) (by omega) (by omega)
 have x3:=db e e' (by omega) (by omega)
 have x4:=db (e - e') (k:Int) (by omega) (by omega)
 have x5:=db (e - e' - (k:Int)) 1 (by omega) (by omega)
 have y1:=K1.out.c1
 go_enter Tryz.func165,Tryz.ntmps165
 go_wp2_with fail
 clear y1
 generalize (((w.alloc (.cells #[.bool s,.slice A n c,.int .i64 e] 127)).alloc (.cells #[.bool s',.slice B m d,.int .i64 e'] 127)).alloc (.cells #[.bool false,.slice none 0 0,.int .i64 0] 127))=w2 at*
 have S0:w2.cell? ⟨w.heap.size,0,none⟩=some (.bool s)∧w2.cell? ⟨w.heap.size,1,none⟩=some (.slice A n c)∧w2.cell? ⟨w.heap.size,2,none⟩=some (.int .i64 e)∧w2.cell? ⟨w.heap.size+1,0,none⟩=some (.bool s')∧w2.cell? ⟨w.heap.size+1,1,none⟩=some (.slice B m d)∧w2.cell? ⟨w.heap.size+1,2,none⟩=some (.int .i64 e'):=⟨K1.out.c0,K1.out.c1,K1.out.c2,K2.out.c0,K2.out.c1,K2.out.c2⟩
 have d2:=lw (Below.refl w2.heap.size w2)
 have C1:=Lib.hid (pu (G2.out.step d2) LY.out (by omega))
 have C2:=Lib.hid (pu (G1.out.step d2) LX.out (by omega))
 have K1d:=Lib.hid (K1.out.step d2);have K2d:=Lib.hid (K2.out.step d2);have K3d:=Lib.hid (K3.out.step d2);have B2d:=Lib.hid (aa B3.out d2);have G1d:=Lib.hid (G1.out.step d2);have G2d:=Lib.hid (G2.out.step d2)
 clear d2 B3 K1 K2 K3 G1 G2
 go_region_held3 (fun w'=>w'.cell? ⟨w.heap.size,0,none⟩=some (.bool s)∧w'.cell? ⟨w.heap.size,1,none⟩=some (.slice A n c)∧w'.cell? ⟨w.heap.size,2,none⟩=some (.int .i64 e)∧w'.cell? ⟨w.heap.size+1,0,none⟩=some (.bool s')∧w'.cell? ⟨w.heap.size+1,1,none⟩=some (.slice B m d)∧w'.cell? ⟨w.heap.size+1,2,none⟩=some (.int .i64 e'))
  (first |exact S0 |assumption)
  (first
   | (go_at_call 127
      refine C1.out.mono ?_
      rintro _ w3 ⟨rfl,rfl⟩
      have C3:=C2
      clear C1)
   | (go_at_call 127
      refine C3.out.mono ?_
      rintro _ w3 ⟨rfl,rfl⟩
      clear C3 C2))
 clear S0
 rename_i SD
 generalize w2.drew=wd at*
 have d3:=lw (Below.refl wd.heap.size wd)
 have C4:=Lib.hid (th (k:Int) (G1d.out.step d3) LX.out (by omega) (by omega) (by omega))
 rw [show ((k:Int)).toNat=k by simp,←HX2.out] at C4
 have K1e:=Lib.hid (K1d.out.step d3);have K2e:=Lib.hid (K2d.out.step d3);have K3e:=Lib.hid (K3d.out.step d3);have B3e:=Lib.hid (aa B2d.out d3);have G2e:=Lib.hid (G2d.out.step d3)
 clear d3 K1d K2d K3d B2d G1d G2d hmx x0 x1 x2 hna hnb f0
 go_wp2_with fail
 go_region_held3 (fun w'=>w'.cell? ⟨w.heap.size,0,none⟩=some (.bool s)∧w'.cell? ⟨w.heap.size,1,none⟩=some (.slice A n c)∧w'.cell? ⟨w.heap.size,2,none⟩=some (.int .i64 e)∧w'.cell? ⟨w.heap.size+1,0,none⟩=some (.bool s')∧w'.cell? ⟨w.heap.size+1,1,none⟩=some (.slice B m d)∧w'.cell? ⟨w.heap.size+1,2,none⟩=some (.int .i64 e'))
  (first |exact SD |assumption)
  (first
   | (go_at_call 208
      refine C4.out.mono ?_
      rintro _ w3 ⟨A3,n3,c3,rfl,h3,b3⟩
      have K13:=Lib.hid (K1e.out.step b3);have K23:=Lib.hid (K2e.out.step b3);have K33:=Lib.hid (K3e.out.step b3);have B3:=Lib.hid (aa B3e.out b3)
      have S3:w3.cell? ⟨w.heap.size,0,none⟩=some (.bool s)∧w3.cell? ⟨w.heap.size,1,none⟩=some (.slice A n c)∧w3.cell? ⟨w.heap.size,2,none⟩=some (.int .i64 e)∧w3.cell? ⟨w.heap.size+1,0,none⟩=some (.bool s')∧w3.cell? ⟨w.heap.size+1,1,none⟩=some (.slice B m d)∧w3.cell? ⟨w.heap.size+1,2,none⟩=some (.int .i64 e'):=⟨K13.out.c0,K13.out.c1,K13.out.c2,K23.out.c0,K23.out.c1,K23.out.c2⟩
      have C5:=Lib.hid (CU h3 (G2e.out.step b3) LX2.out LY.out (by omega) (by omega) HY0.out)
      rw [←HD.out,←HRm.out] at C5
      clear h3 b3 C4)
   | (go_at_call 219
      refine C5.out.mono ?_
      rintro _ w4 ⟨Aq,Ar,nq,cq,nr,cr,rfl,hq,hr,b4⟩
      have K14:=Lib.hid (K13.out.step b4);have K24:=Lib.hid (K23.out.step b4);have K34:=Lib.hid (K33.out.step b4);have B4:=Lib.hid (aa B3.out b4)
      have S4:w4.cell? ⟨w.heap.size,0,none⟩=some (.bool s)∧w4.cell? ⟨w.heap.size,1,none⟩=some (.slice A n c)∧w4.cell? ⟨w.heap.size,2,none⟩=some (.int .i64 e)∧w4.cell? ⟨w.heap.size+1,0,none⟩=some (.bool s')∧w4.cell? ⟨w.heap.size+1,1,none⟩=some (.slice B m d)∧w4.cell? ⟨w.heap.size+1,2,none⟩=some (.int .i64 e'):=⟨K14.out.c0,K14.out.c1,K14.out.c2,K24.out.c0,K24.out.c1,K24.out.c2⟩
      have HQ:=Lib.hid hq;have HR:=Lib.hid hr
      clear hq hr b4 C5))
 clear S3 S4 SD K13 K23 K33 K1e K2e K3e B3 B3e G2e
 have hR0:=gn HR.out
 have y0:=K14.out.c0;have y2:=K14.out.c2
 have v0:=K24.out.c0;have v2:=K24.out.c2
 by_cases hr0:Rm=0
 ·have f1:¬ ((0:Int)<(nr:Int)):=by have:=hR0.2 hr0;omega
  have EQ:=Lib.hid (EE0.out hr0)
  clear hR0 hr0 EE0 EE1 HD HRm HX2 LX LY LX2
  have CO:=Lib.hid (ia w4 (!s==s') (e - e' - (k:Int)) Aq nq cq D k5 HQ.out LD5.out (by omega) (by omega) (by omega))
  have NB:=my (s:=!s==s') (b:=1000000) LD5.out (show -1000000≤(e - e' - (k:Int)) by omega) (by omega) (by omega)
  have NC:=Lib.hid (gD (!s==s') D (e - e' - (k:Int)));have NL:=Lib.hid (zO (s:=!s==s') (e:=(e - e' - (k:Int))) LD5.out)
  have HRQ:=Lib.hid (show dP P up (nm (!s==s') D (e - e' - (k:Int)))=r from EQ.out)
  generalize nm (!s==s') D (e - e' - (k:Int))=z at*
  go_wp2_with fail
  refine CO.out.mono ?_
  rintro _ w7 ⟨_,rfl,⟨A7,n7,c7,rfl,h7,p7⟩,b7⟩
  have K37:=Lib.hid (K34.out.step b7);have B7:=Lib.hid (aa B4.out b7)
  have CR:=Lib.hid (nh w7 z A7 n7 c7 k5 P up NC.out h7 NL.out (by omega) hp hp2 (by omega) (by omega))
  rw [HRQ.out] at CR
  have P7:=Lib.hid p7;have hsz7:=Lib.hid b7.size
  clear h7 p7 b7 CO NB NC NL HRQ y0 y2 v0 v2
  go_wp2_with fail
  refine CR.out.mono ?_
  rintro _ w8 ⟨A8,n8,c8,rfl,h8,p8,b8⟩
  have K38:=Lib.hid (K37.out.step b8)
  have r0:=K38.out.c0;have r1:=K38.out.c1;have r2:=K38.out.c2
  have z0:=K38.out.fz 0;have z1:=K38.out.fz 1;have z2:=K38.out.fz 2
  have RN:=Lib.hid (fc (H:=0) (L:=w4.heap.size) (aa B7.out b8) (Nat.le_add_right w.heap.size 2) K38.out (Nat.zero_le _) K34.out.lt h8 (fun ad h0 hA=>.inr (by
   have hz7:=hsz7.out
   rcases p8 ad h0 hA with ⟨e1,e2⟩|h
   ·have:=P7.out ad (by omega) (by rw [←e1];exact hA)
    omega
   ·omega)))
  clear h8 p8 b8 CR
  go_wp2
  obtain ⟨kr,nr',br⟩:=RN.out
  refine bodyPost_ret (v:=.agg #[.bool r.s,.slice A8 n8 c8,.int .i64 r.e]) ?_ rfl ⟨_,rfl,nr',br⟩
  have q0:=kr.c0;have q1:=kr.c1;have q2:=kr.c2
  unfold bc at q0 q1 q2
  simp [results,Tryz.results165,go_sem,q0,q1,q2]
 ·have f1:(0:Int)<(nr:Int):=by have:=(not_congr hR0).2 hr0;omega
  have EQ:=Lib.hid (EE1.out hr0)
  have C6:=Lib.hid (th 1 HQ.out LD.out (by omega) (by omega) (by omega))
  rw [show (1:Int).toNat=1 from rfl,Nat.pow_one,←HD2.out] at C6
  clear hR0 hr0 EE0 EE1 HD HRm HX2 LX LY LX2
  go_wp2_with fail
  refine C6.out.mono ?_
  rintro _ w5 ⟨A5,n5,c5,rfl,h5,b5⟩
  have ob:=ac w5 (.cells #[.int .u32 1] 157)
  have CA:=Lib.hid (ww (Dg.step h5 ob) (Au w5) LD2.out (show 1<B64^1 by unfold B64;omega) (by omega) (by omega))
  rw [←HD3.out] at CA
  have K15:=Lib.hid (K14.out.step (aa b5 ob));have K25:=Lib.hid (K24.out.step (aa b5 ob));have K35:=Lib.hid (K34.out.step (aa b5 ob));have B5:=Lib.hid (aa B4.out (aa b5 ob))
  clear h5 b5 ob C6 y0 y2 v0 v2 K14 K24 K34 B4 HQ
  go_wp2_with fail
  refine CA.out.mono ?_
  rintro _ w6 ⟨A6,n6,c6,rfl,h6,b6⟩
  have K16:=Lib.hid (K15.out.step b6);have K26:=Lib.hid (K25.out.step b6);have K36:=Lib.hid (K35.out.step b6);have B6:=Lib.hid (aa B5.out b6)
  have HQ6:=Lib.hid h6
  clear h6 b6 CA
  have y0:=K16.out.c0;have y2:=K16.out.c2
  have v0:=K26.out.c0;have v2:=K26.out.c2
  have CO:=Lib.hid (ia w6 (!s==s') (e - e' - (k:Int) - 1) A6 n6 c6 D3 k5 HQ6.out LD3.out (by omega) (by omega) (by omega))
  have NB:=my (s:=!s==s') (b:=1000000) LD3.out (show -1000000≤(e - e' - (k:Int) - 1) by omega) (by omega) (by omega)
  have NC:=Lib.hid (gD (!s==s') D3 (e - e' - (k:Int) - 1));have NL:=Lib.hid (zO (s:=!s==s') (e:=(e - e' - (k:Int) - 1)) LD3.out)
  have HRQ:=Lib.hid (show dP P up (nm (!s==s') D3 (e - e' - (k:Int) - 1))=r from EQ.out)
  generalize nm (!s==s') D3 (e - e' - (k:Int) - 1)=z at*
  go_wp2_with fail
  refine CO.out.mono ?_
  rintro _ w7 ⟨_,rfl,⟨A7,n7,c7,rfl,h7,p7⟩,b7⟩
  have K37:=Lib.hid (K36.out.step b7);have B7:=Lib.hid (aa B6.out b7)
  have CR:=Lib.hid (nh w7 z A7 n7 c7 k5 P up NC.out h7 NL.out (by omega) hp hp2 (by omega) (by omega))
  rw [HRQ.out] at CR
  have P7:=Lib.hid p7;have hsz7:=Lib.hid b7.size
  clear h7 p7 b7 CO NB NC NL HRQ y0 y2 v0 v2
  go_wp2_with fail
  refine CR.out.mono ?_
  rintro _ w8 ⟨A8,n8,c8,rfl,h8,p8,b8⟩
  have K38:=Lib.hid (K37.out.step b8)
  have r0:=K38.out.c0;have r1:=K38.out.c1;have r2:=K38.out.c2
  have z0:=K38.out.fz 0;have z1:=K38.out.fz 1;have z2:=K38.out.fz 2
  have RN:=Lib.hid (fc (H:=0) (L:=w6.heap.size) (aa B7.out b8) (Nat.le_add_right w.heap.size 2) K38.out (Nat.zero_le _) K36.out.lt h8 (fun ad h0 hA=>.inr (by
   have hz7:=hsz7.out
   rcases p8 ad h0 hA with ⟨e1,e2⟩|h
   ·have:=P7.out ad (by omega) (by rw [←e1];exact hA)
    omega
   ·omega)))
  clear h8 p8 b8 CR
  go_wp2
  obtain ⟨kr,nr',br⟩:=RN.out
  refine bodyPost_ret (v:=.agg #[.bool r.s,.slice A8 n8 c8,.int .i64 r.e]) ?_ rfl ⟨_,rfl,nr',br⟩
  have q0:=kr.c0;have q1:=kr.c1;have q2:=kr.c2
  unfold bc at q0 q1 q2
  simp [results,Tryz.results165,go_sem,q0,q1,q2]
end
section
theorem wn (w:World) (s s':Bool) (e e':Int) (A B:Option Addr) (n c m d:Nat) (xs ys:List Nat) (ha:Arg w A n c xs) (hn:n≤100000) (hb:Arg w B m d ys) (hm:m≤100000):
  yv (w.alloc (.cells #[.bool s,.int .i64 e,.slice A n c,.bool s',.int .i64 e',.slice B m d] 30)) w.heap.size 2 [eP s e n xs,eP s' e' m ys]:=by
 have h:=Blk.new w 30 #[.bool s,.int .i64 e,.slice A n c,.bool s',.int .i64 e',.slice B m d]
 refine ⟨rfl,h.lt,fun i hi=>?_⟩
 have c0:=h.cell 0;have c1:=h.cell 1;have c2:=h.cell 2;have c3:=h.cell 3;have c4:=h.cell 4;have c5:=h.cell 5
 rcases (by omega:i=0∨i=1) with rfl |rfl
 ·exact ⟨s,e,A,n,c,xs,c0,c1,c2,ha.step (ac _ _),hn,rfl⟩
 ·exact ⟨s',e',B,m,d,ys,c3,c4,c5,hb.step (ac _ _),hm,rfl⟩
noncomputable def iF (g:Q→Q→Q×Int) (p:Int) (s:Bool) (e:Int) (n:Nat) (xs:List Nat) (s':Bool) (e':Int) (m:Nat) (ys:List Nat):Q×Int:=
 if eP s e n xs&&eP s' e' m ys&&dO p then g ⟨s,nval B64 xs,e⟩ ⟨s',nval B64 ys,e'⟩ else (q0,1)
noncomputable def eB (p:Int) (up:Bool) (a b:Q):Q×Int:=res (dP p.toNat up (plus a b))
noncomputable def jQ (p:Int) (up:Bool) (a b:Q):Q×Int:=res (dP p.toNat up (minus a b))
noncomputable def bf (p:Int) (up:Bool) (a b:Q):Q×Int:=res (dP p.toNat up (times a b))
noncomputable def dq (p:Int) (up:Bool) (a b:Q):Q×Int:=if b.m=0 then (q0,3) else res (ib p.toNat up a b)
theorem ld {p:Int} (h:dO p=true):8≤p∧p≤256:=by simpa [dO] using h
theorem Bv (w:World) (s s' up:Bool) (e e' p:Int) (A B:Option Addr) (n c m d:Nat) (xs ys:List Nat) (ha:Arg w A n c xs) (hb:Arg w B m d ys) (hn:n≤100000) (hm:m≤100000) (ht:Tab w):
  Calls Tryz.prog 80 #[.agg #[.bool s,.int .i64 e,.slice A n c],.agg #[.bool s',.int .i64 e',.slice B m d],.int .i64 p,.bool up] w (dL w (iF (eB p up) p s e n xs s' e' m ys)):=by
 obtain ⟨k1,k2,k3,b3⟩:=iD w s s' e e' A B n c m d
 obtain ⟨W,hW⟩:∃ W,W=(((w.alloc (.cells #[.bool s,.int .i64 e,.slice A n c] 30)).alloc (.cells #[.bool s',.int .i64 e',.slice B m d] 30)).alloc (.cells #[.bool false,.int .i64 0,.slice none 0 0] 30)):=⟨_,rfl⟩
 have hsz:W.heap.size=w.heap.size+1+1+1:=by rw [hW];simp
 rw [←hW] at k1 k2 k3 b3
 have ob:=ac W (.cells #[.bool s,.int .i64 e,.slice A n c,.bool s',.int .i64 e',.slice B m d] 30)
 have C1:=Lib.hid (mD _ _ 2 p _ (wn W s s' e e' A B n c m d xs ys (ha.step b3) hn (hb.step b3) hm) (by omega))
 rw [hsz] at C1
 have K1:=Lib.hid (k1.step ob);have K2:=Lib.hid (k2.step ob);have K3:=Lib.hid (k3.step ob);have B3:=Lib.hid (aa b3 ob)
 have HA:=Lib.hid ha;have HB:=Lib.hid hb;have HT:=Lib.hid ht
 have y0:=k1.c0;have y1:=k1.c1;have y2:=k1.c2
 have x0:=k2.c0;have x1:=k2.c1;have x2:=k2.c2
 subst hW
 clear k1 k2 k3 b3 ha hb ht ob hsz
 obtain ⟨r,hr⟩:∃ r,r=iF (eB p up) p s e n xs s' e' m ys:=⟨_,rfl⟩
 rw [←hr]
 have HR:=Lib.hid hr
 clear hr
 go_enter Tryz.func80,Tryz.ntmps80
 go_wp2_with fail
 refine C1.out.mono ?_
 rintro _ w4 ⟨rfl,b4⟩
 have K14:=Lib.hid (K1.out.step b4);have K24:=Lib.hid (K2.out.step b4);have K34:=Lib.hid (K3.out.step b4);have B4:=Lib.hid (aa B3.out b4)
 clear b4 C1 K1 K2 K3 B3 y0 y1 y2 x0 x1 x2
 have hall:([eP s e n xs,eP s' e' m ys].all id&&dO p)=(eP s e n xs&&eP s' e' m ys&&dO p):=by simp
 rw [hall]
 clear hall
 cases hok:(eP s e n xs&&eP s' e' m ys&&dO p)
 ·have hr:r=(q0,1):=by rw [HR.out];unfold iF;rw [hok];rfl
  have r0:=K34.out.c0;have r1:=K34.out.c1;have r2:=K34.out.c2
  have z0:=K34.out.fz 0;have z1:=K34.out.fz 1;have z2:=K34.out.fz 2
  go_wp2
  obtain ⟨kr,nr,br⟩:=dD B4.out (Nat.le_add_right w.heap.size 2) K34.out
  refine bodyPost_ret (v:=.tuple #[.agg #[.bool false,.int .i64 0,.slice none 0 0],.int .i64 1]) ?_ rfl (by rw [hr];exact ⟨_,rfl,nr,br⟩)
  have q0:=kr.c0;have q1:=kr.c1;have q2:=kr.c2
  unfold bc at q0 q1 q2
  simp [results,Tryz.results80,go_sem,q0,q1,q2]
 ·have hr:r=eB p up ⟨s,nval B64 xs,e⟩ ⟨s',nval B64 ys,e'⟩:=by rw [HR.out];unfold iF;rw [hok];rfl
  obtain ⟨ho12,ho3⟩:=(Bool.and_eq_true _ _).mp hok
  obtain ⟨ho1,ho2⟩:=(Bool.and_eq_true _ _).mp ho12
  obtain ⟨p1,p2⟩:=ld ho3
  obtain ⟨i1,v1,f1,f2,f3⟩:=cz (HA.out.step B4.out) ho1
  obtain ⟨i2,v2,f4,f5,f6⟩:=cz (HB.out.step B4.out) ho2
  simp only at f1 f2 f3 f4 f5 f6
  have I1:=Lib.hid i1;have I2:=Lib.hid i2;have F1:=Lib.hid f1;have F4:=Lib.hid f4;have V2:=Lib.hid v2
  have HR2:=Lib.hid hr
  have T4:=Lib.hid (HT.out.below B4.out)
  generalize nval B64 xs=X at*
  generalize nval B64 ys=Y at*
  clear hr hok ho1 ho2 ho3 ho12 i1 i2 f1 f4 v1 v2 HR HA HB HT
  have C5:=Lib.hid (tL w4 ⟨s,X,e⟩ ⟨s',Y,e'⟩ A B n c m d I1.out I2.out F1.out F4.out f2 f3 f5 f6)
  simp only at C5
  have y0:=K14.out.c0;have y1:=K14.out.c1;have y2:=K14.out.c2
  have x0:=K24.out.c0;have x1:=K24.out.c1;have x2:=K24.out.c2
  have PR:=Lib.hid (show ∀ q:Q,nm q.s q.m q.e=plus ⟨s,X,e⟩ ⟨s',Y,e'⟩→res (dP p.toNat up q)=r from fun q h=>by
   rw [HR2.out];unfold eB
   congr 1
   have e1:dP p.toNat up q=dP p.toNat up (nm q.s q.m q.e):=(lS _ _ _ _ _).symm
   rw [e1,h])
  clear HR2
  generalize plus ⟨s,X,e⟩ ⟨s',Y,e'⟩=z at*
  obtain ⟨KK,hKK⟩:∃ KK:Nat,KK=2120:=⟨_,rfl⟩
  rw [←hKK] at C5
  have hK2:KK≤2120:=by omega
  clear hKK
  go_wp2_with fail
  refine C5.out.mono ?_
  rintro _ w6 ⟨q,⟨_,rfl,⟨A6,n6,c6,rfl,h6⟩,b6⟩,hq,lq,e1,e2⟩
  have HZ:=Lib.hid (PR.out q hq)
  have K36:=Lib.hid (K34.out.step b6);have B6:=Lib.hid (aa B4.out b6);have T6:=Lib.hid (T4.out.below b6)
  have IQ:=Lib.hid (rE h6);have LQ:=Lib.hid lq
  have CD:=Lib.hid (og w6 up)
  unfold kt at CD
  clear hq lq h6 b6 C5 PR z y0 y1 y2 x0 x1 x2
  go_wp2_with fail
  refine CD.out.mono ?_
  rintro _ w7 ⟨rfl,u7,b7⟩
  have K37:=Lib.hid (K36.out.step b7);have B7:=Lib.hid (aa B6.out b7)
  have CF:=Lib.hid (oi w7 q A6 n6 c6 KK _ p up (IQ.out.step b7) LQ.out (by omega) (by omega) (by omega) p1 p2 u7 (T6.out.below b7))
  rw [HZ.out] at CF
  unfold kt at CF
  clear u7 b7 CD IQ LQ HZ T6
  go_wp2_with fail
  refine CF.out.mono ?_
  rintro _ w8 ⟨_,rfl,⟨A8,n8,c8,rfl,h8⟩,b8⟩
  have K38:=Lib.hid (K37.out.step b8)
  have r0:=K38.out.c0;have r1:=K38.out.c1;have r2:=K38.out.c2
  have z0:=K38.out.fz 0;have z1:=K38.out.fz 1;have z2:=K38.out.fz 2
  have RN:=Lib.hid (cE B7.out (Nat.le_add_right w.heap.size 2) K38.out K37.out.lt b8 h8)
  clear h8 b8 CF
  go_wp2
  obtain ⟨kr,nr,br⟩:=RN.out
  refine bodyPost_ret (v:=.tuple #[.agg #[.bool r.1.s,.int .i64 r.1.e,.slice A8 n8 c8],.int .i64 r.2]) ?_ rfl ⟨_,rfl,nr,br⟩
  have q0:=kr.c0;have q1:=kr.c1;have q2:=kr.c2
  unfold bc at q0 q1 q2
  simp [results,Tryz.results80,go_sem,q0,q1,q2]
end
section
theorem By (w:World) (s s' up:Bool) (e e' p:Int) (A B:Option Addr) (n c m d:Nat) (xs ys:List Nat) (ha:Arg w A n c xs) (hb:Arg w B m d ys) (hn:n≤100000) (hm:m≤100000) (ht:Tab w):
  Calls Tryz.prog 118 #[.agg #[.bool s,.int .i64 e,.slice A n c],.agg #[.bool s',.int .i64 e',.slice B m d],.int .i64 p,.bool up] w (dL w (iF (bf p up) p s e n xs s' e' m ys)):=by
 obtain ⟨k1,k2,k3,b3⟩:=iD w s s' e e' A B n c m d
 obtain ⟨W,hW⟩:∃ W,W=(((w.alloc (.cells #[.bool s,.int .i64 e,.slice A n c] 30)).alloc (.cells #[.bool s',.int .i64 e',.slice B m d] 30)).alloc (.cells #[.bool false,.int .i64 0,.slice none 0 0] 30)):=⟨_,rfl⟩
 have hsz:W.heap.size=w.heap.size+1+1+1:=by rw [hW];simp
 rw [←hW] at k1 k2 k3 b3
 have ob:=ac W (.cells #[.bool s,.int .i64 e,.slice A n c,.bool s',.int .i64 e',.slice B m d] 30)
 have C1:=Lib.hid (mD _ _ 2 p _ (wn W s s' e e' A B n c m d xs ys (ha.step b3) hn (hb.step b3) hm) (by omega))
 rw [hsz] at C1
 have K1:=Lib.hid (k1.step ob);have K2:=Lib.hid (k2.step ob);have K3:=Lib.hid (k3.step ob);have B3:=Lib.hid (aa b3 ob)
 have HA:=Lib.hid ha;have HB:=Lib.hid hb;have HT:=Lib.hid ht
 have y0:=k1.c0;have y1:=k1.c1;have y2:=k1.c2
 have x0:=k2.c0;have x1:=k2.c1;have x2:=k2.c2
 subst hW
 clear k1 k2 k3 b3 ha hb ht ob hsz
 obtain ⟨r,hr⟩:∃ r,r=iF (bf p up) p s e n xs s' e' m ys:=⟨_,rfl⟩
 rw [←hr]
 have HR:=Lib.hid hr
 clear hr
 go_enter Tryz.func118,Tryz.ntmps118
 go_wp2_with fail
 refine C1.out.mono ?_
 rintro _ w4 ⟨rfl,b4⟩
 have K14:=Lib.hid (K1.out.step b4);have K24:=Lib.hid (K2.out.step b4);have K34:=Lib.hid (K3.out.step b4);have B4:=Lib.hid (aa B3.out b4)
 clear b4 C1 K1 K2 K3 B3 y0 y1 y2 x0 x1 x2
 have hall:([eP s e n xs,eP s' e' m ys].all id&&dO p)=(eP s e n xs&&eP s' e' m ys&&dO p):=by simp
 rw [hall]
 clear hall
 cases hok:(eP s e n xs&&eP s' e' m ys&&dO p)
 ·have hr:r=(q0,1):=by rw [HR.out];unfold iF;rw [hok];rfl
  have r0:=K34.out.c0;have r1:=K34.out.c1;have r2:=K34.out.c2
  have z0:=K34.out.fz 0;have z1:=K34.out.fz 1;have z2:=K34.out.fz 2
  go_wp2
  obtain ⟨kr,nr,br⟩:=dD B4.out (Nat.le_add_right w.heap.size 2) K34.out
  refine bodyPost_ret (v:=.tuple #[.agg #[.bool false,.int .i64 0,.slice none 0 0],.int .i64 1]) ?_ rfl (by rw [hr];exact ⟨_,rfl,nr,br⟩)
  have q0:=kr.c0;have q1:=kr.c1;have q2:=kr.c2
  unfold bc at q0 q1 q2
  simp [results,Tryz.results118,go_sem,q0,q1,q2]
 ·have hr:r=bf p up ⟨s,nval B64 xs,e⟩ ⟨s',nval B64 ys,e'⟩:=by rw [HR.out];unfold iF;rw [hok];rfl
  obtain ⟨ho12,ho3⟩:=(Bool.and_eq_true _ _).mp hok
  obtain ⟨ho1,ho2⟩:=(Bool.and_eq_true _ _).mp ho12
  obtain ⟨p1,p2⟩:=ld ho3
  obtain ⟨i1,v1,f1,f2,f3⟩:=cz (HA.out.step B4.out) ho1
  obtain ⟨i2,v2,f4,f5,f6⟩:=cz (HB.out.step B4.out) ho2
  simp only at f1 f2 f3 f4 f5 f6
  have I1:=Lib.hid i1;have I2:=Lib.hid i2;have F1:=Lib.hid f1;have F4:=Lib.hid f4;have V2:=Lib.hid v2
  have HR2:=Lib.hid hr
  have T4:=Lib.hid (HT.out.below B4.out)
  generalize nval B64 xs=X at*
  generalize nval B64 ys=Y at*
  clear hr hok ho1 ho2 ho3 ho12 i1 i2 f1 f4 v1 v2 HR HA HB HT
  have C5:=Lib.hid (xW w4 ⟨s,X,e⟩ ⟨s',Y,e'⟩ A B n c m d I1.out I2.out F1.out F4.out f2 f3 f5 f6)
  simp only at C5
  have y0:=K14.out.c0;have y1:=K14.out.c1;have y2:=K14.out.c2
  have x0:=K24.out.c0;have x1:=K24.out.c1;have x2:=K24.out.c2
  have PR:=Lib.hid (show ∀ q:Q,nm q.s q.m q.e=times ⟨s,X,e⟩ ⟨s',Y,e'⟩→res (dP p.toNat up q)=r from fun q h=>by
   rw [HR2.out];unfold bf
   congr 1
   have e1:dP p.toNat up q=dP p.toNat up (nm q.s q.m q.e):=(lS _ _ _ _ _).symm
   rw [e1,h])
  clear HR2
  generalize times ⟨s,X,e⟩ ⟨s',Y,e'⟩=z at*
  obtain ⟨KK,hKK⟩:∃ KK:Nat,KK=2120:=⟨_,rfl⟩
  rw [←hKK] at C5
  have hK2:KK≤2120:=by omega
  clear hKK
  go_wp2_with fail
  refine C5.out.mono ?_
  rintro _ w6 ⟨q,⟨_,rfl,⟨A6,n6,c6,rfl,h6⟩,b6⟩,hq,lq,e1,e2⟩
  have HZ:=Lib.hid (PR.out q hq)
  have K36:=Lib.hid (K34.out.step b6);have B6:=Lib.hid (aa B4.out b6);have T6:=Lib.hid (T4.out.below b6)
  have IQ:=Lib.hid (rE h6);have LQ:=Lib.hid lq
  have CD:=Lib.hid (og w6 up)
  unfold kt at CD
  clear hq lq h6 b6 C5 PR z y0 y1 y2 x0 x1 x2
  go_wp2_with fail
  refine CD.out.mono ?_
  rintro _ w7 ⟨rfl,u7,b7⟩
  have K37:=Lib.hid (K36.out.step b7);have B7:=Lib.hid (aa B6.out b7)
  have CF:=Lib.hid (oi w7 q A6 n6 c6 KK _ p up (IQ.out.step b7) LQ.out (by omega) (by omega) (by omega) p1 p2 u7 (T6.out.below b7))
  rw [HZ.out] at CF
  unfold kt at CF
  clear u7 b7 CD IQ LQ HZ T6
  go_wp2_with fail
  refine CF.out.mono ?_
  rintro _ w8 ⟨_,rfl,⟨A8,n8,c8,rfl,h8⟩,b8⟩
  have K38:=Lib.hid (K37.out.step b8)
  have r0:=K38.out.c0;have r1:=K38.out.c1;have r2:=K38.out.c2
  have z0:=K38.out.fz 0;have z1:=K38.out.fz 1;have z2:=K38.out.fz 2
  have RN:=Lib.hid (cE B7.out (Nat.le_add_right w.heap.size 2) K38.out K37.out.lt b8 h8)
  clear h8 b8 CF
  go_wp2
  obtain ⟨kr,nr,br⟩:=RN.out
  refine bodyPost_ret (v:=.tuple #[.agg #[.bool r.1.s,.int .i64 r.1.e,.slice A8 n8 c8],.int .i64 r.2]) ?_ rfl ⟨_,rfl,nr,br⟩
  have q0:=kr.c0;have q1:=kr.c1;have q2:=kr.c2
  unfold bc at q0 q1 q2
  simp [results,Tryz.results118,go_sem,q0,q1,q2]
theorem Bz (w:World) (s s' up:Bool) (e e' p:Int) (A B:Option Addr) (n c m d:Nat) (xs ys:List Nat) (ha:Arg w A n c xs) (hb:Arg w B m d ys) (hn:n≤100000) (hm:m≤100000) (ht:Tab w):
  Calls Tryz.prog 119 #[.agg #[.bool s,.int .i64 e,.slice A n c],.agg #[.bool s',.int .i64 e',.slice B m d],.int .i64 p,.bool up] w (dL w (iF (jQ p up) p s e n xs s' e' m ys)):=by
 obtain ⟨k1,k2,k3,b3⟩:=iD w s s' e e' A B n c m d
 obtain ⟨W,hW⟩:∃ W,W=(((w.alloc (.cells #[.bool s,.int .i64 e,.slice A n c] 30)).alloc (.cells #[.bool s',.int .i64 e',.slice B m d] 30)).alloc (.cells #[.bool false,.int .i64 0,.slice none 0 0] 30)):=⟨_,rfl⟩
 have hsz:W.heap.size=w.heap.size+1+1+1:=by rw [hW];simp
 rw [←hW] at k1 k2 k3 b3
 have ob:=ac W (.cells #[.bool s,.int .i64 e,.slice A n c,.bool s',.int .i64 e',.slice B m d] 30)
 have C1:=Lib.hid (mD _ _ 2 p _ (wn W s s' e e' A B n c m d xs ys (ha.step b3) hn (hb.step b3) hm) (by omega))
 rw [hsz] at C1
 have K1:=Lib.hid (k1.step ob);have K2:=Lib.hid (k2.step ob);have K3:=Lib.hid (k3.step ob);have B3:=Lib.hid (aa b3 ob)
 have HA:=Lib.hid ha;have HB:=Lib.hid hb;have HT:=Lib.hid ht
 have y0:=k1.c0;have y1:=k1.c1;have y2:=k1.c2
 have x0:=k2.c0;have x1:=k2.c1;have x2:=k2.c2
 subst hW
 clear k1 k2 k3 b3 ha hb ht ob hsz
 obtain ⟨r,hr⟩:∃ r,r=iF (jQ p up) p s e n xs s' e' m ys:=⟨_,rfl⟩
 rw [←hr]
 have HR:=Lib.hid hr
 clear hr
 go_enter Tryz.func119,Tryz.ntmps119
 go_wp2_with fail
 refine C1.out.mono ?_
 rintro _ w4 ⟨rfl,b4⟩
 have K14:=Lib.hid (K1.out.step b4);have K24:=Lib.hid (K2.out.step b4);have K34:=Lib.hid (K3.out.step b4);have B4:=Lib.hid (aa B3.out b4)
 clear b4 C1 K1 K2 K3 B3 y0 y1 y2 x0 x1 x2
 have hall:([eP s e n xs,eP s' e' m ys].all id&&dO p)=(eP s e n xs&&eP s' e' m ys&&dO p):=by simp
 rw [hall]
 clear hall
 cases hok:(eP s e n xs&&eP s' e' m ys&&dO p)
 ·have hr:r=(q0,1):=by rw [HR.out];unfold iF;rw [hok];rfl
  have r0:=K34.out.c0;have r1:=K34.out.c1;have r2:=K34.out.c2
  have z0:=K34.out.fz 0;have z1:=K34.out.fz 1;have z2:=K34.out.fz 2
  go_wp2
  obtain ⟨kr,nr,br⟩:=dD B4.out (Nat.le_add_right w.heap.size 2) K34.out
  refine bodyPost_ret (v:=.tuple #[.agg #[.bool false,.int .i64 0,.slice none 0 0],.int .i64 1]) ?_ rfl (by rw [hr];exact ⟨_,rfl,nr,br⟩)
  have q0:=kr.c0;have q1:=kr.c1;have q2:=kr.c2
  unfold bc at q0 q1 q2
  simp [results,Tryz.results119,go_sem,q0,q1,q2]
 ·have hr:r=jQ p up ⟨s,nval B64 xs,e⟩ ⟨s',nval B64 ys,e'⟩:=by rw [HR.out];unfold iF;rw [hok];rfl
  obtain ⟨ho12,ho3⟩:=(Bool.and_eq_true _ _).mp hok
  obtain ⟨ho1,ho2⟩:=(Bool.and_eq_true _ _).mp ho12
  obtain ⟨p1,p2⟩:=ld ho3
  obtain ⟨i1,v1,f1,f2,f3⟩:=cz (HA.out.step B4.out) ho1
  obtain ⟨i2,v2,f4,f5,f6⟩:=cz (HB.out.step B4.out) ho2
  simp only at f1 f2 f3 f4 f5 f6
  have I1:=Lib.hid i1;have I2:=Lib.hid i2;have IsX:=Lib.hid (fun (W:World) (b:Below w.heap.size w W)=>(cz (HA.out.step b) ho1).1);have IsY:=Lib.hid (fun (W:World) (b:Below w.heap.size w W)=>(cz (HB.out.step b) ho2).1);have HTT:=Lib.hid (fun (W:World) (b:Below w.heap.size w W)=>HT.out.below b);have F1:=Lib.hid f1;have F4:=Lib.hid f4;have V2:=Lib.hid v2
  have HR2:=Lib.hid hr
  have T4:=Lib.hid (HT.out.below B4.out)
  generalize nval B64 xs=X at*
  generalize nval B64 ys=Y at*
  clear hr hok ho1 ho2 ho3 ho12 i1 i2 f1 f4 v1 v2 HR HA HB HT
  have v0:=K24.out.fz 0
  have x0:=K24.out.c0
  have k15:Bx (w4.setCell ⟨w.heap.size+1,0,none⟩ (.bool !s')) w.heap.size s e A n c:=Blk.far K14.out (by simp) _
  have k25:Bx (w4.setCell ⟨w.heap.size+1,0,none⟩ (.bool !s')) (w.heap.size+1) (!s') e' B m d:=by have:=Blk.set_ K24.out 0 (.bool !s');unfold Bx;simpa using this
  have k35:Bx (w4.setCell ⟨w.heap.size+1,0,none⟩ (.bool !s')) (w.heap.size+1+1) false 0 none 0 0:=Blk.far K34.out (by simp) _
  have b5:Below w.heap.size w (w4.setCell ⟨w.heap.size+1,0,none⟩ (.bool !s')):=B4.out.setCell (by simp) _
  have hX:Is (w4.setCell ⟨w.heap.size+1,0,none⟩ (.bool !s')) A n c X:=IsX.out _ b5
  have hY:Is (w4.setCell ⟨w.heap.size+1,0,none⟩ (.bool !s')) B m d Y:=IsY.out _ b5
  have C5:=Lib.hid (tL _ ⟨s,X,e⟩ ⟨!s',Y,e'⟩ A B n c m d hX hY F1.out F4.out f2 f3 f5 f6)
  rw [xF V2.out] at C5
  simp only at C5
  have hsz:w.heap.size+1+1<w4.heap.size:=K34.out.lt
  have K35:=Lib.hid k35;have B5:=Lib.hid b5;have T5:=Lib.hid (HTT.out _ b5)
  have K15:=Lib.hid k15;have K25:=Lib.hid k25
  clear hX hY k15 k25 k35 b5 I1 I2 T4
  have y0:=K14.out.c0;have y1:=K14.out.c1;have y2:=K14.out.c2
  have x1:=K24.out.c1;have x2:=K24.out.c2
  clear K14 K24 K34 B4
  have PR:=Lib.hid (show ∀ q:Q,nm q.s q.m q.e=minus ⟨s,X,e⟩ ⟨s',Y,e'⟩→res (dP p.toNat up q)=r from fun q h=>by
   rw [HR2.out];unfold jQ
   congr 1
   have e1:dP p.toNat up q=dP p.toNat up (nm q.s q.m q.e):=(lS _ _ _ _ _).symm
   rw [e1,h])
  clear HR2
  generalize minus ⟨s,X,e⟩ ⟨s',Y,e'⟩=z at*
  obtain ⟨KK,hKK⟩:∃ KK:Nat,KK=2120:=⟨_,rfl⟩
  rw [←hKK] at C5
  have hK2:KK≤2120:=by omega
  clear hKK
  go_wp2_with fail
  refine C5.out.mono ?_
  rintro _ w6 ⟨q,⟨_,rfl,⟨A6,n6,c6,rfl,h6⟩,b6⟩,hq,lq,e1,e2⟩
  have HZ:=Lib.hid (PR.out q hq)
  have K36:=Lib.hid (K35.out.step b6);have B6:=Lib.hid (aa B5.out b6);have T6:=Lib.hid (T5.out.below b6)
  have IQ:=Lib.hid (rE h6);have LQ:=Lib.hid lq
  have CD:=Lib.hid (og w6 up)
  unfold kt at CD
  clear hq lq h6 b6 C5 PR z y0 y1 y2 x0 x1 x2
  go_wp2_with fail
  refine CD.out.mono ?_
  rintro _ w7 ⟨rfl,u7,b7⟩
  have K37:=Lib.hid (K36.out.step b7);have B7:=Lib.hid (aa B6.out b7)
  have CF:=Lib.hid (oi w7 q A6 n6 c6 KK _ p up (IQ.out.step b7) LQ.out (by omega) (by omega) (by omega) p1 p2 u7 (T6.out.below b7))
  rw [HZ.out] at CF
  unfold kt at CF
  clear u7 b7 CD IQ LQ HZ T6
  go_wp2_with fail
  refine CF.out.mono ?_
  rintro _ w8 ⟨_,rfl,⟨A8,n8,c8,rfl,h8⟩,b8⟩
  have K38:=Lib.hid (K37.out.step b8)
  have r0:=K38.out.c0;have r1:=K38.out.c1;have r2:=K38.out.c2
  have z0:=K38.out.fz 0;have z1:=K38.out.fz 1;have z2:=K38.out.fz 2
  have RN:=Lib.hid (cE B7.out (Nat.le_add_right w.heap.size 2) K38.out K37.out.lt b8 h8)
  clear h8 b8 CF
  go_wp2
  obtain ⟨kr,nr,br⟩:=RN.out
  refine bodyPost_ret (v:=.tuple #[.agg #[.bool r.1.s,.int .i64 r.1.e,.slice A8 n8 c8],.int .i64 r.2]) ?_ rfl ⟨_,rfl,nr,br⟩
  have q0:=kr.c0;have q1:=kr.c1;have q2:=kr.c2
  unfold bc at q0 q1 q2
  simp [results,Tryz.results119,go_sem,q0,q1,q2]
theorem Bw (w:World) (s s' up:Bool) (e e' p:Int) (A B:Option Addr) (n c m d:Nat) (xs ys:List Nat) (ha:Arg w A n c xs) (hb:Arg w B m d ys) (hn:n≤100000) (hm:m≤100000) (ht:Tab w):
  Calls Tryz.prog 170 #[.agg #[.bool s,.int .i64 e,.slice A n c],.agg #[.bool s',.int .i64 e',.slice B m d],.int .i64 p,.bool up] w (dL w (iF (dq p up) p s e n xs s' e' m ys)):=by
 obtain ⟨k1,k2,k3,b3⟩:=iD w s s' e e' A B n c m d
 obtain ⟨W,hW⟩:∃ W,W=(((w.alloc (.cells #[.bool s,.int .i64 e,.slice A n c] 30)).alloc (.cells #[.bool s',.int .i64 e',.slice B m d] 30)).alloc (.cells #[.bool false,.int .i64 0,.slice none 0 0] 30)):=⟨_,rfl⟩
 have hsz:W.heap.size=w.heap.size+1+1+1:=by rw [hW];simp
 rw [←hW] at k1 k2 k3 b3
 have ob:=ac W (.cells #[.bool s,.int .i64 e,.slice A n c,.bool s',.int .i64 e',.slice B m d] 30)
 have C1:=Lib.hid (mD _ _ 2 p _ (wn W s s' e e' A B n c m d xs ys (ha.step b3) hn (hb.step b3) hm) (by omega))
 rw [hsz] at C1
 have K1:=Lib.hid (k1.step ob);have K2:=Lib.hid (k2.step ob);have K3:=Lib.hid (k3.step ob);have B3:=Lib.hid (aa b3 ob)
 have HA:=Lib.hid ha;have HB:=Lib.hid hb;have HT:=Lib.hid ht
 have y0:=k1.c0;have y1:=k1.c1;have y2:=k1.c2
 have x0:=k2.c0;have x1:=k2.c1;have x2:=k2.c2
 subst hW
 clear k1 k2 k3 b3 ha hb ht ob hsz
 obtain ⟨r,hr⟩:∃ r,r=iF (dq p up) p s e n xs s' e' m ys:=⟨_,rfl⟩
 rw [←hr]
 have HR:=Lib.hid hr
 clear hr
 go_enter Tryz.func170,Tryz.ntmps170
 go_wp2_with fail
 refine C1.out.mono ?_
 rintro _ w4 ⟨rfl,b4⟩
 have K14:=Lib.hid (K1.out.step b4);have K24:=Lib.hid (K2.out.step b4);have K34:=Lib.hid (K3.out.step b4);have B4:=Lib.hid (aa B3.out b4)
 clear b4 C1 K1 K2 K3 B3 y0 y1 y2 x0 x1 x2
 have hall:([eP s e n xs,eP s' e' m ys].all id&&dO p)=(eP s e n xs&&eP s' e' m ys&&dO p):=by simp
 rw [hall]
 clear hall
 cases hok:(eP s e n xs&&eP s' e' m ys&&dO p)
 ·have hr:r=(q0,1):=by rw [HR.out];unfold iF;rw [hok];rfl
  have r0:=K34.out.c0;have r1:=K34.out.c1;have r2:=K34.out.c2
  have z0:=K34.out.fz 0;have z1:=K34.out.fz 1;have z2:=K34.out.fz 2
  go_wp2
  obtain ⟨kr,nr,br⟩:=dD B4.out (Nat.le_add_right w.heap.size 2) K34.out
  refine bodyPost_ret (v:=.tuple #[.agg #[.bool false,.int .i64 0,.slice none 0 0],.int .i64 1]) ?_ rfl (by rw [hr];exact ⟨_,rfl,nr,br⟩)
  have q0:=kr.c0;have q1:=kr.c1;have q2:=kr.c2
  unfold bc at q0 q1 q2
  simp [results,Tryz.results170,go_sem,q0,q1,q2]
 ·have hr:r=dq p up ⟨s,nval B64 xs,e⟩ ⟨s',nval B64 ys,e'⟩:=by rw [HR.out];unfold iF;rw [hok];rfl
  obtain ⟨ho12,ho3⟩:=(Bool.and_eq_true _ _).mp hok
  obtain ⟨ho1,ho2⟩:=(Bool.and_eq_true _ _).mp ho12
  obtain ⟨p1,p2⟩:=ld ho3
  obtain ⟨i1,v1,f1,f2,f3⟩:=cz (HA.out.step B4.out) ho1
  obtain ⟨i2,v2,f4,f5,f6⟩:=cz (HB.out.step B4.out) ho2
  simp only at f1 f2 f3 f4 f5 f6
  have I1:=Lib.hid i1;have I2:=Lib.hid i2;have F1:=Lib.hid f1;have F4:=Lib.hid f4;have V2:=Lib.hid v2
  have HR2:=Lib.hid hr
  have T4:=Lib.hid (HT.out.below B4.out)
  generalize nval B64 xs=X at*
  generalize nval B64 ys=Y at*
  clear hr hok ho1 ho2 ho3 ho12 i1 i2 f1 f4 v1 v2 HR HA HB HT
  have CN:=Lib.hid (Cr (a:=⟨s',Y,e'⟩) I2.out ⟨V2.out,F4.out,f5,f6⟩)
  simp only at CN
  have x0:=K24.out.c0;have x1:=K24.out.c1;have x2:=K24.out.c2
  by_cases hY0:Y=0
  ·have hs0:signq ⟨s',Y,e'⟩=0:=by unfold signq;rw [if_pos hY0]
   rw [hs0] at CN
   have hr:r=(q0,3):=by rw [HR2.out];unfold dq;rw [if_pos hY0]
   have HR3:=Lib.hid hr
   clear hr hs0
   go_wp2_with fail
   refine CN.out.mono ?_
   rintro _ w5 ⟨rfl,b5⟩
   have K35:=Lib.hid (K34.out.step b5);have B5:=Lib.hid (aa B4.out b5)
   clear b5 CN x0 x1 x2
   have r0:=K35.out.c0;have r1:=K35.out.c1;have r2:=K35.out.c2
   have z0:=K35.out.fz 0;have z1:=K35.out.fz 1;have z2:=K35.out.fz 2
   go_wp2
   obtain ⟨kr,nr,br⟩:=dD B5.out (Nat.le_add_right w.heap.size 2) K35.out
   refine bodyPost_ret (v:=.tuple #[.agg #[.bool false,.int .i64 0,.slice none 0 0],.int .i64 3]) ?_ rfl (by rw [HR3.out];exact ⟨_,rfl,nr,br⟩)
   have q0:=kr.c0;have q1:=kr.c1;have q2:=kr.c2
   unfold bc at q0 q1 q2
   simp [results,Tryz.results170,go_sem,q0,q1,q2]
  have hs0:(signq ⟨s',Y,e'⟩==0)=false:=by
   unfold signq
   rw [if_neg (show ¬ (⟨s',Y,e'⟩:Q).m=0 from hY0)]
   cases s'<;>rfl
  have HY0:=Lib.hid hY0
  generalize signq ⟨s',Y,e'⟩=sg0 at*
  clear hY0
  go_wp2_with fail
  refine CN.out.mono ?_
  rintro _ w5 ⟨rfl,b5⟩
  have K15:=Lib.hid (K14.out.step b5);have K25:=Lib.hid (K24.out.step b5);have K35:=Lib.hid (K34.out.step b5);have B5:=Lib.hid (aa B4.out b5);have T5:=Lib.hid (T4.out.below b5)
  obtain ⟨P,hP⟩:∃ P:Nat,p=(P:Int):=⟨p.toNat,by omega⟩
  subst hP
  have C5:=Lib.hid (xX w5 ⟨s,X,e⟩ ⟨s',Y,e'⟩ A B n c m d P (I1.out.step b5) (I2.out.step b5) F1.out F4.out HY0.out (by omega) (by omega) f2 f3 f5 f6)
  simp only at C5
  clear b5 CN x0 x1 x2 K14 K24 K34 B4 T4 I1 I2
  have y0:=K15.out.c0;have y1:=K15.out.c1;have y2:=K15.out.c2
  have x0:=K25.out.c0;have x1:=K25.out.c1;have x2:=K25.out.c2
  have PR:=Lib.hid (show ∀ q:Q,nm q.s q.m q.e=nm (s !=s') (stk (X*2^ratk P ⟨s,X,e⟩ ⟨s',Y,e'⟩) Y) (e - e' - (ratk P ⟨s,X,e⟩ ⟨s',Y,e'⟩:Int) - 1)→res (dP (P:Int).toNat up q)=r from fun q h=>by
   rw [HR2.out];unfold dq
   rw [if_neg HY0.out]
   congr 1
   have e1:dP (P:Int).toNat up q=dP (P:Int).toNat up (nm q.s q.m q.e):=(lS _ _ _ _ _).symm
   rw [e1,h,lS]
   unfold ib
   by_cases hX0:X=0
   ·rw [if_pos hX0,hX0]
    have:stk (0*2^ratk P ⟨s,0,e⟩ ⟨s',Y,e'⟩) Y=0:=by unfold stk;simp
    rw [this,kH]
   ·rw [if_neg hX0];rfl)
  clear HR2 HY0
  generalize nm (s !=s') (stk (X*2^ratk P ⟨s,X,e⟩ ⟨s',Y,e'⟩) Y) (e - e' - (ratk P ⟨s,X,e⟩ ⟨s',Y,e'⟩:Int) - 1)=z at*
  obtain ⟨KK,hKK⟩:∃ KK:Nat,KK=2120:=⟨_,rfl⟩
  rw [←hKK] at C5
  have hK2:KK≤2120:=by omega
  clear hKK
  go_wp2_with fail
  refine C5.out.mono ?_
  rintro _ w6 ⟨q,⟨_,rfl,⟨A6,n6,c6,rfl,h6⟩,b6⟩,hq,lq,e1,e2⟩
  have HZ:=Lib.hid (PR.out q hq)
  have K36:=Lib.hid (K35.out.step b6);have B6:=Lib.hid (aa B5.out b6);have T6:=Lib.hid (T5.out.below b6)
  have IQ:=Lib.hid (rE h6);have LQ:=Lib.hid lq
  have CD:=Lib.hid (og w6 up)
  unfold kt at CD
  clear hq lq h6 b6 C5 PR z y0 y1 y2 x0 x1 x2
  go_wp2_with fail
  refine CD.out.mono ?_
  rintro _ w7 ⟨rfl,u7,b7⟩
  have K37:=Lib.hid (K36.out.step b7);have B7:=Lib.hid (aa B6.out b7)
  have CF:=Lib.hid (oi w7 q A6 n6 c6 KK _ (P:Int) up (IQ.out.step b7) LQ.out (by omega) (by omega) (by omega) p1 p2 u7 (T6.out.below b7))
  rw [HZ.out] at CF
  unfold kt at CF
  clear u7 b7 CD IQ LQ HZ T6
  go_wp2_with fail
  refine CF.out.mono ?_
  rintro _ w8 ⟨_,rfl,⟨A8,n8,c8,rfl,h8⟩,b8⟩
  have K38:=Lib.hid (K37.out.step b8)
  have r0:=K38.out.c0;have r1:=K38.out.c1;have r2:=K38.out.c2
  have z0:=K38.out.fz 0;have z1:=K38.out.fz 1;have z2:=K38.out.fz 2
  have RN:=Lib.hid (cE B7.out (Nat.le_add_right w.heap.size 2) K38.out K37.out.lt b8 h8)
  clear h8 b8 CF
  go_wp2
  obtain ⟨kr,nr,br⟩:=RN.out
  refine bodyPost_ret (v:=.tuple #[.agg #[.bool r.1.s,.int .i64 r.1.e,.slice A8 n8 c8],.int .i64 r.2]) ?_ rfl ⟨_,rfl,nr,br⟩
  have q0:=kr.c0;have q1:=kr.c1;have q2:=kr.c2
  unfold bc at q0 q1 q2
  simp [results,Tryz.results170,go_sem,q0,q1,q2]
end
end Go.Proofs.YtpacpmmdjmnamaaGreatDoor
