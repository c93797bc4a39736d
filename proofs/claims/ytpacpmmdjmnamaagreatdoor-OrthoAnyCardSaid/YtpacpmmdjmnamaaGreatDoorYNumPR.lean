/- fathomlineref1: Less, Order, Exact. fathomlineref1: Straight, CmpNum. The contracts for valid numbers; fathomlinehelp.Zero; light. -/
import Derived.Test.YtpacpmmdjmnamaaGreatDoorYNumMO
namespace Go.Proofs.YtpacpmmdjmnamaaGreatDoor
open Go.RowKit Nx
theorem qD {w w':World} {H n c N:Nat} {A:Option Addr} (h:Dg w A n c N) (hp:∀ ad,0<n→A=some ad→ad.block<H∨w.heap.size≤ad.block) (_hb:Below w.heap.size w w'):
  ∀ ad,0<n→A=some ad→ad.block<H∨w'.heap.size≤ad.block:=fun ad hn hA=>by
 obtain ⟨ad',hA',_,hlt,_⟩:=h.2.2 hn
 have:ad=ad':=by rw [hA] at hA';injection hA'
 subst this
 have:=hp ad hn hA
 omega
set_option maxRecDepth 100000 in
set_option maxHeartbeats 4000000 in
theorem zy (w:World) (H:Nat) (a b:Q) (A B:Option Addr) (n c m d k:Nat) (va:bg a) (vb:bg b) (ha:Dg w A n c a.m) (hb:Dg w B m d b.m)
  (pa:∀ ad,0<n→A=some ad→ad.block<H∨w.heap.size≤ad.block) (pb:∀ ad,0<m→B=some ad→ad.block<H∨w.heap.size≤ad.block) (hH:H≤w.heap.size)
  (hX:a.m<B64^k) (hY:b.m<B64^k) (hk:k≤3000) (h1: -550000≤a.e) (h2:a.e≤550000) (h3: -550000≤b.e) (h4:b.e≤550000):
  Calls Tryz.prog 207 #[.agg #[.bool a.s,.slice A n c,.int .i64 a.e],.agg #[.bool b.s,.slice B m d,.int .i64 b.e]] w (ValPost w H (minus a b)):=by
 obtain ⟨r,hr⟩:∃ r,r=minus a b:=⟨_,rfl⟩
 have hr':plus a b.neg=r:=hr.symm
 rw [←hr]
 obtain ⟨k1,k2,k3,b3⟩:=mN w a.s b.s a.e b.e A B n c m d
 have d0:=lw (Below.refl (((w.alloc (.cells #[.bool a.s,.slice A n c,.int .i64 a.e] 127)).alloc (.cells #[.bool b.s,.slice B m d,.int .i64 b.e] 127)).alloc (.cells #[.bool false,.slice none 0 0,.int .i64 0] 127)).heap.size (((w.alloc (.cells #[.bool a.s,.slice A n c,.int .i64 a.e] 127)).alloc (.cells #[.bool b.s,.slice B m d,.int .i64 b.e] 127)).alloc (.cells #[.bool false,.slice none 0 0,.int .i64 0] 127)))
 have d3:=aa b3 d0
 have CT:=Lib.hid (vD _ b B m d vb (hb.step d3))
 have CP:=fun w4 (h:Below w.heap.size w w4)=>Lib.hid (tE w4 H a b.neg A B n c m d k va (qy vb) (ha.step h) (by rw [zD];exact hb.step h) (qD ha pa h) (qD hb pb h) (by have:=h.size;omega) hX (by rw [zD];exact hY) hk h1 h2 (by rw [vX vb];exact h3) (by rw [vX vb];exact h4))
 rw [hr'] at CP
 have K1d:=Lib.hid (k1.step d0);have K2d:=Lib.hid (k2.step d0);have K3d:=Lib.hid (k3.step d0);have B3d:=Lib.hid d3
 have S0:=And.intro k1.c0 (And.intro k1.c1 (And.intro k1.c2 (And.intro k2.c0 (And.intro k2.c1 k2.c2))))
 clear k1 k2 k3 b3 d0 d3 ha hb pa pb hX hY hr hr' va vb h1 h2 h3 h4
 generalize b.neg=bn at*
 obtain ⟨s,M,e⟩:=a
 obtain ⟨s',M',e'⟩:=b
 simp only at*
 go_enter Tryz.func207,Tryz.ntmps207
 go_wp2_with fail
 generalize (((w.alloc (.cells #[.bool s,.slice A n c,.int .i64 e] 127)).alloc (.cells #[.bool s',.slice B m d,.int .i64 e'] 127)).alloc (.cells #[.bool false,.slice none 0 0,.int .i64 0] 127))=w2 at*
 go_region_held3 (fun w'=>w'.cell? ⟨w.heap.size,0,none⟩=some (.bool s)∧w'.cell? ⟨w.heap.size,1,none⟩=some (.slice A n c)∧w'.cell? ⟨w.heap.size,2,none⟩=some (.int .i64 e)∧w'.cell? ⟨w.heap.size+1,0,none⟩=some (.bool s')∧w'.cell? ⟨w.heap.size+1,1,none⟩=some (.slice B m d)∧w'.cell? ⟨w.heap.size+1,2,none⟩=some (.int .i64 e'))
    (first |exact S0 |assumption)
    (first
     | (go_at_call 232
        refine CT.out.mono ?_
        rintro _ w6 ⟨rfl,b6⟩
        have K16:=Lib.hid (K1d.out.step b6);have K26:=Lib.hid (K2d.out.step b6);have K36:=Lib.hid (K3d.out.step b6);have B6:=Lib.hid (aa B3d.out b6)
        have S6:w6.cell? ⟨w.heap.size,0,none⟩=some (.bool s)∧w6.cell? ⟨w.heap.size,1,none⟩=some (.slice A n c)∧w6.cell? ⟨w.heap.size,2,none⟩=some (.int .i64 e)∧w6.cell? ⟨w.heap.size+1,0,none⟩=some (.bool s')∧w6.cell? ⟨w.heap.size+1,1,none⟩=some (.slice B m d)∧w6.cell? ⟨w.heap.size+1,2,none⟩=some (.int .i64 e'):=⟨K16.out.c0,K16.out.c1,K16.out.c2,K26.out.c0,K26.out.c1,K26.out.c2⟩
        have CP6:=CP w6 B6.out
        clear b6)
     | (go_at_call 156
        refine CP6.out.mono ?_
        rintro _ w7 ⟨_,rfl,⟨A7,n7,c7,rfl,h7,p7⟩,b7⟩
        have K17:=Lib.hid (K16.out.step b7);have K27:=Lib.hid (K26.out.step b7);have K37:=Lib.hid (K36.out.step b7)
        have S7:w7.cell? ⟨w.heap.size,0,none⟩=some (.bool s)∧w7.cell? ⟨w.heap.size,1,none⟩=some (.slice A n c)∧w7.cell? ⟨w.heap.size,2,none⟩=some (.int .i64 e)∧w7.cell? ⟨w.heap.size+1,0,none⟩=some (.bool s')∧w7.cell? ⟨w.heap.size+1,1,none⟩=some (.slice B m d)∧w7.cell? ⟨w.heap.size+1,2,none⟩=some (.int .i64 e'):=⟨K17.out.c0,K17.out.c1,K17.out.c2,K27.out.c0,K27.out.c1,K27.out.c2⟩
        have r0:=K37.out.c0;have r1:=K37.out.c1;have r2:=K37.out.c2
        have z0:=K37.out.fz 0;have z1:=K37.out.fz 1;have z2:=K37.out.fz 2
        have F:=fun (h i:Nat) (hn:h≠w.heap.size+1+1)=>eV w7 (w.heap.size+1+1) h i (.bool r.s) (.slice A7 n7 c7) (.int .i64 r.e) hn
        have S9:=And.intro ((F w.heap.size 0 (by omega)).trans K17.out.c0) (And.intro ((F w.heap.size 1 (by omega)).trans K17.out.c1) (And.intro ((F w.heap.size 2 (by omega)).trans K17.out.c2) (And.intro ((F (w.heap.size+1) 0 (by omega)).trans K27.out.c0) (And.intro ((F (w.heap.size+1) 1 (by omega)).trans K27.out.c1) ((F (w.heap.size+1) 2 (by omega)).trans K27.out.c2)))))
        clear F
        have RN:=Lib.hid (fc (g:=w.heap.size+1+1) (H:=H) (aa B6.out b7) (by omega) K37.out hH K36.out.lt h7 p7)
        clear h7 b7 p7))
 go_wp2
 obtain ⟨kr,nr,br⟩:=RN.out
 refine bodyPost_ret (v:=.agg #[.bool r.s,.slice A7 n7 c7,.int .i64 r.e]) ?_ rfl ⟨_,rfl,nr,br⟩
 have u0:=kr.c0;have u1:=kr.c1;have u2:=kr.c2
 unfold bc at u0 u1 u2
 simp [results,Tryz.results207,go_sem,u0,u1,u2]
def KA (kd:Int) (a b:Q):Q:=if kd=0 then plus a b else if kd=1 then minus a b else times a b
theorem rq {w:World} {A:Option Addr} {n c N:Nat} (_h:Dg w A n c N):∀ ad,0<n→A=some ad→ad.block<w.heap.size∨w.heap.size≤ad.block:=fun ad _ _=>by omega
theorem FV (Z e:Int):(mA Z e).m≤Z.natAbs:=by
 unfold mA nm
 split
 ·exact Nat.zero_le _
 ·exact Nat.div_le_self _ _
theorem sd {q:Q} {t:Int}:(q.up t).natAbs=q.m*2^(q.e - t).toNat:=by
 rw [jH]
 split
 ·rw [Int.natAbs_neg,Int.natAbs_natCast]
 ·rw [Int.natAbs_natCast]
instance:DecidableEq Q:=fun a b=>decidable_of_iff (a.s=b.s∧a.m=b.m∧a.e=b.e) ⟨fun ⟨h1,h2,h3⟩=>Q.ext' h1 h2 h3,fun h=>by subst h;exact ⟨rfl,rfl,rfl⟩⟩
theorem FX {w:World} {A:Option Addr} {n c:Nat} {q:Q} (h:Is w A n c q.m) (hv:aH q):eP q.s q.e n (digs B64 q.m)=true:=by
 obtain ⟨hc,f1,f2,f3⟩:=hv
 have hl:(digs B64 q.m).length=n:=h.1
 unfold eP
 by_cases h0:n=0
 ·rw [if_pos h0]
  have:=hc.1 ((om h).1 h0)
  rw [this];rfl
 ·rw [if_neg h0]
  have hm:q.m≠0:=fun hm=>h0 ((om h).2 hm)
  have hlast:(digs B64 q.m).getD (n - 1) 0≠0:=by
   obtain ⟨y,hg⟩:∃ y,(digs B64 q.m)[n - 1]? =some y:=⟨_,List.getElem?_eq_getElem (by omega)⟩
   rw [getD_of hg]
   exact jr B64_two _ _ (by rw [List.getLast?_eq_getElem?,hl];exact hg)
  have hodd:(digs B64 q.m).getD 0 0%2=1:=by
   rw [dp B64_two hm]
   show q.m%B64%2=1
   have:=hc.2 hm
   unfold B64;omega
  have hle:n≤64:=uZ h f1
  simp only [Bool.and_eq_true,decide_eq_true_eq]
  exact ⟨⟨⟨⟨hlast,hle⟩,hodd⟩,f2⟩,f3⟩
section
variable {w:World} {a b:Q} {A B:Option Addr} {n c m d:Nat}
theorem Jd (h:Is w A n c a.m) (hv:aH a):n≤100000:=by have:=uZ h hv.2.1;omega
theorem Cr (ha:Is w A n c a.m) (va:aH a):Calls Tryz.prog 121 #[.agg #[.bool a.s,.int .i64 a.e,.slice A n c]] w (oD w (signq a)):=by
 have:=jy w a.s a.e A n c _ (zt ha) (Jd ha va)
 rwa [FX ha va,if_pos rfl,ae B64_two] at this
end
theorem pJ:aH q0:=⟨fm,ju⟩
theorem lf {q:Q} (h:bg q):aH (res q).1:=by
 by_cases hf:iX q
 ·rw [eF hf];exact ⟨h,hf⟩
 ·rw [eW hf];exact pJ
theorem rE {lo:Nat} {w:World} {A:Option Addr} {n c N:Nat} (h:Rd .u64 w lo w.heap.size A n c (digs B64 N)):Is w A n c N:=h.less (Nat.zero_le _)
end Go.Proofs.YtpacpmmdjmnamaaGreatDoor
