/- fathomlineseat: the deck, Next. fathomlineseat: num, Small, Of. -/
import Derived.Test.YtpacpmmdjmnamaaGreatDoorYNum1
import Derived.Test.YtpacpmmdjmnamaaGreatDoorYNumJL
namespace Go.Proofs.YtpacpmmdjmnamaaGreatDoor
open Go.RowKit Nx
section
def Dk (w:World) (g:Nat) (A:Option Addr) (n c k:Nat):Prop:=Blk w g 64 #[.slice A n c,.int .i64 (k:Int)]
theorem Dk.c0 {w:World} {g:Nat} {A:Option Addr} {n c k:Nat} (h:Dk w g A n c k):w.cell? ⟨g,0,none⟩=some (.slice A n c):=by have:=Blk.cell h 0;simpa using this
theorem Dk.c1 {w:World} {g:Nat} {A:Option Addr} {n c k:Nat} (h:Dk w g A n c k):w.cell? ⟨g,1,none⟩=some (.int .i64 (k:Int)):=by have:=Blk.cell h 1;simpa using this
theorem Dk.fz {w:World} {g:Nat} {A:Option Addr} {n c k:Nat} (h:Dk w g A n c k) (i:Nat):w.frozen? ⟨g,i,none⟩=false:=Blk.frozen h i
theorem Dk.step {w w':World} {g:Nat} {A:Option Addr} {n c k:Nat} (h:Dk w g A n c k) (hb:Below w.heap.size w w'):Dk w' g A n c k:=Blk.below h hb h.lt
structure Mv (g:Nat) (w w':World):Prop where
 os:w'.os=w.os
 tape:w'.tape=w.tape
 output:w'.output=w.output
 size:w.heap.size≤w'.heap.size
 block:∀ i,i<w.heap.size→i≠g→w'.heap[i]? =w.heap[i]?
theorem Mv.of {g:Nat} {w w':World} (h:Below w.heap.size w w'):Mv g w w':=⟨h.os,h.tape,h.output,h.size,fun i hi _=>h.block i hi⟩
theorem Mv.trans {g:Nat} {a b c:World} (h:Mv g a b) (h':Mv g b c):Mv g a c:=
 ⟨h'.os.trans h.os,h'.tape.trans h.tape,h'.output.trans h.output,Nat.le_trans h.size h'.size,fun i hi hg=>(h'.block i (Nat.lt_of_lt_of_le hi h.size) hg).trans (h.block i hi hg)⟩
theorem Mv.below {g B:Nat} {w0 w w':World} (h:Below B w0 w) (h':Mv g w w') (hg:B≤g) (hB:B≤w.heap.size):Below B w0 w':=
 ⟨h'.os.trans h.os,h'.tape.trans h.tape,h'.output.trans h.output,Nat.le_trans h.size h'.size,fun i hi=>(h'.block i (by omega) (by omega)).trans (h.block i hi)⟩
theorem Mv.rd {k:IntKind} {g:Nat} {w w':World} {lo hi n c:Nat} {A:Option Addr} {xs:List Nat} (h':Mv g w w') (h:Rd k w lo hi A n c xs) (hg:g<lo∨hi≤g) (hh:hi≤w.heap.size):Rd k w' lo hi A n c xs:=
 ⟨h.1,h.2.1,fun hn=>by
  obtain ⟨ad,e,hl,hb,hc⟩:=h.2.2 hn
  refine ⟨ad,e,hl,hb,fun j u hu=>?_⟩
  rw [←hc j u hu]
  exact World.cell?_of_block (by rw [aj];exact h'.block _ (by omega) (by omega))⟩
end
section
set_option maxRecDepth 100000 in
set_option maxHeartbeats 2000000 in
theorem Ba (w:World) (s:Bool) (e:Int) (A:Option Addr) (n c:Nat) (xs:List Nat) (ha:Arg w A n c xs) (hk:n≤15000):
  Calls Tryz.prog 99 #[.bool s,.slice A n c,.int .i64 e] w (kh w (res (nm s (nval B64 xs) e)).1):=by
 have K1:=Lib.hid (Bx.new w false 0 none 0 0);have B1:=Lib.hid (ac w (.cells #[.bool false,.int .i64 0,.slice none 0 0] 30))
 have C:=Lib.hid (xR _ s e A n c xs (ha.step B1.out) hk)
 generalize res (nm s (nval B64 xs) e)=r at*
 clear ha
 go_enter Tryz.func99,Tryz.ntmps99
 go_wp2_with fail
 refine C.out.mono ?_
 clear C
 rintro _ w6 ⟨_,rfl,⟨A6,n6,c6,rfl,h6⟩,b6⟩
 have K26:=Lib.hid (K1.out.step b6)
 have r0:=K26.out.c0;have r1:=K26.out.c1;have r2:=K26.out.c2
 have z0:=K26.out.fz 0;have z1:=K26.out.fz 1;have z2:=K26.out.fz 2
 have hs:=K26.out.lt
 have RN:=Lib.hid (cE B1.out (Nat.le_refl w.heap.size) K26.out K1.out.lt b6 h6)
 clear b6 h6
 go_wp2
 obtain ⟨kr,nr,br⟩:=RN.out
 have ob:=ac (bc w6 w.heap.size (.bool r.1.s) (.int .i64 r.1.e) (.slice A6 n6 c6)) (.cells #[.bool r.1.s,.int .i64 r.1.e,.slice A6 n6 c6] 30)
 refine bodyPost_ret (v:=.agg #[.bool r.1.s,.int .i64 r.1.e,.slice A6 n6 c6]) ?_ rfl ⟨_,rfl,nr.step ob,aa br ob⟩
 have q0:=(kr.step ob).c0;have q1:=(kr.step ob).c1;have q2:=(kr.step ob).c2
 unfold bc at q0 q1 q2
 simp [results,Tryz.results99,go_sem,q0,q1,q2]
def Few (q:Q):Prop:=bg q∧q.m<64∧ -6≤q.e∧q.e≤8
theorem Fh {s:Bool} {M:Nat} {e:Int} (hM:M<64) (h1: -6≤e) (h2:e≤2):Few (nm s M e):=by
 refine ⟨gD _ _ _,?_⟩
 by_cases h0:M=0
 ·rw [h0,dd];exact ⟨by decide,by decide,by decide⟩
 ·have hz:ntz M<6:=iz h0 (by simpa using hM)
  have e1:nm s M e=⟨s,M / 2^ntz M,e+ntz M⟩:=by unfold nm;rw [if_neg h0]
  rw [e1]
  exact ⟨Nat.lt_of_le_of_lt (Nat.div_le_self _ _) hM,by show -6≤e+ntz M;omega,by show e+ntz M≤8;omega⟩
theorem Few.valid {q:Q} (h:Few q):aH q:=⟨h.1,Nat.lt_of_lt_of_le h.2.1 (Nat.le_trans (by unfold B64;omega) uI),by have:=h.2.2.1;omega,by have:=h.2.2.2;omega⟩
theorem ET (v:Nat) (h:v<B64):bits .and .u64 (v:Int) 63=((v%64:Nat):Int):=by
 have:=u64_and_nat v 63 h (by omega)
 rw [Nat.and_two_pow_sub_one_eq_mod v 6] at this
 exact this
theorem Mv.put {g h:Nat} {w w':World} (m:Mv g w w') (hh:w.heap.size≤h) (x y z:Value):Mv g w (bc w' h x y z):=by
 have b:=fk (Below.refl h w') (Nat.le_refl h) x y z
 exact ⟨b.os.trans m.os,b.tape.trans m.tape,b.output.trans m.output,Nat.le_trans m.size b.size,fun i hi hg=>(b.block i (by omega)).trans (m.block i hi hg)⟩
theorem Dk.put {w:World} {g h:Nat} {A:Option Addr} {n c k:Nat} (d:Dk w g A n c k) (hh:g≠h) (x y z:Value):Dk (bc w h x y z) g A n c k:=by
 unfold bc
 exact Blk.far (Blk.far (Blk.far d hh _) hh _) hh _
theorem Bx.mv {w w':World} {g h:Nat} {s:Bool} {e:Int} {A:Option Addr} {n c:Nat} (k:Bx w h s e A n c) (m:Mv g w w') (hh:h≠g):Bx w' h s e A n c:=(m.block h k.lt hh).trans k
end
section
theorem CY {q:Q} (h:bg q):aH (res q).1:=by
 by_cases hf:iX q
 ·rw [eF hf];exact ⟨h,hf⟩
 ·rw [eW hf];exact ⟨fm,ju⟩
end
section

end
end Go.Proofs.YtpacpmmdjmnamaaGreatDoor
