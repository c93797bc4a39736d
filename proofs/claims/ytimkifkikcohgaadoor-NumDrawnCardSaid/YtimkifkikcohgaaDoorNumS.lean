/- known, of the laws of num. -/
import Derived.Test.YtimkifkikcohgaaDoorKnB
import Derived.Deep.DeepCutAuto
namespace Go.Proofs.YtimkifkikcohgaaDoor
open Go.RowKit Nx

/-- A number in a variable of its own, and no error. -/
def YPost (q : Q) (up ue : Value) (wx : World) : Prop := ∃ (g : Nat) (A : Option Addr) (n c : Nat), up = .pointer (some ⟨g, 0, none⟩) ∧ ue = .int .i64 0 ∧ Bx wx g q.s q.e A n c ∧ Is wx A n c q.m
theorem YPost.put {w2 W1 : World} {g : Nat} {A A' : Option Addr} {n c n' c' : Nat} {q : Q} {s : Bool} {e : Int} (hB : Below w2.heap.size w2 W1) (hg : w2.heap.size ≤ g) (hk : Bx W1 g s e A' n' c') (L : Nat) (hgL : g < L) (h : Rd .u64 W1 L W1.heap.size A n c (digs B64 q.m)) :
    YPost q (.pointer (some ⟨g, 0, none⟩)) (.int .i64 0) (put3 W1 g (.bool q.s) (.int .i64 q.e) (.slice A n c)) ∧ Below w2.heap.size w2 (put3 W1 g (.bool q.s) (.int .i64 q.e) (.slice A n c)) := by
  refine ⟨⟨g, A, n, c, rfl, rfl, Blk.putted hk _ _ _, ?_⟩, below_put3 hB hg _ _ _⟩
  have := h.putted (g := g) (.inl hgL) (.bool q.s) (.int .i64 q.e) (.slice A n c)
  unfold Is
  rw [size_put3]
  exact this.less (Nat.zero_le _)
theorem YPost.new {w2 W1 : World} {A : Option Addr} {n c : Nat} {q : Q} (hB : Below w2.heap.size w2 W1) (h : Is W1 A n c q.m) :
    YPost q (.pointer (some ⟨W1.heap.size, 0, none⟩)) (.int .i64 0) (W1.alloc (.cells #[.bool q.s, .int .i64 q.e, .slice A n c] 24)) ∧ Below w2.heap.size w2 (W1.alloc (.cells #[.bool q.s, .int .i64 q.e, .slice A n c] 24)) :=
  ⟨⟨_, A, n, c, rfl, rfl, Bx.new _ _ _ _ _ _, h.step (one_below _ _)⟩, below_step hB (one_below _ _)⟩

theorem known_last {ops : Array Oper} (hops : ops = endOf Tryd.f12) {id : Nat} {Q : Exit → Act → World → Prop} (hQ : ∀ c a (d : Tmp) v w, Q (.panic c) (a.put (some d) v) w → Q (.panic c) a w) {w9 : World} {g1 gy gz gu gv : Nat} {Ax Ay Az Au Av : Option Addr} {nx cx ny cy nz cz nu cu nv cv : Nat}
    (kx : Bx w9 g1 false 2 Ax nx cx) (ix : Is w9 Ax nx cx 3) (ky : Bx w9 gy false 0 Ay ny cy) (iy : Is w9 Ay ny cy 11) (kz : Bx w9 gz false 3 Az nz cz) (iz : Is w9 Az nz cz 3) (ku : Bx w9 gu false 0 Au nu cu) (iu : Is w9 Au nu cu 3) (kv : Bx w9 gv false 0 Av nv cv) (iv : Is w9 Av nv cv 0) (ht : Tab w9)
    (hend : ∀ a' w', a'.defers = [] → a'.eval (.tmp 0) = .bool true → Below w9.heap.size w9 w' → Q .normal a' w') {a : Act} (hk : Kno 126 a [(1, .pointer (some ⟨g1, 0, none⟩)), (2, .int .i64 0), (3, .pointer (some ⟨gy, 0, none⟩)), (4, .int .i64 0), (5, .pointer (some ⟨gz, 0, none⟩)), (6, .int .i64 0), (7, .pointer (some ⟨gu, 0, none⟩)), (8, .int .i64 0), (9, .pointer (some ⟨gv, 0, none⟩)), (10, .int .i64 0)]) :
    (Code.region id ops true).wp Tryd.prog Q a w9 := by
  subst hops
  refine wp_region_held (S := fun w => Below w9.heap.size w9 w) (by kernel_rfl) ?_
  rw [show (endOf Tryd.f12).size = 88 by kernel_rfl, show Array.replicate 88 false = doneOf 88 0 from rfl]
  exact kpart0 hQ kx ix ky iy kz iz ku iu kv iv ht hend (bdr (Below.refl _ _)) hk

set_option maxRecDepth 100000 in
set_option maxHeartbeats 8000000 in
theorem known_any (w : World) (ht : Tab w) : Calls Tryd.prog 12 #[] w (BoolPost w true) := by
  have HT := Lib.hid ht
  clear ht
  have C1 := Lib.hid (make_one w false 12 0 (by unfold B64; omega) (by omega) (by omega) HT.out)
  rw [k_12] at C1
  have B0 := Lib.hid (one_below w (.cells #[.int .u64 (12 : Nat)] 54))
  go_enter Tryd.func12, Tryd.ntmps12
  go_wp2_with fail
  refine C1.out.mono ?_
  rintro _ w1 ⟨_, rfl, ⟨Ax, nx, cx, rfl, hx⟩, b1⟩
  have ob := one_below w1 (.cells #[.bool false, .int .i64 2, .slice Ax nx cx] 24)
  have BX := Lib.hid (below_step (below_step B0.out b1) ob)
  have KX := Lib.hid (Bx.new w1 false 2 Ax nx cx)
  have IX := Lib.hid (Is.step (show Is w1 Ax nx cx 3 from hx.less (Nat.zero_le _)) ob)
  clear C1 b1 hx B0 ob
  simp only
  go_wp2_with fail
  generalize hg1 : w1.heap.size = g1 at *
  generalize w1.alloc (.cells #[.bool false, .int .i64 2, .slice Ax nx cx] 24) = w2 at *
  clear hg1
  have hlty := KX.out.lt
  have D2 := Lib.hid (bdr (Below.refl w2.heap.size w2)); have D2z := Lib.hid (bdr (one_below w2 (.cells #[.bool false, .int .i64 0, .slice none 0 0] 24)))
  have KZ := Lib.hid ((Bx.new w2 false 0 none 0 0).step (bdr (Below.refl _ _)))
  have CI := fun w4 (h : Below w2.heap.size w2 w4) => Lib.hid (int_k (w := w4) (-1) k_m1 (by omega) (by omega) (HT.out.below (below_step BX.out h)))
  have CA := fun w4 (A : Option Addr) (n c : Nat) (h : Below w2.heap.size w2 w4) (hi : Is w4 A n c (⟨true, 1, 0⟩ : Q).m) => Lib.hid (nadd_v (a := ⟨false, 3, 2⟩) (b := ⟨true, 1, 0⟩) (IX.out.step h) hi vx vm1 (HT.out.below (below_step BX.out h)))
  rw [k_add, res_ok yfit] at CA
  simp only at CA
  have S0 := And.intro KX.out.c0 (And.intro KX.out.c1 KX.out.c2)
  go_cut [3, 4] (fun up ue wx => Hid (YPost ⟨false, 11, 0⟩ up ue wx ∧ Below w2.heap.size w2 wx))
  case first =>
    go_region_held3 (fun w' => w'.cell? ⟨g1, 0, none⟩ = some (.bool false) ∧ w'.cell? ⟨g1, 1, none⟩ = some (.int .i64 2) ∧ w'.cell? ⟨g1, 2, none⟩ = some (.slice Ax nx cx))
      (first | exact S0 | assumption | go_keep)
      (first
        | (go_at_call 20
           refine (CI _ ?_).out.mono ?_
           · first | exact D2.out | exact D2z.out
           rintro _ w3 ⟨_, rfl, ⟨Ai, ni, ci, rfl, hi⟩, bi⟩
           have B3 : Hid (Below w2.heap.size w2 w3) := by first | exact Lib.hid (below_step D2.out bi) | exact Lib.hid (below_step D2z.out bi)
           have K3 := Lib.hid (KX.out.step B3.out)
           have S3 := And.intro K3.out.c0 (And.intro K3.out.c1 K3.out.c2)
           have HI3 := Lib.hid (show Is w3 Ai ni ci (⟨true, 1, 0⟩ : Q).m from hi.less (Nat.zero_le _))
           try have KZ3 := Lib.hid (KZ.out.step bi)
           have hlt3 := K3.out.lt
           clear bi hi)
        | (go_at_call 32
           refine (CA _ Ai ni ci ?_ ?_).out.mono ?_
           · first | exact B3.out | exact below_step B3.out (one_below _ _)
           · first | exact HI3.out | exact HI3.out.step (one_below _ _)
           rintro _ w4 ⟨_, rfl, ⟨Ay, ny, cy, rfl, hy⟩, b4⟩
           have B4 : Hid (Below w2.heap.size w2 w4) := by first | exact Lib.hid (below_step B3.out b4) | exact Lib.hid (below_step (below_step B3.out (one_below _ _)) b4)
           have K4 := Lib.hid (KX.out.step B4.out)
           have S4 := And.intro K4.out.c0 (And.intro K4.out.c1 K4.out.c2)
           try have KZ4 := Lib.hid (KZ3.out.step b4)
           try have KY4 := Lib.hid ((Bx.new w3 false 0 none 0 0).step b4)
           try have r0 := KZ4.out.c0
           try have r1 := KZ4.out.c1
           try have r2 := KZ4.out.c2
           try have z0 := KZ4.out.fz 0
           try have z1 := KZ4.out.fz 1
           try have z2 := KZ4.out.fz 2
           try have r0 := KY4.out.c0
           try have r1 := KY4.out.c1
           try have r2 := KY4.out.c2
           try have z0 := KY4.out.fz 0
           try have z1 := KY4.out.fz 1
           try have z2 := KY4.out.fz 2
           have hlt4 := K4.out.lt
           have F := fun (gg : Nat) (hg : g1 ≠ gg) => And.intro ((put3_far w4 gg g1 0 (.bool false) (.int .i64 0) (.slice Ay ny cy) hg).trans K4.out.c0) (And.intro ((put3_far w4 gg g1 1 (.bool false) (.int .i64 0) (.slice Ay ny cy) hg).trans K4.out.c1) ((put3_far w4 gg g1 2 (.bool false) (.int .i64 0) (.slice Ay ny cy) hg).trans K4.out.c2))
           have S5a := F w2.heap.size (by omega)
           have S5b := F w3.heap.size (by omega)
           have HY4 := Lib.hid hy
           try have PA := Lib.hid (YPost.put (q := ⟨false, 11, 0⟩) B4.out (Nat.le_refl _) KZ4.out _ KZ3.out.lt hy)
           try have PA := Lib.hid (YPost.put (q := ⟨false, 11, 0⟩) B4.out B3.out.size KY4.out _ (Bx.new w3 false 0 none 0 0).lt hy)
           clear F b4 hy))
    all_goals
      go_wp2_with fail
      go_meet
      case rel => first | exact PA | exact Lib.hid (YPost.new (q := ⟨false, 11, 0⟩) B4.out (HY4.out.less (Nat.zero_le _)))
  generalize wc = w5 at *
  obtain ⟨⟨gy, Ay, ny, cy, rfl, rfl, ky, iy⟩, bly⟩ := hcut.out
  have By := Lib.hid bly; have Ky := Lib.hid ky; have Iy := Lib.hid iy
  clear bly ky iy hcut CI CA S0 D2 D2z KZ hlty
  simp only at Ky Iy
  replace KX := Lib.hid (KX.out.step By.out)
  replace IX := Lib.hid (IX.out.step By.out)
  replace BX := Lib.hid (below_step BX.out By.out)
  go_wp2_with fail
  have hltz := KX.out.lt
  have D2 := Lib.hid (bdr (Below.refl w5.heap.size w5)); have D2z := Lib.hid (bdr (one_below w5 (.cells #[.bool false, .int .i64 0, .slice none 0 0] 24)))
  have KZ := Lib.hid ((Bx.new w5 false 0 none 0 0).step (bdr (Below.refl _ _)))
  have CI := fun w4 (h : Below w5.heap.size w5 w4) => Lib.hid (int_k (w := w4) (2) k_2 (by omega) (by omega) (HT.out.below (below_step BX.out h)))
  have CA := fun w4 (A : Option Addr) (n c : Nat) (h : Below w5.heap.size w5 w4) (hi : Is w4 A n c (⟨false, 1, 1⟩ : Q).m) => Lib.hid (nmul_v (a := ⟨false, 3, 2⟩) (b := ⟨false, 1, 1⟩) (IX.out.step h) hi vx v2 (HT.out.below (below_step BX.out h)))
  rw [k_mul, res_ok zfit] at CA
  simp only at CA
  have S0 := And.intro KX.out.c0 (And.intro KX.out.c1 KX.out.c2)
  go_cut [5, 6] (fun up ue wx => Hid (YPost ⟨false, 3, 3⟩ up ue wx ∧ Below w5.heap.size w5 wx))
  case first =>
    go_region_held3 (fun w' => w'.cell? ⟨g1, 0, none⟩ = some (.bool false) ∧ w'.cell? ⟨g1, 1, none⟩ = some (.int .i64 2) ∧ w'.cell? ⟨g1, 2, none⟩ = some (.slice Ax nx cx))
      (first | exact S0 | assumption | go_keep)
      (first
        | (go_at_call 20
           refine (CI _ ?_).out.mono ?_
           · first | exact D2.out | exact D2z.out
           rintro _ w3 ⟨_, rfl, ⟨Ai, ni, ci, rfl, hi⟩, bi⟩
           have B3 : Hid (Below w5.heap.size w5 w3) := by first | exact Lib.hid (below_step D2.out bi) | exact Lib.hid (below_step D2z.out bi)
           have K3 := Lib.hid (KX.out.step B3.out)
           have S3 := And.intro K3.out.c0 (And.intro K3.out.c1 K3.out.c2)
           have HI3 := Lib.hid (show Is w3 Ai ni ci (⟨false, 1, 1⟩ : Q).m from hi.less (Nat.zero_le _))
           try have KZ3 := Lib.hid (KZ.out.step bi)
           have hlt3 := K3.out.lt
           clear bi hi)
        | (go_at_call 34
           refine (CA _ Ai ni ci ?_ ?_).out.mono ?_
           · first | exact B3.out | exact below_step B3.out (one_below _ _)
           · first | exact HI3.out | exact HI3.out.step (one_below _ _)
           rintro _ w4 ⟨_, rfl, ⟨Ay, ny, cy, rfl, hy⟩, b4⟩
           have B4 : Hid (Below w5.heap.size w5 w4) := by first | exact Lib.hid (below_step B3.out b4) | exact Lib.hid (below_step (below_step B3.out (one_below _ _)) b4)
           have K4 := Lib.hid (KX.out.step B4.out)
           have S4 := And.intro K4.out.c0 (And.intro K4.out.c1 K4.out.c2)
           try have KZ4 := Lib.hid (KZ3.out.step b4)
           try have KY4 := Lib.hid ((Bx.new w3 false 0 none 0 0).step b4)
           try have r0 := KZ4.out.c0
           try have r1 := KZ4.out.c1
           try have r2 := KZ4.out.c2
           try have z0 := KZ4.out.fz 0
           try have z1 := KZ4.out.fz 1
           try have z2 := KZ4.out.fz 2
           try have r0 := KY4.out.c0
           try have r1 := KY4.out.c1
           try have r2 := KY4.out.c2
           try have z0 := KY4.out.fz 0
           try have z1 := KY4.out.fz 1
           try have z2 := KY4.out.fz 2
           have hlt4 := K4.out.lt
           have F := fun (gg : Nat) (hg : g1 ≠ gg) => And.intro ((put3_far w4 gg g1 0 (.bool false) (.int .i64 3) (.slice Ay ny cy) hg).trans K4.out.c0) (And.intro ((put3_far w4 gg g1 1 (.bool false) (.int .i64 3) (.slice Ay ny cy) hg).trans K4.out.c1) ((put3_far w4 gg g1 2 (.bool false) (.int .i64 3) (.slice Ay ny cy) hg).trans K4.out.c2))
           have S5a := F w5.heap.size (by omega)
           have S5b := F w3.heap.size (by omega)
           have HY4 := Lib.hid hy
           try have PA := Lib.hid (YPost.put (q := ⟨false, 3, 3⟩) B4.out (Nat.le_refl _) KZ4.out _ KZ3.out.lt hy)
           try have PA := Lib.hid (YPost.put (q := ⟨false, 3, 3⟩) B4.out B3.out.size KY4.out _ (Bx.new w3 false 0 none 0 0).lt hy)
           clear F b4 hy))
    all_goals
      go_wp2_with fail
      go_meet
      case rel => first | exact PA | exact Lib.hid (YPost.new (q := ⟨false, 3, 3⟩) B4.out (HY4.out.less (Nat.zero_le _)))
  generalize wc = w6 at *
  obtain ⟨⟨gz, Az, nz, cz, rfl, rfl, kz, iz⟩, blz⟩ := hcut.out
  have Bz := Lib.hid blz; have Kz := Lib.hid kz; have Iz := Lib.hid iz
  clear blz kz iz hcut CI CA S0 D2 D2z KZ hltz
  simp only at Kz Iz
  replace KX := Lib.hid (KX.out.step Bz.out)
  replace IX := Lib.hid (IX.out.step Bz.out)
  replace BX := Lib.hid (below_step BX.out Bz.out)
  replace Ky := Lib.hid (Ky.out.step Bz.out)
  replace Iy := Lib.hid (Iy.out.step Bz.out)
  have CS := Lib.hid (nscale_v (a := ⟨false, 3, 2⟩) (-2) IX.out vx (HT.out.below BX.out))
  simp only at CS
  rw [k_scale, res_ok ufit] at CS
  have x0 := KX.out.c0; have x1 := KX.out.c1; have x2 := KX.out.c2
  go_wp2_with fail
  refine CS.out.mono ?_
  rintro _ w7 ⟨_, rfl, ⟨Au, nu, cu, rfl, hu⟩, bu⟩
  have ob := one_below w7 (.cells #[.bool false, .int .i64 0, .slice Au nu cu] 24)
  have Bu := Lib.hid (below_step bu ob)
  have Ku := Lib.hid (Bx.new w7 false 0 Au nu cu)
  have Iu := Lib.hid (Is.step (show Is w7 Au nu cu 3 from hu.less (Nat.zero_le _)) ob)
  replace KX := Lib.hid (KX.out.step Bu.out)
  replace IX := Lib.hid (IX.out.step Bu.out)
  replace BX := Lib.hid (below_step BX.out Bu.out)
  replace Ky := Lib.hid (Ky.out.step Bu.out)
  replace Iy := Lib.hid (Iy.out.step Bu.out)
  replace Kz := Lib.hid (Kz.out.step Bu.out)
  replace Iz := Lib.hid (Iz.out.step Bu.out)
  clear bu hu ob CS x0 x1 x2 Bu
  simp only
  go_wp2_with fail
  generalize hg2 : w7.heap.size = gu at *
  generalize w7.alloc (.cells #[.bool false, .int .i64 0, .slice Au nu cu] 24) = w8 at *
  clear hg2
  have hltv := KX.out.lt
  have D2 := Lib.hid (bdr (Below.refl w8.heap.size w8)); have D2z := Lib.hid (bdr (one_below w8 (.cells #[.bool false, .int .i64 0, .slice none 0 0] 24)))
  have KZ := Lib.hid ((Bx.new w8 false 0 none 0 0).step (bdr (Below.refl _ _)))
  have CI := fun w4 (h : Below w8.heap.size w8 w4) => Lib.hid (int_k (w := w4) (12) k_i12 (by omega) (by omega) (HT.out.below (below_step BX.out h)))
  have CA := fun w4 (A : Option Addr) (n c : Nat) (h : Below w8.heap.size w8 w4) (hi : Is w4 A n c (⟨false, 3, 2⟩ : Q).m) => Lib.hid (nsub_v (a := ⟨false, 3, 2⟩) (b := ⟨false, 3, 2⟩) (IX.out.step h) hi vx vx (HT.out.below (below_step BX.out h)))
  rw [k_sub, res_ok vfit] at CA
  simp only at CA
  have S0 := And.intro KX.out.c0 (And.intro KX.out.c1 KX.out.c2)
  go_cut [9, 10] (fun up ue wx => Hid (YPost ⟨false, 0, 0⟩ up ue wx ∧ Below w8.heap.size w8 wx))
  case first =>
    go_region_held3 (fun w' => w'.cell? ⟨g1, 0, none⟩ = some (.bool false) ∧ w'.cell? ⟨g1, 1, none⟩ = some (.int .i64 2) ∧ w'.cell? ⟨g1, 2, none⟩ = some (.slice Ax nx cx))
      (first | exact S0 | assumption | go_keep)
      (first
        | (go_at_call 20
           refine (CI _ ?_).out.mono ?_
           · first | exact D2.out | exact D2z.out
           rintro _ w3 ⟨_, rfl, ⟨Ai, ni, ci, rfl, hi⟩, bi⟩
           have B3 : Hid (Below w8.heap.size w8 w3) := by first | exact Lib.hid (below_step D2.out bi) | exact Lib.hid (below_step D2z.out bi)
           have K3 := Lib.hid (KX.out.step B3.out)
           have S3 := And.intro K3.out.c0 (And.intro K3.out.c1 K3.out.c2)
           have HI3 := Lib.hid (show Is w3 Ai ni ci (⟨false, 3, 2⟩ : Q).m from hi.less (Nat.zero_le _))
           try have KZ3 := Lib.hid (KZ.out.step bi)
           have hlt3 := K3.out.lt
           clear bi hi)
        | (go_at_call 33
           refine (CA _ Ai ni ci ?_ ?_).out.mono ?_
           · first | exact B3.out | exact below_step B3.out (one_below _ _)
           · first | exact HI3.out | exact HI3.out.step (one_below _ _)
           rintro _ w4 ⟨_, rfl, ⟨Ay, ny, cy, rfl, hy⟩, b4⟩
           have B4 : Hid (Below w8.heap.size w8 w4) := by first | exact Lib.hid (below_step B3.out b4) | exact Lib.hid (below_step (below_step B3.out (one_below _ _)) b4)
           have K4 := Lib.hid (KX.out.step B4.out)
           have S4 := And.intro K4.out.c0 (And.intro K4.out.c1 K4.out.c2)
           try have KZ4 := Lib.hid (KZ3.out.step b4)
           try have KY4 := Lib.hid ((Bx.new w3 false 0 none 0 0).step b4)
           try have r0 := KZ4.out.c0
           try have r1 := KZ4.out.c1
           try have r2 := KZ4.out.c2
           try have z0 := KZ4.out.fz 0
           try have z1 := KZ4.out.fz 1
           try have z2 := KZ4.out.fz 2
           try have r0 := KY4.out.c0
           try have r1 := KY4.out.c1
           try have r2 := KY4.out.c2
           try have z0 := KY4.out.fz 0
           try have z1 := KY4.out.fz 1
           try have z2 := KY4.out.fz 2
           have hlt4 := K4.out.lt
           have F := fun (gg : Nat) (hg : g1 ≠ gg) => And.intro ((put3_far w4 gg g1 0 (.bool false) (.int .i64 0) (.slice Ay ny cy) hg).trans K4.out.c0) (And.intro ((put3_far w4 gg g1 1 (.bool false) (.int .i64 0) (.slice Ay ny cy) hg).trans K4.out.c1) ((put3_far w4 gg g1 2 (.bool false) (.int .i64 0) (.slice Ay ny cy) hg).trans K4.out.c2))
           have S5a := F w8.heap.size (by omega)
           have S5b := F w3.heap.size (by omega)
           have HY4 := Lib.hid hy
           try have PA := Lib.hid (YPost.put (q := ⟨false, 0, 0⟩) B4.out (Nat.le_refl _) KZ4.out _ KZ3.out.lt hy)
           try have PA := Lib.hid (YPost.put (q := ⟨false, 0, 0⟩) B4.out B3.out.size KY4.out _ (Bx.new w3 false 0 none 0 0).lt hy)
           clear F b4 hy))
    all_goals
      go_wp2_with fail
      go_meet
      case rel => first | exact PA | exact Lib.hid (YPost.new (q := ⟨false, 0, 0⟩) B4.out (HY4.out.less (Nat.zero_le _)))
  generalize wc = w9 at *
  obtain ⟨⟨gv, Av, nv, cv, rfl, rfl, kv, iv⟩, blv⟩ := hcut.out
  have Bv := Lib.hid blv; have Kv := Lib.hid kv; have Iv := Lib.hid iv
  clear blv kv iv hcut CI CA S0 D2 D2z KZ hltv
  simp only at Kv Iv
  replace KX := Lib.hid (KX.out.step Bv.out)
  replace IX := Lib.hid (IX.out.step Bv.out)
  replace BX := Lib.hid (below_step BX.out Bv.out)
  replace Ky := Lib.hid (Ky.out.step Bv.out)
  replace Iy := Lib.hid (Iy.out.step Bv.out)
  replace Kz := Lib.hid (Kz.out.step Bv.out)
  replace Iz := Lib.hid (Iz.out.step Bv.out)
  replace Ku := Lib.hid (Ku.out.step Bv.out)
  replace Iu := Lib.hid (Iu.out.step Bv.out)
  clear By Bz Bv
  go_wp2_with fail
  refine known_last (g1 := g1) (gy := gy) (gz := gz) (gu := gu) (gv := gv) (by kernel_rfl) (fun _ _ _ _ _ h => h) KX.out IX.out Ky.out Iy.out Kz.out Iz.out Ku.out Iu.out Kv.out Iv.out (HT.out.below BX.out) ?_ ⟨rfl, rfl, ?_⟩
  · intro a' w' hd h0 hBw
    go_wp2
    refine bodyPost_ret (results_tmp rfl _ _ _) hd ?_
    exact ⟨congrArg Ending.returned h0, below_step BX.out hBw⟩
  · intro t v hmem
    simp only [List.mem_cons, Prod.mk.injEq, List.not_mem_nil, or_false] at hmem
    rcases hmem with ⟨rfl, rfl⟩ | ⟨rfl, rfl⟩ | ⟨rfl, rfl⟩ | ⟨rfl, rfl⟩ | ⟨rfl, rfl⟩ | ⟨rfl, rfl⟩ | ⟨rfl, rfl⟩ | ⟨rfl, rfl⟩ | ⟨rfl, rfl⟩ | ⟨rfl, rfl⟩ <;> rfl
end Go.Proofs.YtimkifkikcohgaaDoor
