/- known's last statement, operation by operation. -/
import Derived.Test.YtimkifkikcohgaaDoorKn
import Derived.Test.YtimkifkikcohgaaDoorNumK0
namespace Go.Proofs.YtimkifkikcohgaaDoor
open Go.RowKit Nx

theorem Kno.nil {s : Nat} {a : Act} {l : List (Nat × Value)} (h : Kno s a l) : Kno s a [] := ⟨h.1, h.2.1, fun _ _ hm => by cases hm⟩
theorem Kno.add {s : Nat} {a : Act} {l l' : List (Nat × Value)} {t : Nat} {v : Value} (h' : Kno s a l') (h : Kno s a l) (hm : (t, v) ∈ l) : Kno s a ((t, v) :: l') := ⟨h.1, h.2.1, fun t' v' hm' => by
  rcases List.mem_cons.1 hm' with e | e
  · injection e with e1 e2
    subst e1; subst e2
    exact h.2.2 _ _ hm
  · exact h'.2.2 t' v' e⟩
theorem sameT {w : World} {A B : Option Addr} {n c m d : Nat} (h : Is w A n c 3) (h' : Is w B m d 3) (v : Valid ⟨false, 3, 0⟩) : Calls Tryd.prog 16 #[.agg #[.bool false, .int .i64 0, .slice A n c], .agg #[.bool false, .int .i64 0, .slice B m d]] w (BoolPost w true) := by
  have := nsame_v (a := ⟨false, 3, 0⟩) (b := ⟨false, 3, 0⟩) h h' v v
  rwa [sameb_self] at this
theorem zeroT {w : World} {A : Option Addr} {n c : Nat} (h : Is w A n c 0) : Calls Tryd.prog 42 #[.agg #[.bool false, .int .i64 0, .slice A n c]] w (BoolPost w true) := by
  have := zero_v (a := q0) h valid0
  rwa [decide_eq_true rfl] at this
theorem signT {w : World} {A : Option Addr} {n c : Nat} (h : Is w A n c 1) : Calls Tryd.prog 26 #[.agg #[.bool true, .int .i64 2, .slice A n c]] w (IPost w (-1)) := nsign_v (a := ⟨true, 1, 2⟩) h vm4
theorem cmpT {w : World} {A B : Option Addr} {n c m d : Nat} (h : Is w A n c 3) (h' : Is w B m d 3) : Calls Tryd.prog 23 #[.agg #[.bool false, .int .i64 2, .slice A n c], .agg #[.bool false, .int .i64 3, .slice B m d]] w (IPost w (-1)) := by
  have := ncmp_v (a := ⟨false, 3, 2⟩) (b := ⟨false, 3, 3⟩) h h' vx vz
  rwa [k_cmp] at this
theorem negT {w : World} {A : Option Addr} {n c : Nat} (h : Is w A n c 1) : Calls Tryd.prog 27 #[.agg #[.bool false, .int .i64 0, .slice A n c]] w (NumPost1 w ⟨true, 1, 0⟩) := nneg_v (a := ⟨false, 1, 0⟩) h v1
theorem absT {w : World} {A : Option Addr} {n c : Nat} (h : Is w A n c 1) : Calls Tryd.prog 29 #[.agg #[.bool true, .int .i64 0, .slice A n c]] w (NumPost1 w ⟨false, 1, 0⟩) := nabs_v (a := ⟨true, 1, 0⟩) h vm1

set_option maxRecDepth 100000 in
set_option maxHeartbeats 4000000 in
theorem kpart8 {Q : Exit → Act → World → Prop} (hQ : ∀ c a (d : Tmp) v w, Q (.panic c) (a.put (some d) v) w → Q (.panic c) a w) {w9 : World} {g1 gy gz gu gv : Nat} {Ax Ay Az Au Av : Option Addr} {nx cx ny cy nz cz nu cu nv cv : Nat}
    (kx : Bx w9 g1 false 2 Ax nx cx) (ix : Is w9 Ax nx cx 3) (ky : Bx w9 gy false 0 Ay ny cy) (iy : Is w9 Ay ny cy 11) (kz : Bx w9 gz false 3 Az nz cz) (iz : Is w9 Az nz cz 3) (ku : Bx w9 gu false 0 Au nu cu) (iu : Is w9 Au nu cu 3) (kv : Bx w9 gv false 0 Av nv cv) (iv : Is w9 Av nv cv 0) (ht : Tab w9)
    (hend : ∀ a' w', a'.defers = [] → a'.eval (.tmp 0) = .bool true → Below w9.heap.size w9 w' → Q .normal a' w') {W : World} (hW : Below w9.heap.size w9 W) {a : Act} (hk : Kno 126 a [(125, .bool true)]) :
    wpAnyH Tryd.prog .any (endOf Tryd.f12) Q (fun w => Below w9.heap.size w9 w) 1 (doneOf 88 87) a W := by
  have hS : Region.noSelect (endOf Tryd.f12) = true := by kernel_rfl
  have _ := And.intro hS (And.intro hQ (And.intro kx (And.intro ix (And.intro ky (And.intro iy (And.intro kz (And.intro iz (And.intro ku (And.intro iu (And.intro kv (And.intro iv (And.intro ht hend))))))))))))
  refine kh_take 87 0 (.bool true) hk hS (by kernel_rfl) (by kernel_rfl) (by kernel_rfl) (by kernel_rfl) (by kernel_rfl) (L' := doneOf 88 88) hQ (want_none (by kernel_rfl)) (fun W _ => z_assign (by kernel_rfl) (hk.ev (.head _))) hW (by decide) rfl ?_
  intro a87 k87
  exact wpAnyH_done (by kernel_rfl) (hend _ _ k87.2.1 (k87.ev (.head _)) hW) _

set_option maxRecDepth 100000 in
set_option maxHeartbeats 4000000 in
theorem kpart7 {Q : Exit → Act → World → Prop} (hQ : ∀ c a (d : Tmp) v w, Q (.panic c) (a.put (some d) v) w → Q (.panic c) a w) {w9 : World} {g1 gy gz gu gv : Nat} {Ax Ay Az Au Av : Option Addr} {nx cx ny cy nz cz nu cu nv cv : Nat}
    (kx : Bx w9 g1 false 2 Ax nx cx) (ix : Is w9 Ax nx cx 3) (ky : Bx w9 gy false 0 Ay ny cy) (iy : Is w9 Ay ny cy 11) (kz : Bx w9 gz false 3 Az nz cz) (iz : Is w9 Az nz cz 3) (ku : Bx w9 gu false 0 Au nu cu) (iu : Is w9 Au nu cu 3) (kv : Bx w9 gv false 0 Av nv cv) (iv : Is w9 Av nv cv 0) (ht : Tab w9)
    (hend : ∀ a' w', a'.defers = [] → a'.eval (.tmp 0) = .bool true → Below w9.heap.size w9 w' → Q .normal a' w') {W : World} (hW : Below w9.heap.size w9 W) {a : Act} (hk : Kno 126 a [(112, .bool true)]) :
    wpAnyH Tryd.prog .any (endOf Tryd.f12) Q (fun w => Below w9.heap.size w9 w) 14 (doneOf 88 74) a W := by
  have hS : Region.noSelect (endOf Tryd.f12) = true := by kernel_rfl
  have _ := And.intro hS (And.intro hQ (And.intro kx (And.intro ix (And.intro ky (And.intro iy (And.intro kz (And.intro iz (And.intro ku (And.intro iu (And.intro kv (And.intro iv (And.intro ht hend))))))))))))
  refine kh_take 74 113 (.bool true) hk hS (by kernel_rfl) (by kernel_rfl) (by kernel_rfl) (by kernel_rfl) (by kernel_rfl) (L' := doneOf 88 75) hQ (want_none (by kernel_rfl)) (fun W _ => z_move (by kernel_rfl) (hk.ev (.head _))) hW (by decide) rfl ?_
  intro a74 k74
  refine kh_call 75 114 #[] _ k74 (by kernel_rfl) (by kernel_rfl) (by kernel_rfl) (by kernel_rfl) (L' := doneOf 88 76) (want_if (j := 74) (d := 113) (by kernel_rfl) (by kernel_rfl) (k74.2.2 _ _ (.head _))) (z_call1 (ty := #[2]) (x := .const (.int .i64 (-1))) en_int (by kernel_rfl) rfl rfl) (by decide) rfl (Calls.mono (int_k (-1) k_m1 (by omega) (by omega) (ht.below hW)) ?_)
  rintro _ W12 ⟨_, rfl, ⟨Ar12, nr12, cr12, rfl, hr12⟩, b12⟩
  have hW12 := below_step hW b12
  refine ⟨_, rfl, hW12, ?_⟩
  intro a75 k75
  refine kh_call 76 115 #[] _ k75 (by kernel_rfl) (by kernel_rfl) (by kernel_rfl) (by kernel_rfl) (L' := doneOf 88 77) (want_if (j := 74) (d := 113) (by kernel_rfl) (by kernel_rfl) (k75.2.2 _ _ (.tail _ (.head _)))) (z_call1 (ty := #[24]) (x := .tmp 114) en_abs (by kernel_rfl) rfl (k75.ev (.head _))) (by decide) rfl (Calls.mono (absT (num_is hr12)) ?_)
  rintro _ W13 ⟨_, rfl, ⟨Ar13, nr13, cr13, rfl, hr13⟩, b13⟩
  have hW13 := below_step hW12 b13
  refine ⟨_, rfl, hW13, ?_⟩
  intro a76 k76
  refine kh_take 77 116 (.bool false) k76 hS (by kernel_rfl) (by kernel_rfl) (by kernel_rfl) (by kernel_rfl) (by kernel_rfl) (L' := doneOf 88 78) hQ (want_if (j := 74) (d := 113) (by kernel_rfl) (by kernel_rfl) (k76.2.2 _ _ (.tail _ (.tail _ (.head _))))) (fun W _ => z_field0 (by kernel_rfl) (k76.ev (.head _))) hW13 (by decide) rfl ?_
  intro a77 k77
  refine kh_take 78 117 (.bool true) k77 hS (by kernel_rfl) (by kernel_rfl) (by kernel_rfl) (by kernel_rfl) (by kernel_rfl) (L' := doneOf 88 79) hQ (want_if (j := 74) (d := 113) (by kernel_rfl) (by kernel_rfl) (k77.2.2 _ _ (.tail _ (.tail _ (.tail _ (.head _)))))) (fun W _ => z_not (by kernel_rfl) (k77.ev (.head _))) hW13 (by decide) rfl ?_
  intro a78 k78
  refine kh_take 79 118 (.bool true) k78 hS (by kernel_rfl) (by kernel_rfl) (by kernel_rfl) (by kernel_rfl) (by kernel_rfl) (L' := doneOf 88 80) hQ (want_none (by kernel_rfl)) (fun W _ => z_pick (y := .const (.bool false)) (by kernel_rfl) (k78.ev (.tail _ (.tail _ (.tail _ (.tail _ (.head _)))))) (k78.ev (.head _))) hW13 (by decide) rfl ?_
  intro a79 k79
  refine kh_take 80 119 (.bool true) k79 hS (by kernel_rfl) (by kernel_rfl) (by kernel_rfl) (by kernel_rfl) (by kernel_rfl) (L' := doneOf 88 81) hQ (want_none (by kernel_rfl)) (fun W _ => z_move (by kernel_rfl) (k79.ev (.head _))) hW13 (by decide) rfl ?_
  intro a80 k80
  refine kh_call 81 120 #[] _ k80 (by kernel_rfl) (by kernel_rfl) (by kernel_rfl) (by kernel_rfl) (L' := doneOf 88 82) (want_if (j := 80) (d := 119) (by kernel_rfl) (by kernel_rfl) (k80.2.2 _ _ (.head _))) (z_call1 (ty := #[2]) (x := .const (.int .i64 (-1))) en_int (by kernel_rfl) rfl rfl) (by decide) rfl (Calls.mono (int_k (-1) k_m1 (by omega) (by omega) (ht.below hW13)) ?_)
  rintro _ W14 ⟨_, rfl, ⟨Ar14, nr14, cr14, rfl, hr14⟩, b14⟩
  have hW14 := below_step hW13 b14
  refine ⟨_, rfl, hW14, ?_⟩
  intro a81 k81
  refine kh_call 82 121 #[] _ k81 (by kernel_rfl) (by kernel_rfl) (by kernel_rfl) (by kernel_rfl) (L' := doneOf 88 83) (want_if (j := 80) (d := 119) (by kernel_rfl) (by kernel_rfl) (k81.2.2 _ _ (.tail _ (.head _)))) (z_call1 (ty := #[24]) (x := .tmp 120) en_abs (by kernel_rfl) rfl (k81.ev (.head _))) (by decide) rfl (Calls.mono (absT (num_is hr14)) ?_)
  rintro _ W15 ⟨_, rfl, ⟨Ar15, nr15, cr15, rfl, hr15⟩, b15⟩
  have hW15 := below_step hW14 b15
  refine ⟨_, rfl, hW15, ?_⟩
  intro a82 k82
  obtain rfl : nr15 = 1 := is_one (v := 1) (num_is hr15) (by unfold B64; omega) (by omega)
  refine kh_take 83 122 (.slice Ar15 1 cr15) k82 hS (by kernel_rfl) (by kernel_rfl) (by kernel_rfl) (by kernel_rfl) (by kernel_rfl) (L' := doneOf 88 84) hQ (want_if (j := 80) (d := 119) (by kernel_rfl) (by kernel_rfl) (k82.2.2 _ _ (.tail _ (.tail _ (.head _))))) (fun W _ => z_field2 (by kernel_rfl) (k82.ev (.head _))) hW15 (by decide) rfl ?_
  intro a83 k83
  refine kh_take 84 123 (.int .i64 ((1 : Nat) : Int)) k83 hS (by kernel_rfl) (by kernel_rfl) (by kernel_rfl) (by kernel_rfl) (by kernel_rfl) (L' := doneOf 88 85) hQ (want_if (j := 80) (d := 119) (by kernel_rfl) (by kernel_rfl) (k83.2.2 _ _ (.tail _ (.tail _ (.tail _ (.head _)))))) (fun W _ => z_len (n := 1) (by kernel_rfl) (k83.ev (.head _))) hW15 (by decide) rfl ?_
  intro a84 k84
  refine kh_take 85 124 (.bool true) k84 hS (by kernel_rfl) (by kernel_rfl) (by kernel_rfl) (by kernel_rfl) (by kernel_rfl) (L' := doneOf 88 86) hQ (want_if (j := 80) (d := 119) (by kernel_rfl) (by kernel_rfl) (k84.2.2 _ _ (.tail _ (.tail _ (.tail _ (.tail _ (.head _))))))) (fun W _ => z_eql (.inr (.inl rfl)) (by kernel_rfl) rfl (k84.ev (.head _))) hW15 (by decide) rfl ?_
  intro a85 k85
  refine kh_take 86 125 (.bool true) k85 hS (by kernel_rfl) (by kernel_rfl) (by kernel_rfl) (by kernel_rfl) (by kernel_rfl) (L' := doneOf 88 87) hQ (want_none (by kernel_rfl)) (fun W _ => z_pick (y := .const (.bool false)) (by kernel_rfl) (k85.ev (.tail _ (.tail _ (.tail _ (.tail _ (.tail _ (.head _))))))) (k85.ev (.head _))) hW15 (by decide) rfl ?_
  intro a86 k86
  exact kpart8 hQ kx ix ky iy kz iz ku iu kv iv ht hend hW15 (k86.nil.add k86 (.head _))

set_option maxRecDepth 100000 in
set_option maxHeartbeats 4000000 in
theorem kpart6 {Q : Exit → Act → World → Prop} (hQ : ∀ c a (d : Tmp) v w, Q (.panic c) (a.put (some d) v) w → Q (.panic c) a w) {w9 : World} {g1 gy gz gu gv : Nat} {Ax Ay Az Au Av : Option Addr} {nx cx ny cy nz cz nu cu nv cv : Nat}
    (kx : Bx w9 g1 false 2 Ax nx cx) (ix : Is w9 Ax nx cx 3) (ky : Bx w9 gy false 0 Ay ny cy) (iy : Is w9 Ay ny cy 11) (kz : Bx w9 gz false 3 Az nz cz) (iz : Is w9 Az nz cz 3) (ku : Bx w9 gu false 0 Au nu cu) (iu : Is w9 Au nu cu 3) (kv : Bx w9 gv false 0 Av nv cv) (iv : Is w9 Av nv cv 0) (ht : Tab w9)
    (hend : ∀ a' w', a'.defers = [] → a'.eval (.tmp 0) = .bool true → Below w9.heap.size w9 w' → Q .normal a' w') {W : World} (hW : Below w9.heap.size w9 W) {a : Act} (hk : Kno 126 a [(1, .pointer (some ⟨g1, 0, none⟩)), (5, .pointer (some ⟨gz, 0, none⟩)), (101, .bool true)]) :
    wpAnyH Tryd.prog .any (endOf Tryd.f12) Q (fun w => Below w9.heap.size w9 w) 25 (doneOf 88 63) a W := by
  have hS : Region.noSelect (endOf Tryd.f12) = true := by kernel_rfl
  have _ := And.intro hS (And.intro hQ (And.intro kx (And.intro ix (And.intro ky (And.intro iy (And.intro kz (And.intro iz (And.intro ku (And.intro iu (And.intro kv (And.intro iv (And.intro ht hend))))))))))))
  refine kh_take 63 102 (.bool true) hk hS (by kernel_rfl) (by kernel_rfl) (by kernel_rfl) (by kernel_rfl) (by kernel_rfl) (L' := doneOf 88 64) hQ (want_none (by kernel_rfl)) (fun W _ => z_move (by kernel_rfl) (hk.ev (.tail _ (.tail _ (.head _))))) hW (by decide) rfl ?_
  intro a63 k63
  refine kh_take 64 103 (.agg #[.bool false, .int .i64 2, .slice Ax nx cx]) k63 hS (by kernel_rfl) (by kernel_rfl) (by kernel_rfl) (by kernel_rfl) (by kernel_rfl) (L' := doneOf 88 65) hQ (want_if (j := 63) (d := 102) (by kernel_rfl) (by kernel_rfl) (k63.2.2 _ _ (.head _))) (fun W h => z_load3 (by kernel_rfl) (k63.ev (.tail _ (.head _))) (kx.step h)) hW (by decide) rfl ?_
  intro a64 k64
  refine kh_take 65 104 (.agg #[.bool false, .int .i64 3, .slice Az nz cz]) k64 hS (by kernel_rfl) (by kernel_rfl) (by kernel_rfl) (by kernel_rfl) (by kernel_rfl) (L' := doneOf 88 66) hQ (want_if (j := 63) (d := 102) (by kernel_rfl) (by kernel_rfl) (k64.2.2 _ _ (.tail _ (.head _)))) (fun W h => z_load3 (by kernel_rfl) (k64.ev (.tail _ (.tail _ (.tail _ (.head _))))) (kz.step h)) hW (by decide) rfl ?_
  intro a65 k65
  refine kh_call 66 105 #[] _ k65 (by kernel_rfl) (by kernel_rfl) (by kernel_rfl) (by kernel_rfl) (L' := doneOf 88 67) (want_if (j := 63) (d := 102) (by kernel_rfl) (by kernel_rfl) (k65.2.2 _ _ (.tail _ (.tail _ (.head _))))) (z_call2 (ty := #[24, 24]) (x := .tmp 103) (y := .tmp 104) en_cmp (by kernel_rfl) rfl (k65.ev (.tail _ (.head _))) (k65.ev (.head _))) (by decide) rfl (Calls.mono (cmpT (ix.step hW) (iz.step hW)) ?_)
  rintro _ W9 ⟨rfl, b9⟩
  have hW9 := below_step hW b9
  refine ⟨_, rfl, hW9, ?_⟩
  intro a66 k66
  refine kh_take 67 106 (.bool true) k66 hS (by kernel_rfl) (by kernel_rfl) (by kernel_rfl) (by kernel_rfl) (by kernel_rfl) (L' := doneOf 88 68) hQ (want_if (j := 63) (d := 102) (by kernel_rfl) (by kernel_rfl) (k66.2.2 _ _ (.tail _ (.tail _ (.tail _ (.head _)))))) (fun W _ => z_eql (.inr (.inl rfl)) (by kernel_rfl) rfl (k66.ev (.head _))) hW9 (by decide) rfl ?_
  intro a67 k67
  refine kh_take 68 107 (.bool true) k67 hS (by kernel_rfl) (by kernel_rfl) (by kernel_rfl) (by kernel_rfl) (by kernel_rfl) (L' := doneOf 88 69) hQ (want_none (by kernel_rfl)) (fun W _ => z_pick (y := .const (.bool false)) (by kernel_rfl) (k67.ev (.tail _ (.tail _ (.tail _ (.tail _ (.head _)))))) (k67.ev (.head _))) hW9 (by decide) rfl ?_
  intro a68 k68
  refine kh_take 69 108 (.bool true) k68 hS (by kernel_rfl) (by kernel_rfl) (by kernel_rfl) (by kernel_rfl) (by kernel_rfl) (L' := doneOf 88 70) hQ (want_none (by kernel_rfl)) (fun W _ => z_move (by kernel_rfl) (k68.ev (.head _))) hW9 (by decide) rfl ?_
  intro a69 k69
  refine kh_call 70 109 #[] _ k69 (by kernel_rfl) (by kernel_rfl) (by kernel_rfl) (by kernel_rfl) (L' := doneOf 88 71) (want_if (j := 69) (d := 108) (by kernel_rfl) (by kernel_rfl) (k69.2.2 _ _ (.head _))) (z_call1 (ty := #[2]) (x := .const (.int .i64 (1))) en_int (by kernel_rfl) rfl rfl) (by decide) rfl (Calls.mono (int_k (1) k_1 (by omega) (by omega) (ht.below hW9)) ?_)
  rintro _ W10 ⟨_, rfl, ⟨Ar10, nr10, cr10, rfl, hr10⟩, b10⟩
  have hW10 := below_step hW9 b10
  refine ⟨_, rfl, hW10, ?_⟩
  intro a70 k70
  refine kh_call 71 110 #[] _ k70 (by kernel_rfl) (by kernel_rfl) (by kernel_rfl) (by kernel_rfl) (L' := doneOf 88 72) (want_if (j := 69) (d := 108) (by kernel_rfl) (by kernel_rfl) (k70.2.2 _ _ (.tail _ (.head _)))) (z_call1 (ty := #[24]) (x := .tmp 109) en_neg (by kernel_rfl) rfl (k70.ev (.head _))) (by decide) rfl (Calls.mono (negT (num_is hr10)) ?_)
  rintro _ W11 ⟨_, rfl, ⟨Ar11, nr11, cr11, rfl, hr11⟩, b11⟩
  have hW11 := below_step hW10 b11
  refine ⟨_, rfl, hW11, ?_⟩
  intro a71 k71
  refine kh_take 72 111 (.bool true) k71 hS (by kernel_rfl) (by kernel_rfl) (by kernel_rfl) (by kernel_rfl) (by kernel_rfl) (L' := doneOf 88 73) hQ (want_if (j := 69) (d := 108) (by kernel_rfl) (by kernel_rfl) (k71.2.2 _ _ (.tail _ (.tail _ (.head _))))) (fun W _ => z_field0 (by kernel_rfl) (k71.ev (.head _))) hW11 (by decide) rfl ?_
  intro a72 k72
  refine kh_take 73 112 (.bool true) k72 hS (by kernel_rfl) (by kernel_rfl) (by kernel_rfl) (by kernel_rfl) (by kernel_rfl) (L' := doneOf 88 74) hQ (want_none (by kernel_rfl)) (fun W _ => z_pick (y := .const (.bool false)) (by kernel_rfl) (k72.ev (.tail _ (.tail _ (.tail _ (.head _))))) (k72.ev (.head _))) hW11 (by decide) rfl ?_
  intro a73 k73
  exact kpart7 hQ kx ix ky iy kz iz ku iu kv iv ht hend hW11 (k73.nil.add k73 (.head _))

set_option maxRecDepth 100000 in
set_option maxHeartbeats 4000000 in
theorem kpart5 {Q : Exit → Act → World → Prop} (hQ : ∀ c a (d : Tmp) v w, Q (.panic c) (a.put (some d) v) w → Q (.panic c) a w) {w9 : World} {g1 gy gz gu gv : Nat} {Ax Ay Az Au Av : Option Addr} {nx cx ny cy nz cz nu cu nv cv : Nat}
    (kx : Bx w9 g1 false 2 Ax nx cx) (ix : Is w9 Ax nx cx 3) (ky : Bx w9 gy false 0 Ay ny cy) (iy : Is w9 Ay ny cy 11) (kz : Bx w9 gz false 3 Az nz cz) (iz : Is w9 Az nz cz 3) (ku : Bx w9 gu false 0 Au nu cu) (iu : Is w9 Au nu cu 3) (kv : Bx w9 gv false 0 Av nv cv) (iv : Is w9 Av nv cv 0) (ht : Tab w9)
    (hend : ∀ a' w', a'.defers = [] → a'.eval (.tmp 0) = .bool true → Below w9.heap.size w9 w' → Q .normal a' w') {W : World} (hW : Below w9.heap.size w9 W) {a : Act} (hk : Kno 126 a [(1, .pointer (some ⟨g1, 0, none⟩)), (5, .pointer (some ⟨gz, 0, none⟩)), (9, .pointer (some ⟨gv, 0, none⟩)), (92, .bool true)]) :
    wpAnyH Tryd.prog .any (endOf Tryd.f12) Q (fun w => Below w9.heap.size w9 w) 34 (doneOf 88 54) a W := by
  have hS : Region.noSelect (endOf Tryd.f12) = true := by kernel_rfl
  have _ := And.intro hS (And.intro hQ (And.intro kx (And.intro ix (And.intro ky (And.intro iy (And.intro kz (And.intro iz (And.intro ku (And.intro iu (And.intro kv (And.intro iv (And.intro ht hend))))))))))))
  refine kh_take 54 93 (.bool true) hk hS (by kernel_rfl) (by kernel_rfl) (by kernel_rfl) (by kernel_rfl) (by kernel_rfl) (L' := doneOf 88 55) hQ (want_none (by kernel_rfl)) (fun W _ => z_move (by kernel_rfl) (hk.ev (.tail _ (.tail _ (.tail _ (.head _)))))) hW (by decide) rfl ?_
  intro a54 k54
  refine kh_take 55 94 (.agg #[.bool false, .int .i64 0, .slice Av nv cv]) k54 hS (by kernel_rfl) (by kernel_rfl) (by kernel_rfl) (by kernel_rfl) (by kernel_rfl) (L' := doneOf 88 56) hQ (want_if (j := 54) (d := 93) (by kernel_rfl) (by kernel_rfl) (k54.2.2 _ _ (.head _))) (fun W h => z_load3 (by kernel_rfl) (k54.ev (.tail _ (.tail _ (.tail _ (.head _))))) (kv.step h)) hW (by decide) rfl ?_
  intro a55 k55
  refine kh_call 56 95 #[] _ k55 (by kernel_rfl) (by kernel_rfl) (by kernel_rfl) (by kernel_rfl) (L' := doneOf 88 57) (want_if (j := 54) (d := 93) (by kernel_rfl) (by kernel_rfl) (k55.2.2 _ _ (.tail _ (.head _)))) (z_call1 (ty := #[24]) (x := .tmp 94) en_zero (by kernel_rfl) rfl (k55.ev (.head _))) (by decide) rfl (Calls.mono (zeroT (iv.step hW)) ?_)
  rintro _ W6 ⟨rfl, b6⟩
  have hW6 := below_step hW b6
  refine ⟨_, rfl, hW6, ?_⟩
  intro a56 k56
  refine kh_take 57 96 (.bool true) k56 hS (by kernel_rfl) (by kernel_rfl) (by kernel_rfl) (by kernel_rfl) (by kernel_rfl) (L' := doneOf 88 58) hQ (want_none (by kernel_rfl)) (fun W _ => z_pick (y := .const (.bool false)) (by kernel_rfl) (k56.ev (.tail _ (.tail _ (.head _)))) (k56.ev (.head _))) hW6 (by decide) rfl ?_
  intro a57 k57
  refine kh_take 58 97 (.bool true) k57 hS (by kernel_rfl) (by kernel_rfl) (by kernel_rfl) (by kernel_rfl) (by kernel_rfl) (L' := doneOf 88 59) hQ (want_none (by kernel_rfl)) (fun W _ => z_move (by kernel_rfl) (k57.ev (.head _))) hW6 (by decide) rfl ?_
  intro a58 k58
  refine kh_call 59 98 #[] _ k58 (by kernel_rfl) (by kernel_rfl) (by kernel_rfl) (by kernel_rfl) (L' := doneOf 88 60) (want_if (j := 58) (d := 97) (by kernel_rfl) (by kernel_rfl) (k58.2.2 _ _ (.head _))) (z_call1 (ty := #[2]) (x := .const (.int .i64 (-4))) en_int (by kernel_rfl) rfl rfl) (by decide) rfl (Calls.mono (int_k (-4) k_m4 (by omega) (by omega) (ht.below hW6)) ?_)
  rintro _ W7 ⟨_, rfl, ⟨Ar7, nr7, cr7, rfl, hr7⟩, b7⟩
  have hW7 := below_step hW6 b7
  refine ⟨_, rfl, hW7, ?_⟩
  intro a59 k59
  refine kh_call 60 99 #[] _ k59 (by kernel_rfl) (by kernel_rfl) (by kernel_rfl) (by kernel_rfl) (L' := doneOf 88 61) (want_if (j := 58) (d := 97) (by kernel_rfl) (by kernel_rfl) (k59.2.2 _ _ (.tail _ (.head _)))) (z_call1 (ty := #[24]) (x := .tmp 98) en_sign (by kernel_rfl) rfl (k59.ev (.head _))) (by decide) rfl (Calls.mono (signT (num_is hr7)) ?_)
  rintro _ W8 ⟨rfl, b8⟩
  have hW8 := below_step hW7 b8
  refine ⟨_, rfl, hW8, ?_⟩
  intro a60 k60
  refine kh_take 61 100 (.bool true) k60 hS (by kernel_rfl) (by kernel_rfl) (by kernel_rfl) (by kernel_rfl) (by kernel_rfl) (L' := doneOf 88 62) hQ (want_if (j := 58) (d := 97) (by kernel_rfl) (by kernel_rfl) (k60.2.2 _ _ (.tail _ (.tail _ (.head _))))) (fun W _ => z_eql (.inr (.inl rfl)) (by kernel_rfl) rfl (k60.ev (.head _))) hW8 (by decide) rfl ?_
  intro a61 k61
  refine kh_take 62 101 (.bool true) k61 hS (by kernel_rfl) (by kernel_rfl) (by kernel_rfl) (by kernel_rfl) (by kernel_rfl) (L' := doneOf 88 63) hQ (want_none (by kernel_rfl)) (fun W _ => z_pick (y := .const (.bool false)) (by kernel_rfl) (k61.ev (.tail _ (.tail _ (.tail _ (.head _))))) (k61.ev (.head _))) hW8 (by decide) rfl ?_
  intro a62 k62
  exact kpart6 hQ kx ix ky iy kz iz ku iu kv iv ht hend hW8 (((k62.nil.add k62 (.head _)).add k62 (.tail _ (.tail _ (.tail _ (.tail _ (.tail _ (.tail _ (.tail _ (.tail _ (.tail _ (.tail _ (.head _)))))))))))).add k62 (.tail _ (.tail _ (.tail _ (.tail _ (.tail _ (.tail _ (.tail _ (.tail _ (.tail _ (.head _)))))))))))

set_option maxRecDepth 100000 in
set_option maxHeartbeats 4000000 in
theorem kpart4 {Q : Exit → Act → World → Prop} (hQ : ∀ c a (d : Tmp) v w, Q (.panic c) (a.put (some d) v) w → Q (.panic c) a w) {w9 : World} {g1 gy gz gu gv : Nat} {Ax Ay Az Au Av : Option Addr} {nx cx ny cy nz cz nu cu nv cv : Nat}
    (kx : Bx w9 g1 false 2 Ax nx cx) (ix : Is w9 Ax nx cx 3) (ky : Bx w9 gy false 0 Ay ny cy) (iy : Is w9 Ay ny cy 11) (kz : Bx w9 gz false 3 Az nz cz) (iz : Is w9 Az nz cz 3) (ku : Bx w9 gu false 0 Au nu cu) (iu : Is w9 Au nu cu 3) (kv : Bx w9 gv false 0 Av nv cv) (iv : Is w9 Av nv cv 0) (ht : Tab w9)
    (hend : ∀ a' w', a'.defers = [] → a'.eval (.tmp 0) = .bool true → Below w9.heap.size w9 w' → Q .normal a' w') {W : World} (hW : Below w9.heap.size w9 W) {a : Act} (hk : Kno 126 a [(1, .pointer (some ⟨g1, 0, none⟩)), (5, .pointer (some ⟨gz, 0, none⟩)), (7, .pointer (some ⟨gu, 0, none⟩)), (9, .pointer (some ⟨gv, 0, none⟩)), (10, .int .i64 0), (83, .bool true)]) :
    wpAnyH Tryd.prog .any (endOf Tryd.f12) Q (fun w => Below w9.heap.size w9 w) 43 (doneOf 88 45) a W := by
  have hS : Region.noSelect (endOf Tryd.f12) = true := by kernel_rfl
  have _ := And.intro hS (And.intro hQ (And.intro kx (And.intro ix (And.intro ky (And.intro iy (And.intro kz (And.intro iz (And.intro ku (And.intro iu (And.intro kv (And.intro iv (And.intro ht hend))))))))))))
  refine kh_take 45 84 (.bool true) hk hS (by kernel_rfl) (by kernel_rfl) (by kernel_rfl) (by kernel_rfl) (by kernel_rfl) (L' := doneOf 88 46) hQ (want_none (by kernel_rfl)) (fun W _ => z_move (by kernel_rfl) (hk.ev (.tail _ (.tail _ (.tail _ (.tail _ (.tail _ (.head _)))))))) hW (by decide) rfl ?_
  intro a45 k45
  refine kh_take 46 85 (.agg #[.bool false, .int .i64 0, .slice Au nu cu]) k45 hS (by kernel_rfl) (by kernel_rfl) (by kernel_rfl) (by kernel_rfl) (by kernel_rfl) (L' := doneOf 88 47) hQ (want_if (j := 45) (d := 84) (by kernel_rfl) (by kernel_rfl) (k45.2.2 _ _ (.head _))) (fun W h => z_load3 (by kernel_rfl) (k45.ev (.tail _ (.tail _ (.tail _ (.head _))))) (ku.step h)) hW (by decide) rfl ?_
  intro a46 k46
  refine kh_call 47 86 #[] _ k46 (by kernel_rfl) (by kernel_rfl) (by kernel_rfl) (by kernel_rfl) (L' := doneOf 88 48) (want_if (j := 45) (d := 84) (by kernel_rfl) (by kernel_rfl) (k46.2.2 _ _ (.tail _ (.head _)))) (z_call1 (ty := #[2]) (x := .const (.int .i64 (3))) en_int (by kernel_rfl) rfl rfl) (by decide) rfl (Calls.mono (int_k (3) k_3 (by omega) (by omega) (ht.below hW)) ?_)
  rintro _ W4 ⟨_, rfl, ⟨Ar4, nr4, cr4, rfl, hr4⟩, b4⟩
  have hW4 := below_step hW b4
  refine ⟨_, rfl, hW4, ?_⟩
  intro a47 k47
  refine kh_call 48 87 #[] _ k47 (by kernel_rfl) (by kernel_rfl) (by kernel_rfl) (by kernel_rfl) (L' := doneOf 88 49) (want_if (j := 45) (d := 84) (by kernel_rfl) (by kernel_rfl) (k47.2.2 _ _ (.tail _ (.tail _ (.head _))))) (z_call2 (ty := #[24, 24]) (x := .tmp 85) (y := .tmp 86) en_same (by kernel_rfl) rfl (k47.ev (.tail _ (.head _))) (k47.ev (.head _))) (by decide) rfl (Calls.mono (sameT (iu.step hW4) (num_is hr4) v3) ?_)
  rintro _ W5 ⟨rfl, b5⟩
  have hW5 := below_step hW4 b5
  refine ⟨_, rfl, hW5, ?_⟩
  intro a48 k48
  refine kh_take 49 88 (.bool true) k48 hS (by kernel_rfl) (by kernel_rfl) (by kernel_rfl) (by kernel_rfl) (by kernel_rfl) (L' := doneOf 88 50) hQ (want_none (by kernel_rfl)) (fun W _ => z_pick (y := .const (.bool false)) (by kernel_rfl) (k48.ev (.tail _ (.tail _ (.tail _ (.head _))))) (k48.ev (.head _))) hW5 (by decide) rfl ?_
  intro a49 k49
  refine kh_take 50 89 (.bool true) k49 hS (by kernel_rfl) (by kernel_rfl) (by kernel_rfl) (by kernel_rfl) (by kernel_rfl) (L' := doneOf 88 51) hQ (want_none (by kernel_rfl)) (fun W _ => z_move (by kernel_rfl) (k49.ev (.head _))) hW5 (by decide) rfl ?_
  intro a50 k50
  refine kh_take 51 90 (.int .i64 0) k50 hS (by kernel_rfl) (by kernel_rfl) (by kernel_rfl) (by kernel_rfl) (by kernel_rfl) (L' := doneOf 88 52) hQ (want_if (j := 50) (d := 89) (by kernel_rfl) (by kernel_rfl) (k50.2.2 _ _ (.head _))) (fun W _ => z_move (by kernel_rfl) (k50.ev (.tail _ (.tail _ (.tail _ (.tail _ (.tail _ (.tail _ (.tail _ (.tail _ (.tail _ (.tail _ (.head _))))))))))))) hW5 (by decide) rfl ?_
  intro a51 k51
  refine kh_take 52 91 (.bool true) k51 hS (by kernel_rfl) (by kernel_rfl) (by kernel_rfl) (by kernel_rfl) (by kernel_rfl) (L' := doneOf 88 53) hQ (want_if (j := 50) (d := 89) (by kernel_rfl) (by kernel_rfl) (k51.2.2 _ _ (.tail _ (.head _)))) (fun W _ => z_eql (.inr (.inr rfl)) (by kernel_rfl) rfl (k51.ev (.head _))) hW5 (by decide) rfl ?_
  intro a52 k52
  refine kh_take 53 92 (.bool true) k52 hS (by kernel_rfl) (by kernel_rfl) (by kernel_rfl) (by kernel_rfl) (by kernel_rfl) (L' := doneOf 88 54) hQ (want_none (by kernel_rfl)) (fun W _ => z_pick (y := .const (.bool false)) (by kernel_rfl) (k52.ev (.tail _ (.tail _ (.head _)))) (k52.ev (.head _))) hW5 (by decide) rfl ?_
  intro a53 k53
  exact kpart5 hQ kx ix ky iy kz iz ku iu kv iv ht hend hW5 ((((k53.nil.add k53 (.head _)).add k53 (.tail _ (.tail _ (.tail _ (.tail _ (.tail _ (.tail _ (.tail _ (.tail _ (.tail _ (.tail _ (.tail _ (.tail _ (.head _)))))))))))))).add k53 (.tail _ (.tail _ (.tail _ (.tail _ (.tail _ (.tail _ (.tail _ (.tail _ (.tail _ (.tail _ (.head _)))))))))))).add k53 (.tail _ (.tail _ (.tail _ (.tail _ (.tail _ (.tail _ (.tail _ (.tail _ (.tail _ (.head _)))))))))))

set_option maxRecDepth 100000 in
set_option maxHeartbeats 4000000 in
theorem kpart3 {Q : Exit → Act → World → Prop} (hQ : ∀ c a (d : Tmp) v w, Q (.panic c) (a.put (some d) v) w → Q (.panic c) a w) {w9 : World} {g1 gy gz gu gv : Nat} {Ax Ay Az Au Av : Option Addr} {nx cx ny cy nz cz nu cu nv cv : Nat}
    (kx : Bx w9 g1 false 2 Ax nx cx) (ix : Is w9 Ax nx cx 3) (ky : Bx w9 gy false 0 Ay ny cy) (iy : Is w9 Ay ny cy 11) (kz : Bx w9 gz false 3 Az nz cz) (iz : Is w9 Az nz cz 3) (ku : Bx w9 gu false 0 Au nu cu) (iu : Is w9 Au nu cu 3) (kv : Bx w9 gv false 0 Av nv cv) (iv : Is w9 Av nv cv 0) (ht : Tab w9)
    (hend : ∀ a' w', a'.defers = [] → a'.eval (.tmp 0) = .bool true → Below w9.heap.size w9 w' → Q .normal a' w') {W : World} (hW : Below w9.heap.size w9 W) {a : Act} (hk : Kno 126 a [(1, .pointer (some ⟨g1, 0, none⟩)), (5, .pointer (some ⟨gz, 0, none⟩)), (7, .pointer (some ⟨gu, 0, none⟩)), (8, .int .i64 0), (9, .pointer (some ⟨gv, 0, none⟩)), (10, .int .i64 0), (74, .bool true)]) :
    wpAnyH Tryd.prog .any (endOf Tryd.f12) Q (fun w => Below w9.heap.size w9 w) 52 (doneOf 88 36) a W := by
  have hS : Region.noSelect (endOf Tryd.f12) = true := by kernel_rfl
  have _ := And.intro hS (And.intro hQ (And.intro kx (And.intro ix (And.intro ky (And.intro iy (And.intro kz (And.intro iz (And.intro ku (And.intro iu (And.intro kv (And.intro iv (And.intro ht hend))))))))))))
  refine kh_take 36 75 (.bool true) hk hS (by kernel_rfl) (by kernel_rfl) (by kernel_rfl) (by kernel_rfl) (by kernel_rfl) (L' := doneOf 88 37) hQ (want_none (by kernel_rfl)) (fun W _ => z_move (by kernel_rfl) (hk.ev (.tail _ (.tail _ (.tail _ (.tail _ (.tail _ (.tail _ (.head _))))))))) hW (by decide) rfl ?_
  intro a36 k36
  refine kh_take 37 76 (.pointer (some ⟨gz, 1, none⟩)) k36 hS (by kernel_rfl) (by kernel_rfl) (by kernel_rfl) (by kernel_rfl) (by kernel_rfl) (L' := doneOf 88 38) hQ (want_if (j := 36) (d := 75) (by kernel_rfl) (by kernel_rfl) (k36.2.2 _ _ (.head _))) (fun W _ => z_addr (j := 1) (by decide) (by kernel_rfl) (k36.ev (.tail _ (.tail _ (.head _))))) hW (by decide) rfl ?_
  intro a37 k37
  refine kh_take 38 77 (.int .i64 3) k37 hS (by kernel_rfl) (by kernel_rfl) (by kernel_rfl) (by kernel_rfl) (by kernel_rfl) (L' := doneOf 88 39) hQ (want_if (j := 36) (d := 75) (by kernel_rfl) (by kernel_rfl) (k37.2.2 _ _ (.tail _ (.head _)))) (fun W h => z_load (.inl rfl) (by kernel_rfl) (k37.ev (.head _)) (kz.step h).c1) hW (by decide) rfl ?_
  intro a38 k38
  refine kh_take 39 78 (.bool true) k38 hS (by kernel_rfl) (by kernel_rfl) (by kernel_rfl) (by kernel_rfl) (by kernel_rfl) (L' := doneOf 88 40) hQ (want_if (j := 36) (d := 75) (by kernel_rfl) (by kernel_rfl) (k38.2.2 _ _ (.tail _ (.tail _ (.head _))))) (fun W _ => z_eql (.inl rfl) (by kernel_rfl) rfl (k38.ev (.head _))) hW (by decide) rfl ?_
  intro a39 k39
  refine kh_take 40 79 (.bool true) k39 hS (by kernel_rfl) (by kernel_rfl) (by kernel_rfl) (by kernel_rfl) (by kernel_rfl) (L' := doneOf 88 41) hQ (want_none (by kernel_rfl)) (fun W _ => z_pick (y := .const (.bool false)) (by kernel_rfl) (k39.ev (.tail _ (.tail _ (.tail _ (.head _))))) (k39.ev (.head _))) hW (by decide) rfl ?_
  intro a40 k40
  refine kh_take 41 80 (.bool true) k40 hS (by kernel_rfl) (by kernel_rfl) (by kernel_rfl) (by kernel_rfl) (by kernel_rfl) (L' := doneOf 88 42) hQ (want_none (by kernel_rfl)) (fun W _ => z_move (by kernel_rfl) (k40.ev (.head _))) hW (by decide) rfl ?_
  intro a41 k41
  refine kh_take 42 81 (.int .i64 0) k41 hS (by kernel_rfl) (by kernel_rfl) (by kernel_rfl) (by kernel_rfl) (by kernel_rfl) (L' := doneOf 88 43) hQ (want_if (j := 41) (d := 80) (by kernel_rfl) (by kernel_rfl) (k41.2.2 _ _ (.head _))) (fun W _ => z_move (by kernel_rfl) (k41.ev (.tail _ (.tail _ (.tail _ (.tail _ (.tail _ (.tail _ (.tail _ (.tail _ (.tail _ (.head _)))))))))))) hW (by decide) rfl ?_
  intro a42 k42
  refine kh_take 43 82 (.bool true) k42 hS (by kernel_rfl) (by kernel_rfl) (by kernel_rfl) (by kernel_rfl) (by kernel_rfl) (L' := doneOf 88 44) hQ (want_if (j := 41) (d := 80) (by kernel_rfl) (by kernel_rfl) (k42.2.2 _ _ (.tail _ (.head _)))) (fun W _ => z_eql (.inr (.inr rfl)) (by kernel_rfl) rfl (k42.ev (.head _))) hW (by decide) rfl ?_
  intro a43 k43
  refine kh_take 44 83 (.bool true) k43 hS (by kernel_rfl) (by kernel_rfl) (by kernel_rfl) (by kernel_rfl) (by kernel_rfl) (L' := doneOf 88 45) hQ (want_none (by kernel_rfl)) (fun W _ => z_pick (y := .const (.bool false)) (by kernel_rfl) (k43.ev (.tail _ (.tail _ (.head _)))) (k43.ev (.head _))) hW (by decide) rfl ?_
  intro a44 k44
  exact kpart4 hQ kx ix ky iy kz iz ku iu kv iv ht hend hW ((((((k44.nil.add k44 (.head _)).add k44 (.tail _ (.tail _ (.tail _ (.tail _ (.tail _ (.tail _ (.tail _ (.tail _ (.tail _ (.tail _ (.tail _ (.tail _ (.tail _ (.tail _ (.head _)))))))))))))))).add k44 (.tail _ (.tail _ (.tail _ (.tail _ (.tail _ (.tail _ (.tail _ (.tail _ (.tail _ (.tail _ (.tail _ (.tail _ (.tail _ (.head _))))))))))))))).add k44 (.tail _ (.tail _ (.tail _ (.tail _ (.tail _ (.tail _ (.tail _ (.tail _ (.tail _ (.tail _ (.tail _ (.head _))))))))))))).add k44 (.tail _ (.tail _ (.tail _ (.tail _ (.tail _ (.tail _ (.tail _ (.tail _ (.tail _ (.tail _ (.head _)))))))))))).add k44 (.tail _ (.tail _ (.tail _ (.tail _ (.tail _ (.tail _ (.tail _ (.tail _ (.tail _ (.head _)))))))))))

set_option maxRecDepth 100000 in
set_option maxHeartbeats 4000000 in
theorem kpart2 {Q : Exit → Act → World → Prop} (hQ : ∀ c a (d : Tmp) v w, Q (.panic c) (a.put (some d) v) w → Q (.panic c) a w) {w9 : World} {g1 gy gz gu gv : Nat} {Ax Ay Az Au Av : Option Addr} {nx cx ny cy nz cz nu cu nv cv : Nat}
    (kx : Bx w9 g1 false 2 Ax nx cx) (ix : Is w9 Ax nx cx 3) (ky : Bx w9 gy false 0 Ay ny cy) (iy : Is w9 Ay ny cy 11) (kz : Bx w9 gz false 3 Az nz cz) (iz : Is w9 Az nz cz 3) (ku : Bx w9 gu false 0 Au nu cu) (iu : Is w9 Au nu cu 3) (kv : Bx w9 gv false 0 Av nv cv) (iv : Is w9 Av nv cv 0) (ht : Tab w9)
    (hend : ∀ a' w', a'.defers = [] → a'.eval (.tmp 0) = .bool true → Below w9.heap.size w9 w' → Q .normal a' w') {W : World} (hW : Below w9.heap.size w9 W) {a : Act} (hk : Kno 126 a [(1, .pointer (some ⟨g1, 0, none⟩)), (3, .pointer (some ⟨gy, 0, none⟩)), (5, .pointer (some ⟨gz, 0, none⟩)), (6, .int .i64 0), (7, .pointer (some ⟨gu, 0, none⟩)), (8, .int .i64 0), (9, .pointer (some ⟨gv, 0, none⟩)), (10, .int .i64 0), (65, .bool true)]) :
    wpAnyH Tryd.prog .any (endOf Tryd.f12) Q (fun w => Below w9.heap.size w9 w) 61 (doneOf 88 27) a W := by
  have hS : Region.noSelect (endOf Tryd.f12) = true := by kernel_rfl
  have _ := And.intro hS (And.intro hQ (And.intro kx (And.intro ix (And.intro ky (And.intro iy (And.intro kz (And.intro iz (And.intro ku (And.intro iu (And.intro kv (And.intro iv (And.intro ht hend))))))))))))
  refine kh_take 27 66 (.bool true) hk hS (by kernel_rfl) (by kernel_rfl) (by kernel_rfl) (by kernel_rfl) (by kernel_rfl) (L' := doneOf 88 28) hQ (want_none (by kernel_rfl)) (fun W _ => z_move (by kernel_rfl) (hk.ev (.tail _ (.tail _ (.tail _ (.tail _ (.tail _ (.tail _ (.tail _ (.tail _ (.head _))))))))))) hW (by decide) rfl ?_
  intro a27 k27
  refine kh_take 28 67 (.pointer (some ⟨gy, 1, none⟩)) k27 hS (by kernel_rfl) (by kernel_rfl) (by kernel_rfl) (by kernel_rfl) (by kernel_rfl) (L' := doneOf 88 29) hQ (want_if (j := 27) (d := 66) (by kernel_rfl) (by kernel_rfl) (k27.2.2 _ _ (.head _))) (fun W _ => z_addr (j := 1) (by decide) (by kernel_rfl) (k27.ev (.tail _ (.tail _ (.head _))))) hW (by decide) rfl ?_
  intro a28 k28
  refine kh_take 29 68 (.int .i64 0) k28 hS (by kernel_rfl) (by kernel_rfl) (by kernel_rfl) (by kernel_rfl) (by kernel_rfl) (L' := doneOf 88 30) hQ (want_if (j := 27) (d := 66) (by kernel_rfl) (by kernel_rfl) (k28.2.2 _ _ (.tail _ (.head _)))) (fun W h => z_load (.inl rfl) (by kernel_rfl) (k28.ev (.head _)) (ky.step h).c1) hW (by decide) rfl ?_
  intro a29 k29
  refine kh_take 30 69 (.bool true) k29 hS (by kernel_rfl) (by kernel_rfl) (by kernel_rfl) (by kernel_rfl) (by kernel_rfl) (L' := doneOf 88 31) hQ (want_if (j := 27) (d := 66) (by kernel_rfl) (by kernel_rfl) (k29.2.2 _ _ (.tail _ (.tail _ (.head _))))) (fun W _ => z_eql (.inl rfl) (by kernel_rfl) rfl (k29.ev (.head _))) hW (by decide) rfl ?_
  intro a30 k30
  refine kh_take 31 70 (.bool true) k30 hS (by kernel_rfl) (by kernel_rfl) (by kernel_rfl) (by kernel_rfl) (by kernel_rfl) (L' := doneOf 88 32) hQ (want_none (by kernel_rfl)) (fun W _ => z_pick (y := .const (.bool false)) (by kernel_rfl) (k30.ev (.tail _ (.tail _ (.tail _ (.head _))))) (k30.ev (.head _))) hW (by decide) rfl ?_
  intro a31 k31
  refine kh_take 32 71 (.bool true) k31 hS (by kernel_rfl) (by kernel_rfl) (by kernel_rfl) (by kernel_rfl) (by kernel_rfl) (L' := doneOf 88 33) hQ (want_none (by kernel_rfl)) (fun W _ => z_move (by kernel_rfl) (k31.ev (.head _))) hW (by decide) rfl ?_
  intro a32 k32
  refine kh_take 33 72 (.int .i64 0) k32 hS (by kernel_rfl) (by kernel_rfl) (by kernel_rfl) (by kernel_rfl) (by kernel_rfl) (L' := doneOf 88 34) hQ (want_if (j := 32) (d := 71) (by kernel_rfl) (by kernel_rfl) (k32.2.2 _ _ (.head _))) (fun W _ => z_move (by kernel_rfl) (k32.ev (.tail _ (.tail _ (.tail _ (.tail _ (.tail _ (.tail _ (.tail _ (.tail _ (.tail _ (.head _)))))))))))) hW (by decide) rfl ?_
  intro a33 k33
  refine kh_take 34 73 (.bool true) k33 hS (by kernel_rfl) (by kernel_rfl) (by kernel_rfl) (by kernel_rfl) (by kernel_rfl) (L' := doneOf 88 35) hQ (want_if (j := 32) (d := 71) (by kernel_rfl) (by kernel_rfl) (k33.2.2 _ _ (.tail _ (.head _)))) (fun W _ => z_eql (.inr (.inr rfl)) (by kernel_rfl) rfl (k33.ev (.head _))) hW (by decide) rfl ?_
  intro a34 k34
  refine kh_take 35 74 (.bool true) k34 hS (by kernel_rfl) (by kernel_rfl) (by kernel_rfl) (by kernel_rfl) (by kernel_rfl) (L' := doneOf 88 36) hQ (want_none (by kernel_rfl)) (fun W _ => z_pick (y := .const (.bool false)) (by kernel_rfl) (k34.ev (.tail _ (.tail _ (.head _)))) (k34.ev (.head _))) hW (by decide) rfl ?_
  intro a35 k35
  exact kpart3 hQ kx ix ky iy kz iz ku iu kv iv ht hend hW (((((((k35.nil.add k35 (.head _)).add k35 (.tail _ (.tail _ (.tail _ (.tail _ (.tail _ (.tail _ (.tail _ (.tail _ (.tail _ (.tail _ (.tail _ (.tail _ (.tail _ (.tail _ (.tail _ (.tail _ (.head _)))))))))))))))))).add k35 (.tail _ (.tail _ (.tail _ (.tail _ (.tail _ (.tail _ (.tail _ (.tail _ (.tail _ (.tail _ (.tail _ (.tail _ (.tail _ (.tail _ (.tail _ (.head _))))))))))))))))).add k35 (.tail _ (.tail _ (.tail _ (.tail _ (.tail _ (.tail _ (.tail _ (.tail _ (.tail _ (.tail _ (.tail _ (.tail _ (.tail _ (.tail _ (.head _)))))))))))))))).add k35 (.tail _ (.tail _ (.tail _ (.tail _ (.tail _ (.tail _ (.tail _ (.tail _ (.tail _ (.tail _ (.tail _ (.tail _ (.tail _ (.head _))))))))))))))).add k35 (.tail _ (.tail _ (.tail _ (.tail _ (.tail _ (.tail _ (.tail _ (.tail _ (.tail _ (.tail _ (.tail _ (.head _))))))))))))).add k35 (.tail _ (.tail _ (.tail _ (.tail _ (.tail _ (.tail _ (.tail _ (.tail _ (.tail _ (.head _)))))))))))

set_option maxRecDepth 100000 in
set_option maxHeartbeats 4000000 in
theorem kpart1 {Q : Exit → Act → World → Prop} (hQ : ∀ c a (d : Tmp) v w, Q (.panic c) (a.put (some d) v) w → Q (.panic c) a w) {w9 : World} {g1 gy gz gu gv : Nat} {Ax Ay Az Au Av : Option Addr} {nx cx ny cy nz cz nu cu nv cv : Nat}
    (kx : Bx w9 g1 false 2 Ax nx cx) (ix : Is w9 Ax nx cx 3) (ky : Bx w9 gy false 0 Ay ny cy) (iy : Is w9 Ay ny cy 11) (kz : Bx w9 gz false 3 Az nz cz) (iz : Is w9 Az nz cz 3) (ku : Bx w9 gu false 0 Au nu cu) (iu : Is w9 Au nu cu 3) (kv : Bx w9 gv false 0 Av nv cv) (iv : Is w9 Av nv cv 0) (ht : Tab w9)
    (hend : ∀ a' w', a'.defers = [] → a'.eval (.tmp 0) = .bool true → Below w9.heap.size w9 w' → Q .normal a' w') {W : World} (hW : Below w9.heap.size w9 W) {a : Act} (hk : Kno 126 a [(1, .pointer (some ⟨g1, 0, none⟩)), (3, .pointer (some ⟨gy, 0, none⟩)), (4, .int .i64 0), (5, .pointer (some ⟨gz, 0, none⟩)), (6, .int .i64 0), (7, .pointer (some ⟨gu, 0, none⟩)), (8, .int .i64 0), (9, .pointer (some ⟨gv, 0, none⟩)), (10, .int .i64 0), (51, .bool true)]) :
    wpAnyH Tryd.prog .any (endOf Tryd.f12) Q (fun w => Below w9.heap.size w9 w) 75 (doneOf 88 13) a W := by
  have hS : Region.noSelect (endOf Tryd.f12) = true := by kernel_rfl
  have _ := And.intro hS (And.intro hQ (And.intro kx (And.intro ix (And.intro ky (And.intro iy (And.intro kz (And.intro iz (And.intro ku (And.intro iu (And.intro kv (And.intro iv (And.intro ht hend))))))))))))
  refine kh_take 13 52 (.bool true) hk hS (by kernel_rfl) (by kernel_rfl) (by kernel_rfl) (by kernel_rfl) (by kernel_rfl) (L' := doneOf 88 14) hQ (want_none (by kernel_rfl)) (fun W _ => z_move (by kernel_rfl) (hk.ev (.tail _ (.tail _ (.tail _ (.tail _ (.tail _ (.tail _ (.tail _ (.tail _ (.tail _ (.head _)))))))))))) hW (by decide) rfl ?_
  intro a13 k13
  refine kh_take 14 53 (.agg #[.bool false, .int .i64 2, .slice Ax nx cx]) k13 hS (by kernel_rfl) (by kernel_rfl) (by kernel_rfl) (by kernel_rfl) (by kernel_rfl) (L' := doneOf 88 15) hQ (want_if (j := 13) (d := 52) (by kernel_rfl) (by kernel_rfl) (k13.2.2 _ _ (.head _))) (fun W h => z_load3 (by kernel_rfl) (k13.ev (.tail _ (.head _))) (kx.step h)) hW (by decide) rfl ?_
  intro a14 k14
  refine kh_call 15 54 #[] _ k14 (by kernel_rfl) (by kernel_rfl) (by kernel_rfl) (by kernel_rfl) (L' := doneOf 88 16) (want_if (j := 13) (d := 52) (by kernel_rfl) (by kernel_rfl) (k14.2.2 _ _ (.tail _ (.head _)))) (z_call1 (ty := #[24]) (x := .tmp 53) en_right (by kernel_rfl) rfl (k14.ev (.head _))) (by decide) rfl (Calls.mono (nright_v (a := ⟨false, 3, 2⟩) (ix.step hW) vx) ?_)
  rintro _ W2 ⟨rfl, b2⟩
  have hW2 := below_step hW b2
  refine ⟨_, rfl, hW2, ?_⟩
  intro a15 k15
  refine kh_take 16 55 (.bool true) k15 hS (by kernel_rfl) (by kernel_rfl) (by kernel_rfl) (by kernel_rfl) (by kernel_rfl) (L' := doneOf 88 17) hQ (want_none (by kernel_rfl)) (fun W _ => z_pick (y := .const (.bool false)) (by kernel_rfl) (k15.ev (.tail _ (.tail _ (.head _)))) (k15.ev (.head _))) hW2 (by decide) rfl ?_
  intro a16 k16
  refine kh_take 17 56 (.bool true) k16 hS (by kernel_rfl) (by kernel_rfl) (by kernel_rfl) (by kernel_rfl) (by kernel_rfl) (L' := doneOf 88 18) hQ (want_none (by kernel_rfl)) (fun W _ => z_move (by kernel_rfl) (k16.ev (.head _))) hW2 (by decide) rfl ?_
  intro a17 k17
  refine kh_take 18 57 (.int .i64 0) k17 hS (by kernel_rfl) (by kernel_rfl) (by kernel_rfl) (by kernel_rfl) (by kernel_rfl) (L' := doneOf 88 19) hQ (want_if (j := 17) (d := 56) (by kernel_rfl) (by kernel_rfl) (k17.2.2 _ _ (.head _))) (fun W _ => z_move (by kernel_rfl) (k17.ev (.tail _ (.tail _ (.tail _ (.tail _ (.tail _ (.tail _ (.tail _ (.head _)))))))))) hW2 (by decide) rfl ?_
  intro a18 k18
  refine kh_take 19 58 (.bool true) k18 hS (by kernel_rfl) (by kernel_rfl) (by kernel_rfl) (by kernel_rfl) (by kernel_rfl) (L' := doneOf 88 20) hQ (want_if (j := 17) (d := 56) (by kernel_rfl) (by kernel_rfl) (k18.2.2 _ _ (.tail _ (.head _)))) (fun W _ => z_eql (.inr (.inr rfl)) (by kernel_rfl) rfl (k18.ev (.head _))) hW2 (by decide) rfl ?_
  intro a19 k19
  refine kh_take 20 59 (.bool true) k19 hS (by kernel_rfl) (by kernel_rfl) (by kernel_rfl) (by kernel_rfl) (by kernel_rfl) (L' := doneOf 88 21) hQ (want_none (by kernel_rfl)) (fun W _ => z_pick (y := .const (.bool false)) (by kernel_rfl) (k19.ev (.tail _ (.tail _ (.head _)))) (k19.ev (.head _))) hW2 (by decide) rfl ?_
  intro a20 k20
  refine kh_take 21 60 (.bool true) k20 hS (by kernel_rfl) (by kernel_rfl) (by kernel_rfl) (by kernel_rfl) (by kernel_rfl) (L' := doneOf 88 22) hQ (want_none (by kernel_rfl)) (fun W _ => z_move (by kernel_rfl) (k20.ev (.head _))) hW2 (by decide) rfl ?_
  intro a21 k21
  refine kh_take 22 61 (.pointer (some ⟨gy, 2, none⟩)) k21 hS (by kernel_rfl) (by kernel_rfl) (by kernel_rfl) (by kernel_rfl) (by kernel_rfl) (L' := doneOf 88 23) hQ (want_if (j := 21) (d := 60) (by kernel_rfl) (by kernel_rfl) (k21.2.2 _ _ (.head _))) (fun W _ => z_addr (j := 2) (by decide) (by kernel_rfl) (k21.ev (.tail _ (.tail _ (.tail _ (.tail _ (.tail _ (.tail _ (.tail _ (.tail _ (.tail _ (.tail _ (.head _))))))))))))) hW2 (by decide) rfl ?_
  intro a22 k22
  refine kh_take 23 62 (.slice Ay ny cy) k22 hS (by kernel_rfl) (by kernel_rfl) (by kernel_rfl) (by kernel_rfl) (by kernel_rfl) (L' := doneOf 88 24) hQ (want_if (j := 21) (d := 60) (by kernel_rfl) (by kernel_rfl) (k22.2.2 _ _ (.tail _ (.head _)))) (fun W h => z_load (.inr rfl) (by kernel_rfl) (k22.ev (.head _)) (ky.step h).c2) hW2 (by decide) rfl ?_
  intro a23 k23
  refine kh_build 24 63 _ _ k23 (by kernel_rfl) (by kernel_rfl) (by kernel_rfl) (by kernel_rfl) (L' := doneOf 88 25) (want_if (j := 21) (d := 60) (by kernel_rfl) (by kernel_rfl) (k23.2.2 _ _ (.tail _ (.tail _ (.head _))))) (z_build (k := 11) (by kernel_rfl) rfl) (by decide) rfl (below_step hW2 (one_below _ _)) ?_
  intro a24 k24
  refine kh_call 25 64 #[] _ k24 (by kernel_rfl) (by kernel_rfl) (by kernel_rfl) (by kernel_rfl) (L' := doneOf 88 26) (want_if (j := 21) (d := 60) (by kernel_rfl) (by kernel_rfl) (k24.2.2 _ _ (.tail _ (.tail _ (.tail _ (.head _)))))) (z_call2 (ty := #[22, 22]) (x := .tmp 62) (y := .tmp 63) en_words (by kernel_rfl) rfl (k24.ev (.tail _ (.head _))) (k24.ev (.head _))) (by decide) rfl (Calls.mono (words_k (v := 11) (iy.step hW2) (by unfold B64; omega) (by omega)) ?_)
  rintro _ W3 ⟨rfl, b3⟩
  have hW3 := below_step hW2 b3
  refine ⟨_, rfl, hW3, ?_⟩
  intro a25 k25
  refine kh_take 26 65 (.bool true) k25 hS (by kernel_rfl) (by kernel_rfl) (by kernel_rfl) (by kernel_rfl) (by kernel_rfl) (L' := doneOf 88 27) hQ (want_none (by kernel_rfl)) (fun W _ => z_pick (y := .const (.bool false)) (by kernel_rfl) (k25.ev (.tail _ (.tail _ (.tail _ (.tail _ (.head _)))))) (k25.ev (.head _))) hW3 (by decide) rfl ?_
  intro a26 k26
  exact kpart2 hQ kx ix ky iy kz iz ku iu kv iv ht hend hW3 (((((((((k26.nil.add k26 (.head _)).add k26 (.tail _ (.tail _ (.tail _ (.tail _ (.tail _ (.tail _ (.tail _ (.tail _ (.tail _ (.tail _ (.tail _ (.tail _ (.tail _ (.tail _ (.tail _ (.tail _ (.tail _ (.tail _ (.tail _ (.tail _ (.tail _ (.tail _ (.head _)))))))))))))))))))))))).add k26 (.tail _ (.tail _ (.tail _ (.tail _ (.tail _ (.tail _ (.tail _ (.tail _ (.tail _ (.tail _ (.tail _ (.tail _ (.tail _ (.tail _ (.tail _ (.tail _ (.tail _ (.tail _ (.tail _ (.tail _ (.tail _ (.head _))))))))))))))))))))))).add k26 (.tail _ (.tail _ (.tail _ (.tail _ (.tail _ (.tail _ (.tail _ (.tail _ (.tail _ (.tail _ (.tail _ (.tail _ (.tail _ (.tail _ (.tail _ (.tail _ (.tail _ (.tail _ (.tail _ (.tail _ (.head _)))))))))))))))))))))).add k26 (.tail _ (.tail _ (.tail _ (.tail _ (.tail _ (.tail _ (.tail _ (.tail _ (.tail _ (.tail _ (.tail _ (.tail _ (.tail _ (.tail _ (.tail _ (.tail _ (.tail _ (.tail _ (.tail _ (.head _))))))))))))))))))))).add k26 (.tail _ (.tail _ (.tail _ (.tail _ (.tail _ (.tail _ (.tail _ (.tail _ (.tail _ (.tail _ (.tail _ (.tail _ (.tail _ (.tail _ (.tail _ (.tail _ (.tail _ (.tail _ (.head _)))))))))))))))))))).add k26 (.tail _ (.tail _ (.tail _ (.tail _ (.tail _ (.tail _ (.tail _ (.tail _ (.tail _ (.tail _ (.tail _ (.tail _ (.tail _ (.tail _ (.tail _ (.tail _ (.tail _ (.head _))))))))))))))))))).add k26 (.tail _ (.tail _ (.tail _ (.tail _ (.tail _ (.tail _ (.tail _ (.tail _ (.tail _ (.tail _ (.tail _ (.tail _ (.tail _ (.tail _ (.tail _ (.head _))))))))))))))))).add k26 (.tail _ (.tail _ (.tail _ (.tail _ (.tail _ (.tail _ (.tail _ (.tail _ (.tail _ (.tail _ (.tail _ (.tail _ (.tail _ (.tail _ (.head _))))))))))))))))

set_option maxRecDepth 100000 in
set_option maxHeartbeats 4000000 in
theorem kpart0 {Q : Exit → Act → World → Prop} (hQ : ∀ c a (d : Tmp) v w, Q (.panic c) (a.put (some d) v) w → Q (.panic c) a w) {w9 : World} {g1 gy gz gu gv : Nat} {Ax Ay Az Au Av : Option Addr} {nx cx ny cy nz cz nu cu nv cv : Nat}
    (kx : Bx w9 g1 false 2 Ax nx cx) (ix : Is w9 Ax nx cx 3) (ky : Bx w9 gy false 0 Ay ny cy) (iy : Is w9 Ay ny cy 11) (kz : Bx w9 gz false 3 Az nz cz) (iz : Is w9 Az nz cz 3) (ku : Bx w9 gu false 0 Au nu cu) (iu : Is w9 Au nu cu 3) (kv : Bx w9 gv false 0 Av nv cv) (iv : Is w9 Av nv cv 0) (ht : Tab w9)
    (hend : ∀ a' w', a'.defers = [] → a'.eval (.tmp 0) = .bool true → Below w9.heap.size w9 w' → Q .normal a' w') {W : World} (hW : Below w9.heap.size w9 W) {a : Act} (hk : Kno 126 a [(1, .pointer (some ⟨g1, 0, none⟩)), (2, .int .i64 0), (3, .pointer (some ⟨gy, 0, none⟩)), (4, .int .i64 0), (5, .pointer (some ⟨gz, 0, none⟩)), (6, .int .i64 0), (7, .pointer (some ⟨gu, 0, none⟩)), (8, .int .i64 0), (9, .pointer (some ⟨gv, 0, none⟩)), (10, .int .i64 0)]) :
    wpAnyH Tryd.prog .any (endOf Tryd.f12) Q (fun w => Below w9.heap.size w9 w) 88 (doneOf 88 0) a W := by
  have hS : Region.noSelect (endOf Tryd.f12) = true := by kernel_rfl
  have _ := And.intro hS (And.intro hQ (And.intro kx (And.intro ix (And.intro ky (And.intro iy (And.intro kz (And.intro iz (And.intro ku (And.intro iu (And.intro kv (And.intro iv (And.intro ht hend))))))))))))
  refine kh_take 0 39 (.int .i64 0) hk hS (by kernel_rfl) (by kernel_rfl) (by kernel_rfl) (by kernel_rfl) (by kernel_rfl) (L' := doneOf 88 1) hQ (want_none (by kernel_rfl)) (fun W _ => z_move (by kernel_rfl) (hk.ev (.tail _ (.head _)))) hW (by decide) rfl ?_
  intro a0 k0
  refine kh_take 1 40 (.bool true) k0 hS (by kernel_rfl) (by kernel_rfl) (by kernel_rfl) (by kernel_rfl) (by kernel_rfl) (L' := doneOf 88 2) hQ (want_none (by kernel_rfl)) (fun W _ => z_eql (.inr (.inr rfl)) (by kernel_rfl) rfl (k0.ev (.head _))) hW (by decide) rfl ?_
  intro a1 k1
  refine kh_take 2 41 (.bool true) k1 hS (by kernel_rfl) (by kernel_rfl) (by kernel_rfl) (by kernel_rfl) (by kernel_rfl) (L' := doneOf 88 3) hQ (want_none (by kernel_rfl)) (fun W _ => z_move (by kernel_rfl) (k1.ev (.head _))) hW (by decide) rfl ?_
  intro a2 k2
  refine kh_take 3 42 (.pointer (some ⟨g1, 1, none⟩)) k2 hS (by kernel_rfl) (by kernel_rfl) (by kernel_rfl) (by kernel_rfl) (by kernel_rfl) (L' := doneOf 88 4) hQ (want_if (j := 2) (d := 41) (by kernel_rfl) (by kernel_rfl) (k2.2.2 _ _ (.head _))) (fun W _ => z_addr (j := 1) (by decide) (by kernel_rfl) (k2.ev (.tail _ (.tail _ (.tail _ (.head _)))))) hW (by decide) rfl ?_
  intro a3 k3
  refine kh_take 4 43 (.int .i64 2) k3 hS (by kernel_rfl) (by kernel_rfl) (by kernel_rfl) (by kernel_rfl) (by kernel_rfl) (L' := doneOf 88 5) hQ (want_if (j := 2) (d := 41) (by kernel_rfl) (by kernel_rfl) (k3.2.2 _ _ (.tail _ (.head _)))) (fun W h => z_load (.inl rfl) (by kernel_rfl) (k3.ev (.head _)) (kx.step h).c1) hW (by decide) rfl ?_
  intro a4 k4
  refine kh_take 5 44 (.bool true) k4 hS (by kernel_rfl) (by kernel_rfl) (by kernel_rfl) (by kernel_rfl) (by kernel_rfl) (L' := doneOf 88 6) hQ (want_if (j := 2) (d := 41) (by kernel_rfl) (by kernel_rfl) (k4.2.2 _ _ (.tail _ (.tail _ (.head _))))) (fun W _ => z_eql (.inl rfl) (by kernel_rfl) rfl (k4.ev (.head _))) hW (by decide) rfl ?_
  intro a5 k5
  refine kh_take 6 45 (.bool true) k5 hS (by kernel_rfl) (by kernel_rfl) (by kernel_rfl) (by kernel_rfl) (by kernel_rfl) (L' := doneOf 88 7) hQ (want_none (by kernel_rfl)) (fun W _ => z_pick (y := .const (.bool false)) (by kernel_rfl) (k5.ev (.tail _ (.tail _ (.tail _ (.head _))))) (k5.ev (.head _))) hW (by decide) rfl ?_
  intro a6 k6
  refine kh_take 7 46 (.bool true) k6 hS (by kernel_rfl) (by kernel_rfl) (by kernel_rfl) (by kernel_rfl) (by kernel_rfl) (L' := doneOf 88 8) hQ (want_none (by kernel_rfl)) (fun W _ => z_move (by kernel_rfl) (k6.ev (.head _))) hW (by decide) rfl ?_
  intro a7 k7
  refine kh_take 8 47 (.pointer (some ⟨g1, 2, none⟩)) k7 hS (by kernel_rfl) (by kernel_rfl) (by kernel_rfl) (by kernel_rfl) (by kernel_rfl) (L' := doneOf 88 9) hQ (want_if (j := 7) (d := 46) (by kernel_rfl) (by kernel_rfl) (k7.2.2 _ _ (.head _))) (fun W _ => z_addr (j := 2) (by decide) (by kernel_rfl) (k7.ev (.tail _ (.tail _ (.tail _ (.tail _ (.tail _ (.tail _ (.tail _ (.tail _ (.head _))))))))))) hW (by decide) rfl ?_
  intro a8 k8
  refine kh_take 9 48 (.slice Ax nx cx) k8 hS (by kernel_rfl) (by kernel_rfl) (by kernel_rfl) (by kernel_rfl) (by kernel_rfl) (L' := doneOf 88 10) hQ (want_if (j := 7) (d := 46) (by kernel_rfl) (by kernel_rfl) (k8.2.2 _ _ (.tail _ (.head _)))) (fun W h => z_load (.inr rfl) (by kernel_rfl) (k8.ev (.head _)) (kx.step h).c2) hW (by decide) rfl ?_
  intro a9 k9
  refine kh_build 10 49 _ _ k9 (by kernel_rfl) (by kernel_rfl) (by kernel_rfl) (by kernel_rfl) (L' := doneOf 88 11) (want_if (j := 7) (d := 46) (by kernel_rfl) (by kernel_rfl) (k9.2.2 _ _ (.tail _ (.tail _ (.head _))))) (z_build (k := 3) (by kernel_rfl) rfl) (by decide) rfl (below_step hW (one_below _ _)) ?_
  intro a10 k10
  refine kh_call 11 50 #[] _ k10 (by kernel_rfl) (by kernel_rfl) (by kernel_rfl) (by kernel_rfl) (L' := doneOf 88 12) (want_if (j := 7) (d := 46) (by kernel_rfl) (by kernel_rfl) (k10.2.2 _ _ (.tail _ (.tail _ (.tail _ (.head _)))))) (z_call2 (ty := #[22, 22]) (x := .tmp 48) (y := .tmp 49) en_words (by kernel_rfl) rfl (k10.ev (.tail _ (.head _))) (k10.ev (.head _))) (by decide) rfl (Calls.mono (words_k (v := 3) (ix.step hW) (by unfold B64; omega) (by omega)) ?_)
  rintro _ W1 ⟨rfl, b1⟩
  have hW1 := below_step hW b1
  refine ⟨_, rfl, hW1, ?_⟩
  intro a11 k11
  refine kh_take 12 51 (.bool true) k11 hS (by kernel_rfl) (by kernel_rfl) (by kernel_rfl) (by kernel_rfl) (by kernel_rfl) (L' := doneOf 88 13) hQ (want_none (by kernel_rfl)) (fun W _ => z_pick (y := .const (.bool false)) (by kernel_rfl) (k11.ev (.tail _ (.tail _ (.tail _ (.tail _ (.head _)))))) (k11.ev (.head _))) hW1 (by decide) rfl ?_
  intro a12 k12
  exact kpart1 hQ kx ix ky iy kz iz ku iu kv iv ht hend hW1 ((((((((((k12.nil.add k12 (.head _)).add k12 (.tail _ (.tail _ (.tail _ (.tail _ (.tail _ (.tail _ (.tail _ (.tail _ (.tail _ (.tail _ (.tail _ (.tail _ (.tail _ (.tail _ (.tail _ (.tail _ (.tail _ (.tail _ (.tail _ (.tail _ (.tail _ (.tail _ (.head _)))))))))))))))))))))))).add k12 (.tail _ (.tail _ (.tail _ (.tail _ (.tail _ (.tail _ (.tail _ (.tail _ (.tail _ (.tail _ (.tail _ (.tail _ (.tail _ (.tail _ (.tail _ (.tail _ (.tail _ (.tail _ (.tail _ (.tail _ (.tail _ (.head _))))))))))))))))))))))).add k12 (.tail _ (.tail _ (.tail _ (.tail _ (.tail _ (.tail _ (.tail _ (.tail _ (.tail _ (.tail _ (.tail _ (.tail _ (.tail _ (.tail _ (.tail _ (.tail _ (.tail _ (.tail _ (.tail _ (.tail _ (.head _)))))))))))))))))))))).add k12 (.tail _ (.tail _ (.tail _ (.tail _ (.tail _ (.tail _ (.tail _ (.tail _ (.tail _ (.tail _ (.tail _ (.tail _ (.tail _ (.tail _ (.tail _ (.tail _ (.tail _ (.tail _ (.tail _ (.head _))))))))))))))))))))).add k12 (.tail _ (.tail _ (.tail _ (.tail _ (.tail _ (.tail _ (.tail _ (.tail _ (.tail _ (.tail _ (.tail _ (.tail _ (.tail _ (.tail _ (.tail _ (.tail _ (.tail _ (.tail _ (.head _)))))))))))))))))))).add k12 (.tail _ (.tail _ (.tail _ (.tail _ (.tail _ (.tail _ (.tail _ (.tail _ (.tail _ (.tail _ (.tail _ (.tail _ (.tail _ (.tail _ (.tail _ (.tail _ (.tail _ (.head _))))))))))))))))))).add k12 (.tail _ (.tail _ (.tail _ (.tail _ (.tail _ (.tail _ (.tail _ (.tail _ (.tail _ (.tail _ (.tail _ (.tail _ (.tail _ (.tail _ (.tail _ (.tail _ (.head _)))))))))))))))))).add k12 (.tail _ (.tail _ (.tail _ (.tail _ (.tail _ (.tail _ (.tail _ (.tail _ (.tail _ (.tail _ (.tail _ (.tail _ (.tail _ (.tail _ (.tail _ (.head _))))))))))))))))).add k12 (.tail _ (.tail _ (.tail _ (.tail _ (.tail _ (.tail _ (.tail _ (.tail _ (.tail _ (.tail _ (.tail _ (.tail _ (.tail _ (.head _)))))))))))))))
end Go.Proofs.YtimkifkikcohgaaDoor
