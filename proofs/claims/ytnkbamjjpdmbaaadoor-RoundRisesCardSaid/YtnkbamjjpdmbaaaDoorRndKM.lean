/- round's functions on valid numbers; light; the numbers of known. known's last statement, operation by operation. -/
import Derived.Test.YtnkbamjjpdmbaaaDoorRndIJ
import Derived.Test.YtnkbamjjpdmbaaaDoorRndEF
import Derived.Test.YtnkbamjjpdmbaaaDoorReg
namespace Go.Proofs.YtnkbamjjpdmbaaaDoor
open Go.RowKit Nx

theorem prec_of {p : Int} (h : 8 ≤ p ∧ p ≤ 256) : precb p = true := by simp [precb, h]
section
variable {w : World} {a b : Q} {A B : Option Addr} {n c m d : Nat}
theorem ansr_valid {g : Q → Q → Q × Int} {p : Int} (ha : Is w A n c a.m) (hb : Is w B m d b.m) (va : Valid a) (vb : Valid b) (hp : 8 ≤ p ∧ p ≤ 256) : ansr g p a.s a.e n (digs B64 a.m) b.s b.e m (digs B64 b.m) = g a b := by
  unfold ansr; rw [okb_of ha va, okb_of hb vb, prec_of hp, nval_digs B64_two, nval_digs B64_two]; rfl
theorem xadd_v (p : Int) (up : Bool) (ha : Is w A n c a.m) (hb : Is w B m d b.m) (va : Valid a) (vb : Valid b) (hp : 8 ≤ p ∧ p ≤ 256) (ht : Tab w) :
    Calls Tryd.prog 20 #[.agg #[.bool a.s, .int .i64 a.e, .slice A n c], .agg #[.bool b.s, .int .i64 b.e, .slice B m d], .int .i64 p, .bool up] w (NumPost2 w (gadd p up a b)) := by
  rw [← ansr_valid (g := gadd p up) ha hb va vb hp]; exact xadd_any w _ _ up _ _ p A B n c m d _ _ (is_arg ha) (is_arg hb) (v_arg ha va) (v_arg hb vb) ht
theorem xsub_v (p : Int) (up : Bool) (ha : Is w A n c a.m) (hb : Is w B m d b.m) (va : Valid a) (vb : Valid b) (hp : 8 ≤ p ∧ p ≤ 256) (ht : Tab w) :
    Calls Tryd.prog 22 #[.agg #[.bool a.s, .int .i64 a.e, .slice A n c], .agg #[.bool b.s, .int .i64 b.e, .slice B m d], .int .i64 p, .bool up] w (NumPost2 w (gsub p up a b)) := by
  rw [← ansr_valid (g := gsub p up) ha hb va vb hp]; exact xsub_any w _ _ up _ _ p A B n c m d _ _ (is_arg ha) (is_arg hb) (v_arg ha va) (v_arg hb vb) ht
theorem xmul_v (p : Int) (up : Bool) (ha : Is w A n c a.m) (hb : Is w B m d b.m) (va : Valid a) (vb : Valid b) (hp : 8 ≤ p ∧ p ≤ 256) (ht : Tab w) :
    Calls Tryd.prog 24 #[.agg #[.bool a.s, .int .i64 a.e, .slice A n c], .agg #[.bool b.s, .int .i64 b.e, .slice B m d], .int .i64 p, .bool up] w (NumPost2 w (gmul p up a b)) := by
  rw [← ansr_valid (g := gmul p up) ha hb va vb hp]; exact xmul_any w _ _ up _ _ p A B n c m d _ _ (is_arg ha) (is_arg hb) (v_arg ha va) (v_arg hb vb) ht
theorem xdiv_v (p : Int) (up : Bool) (ha : Is w A n c a.m) (hb : Is w B m d b.m) (va : Valid a) (vb : Valid b) (hp : 8 ≤ p ∧ p ≤ 256) (ht : Tab w) :
    Calls Tryd.prog 29 #[.agg #[.bool a.s, .int .i64 a.e, .slice A n c], .agg #[.bool b.s, .int .i64 b.e, .slice B m d], .int .i64 p, .bool up] w (NumPost2 w (gdiv p up a b)) := by
  rw [← ansr_valid (g := gdiv p up) ha hb va vb hp]; exact xdiv_any w _ _ up _ _ p A B n c m d _ _ (is_arg ha) (is_arg hb) (v_arg ha va) (v_arg hb vb) ht
theorem xfit_v (p : Int) (up : Bool) (ha : Is w A n c a.m) (va : Valid a) (hp : 8 ≤ p ∧ p ≤ 256) (ht : Tab w) :
    Calls Tryd.prog 11 #[.agg #[.bool a.s, .int .i64 a.e, .slice A n c], .int .i64 p, .bool up] w (NumPost2 w (res (rnd p.toNat up a))) := by
  have h := xfit_any w a.s up a.e p A n c _ (is_arg ha) (v_arg ha va) ht
  unfold ansf at h
  rw [okb_of ha va, prec_of hp, nval_digs B64_two] at h
  exact h
end
theorem gk_0 (p : Int) (up : Bool) : gk 0 p up = gadd p up := by funext a b; rfl
theorem gk_1 (p : Int) (up : Bool) : gk 1 p up = gsub p up := by funext a b; rfl
theorem gk_2 (p : Int) (up : Bool) : gk 2 p up = gmul p up := by funext a b; rfl
theorem gk_3 (p : Int) (up : Bool) : gk 3 p up = gdiv p up := by funext a b; rfl
theorem ansr_v1 {g : Q → Q → Q × Int} (hg : ∀ a b, Valid (g a b).1) (p : Int) (s : Bool) (e : Int) (n : Nat) (xs : List Nat) (s' : Bool) (e' : Int) (m : Nat) (ys : List Nat) : Valid (ansr g p s e n xs s' e' m ys).1 := by
  unfold ansr; split
  · exact hg _ _
  · exact valid0
theorem gadd_v (p : Int) (up : Bool) (a b : Q) : Valid (gadd p up a b).1 := res_valid (rnd_canon _ _ _)
theorem gsub_v (p : Int) (up : Bool) (a b : Q) : Valid (gsub p up a b).1 := res_valid (rnd_canon _ _ _)
theorem gmul_v (p : Int) (up : Bool) (a b : Q) : Valid (gmul p up a b).1 := res_valid (rnd_canon _ _ _)
theorem gdiv_v (p : Int) (up : Bool) (a b : Q) : Valid (gdiv p up a b).1 := by
  unfold gdiv; split
  · exact valid0
  · exact res_valid (ratq_canon _ _ _ _)
theorem ansf_v (p : Int) (up : Bool) (s : Bool) (e : Int) (n : Nat) (xs : List Nat) : Valid (ansf p up s e n xs).1 := by
  unfold ansf; split
  · exact res_valid (rnd_canon _ _ _)
  · exact valid0

set_option maxRecDepth 100000 in
set_option maxHeartbeats 1000000 in
theorem light3_any (w : World) (g n : Nat) (ls : List Nat) (h : LensN w g ls) (hn : ls.length = n) (hs : n ≤ 10) :
    Calls Tryd.prog 10 #[.slice (some ⟨g, 0, none⟩) n n] w fun e w' => e = .returned (.bool (ls.all (fun l => decide (l ≤ 70)))) ∧ w = w' := by
  have H := Lib.hid h; have HN := Lib.hid hn
  clear h hn
  obtain ⟨b, hb⟩ : ∃ b, b = ls.all (fun l => decide (l ≤ 70)) := ⟨_, rfl⟩
  rw [← hb]
  have HB := Lib.hid hb
  clear hb
  go_enter Tryd.func10, Tryd.ntmps10
  go_wp2
  go_loop [3] (fun i => ∃ k : Nat, k ≤ n ∧ i = .int .i64 k ∧ Hid (∀ (j l : Nat), j < k → ls[j]? = some l → l ≤ 70)) (fun i => n - (intOf i).toNat)
  case atStart => exact ⟨0, Nat.zero_le _, rfl, Lib.hid (fun j l hj => absurd hj (by omega))⟩
  case round =>
    obtain ⟨k, hk, rfl, hz⟩ := hrel
    by_cases hlt : k < n
    · obtain ⟨l, hl⟩ : ∃ l, ls[k]? = some l := ⟨ls[k]'(by have := HN.out; omega), List.getElem?_eq_getElem _⟩
      obtain ⟨A, c, hc⟩ := H.out k l hl
      have HLk := Lib.hid hl
      clear hl
      have i1 : (0 : Int) ≤ (k : Int) := by omega
      have i2 : (k : Int) < (n : Int) := by omega
      by_cases h40 : l ≤ 70
      · go_wp2
        go_round
        case rel => exact ⟨k + 1, by omega, by go_num, Lib.hid (fun j u hj hu => by
          rcases Nat.lt_or_ge j k with h1 | h1
          · exact hz.out j u h1 hu
          · obtain rfl : j = k := by omega
            have := HLk.out; rw [hu] at this; injection this with this; omega)⟩
        case measure => simp [intOf]; omega
      · go_wp2
        go_ret
        refine ⟨congrArg (fun z => Ending.returned (Value.bool z)) ?_, rfl⟩
        rw [HB.out]
        symm
        rw [List.all_eq_false]
        exact ⟨l, List.mem_of_getElem? HLk.out, by simp; omega⟩
    · go_wp2
      go_ret
      refine ⟨congrArg (fun z => Ending.returned (Value.bool z)) ?_, rfl⟩
      rw [HB.out]
      symm
      rw [List.all_eq_true]
      intro l hl
      obtain ⟨j, hj⟩ := List.getElem?_of_mem hl
      have := hz.out j l (by have := lt_of_get hj; have := HN.out; omega) hj
      simpa using this
theorem lensn1 (w : World) (s : Bool) (e : Int) (A : Option Addr) (n c : Nat) : LensN (w.alloc (.cells #[.bool s, .int .i64 e, .slice A n c] 24)) w.heap.size [n] := by
  intro i l h
  have hb : Blk (w.alloc (.cells #[.bool s, .int .i64 e, .slice A n c] 24)) w.heap.size 24 _ := Blk.new w _ _
  rw [hb.cell]
  match i, h with
  | 0, h => simp at h; subst h; exact ⟨A, c, rfl⟩
theorem lensn2 (w : World) (s s' : Bool) (e e' : Int) (A B : Option Addr) (n c m d : Nat) : LensN (w.alloc (.cells #[.bool s, .int .i64 e, .slice A n c, .bool s', .int .i64 e', .slice B m d] 24)) w.heap.size [n, m] := by
  intro i l h
  have hb : Blk (w.alloc (.cells #[.bool s, .int .i64 e, .slice A n c, .bool s', .int .i64 e', .slice B m d] 24)) w.heap.size 24 _ := Blk.new w _ _
  rw [hb.cell]
  match i, h with
  | 0, h => simp at h; subst h; exact ⟨A, c, rfl⟩
  | 1, h => simp at h; subst h; exact ⟨B, d, rfl⟩
theorem is_one {w : World} {A : Option Addr} {n c v : Nat} (h : Is w A n c v) (hv : v < B64) (h0 : v ≠ 0) : n = 1 := by
  have := h.1; rw [digs1 hv h0] at this; exact this.symm
/-- The words of a small number, against a slice that is written out. -/
theorem words_k {w : World} {A : Option Addr} {n c v : Nat} (h : Is w A n c v) (hv : v < B64) (h0 : v ≠ 0) :
    Calls Tryd.prog 32 #[.slice A n c, .slice (some ⟨w.heap.size, 0, none⟩) 1 1] (w.alloc (.cells #[.int .u64 (v : Int)] 47)) (BoolPost w true) := by
  have h1 := one_rd w v
  have h2 : Is (w.alloc (wd v)) (some ⟨w.heap.size, 0, none⟩) 1 1 v := by unfold Is; rw [digs1 hv h0]; exact h1
  refine (words_is (k := 1) (h.step (one_below w (wd v))) h2 (by rw [Nat.pow_one]; exact hv) (by omega)).mono ?_
  rintro e w' ⟨rfl, b⟩
  exact ⟨rfl, below_step (one_below w _) b⟩

theorem nm_lit {s : Bool} {M k N : Nat} {e t : Int} (ho : M % 2 = 1) (hN : N = M * 2 ^ k) (he : t = e + k) : nm s N e = ⟨s, M, t⟩ := by
  have h := nm_shift s M t k
  rw [show t - (k : Int) = e by omega, ← hN] at h
  rw [h]
  unfold nm
  rw [if_neg (by omega), ntz_odd ho]
  apply Q.ext' <;> simp
theorem valid_lit {s : Bool} {M : Nat} {e : Int} (ho : M % 2 = 1) (hM : M < B64) (h1 : -65536 ≤ e) (h2 : e ≤ 65536) : Valid ⟨s, M, e⟩ :=
  ⟨⟨fun h => by have h : M = 0 := h; omega, fun _ => ho⟩, Nat.lt_of_lt_of_le hM b64_le, h1, h2⟩
def n1 : Q := ⟨false, 1, 0⟩
def n3 : Q := ⟨false, 3, 0⟩
def n257 : Q := ⟨false, 257, 0⟩
theorem vn1 : Valid n1 := valid_lit rfl (by unfold B64; omega) (by omega) (by omega)
theorem vn3 : Valid n3 := valid_lit rfl (by unfold B64; omega) (by omega) (by omega)
theorem vn257 : Valid n257 := valid_lit rfl (by unfold B64; omega) (by omega) (by omega)
theorem va85 : Valid ⟨false, 85, -8⟩ := valid_lit rfl (by unfold B64; omega) (by omega) (by omega)
theorem va171 : Valid ⟨false, 171, -9⟩ := valid_lit rfl (by unfold B64; omega) (by omega) (by omega)
theorem va4 : Valid ⟨false, 1, 2⟩ := valid_lit rfl (by unfold B64; omega) (by omega) (by omega)
theorem va9 : Valid ⟨false, 9, 0⟩ := valid_lit rfl (by unfold B64; omega) (by omega) (by omega)
theorem vam2 : Valid ⟨true, 1, 1⟩ := valid_lit rfl (by unfold B64; omega) (by omega) (by omega)
theorem va129 : Valid ⟨false, 129, 1⟩ := valid_lit rfl (by unfold B64; omega) (by omega) (by omega)
theorem rat_down : ratq 8 false n1 n3 = ⟨false, 85, -8⟩ := by
  have h : ratq 8 false n1 n3 = nm false 170 (-9) := by decide +kernel
  rw [h]; exact nm_lit (M := 85) (k := 1) rfl rfl rfl
theorem rat_up : ratq 8 true n1 n3 = ⟨false, 171, -9⟩ := by
  have h : ratq 8 true n1 n3 = nm false 171 (-9) := by decide +kernel
  rw [h]; exact nm_lit (M := 171) (k := 0) rfl rfl rfl
theorem kd_div0 : gdiv 8 false n1 n3 = (⟨false, 85, -8⟩, 0) := by
  unfold gdiv; rw [if_neg (by decide), show (8 : Int).toNat = 8 from rfl, rat_down, res_ok va85.2]
theorem kd_div1 : gdiv 8 true n1 n3 = (⟨false, 171, -9⟩, 0) := by
  unfold gdiv; rw [if_neg (by decide), show (8 : Int).toNat = 8 from rfl, rat_up, res_ok va171.2]
theorem kd_add : gadd 8 false n1 n3 = (⟨false, 1, 2⟩, 0) := by
  unfold gadd
  have h : plus n1 n3 = ⟨false, 1, 2⟩ := nm_lit (M := 1) (k := 2) rfl rfl rfl
  rw [h, show (8 : Int).toNat = 8 from rfl, rnd_id va4.1 (by decide), res_ok va4.2]
theorem kd_mul : gmul 8 true n3 n3 = (⟨false, 9, 0⟩, 0) := by
  unfold gmul
  have h : times n3 n3 = ⟨false, 9, 0⟩ := nm_lit (M := 9) (k := 0) rfl rfl rfl
  rw [h, show (8 : Int).toNat = 8 from rfl, rnd_id va9.1 (by decide), res_ok va9.2]
theorem kd_sub : gsub 8 true n1 n3 = (⟨true, 1, 1⟩, 0) := by
  unfold gsub
  have h : minus n1 n3 = ⟨true, 1, 1⟩ := nm_lit (M := 1) (k := 1) rfl rfl rfl
  rw [h, show (8 : Int).toNat = 8 from rfl, rnd_id vam2.1 (by decide), res_ok vam2.2]
theorem kd_fit : res (rnd (8 : Int).toNat true n257) = (⟨false, 129, 1⟩, 0) := by
  have h : rnd 8 true n257 = nm false 129 1 := by decide +kernel
  rw [show (8 : Int).toNat = 8 from rfl, h, nm_lit (M := 129) (k := 0) (t := 1) rfl rfl rfl, res_ok va129.2]
end Go.Proofs.YtnkbamjjpdmbaaaDoor

namespace Go.Proofs.YtnkbamjjpdmbaaaDoor
open Go.RowKit Nx

def n85 : Q := ⟨false, 85, -8⟩
def n171 : Q := ⟨false, 171, -9⟩
def n4 : Q := ⟨false, 1, 2⟩
def n9 : Q := ⟨false, 9, 0⟩
def nm2 : Q := ⟨true, 1, 1⟩
def n129 : Q := ⟨false, 129, 1⟩
theorem Kno.nil {s : Nat} {a : Act} {l : List (Nat × Value)} (h : Kno s a l) : Kno s a [] := ⟨h.1, h.2.1, fun _ _ hm => by cases hm⟩
theorem Kno.add {s : Nat} {a : Act} {l l' : List (Nat × Value)} {t : Nat} {v : Value} (h' : Kno s a l') (h : Kno s a l) (hm : (t, v) ∈ l) : Kno s a ((t, v) :: l') := ⟨h.1, h.2.1, fun t' v' hm' => by
  rcases List.mem_cons.1 hm' with e | e
  · injection e with e1 e2
    subst e1; subst e2
    exact h.2.2 _ _ hm
  · exact h'.2.2 t' v' e⟩
section
variable {ops : Array Oper} {QQ : Exit → Act → World → Prop} {sz n : Nat} {a : Act} {w : World} {l : List (Nat × Value)}
theorem pl_run (i : Nat) (d : Tmp) (v : Value) {w' : World} (hk : Kno sz a l) (hi : ops[i]? = some (theOp ops i)) (hd : (theOp ops i).dst = some d) (hw : Region.wanted (theOp ops i) (yielded ops a.tmps) = true)
    (hy : (execOp a.eval (theOp ops i)).run Tryd.prog w = .ok (.value v) w') (hlt : d < sz) (hl : (l.all fun p => !(p.1 == d)) = true)
    (h : ∀ a', Kno sz a' ((d, v) :: l) → wpOps Tryd.prog ops QQ (List.range' (i + 1) n) a' w') : wpOps Tryd.prog ops QQ (List.range' i (n + 1)) a w := by
  rw [List.range'_succ]
  unfold wpOps
  rw [hi]
  show if _ then _ else _
  rw [if_pos hw]
  left
  unfold Oper.wp
  rw [hy]
  show wpOps _ _ _ _ (a.put (theOp ops i).dst v) w'
  rw [hd]
  exact h _ (hk.put d v hlt hl)
theorem pl_call (i : Nat) (d : Tmp) {f : FuncId} {vals : Array Value} (hk : Kno sz a l) (hi : ops[i]? = some (theOp ops i)) (hd : (theOp ops i).dst = some d) (hw : Region.wanted (theOp ops i) (yielded ops a.tmps) = true)
    (hy : (execOp a.eval (theOp ops i)).run Tryd.prog w = .ok (.enter f vals) w) (hlt : d < sz) (hl : (l.all fun p => !(p.1 == d)) = true)
    (h : Calls Tryd.prog f vals w fun e w' => ∃ v, e = .returned v ∧ ∀ a', Kno sz a' ((d, v) :: l) → wpOps Tryd.prog ops QQ (List.range' (i + 1) n) a' w') : wpOps Tryd.prog ops QQ (List.range' i (n + 1)) a w := by
  rw [List.range'_succ]
  unfold wpOps
  rw [hi]
  show if _ then _ else _
  rw [if_pos hw]
  left
  unfold Oper.wp
  rw [hy, Oper.upon_enter]
  refine h.mono ?_
  rintro e w' ⟨v, rfl, h2⟩
  show wpOps _ _ _ _ (a.put (theOp ops i).dst v) w'
  rw [hd]
  exact h2 _ (hk.put d v hlt hl)
end
theorem z_loadb {ρ : Operand → Value} {o : Oper} {w : World} {t : Operand} {p : Addr} {v : Value} (ho : o.op = .load 4 t) (ht : ρ t = .pointer (some p)) (hc : w.cell? p = some v) : (execOp ρ o).run Tryd.prog w = .ok (.value v) w := by
  unfold execOp; rw [ho]
  go_simp

set_option maxRecDepth 100000 in
set_option maxHeartbeats 4000000 in
theorem kq7 {QQ : Exit → Act → World → Prop} {w9 : World} {ga gb gc gd gz gt : Nat} {Aa Ab Ac Ad Az At : Option Addr} {na ca nb cb nc cc nd cd nz cz nt ct : Nat} (ka : Bx w9 ga n85.s n85.e Aa na ca) (ia : Is w9 Aa na ca n85.m) (kb : Bx w9 gb n171.s n171.e Ab nb cb) (ib : Is w9 Ab nb cb n171.m) (kc : Bx w9 gc n4.s n4.e Ac nc cc) (ic : Is w9 Ac nc cc n4.m) (kd : Bx w9 gd n9.s n9.e Ad nd cd) (id : Is w9 Ad nd cd n9.m) (kz : Bx w9 gz nm2.s nm2.e Az nz cz) (iz : Is w9 Az nz cz nm2.m) (kt : Bx w9 gt n129.s n129.e At nt ct) (it : Is w9 At nt ct n129.m) (hend : ∀ a' w', a'.defers = [] → a'.eval (.tmp 0) = .bool true → Below w9.heap.size w9 w' → QQ .normal a' w') {W : World} (hW : Below w9.heap.size w9 W) {a : Act} (hk : Kno 130 a [(13, .pointer (some ⟨gt, 0, none⟩)), (123, .bool true)]) :
    wpOps Tryd.prog (endOf Tryd.f9) QQ (List.range' 69 7) a W := by
  have _ := And.intro ka (And.intro ia (And.intro kb (And.intro ib (And.intro kc (And.intro ic (And.intro kd (And.intro id (And.intro kz (And.intro iz (And.intro kt (And.intro it hend)))))))))))
  refine pl_run 69 124 (.bool true) hk (by kernel_rfl) (by kernel_rfl) (want_none (by kernel_rfl)) (z_move (x := .tmp 123) (by kernel_rfl) (hk.ev (.tail _ (.head _)))) (by decide) (by kernel_rfl) (fun a69 hk69 => ?_)
  refine pl_run 70 125 (.pointer (some ⟨gt, 2, none⟩)) hk69 (by kernel_rfl) (by kernel_rfl) (want_if (j := 69) (d := 124) (by kernel_rfl) (by kernel_rfl) (hk69.2.2 _ _ (.head _))) (z_addr (t := .tmp 13) (j := 2) (by omega) (by kernel_rfl) (hk69.ev (.tail _ (.head _)))) (by decide) (by kernel_rfl) (fun a70 hk70 => ?_)
  refine pl_run 71 126 (.slice At nt ct) hk70 (by kernel_rfl) (by kernel_rfl) (want_if (j := 69) (d := 124) (by kernel_rfl) (by kernel_rfl) (hk70.2.2 _ _ (.tail _ (.head _)))) (z_load (T := 22) (t := .tmp 125) (.inr rfl) (by kernel_rfl) (hk70.ev (.head _)) (kt.step hW).c2) (by decide) (by kernel_rfl) (fun a71 hk71 => ?_)
  refine pl_run 72 127 (.slice (some ⟨W.heap.size, 0, none⟩) 1 1) hk71 (by kernel_rfl) (by kernel_rfl) (want_if (j := 69) (d := 124) (by kernel_rfl) (by kernel_rfl) (hk71.2.2 _ _ (.tail _ (.tail _ (.head _))))) (z_build (k := 129) (by kernel_rfl) rfl) (by decide) (by kernel_rfl) (fun a72 hk72 => ?_)
  refine pl_call 73 128 (f := 32) hk72 (by kernel_rfl) (by kernel_rfl) (want_if (j := 69) (d := 124) (by kernel_rfl) (by kernel_rfl) (hk72.2.2 _ _ (.tail _ (.tail _ (.tail _ (.head _)))))) (z_call2 (ty := #[22, 22]) (x := .tmp 126) (y := .tmp 127) en_words (by kernel_rfl) rfl (hk72.ev (.tail _ (.head _))) (hk72.ev (.head _))) (by decide) (by kernel_rfl) ?_
  refine (words_k (v := 129) (it.step hW) (by unfold B64; omega) (by omega)).mono ?_
  rintro _ W73 ⟨rfl, b73⟩
  have hW73 := below_step hW b73
  refine ⟨_, rfl, fun a73 hk73 => ?_⟩
  refine pl_run 74 129 (.bool true) hk73 (by kernel_rfl) (by kernel_rfl) (want_none (by kernel_rfl)) (z_pick (c := .tmp 124) (x := .tmp 128) (y := .const (.bool false)) (by kernel_rfl) (hk73.ev (.tail _ (.tail _ (.tail _ (.tail _ (.head _)))))) (hk73.ev (.head _))) (by decide) (by kernel_rfl) (fun a74 hk74 => ?_)
  refine pl_run 75 0 (.bool true) hk74 (by kernel_rfl) (by kernel_rfl) (want_none (by kernel_rfl)) (z_assign (x := .tmp 129) (by kernel_rfl) (hk74.ev (.head _))) (by decide) (by kernel_rfl) (fun a75 hk75 => ?_)
  exact hend _ _ hk75.2.1 (hk75.ev (.head _)) hW73

set_option maxRecDepth 100000 in
set_option maxHeartbeats 4000000 in
theorem kq6 {QQ : Exit → Act → World → Prop} {w9 : World} {ga gb gc gd gz gt : Nat} {Aa Ab Ac Ad Az At : Option Addr} {na ca nb cb nc cc nd cd nz cz nt ct : Nat} (ka : Bx w9 ga n85.s n85.e Aa na ca) (ia : Is w9 Aa na ca n85.m) (kb : Bx w9 gb n171.s n171.e Ab nb cb) (ib : Is w9 Ab nb cb n171.m) (kc : Bx w9 gc n4.s n4.e Ac nc cc) (ic : Is w9 Ac nc cc n4.m) (kd : Bx w9 gd n9.s n9.e Ad nd cd) (id : Is w9 Ad nd cd n9.m) (kz : Bx w9 gz nm2.s nm2.e Az nz cz) (iz : Is w9 Az nz cz nm2.m) (kt : Bx w9 gt n129.s n129.e At nt ct) (it : Is w9 At nt ct n129.m) (hend : ∀ a' w', a'.defers = [] → a'.eval (.tmp 0) = .bool true → Below w9.heap.size w9 w' → QQ .normal a' w') {W : World} (hW : Below w9.heap.size w9 W) {a : Act} (hk : Kno 130 a [(11, .pointer (some ⟨gz, 0, none⟩)), (13, .pointer (some ⟨gt, 0, none⟩)), (113, .bool true)]) :
    wpOps Tryd.prog (endOf Tryd.f9) QQ (List.range' 59 17) a W := by
  have _ := And.intro ka (And.intro ia (And.intro kb (And.intro ib (And.intro kc (And.intro ic (And.intro kd (And.intro id (And.intro kz (And.intro iz (And.intro kt (And.intro it hend)))))))))))
  refine pl_run 59 114 (.bool true) hk (by kernel_rfl) (by kernel_rfl) (want_none (by kernel_rfl)) (z_move (x := .tmp 113) (by kernel_rfl) (hk.ev (.tail _ (.tail _ (.head _))))) (by decide) (by kernel_rfl) (fun a59 hk59 => ?_)
  refine pl_run 60 115 (.pointer (some ⟨gz, 1, none⟩)) hk59 (by kernel_rfl) (by kernel_rfl) (want_if (j := 59) (d := 114) (by kernel_rfl) (by kernel_rfl) (hk59.2.2 _ _ (.head _))) (z_addr (t := .tmp 11) (j := 1) (by omega) (by kernel_rfl) (hk59.ev (.tail _ (.head _)))) (by decide) (by kernel_rfl) (fun a60 hk60 => ?_)
  refine pl_run 61 116 (.int .i64 1) hk60 (by kernel_rfl) (by kernel_rfl) (want_if (j := 59) (d := 114) (by kernel_rfl) (by kernel_rfl) (hk60.2.2 _ _ (.tail _ (.head _)))) (z_load (T := 2) (t := .tmp 115) (.inl rfl) (by kernel_rfl) (hk60.ev (.head _)) (kz.step hW).c1) (by decide) (by kernel_rfl) (fun a61 hk61 => ?_)
  refine pl_run 62 117 (.bool true) hk61 (by kernel_rfl) (by kernel_rfl) (want_if (j := 59) (d := 114) (by kernel_rfl) (by kernel_rfl) (hk61.2.2 _ _ (.tail _ (.tail _ (.head _))))) (z_eql (t := .tmp 116) (k := 1) (.inl rfl) (by kernel_rfl) rfl (hk61.ev (.head _))) (by decide) (by kernel_rfl) (fun a62 hk62 => ?_)
  refine pl_run 63 118 (.bool true) hk62 (by kernel_rfl) (by kernel_rfl) (want_none (by kernel_rfl)) (z_pick (c := .tmp 114) (x := .tmp 117) (y := .const (.bool false)) (by kernel_rfl) (hk62.ev (.tail _ (.tail _ (.tail _ (.head _))))) (hk62.ev (.head _))) (by decide) (by kernel_rfl) (fun a63 hk63 => ?_)
  refine pl_run 64 119 (.bool true) hk63 (by kernel_rfl) (by kernel_rfl) (want_none (by kernel_rfl)) (z_move (x := .tmp 118) (by kernel_rfl) (hk63.ev (.head _))) (by decide) (by kernel_rfl) (fun a64 hk64 => ?_)
  refine pl_run 65 120 (.pointer (some ⟨gt, 1, none⟩)) hk64 (by kernel_rfl) (by kernel_rfl) (want_if (j := 64) (d := 119) (by kernel_rfl) (by kernel_rfl) (hk64.2.2 _ _ (.head _))) (z_addr (t := .tmp 13) (j := 1) (by omega) (by kernel_rfl) (hk64.ev (.tail _ (.tail _ (.tail _ (.tail _ (.tail _ (.tail _ (.tail _ (.head _)))))))))) (by decide) (by kernel_rfl) (fun a65 hk65 => ?_)
  refine pl_run 66 121 (.int .i64 1) hk65 (by kernel_rfl) (by kernel_rfl) (want_if (j := 64) (d := 119) (by kernel_rfl) (by kernel_rfl) (hk65.2.2 _ _ (.tail _ (.head _)))) (z_load (T := 2) (t := .tmp 120) (.inl rfl) (by kernel_rfl) (hk65.ev (.head _)) (kt.step hW).c1) (by decide) (by kernel_rfl) (fun a66 hk66 => ?_)
  refine pl_run 67 122 (.bool true) hk66 (by kernel_rfl) (by kernel_rfl) (want_if (j := 64) (d := 119) (by kernel_rfl) (by kernel_rfl) (hk66.2.2 _ _ (.tail _ (.tail _ (.head _))))) (z_eql (t := .tmp 121) (k := 1) (.inl rfl) (by kernel_rfl) rfl (hk66.ev (.head _))) (by decide) (by kernel_rfl) (fun a67 hk67 => ?_)
  refine pl_run 68 123 (.bool true) hk67 (by kernel_rfl) (by kernel_rfl) (want_none (by kernel_rfl)) (z_pick (c := .tmp 119) (x := .tmp 122) (y := .const (.bool false)) (by kernel_rfl) (hk67.ev (.tail _ (.tail _ (.tail _ (.head _))))) (hk67.ev (.head _))) (by decide) (by kernel_rfl) (fun a68 hk68 => ?_)
  exact kq7 ka ia kb ib kc ic kd id kz iz kt it hend hW (Kno.add (Kno.add (Kno.nil hk68) hk68 (.head _)) hk68 (.tail _ (.tail _ (.tail _ (.tail _ (.tail _ (.tail _ (.tail _ (.tail _ (.tail _ (.tail _ (.tail _ (.head _)))))))))))))

set_option maxRecDepth 100000 in
set_option maxHeartbeats 4000000 in
theorem kq5 {QQ : Exit → Act → World → Prop} {w9 : World} {ga gb gc gd gz gt : Nat} {Aa Ab Ac Ad Az At : Option Addr} {na ca nb cb nc cc nd cd nz cz nt ct : Nat} (ka : Bx w9 ga n85.s n85.e Aa na ca) (ia : Is w9 Aa na ca n85.m) (kb : Bx w9 gb n171.s n171.e Ab nb cb) (ib : Is w9 Ab nb cb n171.m) (kc : Bx w9 gc n4.s n4.e Ac nc cc) (ic : Is w9 Ac nc cc n4.m) (kd : Bx w9 gd n9.s n9.e Ad nd cd) (id : Is w9 Ad nd cd n9.m) (kz : Bx w9 gz nm2.s nm2.e Az nz cz) (iz : Is w9 Az nz cz nm2.m) (kt : Bx w9 gt n129.s n129.e At nt ct) (it : Is w9 At nt ct n129.m) (hend : ∀ a' w', a'.defers = [] → a'.eval (.tmp 0) = .bool true → Below w9.heap.size w9 w' → QQ .normal a' w') {W : World} (hW : Below w9.heap.size w9 W) {a : Act} (hk : Kno 130 a [(9, .pointer (some ⟨gd, 0, none⟩)), (11, .pointer (some ⟨gz, 0, none⟩)), (13, .pointer (some ⟨gt, 0, none⟩)), (103, .bool true)]) :
    wpOps Tryd.prog (endOf Tryd.f9) QQ (List.range' 49 27) a W := by
  have _ := And.intro ka (And.intro ia (And.intro kb (And.intro ib (And.intro kc (And.intro ic (And.intro kd (And.intro id (And.intro kz (And.intro iz (And.intro kt (And.intro it hend)))))))))))
  refine pl_run 49 104 (.bool true) hk (by kernel_rfl) (by kernel_rfl) (want_none (by kernel_rfl)) (z_move (x := .tmp 103) (by kernel_rfl) (hk.ev (.tail _ (.tail _ (.tail _ (.head _)))))) (by decide) (by kernel_rfl) (fun a49 hk49 => ?_)
  refine pl_run 50 105 (.pointer (some ⟨gd, 2, none⟩)) hk49 (by kernel_rfl) (by kernel_rfl) (want_if (j := 49) (d := 104) (by kernel_rfl) (by kernel_rfl) (hk49.2.2 _ _ (.head _))) (z_addr (t := .tmp 9) (j := 2) (by omega) (by kernel_rfl) (hk49.ev (.tail _ (.head _)))) (by decide) (by kernel_rfl) (fun a50 hk50 => ?_)
  refine pl_run 51 106 (.slice Ad nd cd) hk50 (by kernel_rfl) (by kernel_rfl) (want_if (j := 49) (d := 104) (by kernel_rfl) (by kernel_rfl) (hk50.2.2 _ _ (.tail _ (.head _)))) (z_load (T := 22) (t := .tmp 105) (.inr rfl) (by kernel_rfl) (hk50.ev (.head _)) (kd.step hW).c2) (by decide) (by kernel_rfl) (fun a51 hk51 => ?_)
  refine pl_run 52 107 (.slice (some ⟨W.heap.size, 0, none⟩) 1 1) hk51 (by kernel_rfl) (by kernel_rfl) (want_if (j := 49) (d := 104) (by kernel_rfl) (by kernel_rfl) (hk51.2.2 _ _ (.tail _ (.tail _ (.head _))))) (z_build (k := 9) (by kernel_rfl) rfl) (by decide) (by kernel_rfl) (fun a52 hk52 => ?_)
  refine pl_call 53 108 (f := 32) hk52 (by kernel_rfl) (by kernel_rfl) (want_if (j := 49) (d := 104) (by kernel_rfl) (by kernel_rfl) (hk52.2.2 _ _ (.tail _ (.tail _ (.tail _ (.head _)))))) (z_call2 (ty := #[22, 22]) (x := .tmp 106) (y := .tmp 107) en_words (by kernel_rfl) rfl (hk52.ev (.tail _ (.head _))) (hk52.ev (.head _))) (by decide) (by kernel_rfl) ?_
  refine (words_k (v := 9) (id.step hW) (by unfold B64; omega) (by omega)).mono ?_
  rintro _ W53 ⟨rfl, b53⟩
  have hW53 := below_step hW b53
  refine ⟨_, rfl, fun a53 hk53 => ?_⟩
  refine pl_run 54 109 (.bool true) hk53 (by kernel_rfl) (by kernel_rfl) (want_none (by kernel_rfl)) (z_pick (c := .tmp 104) (x := .tmp 108) (y := .const (.bool false)) (by kernel_rfl) (hk53.ev (.tail _ (.tail _ (.tail _ (.tail _ (.head _)))))) (hk53.ev (.head _))) (by decide) (by kernel_rfl) (fun a54 hk54 => ?_)
  refine pl_run 55 110 (.bool true) hk54 (by kernel_rfl) (by kernel_rfl) (want_none (by kernel_rfl)) (z_move (x := .tmp 109) (by kernel_rfl) (hk54.ev (.head _))) (by decide) (by kernel_rfl) (fun a55 hk55 => ?_)
  refine pl_run 56 111 (.pointer (some ⟨gz, 0, none⟩)) hk55 (by kernel_rfl) (by kernel_rfl) (want_if (j := 55) (d := 110) (by kernel_rfl) (by kernel_rfl) (hk55.2.2 _ _ (.head _))) (z_addr (t := .tmp 11) (j := 0) (by omega) (by kernel_rfl) (hk55.ev (.tail _ (.tail _ (.tail _ (.tail _ (.tail _ (.tail _ (.tail _ (.tail _ (.head _))))))))))) (by decide) (by kernel_rfl) (fun a56 hk56 => ?_)
  refine pl_run 57 112 (.bool true) hk56 (by kernel_rfl) (by kernel_rfl) (want_if (j := 55) (d := 110) (by kernel_rfl) (by kernel_rfl) (hk56.2.2 _ _ (.tail _ (.head _)))) (z_loadb (t := .tmp 111) (by kernel_rfl) (hk56.ev (.head _)) (kz.step hW53).c0) (by decide) (by kernel_rfl) (fun a57 hk57 => ?_)
  refine pl_run 58 113 (.bool true) hk57 (by kernel_rfl) (by kernel_rfl) (want_none (by kernel_rfl)) (z_pick (c := .tmp 110) (x := .tmp 112) (y := .const (.bool false)) (by kernel_rfl) (hk57.ev (.tail _ (.tail _ (.head _)))) (hk57.ev (.head _))) (by decide) (by kernel_rfl) (fun a58 hk58 => ?_)
  exact kq6 ka ia kb ib kc ic kd id kz iz kt it hend hW53 (Kno.add (Kno.add (Kno.add (Kno.nil hk58) hk58 (.head _)) hk58 (.tail _ (.tail _ (.tail _ (.tail _ (.tail _ (.tail _ (.tail _ (.tail _ (.tail _ (.tail _ (.tail _ (.tail _ (.head _)))))))))))))) hk58 (.tail _ (.tail _ (.tail _ (.tail _ (.tail _ (.tail _ (.tail _ (.tail _ (.tail _ (.tail _ (.tail _ (.head _)))))))))))))

set_option maxRecDepth 100000 in
set_option maxHeartbeats 4000000 in
theorem kq4 {QQ : Exit → Act → World → Prop} {w9 : World} {ga gb gc gd gz gt : Nat} {Aa Ab Ac Ad Az At : Option Addr} {na ca nb cb nc cc nd cd nz cz nt ct : Nat} (ka : Bx w9 ga n85.s n85.e Aa na ca) (ia : Is w9 Aa na ca n85.m) (kb : Bx w9 gb n171.s n171.e Ab nb cb) (ib : Is w9 Ab nb cb n171.m) (kc : Bx w9 gc n4.s n4.e Ac nc cc) (ic : Is w9 Ac nc cc n4.m) (kd : Bx w9 gd n9.s n9.e Ad nd cd) (id : Is w9 Ad nd cd n9.m) (kz : Bx w9 gz nm2.s nm2.e Az nz cz) (iz : Is w9 Az nz cz nm2.m) (kt : Bx w9 gt n129.s n129.e At nt ct) (it : Is w9 At nt ct n129.m) (hend : ∀ a' w', a'.defers = [] → a'.eval (.tmp 0) = .bool true → Below w9.heap.size w9 w' → QQ .normal a' w') {W : World} (hW : Below w9.heap.size w9 W) {a : Act} (hk : Kno 130 a [(5, .pointer (some ⟨gb, 0, none⟩)), (7, .pointer (some ⟨gc, 0, none⟩)), (9, .pointer (some ⟨gd, 0, none⟩)), (11, .pointer (some ⟨gz, 0, none⟩)), (13, .pointer (some ⟨gt, 0, none⟩)), (92, .bool true)]) :
    wpOps Tryd.prog (endOf Tryd.f9) QQ (List.range' 38 38) a W := by
  have _ := And.intro ka (And.intro ia (And.intro kb (And.intro ib (And.intro kc (And.intro ic (And.intro kd (And.intro id (And.intro kz (And.intro iz (And.intro kt (And.intro it hend)))))))))))
  refine pl_run 38 93 (.bool true) hk (by kernel_rfl) (by kernel_rfl) (want_none (by kernel_rfl)) (z_move (x := .tmp 92) (by kernel_rfl) (hk.ev (.tail _ (.tail _ (.tail _ (.tail _ (.tail _ (.head _)))))))) (by decide) (by kernel_rfl) (fun a38 hk38 => ?_)
  refine pl_run 39 94 (.pointer (some ⟨gb, 2, none⟩)) hk38 (by kernel_rfl) (by kernel_rfl) (want_if (j := 38) (d := 93) (by kernel_rfl) (by kernel_rfl) (hk38.2.2 _ _ (.head _))) (z_addr (t := .tmp 5) (j := 2) (by omega) (by kernel_rfl) (hk38.ev (.tail _ (.head _)))) (by decide) (by kernel_rfl) (fun a39 hk39 => ?_)
  refine pl_run 40 95 (.slice Ab nb cb) hk39 (by kernel_rfl) (by kernel_rfl) (want_if (j := 38) (d := 93) (by kernel_rfl) (by kernel_rfl) (hk39.2.2 _ _ (.tail _ (.head _)))) (z_load (T := 22) (t := .tmp 94) (.inr rfl) (by kernel_rfl) (hk39.ev (.head _)) (kb.step hW).c2) (by decide) (by kernel_rfl) (fun a40 hk40 => ?_)
  refine pl_run 41 96 (.slice (some ⟨W.heap.size, 0, none⟩) 1 1) hk40 (by kernel_rfl) (by kernel_rfl) (want_if (j := 38) (d := 93) (by kernel_rfl) (by kernel_rfl) (hk40.2.2 _ _ (.tail _ (.tail _ (.head _))))) (z_build (k := 171) (by kernel_rfl) rfl) (by decide) (by kernel_rfl) (fun a41 hk41 => ?_)
  refine pl_call 42 97 (f := 32) hk41 (by kernel_rfl) (by kernel_rfl) (want_if (j := 38) (d := 93) (by kernel_rfl) (by kernel_rfl) (hk41.2.2 _ _ (.tail _ (.tail _ (.tail _ (.head _)))))) (z_call2 (ty := #[22, 22]) (x := .tmp 95) (y := .tmp 96) en_words (by kernel_rfl) rfl (hk41.ev (.tail _ (.head _))) (hk41.ev (.head _))) (by decide) (by kernel_rfl) ?_
  refine (words_k (v := 171) (ib.step hW) (by unfold B64; omega) (by omega)).mono ?_
  rintro _ W42 ⟨rfl, b42⟩
  have hW42 := below_step hW b42
  refine ⟨_, rfl, fun a42 hk42 => ?_⟩
  refine pl_run 43 98 (.bool true) hk42 (by kernel_rfl) (by kernel_rfl) (want_none (by kernel_rfl)) (z_pick (c := .tmp 93) (x := .tmp 97) (y := .const (.bool false)) (by kernel_rfl) (hk42.ev (.tail _ (.tail _ (.tail _ (.tail _ (.head _)))))) (hk42.ev (.head _))) (by decide) (by kernel_rfl) (fun a43 hk43 => ?_)
  refine pl_run 44 99 (.bool true) hk43 (by kernel_rfl) (by kernel_rfl) (want_none (by kernel_rfl)) (z_move (x := .tmp 98) (by kernel_rfl) (hk43.ev (.head _))) (by decide) (by kernel_rfl) (fun a44 hk44 => ?_)
  refine pl_run 45 100 (.pointer (some ⟨gc, 1, none⟩)) hk44 (by kernel_rfl) (by kernel_rfl) (want_if (j := 44) (d := 99) (by kernel_rfl) (by kernel_rfl) (hk44.2.2 _ _ (.head _))) (z_addr (t := .tmp 7) (j := 1) (by omega) (by kernel_rfl) (hk44.ev (.tail _ (.tail _ (.tail _ (.tail _ (.tail _ (.tail _ (.tail _ (.tail _ (.head _))))))))))) (by decide) (by kernel_rfl) (fun a45 hk45 => ?_)
  refine pl_run 46 101 (.int .i64 2) hk45 (by kernel_rfl) (by kernel_rfl) (want_if (j := 44) (d := 99) (by kernel_rfl) (by kernel_rfl) (hk45.2.2 _ _ (.tail _ (.head _)))) (z_load (T := 2) (t := .tmp 100) (.inl rfl) (by kernel_rfl) (hk45.ev (.head _)) (kc.step hW42).c1) (by decide) (by kernel_rfl) (fun a46 hk46 => ?_)
  refine pl_run 47 102 (.bool true) hk46 (by kernel_rfl) (by kernel_rfl) (want_if (j := 44) (d := 99) (by kernel_rfl) (by kernel_rfl) (hk46.2.2 _ _ (.tail _ (.tail _ (.head _))))) (z_eql (t := .tmp 101) (k := 2) (.inl rfl) (by kernel_rfl) rfl (hk46.ev (.head _))) (by decide) (by kernel_rfl) (fun a47 hk47 => ?_)
  refine pl_run 48 103 (.bool true) hk47 (by kernel_rfl) (by kernel_rfl) (want_none (by kernel_rfl)) (z_pick (c := .tmp 99) (x := .tmp 102) (y := .const (.bool false)) (by kernel_rfl) (hk47.ev (.tail _ (.tail _ (.tail _ (.head _))))) (hk47.ev (.head _))) (by decide) (by kernel_rfl) (fun a48 hk48 => ?_)
  exact kq5 ka ia kb ib kc ic kd id kz iz kt it hend hW42 (Kno.add (Kno.add (Kno.add (Kno.add (Kno.nil hk48) hk48 (.head _)) hk48 (.tail _ (.tail _ (.tail _ (.tail _ (.tail _ (.tail _ (.tail _ (.tail _ (.tail _ (.tail _ (.tail _ (.tail _ (.tail _ (.tail _ (.tail _ (.head _))))))))))))))))) hk48 (.tail _ (.tail _ (.tail _ (.tail _ (.tail _ (.tail _ (.tail _ (.tail _ (.tail _ (.tail _ (.tail _ (.tail _ (.tail _ (.tail _ (.head _)))))))))))))))) hk48 (.tail _ (.tail _ (.tail _ (.tail _ (.tail _ (.tail _ (.tail _ (.tail _ (.tail _ (.tail _ (.tail _ (.tail _ (.tail _ (.head _)))))))))))))))

set_option maxRecDepth 100000 in
set_option maxHeartbeats 4000000 in
theorem kq3 {QQ : Exit → Act → World → Prop} {w9 : World} {ga gb gc gd gz gt : Nat} {Aa Ab Ac Ad Az At : Option Addr} {na ca nb cb nc cc nd cd nz cz nt ct : Nat} (ka : Bx w9 ga n85.s n85.e Aa na ca) (ia : Is w9 Aa na ca n85.m) (kb : Bx w9 gb n171.s n171.e Ab nb cb) (ib : Is w9 Ab nb cb n171.m) (kc : Bx w9 gc n4.s n4.e Ac nc cc) (ic : Is w9 Ac nc cc n4.m) (kd : Bx w9 gd n9.s n9.e Ad nd cd) (id : Is w9 Ad nd cd n9.m) (kz : Bx w9 gz nm2.s nm2.e Az nz cz) (iz : Is w9 Az nz cz nm2.m) (kt : Bx w9 gt n129.s n129.e At nt ct) (it : Is w9 At nt ct n129.m) (hend : ∀ a' w', a'.defers = [] → a'.eval (.tmp 0) = .bool true → Below w9.heap.size w9 w' → QQ .normal a' w') {W : World} (hW : Below w9.heap.size w9 W) {a : Act} (hk : Kno 130 a [(3, .pointer (some ⟨ga, 0, none⟩)), (5, .pointer (some ⟨gb, 0, none⟩)), (7, .pointer (some ⟨gc, 0, none⟩)), (9, .pointer (some ⟨gd, 0, none⟩)), (11, .pointer (some ⟨gz, 0, none⟩)), (13, .pointer (some ⟨gt, 0, none⟩)), (81, .bool true)]) :
    wpOps Tryd.prog (endOf Tryd.f9) QQ (List.range' 27 49) a W := by
  have _ := And.intro ka (And.intro ia (And.intro kb (And.intro ib (And.intro kc (And.intro ic (And.intro kd (And.intro id (And.intro kz (And.intro iz (And.intro kt (And.intro it hend)))))))))))
  refine pl_run 27 82 (.bool true) hk (by kernel_rfl) (by kernel_rfl) (want_none (by kernel_rfl)) (z_move (x := .tmp 81) (by kernel_rfl) (hk.ev (.tail _ (.tail _ (.tail _ (.tail _ (.tail _ (.tail _ (.head _))))))))) (by decide) (by kernel_rfl) (fun a27 hk27 => ?_)
  refine pl_run 28 83 (.pointer (some ⟨ga, 2, none⟩)) hk27 (by kernel_rfl) (by kernel_rfl) (want_if (j := 27) (d := 82) (by kernel_rfl) (by kernel_rfl) (hk27.2.2 _ _ (.head _))) (z_addr (t := .tmp 3) (j := 2) (by omega) (by kernel_rfl) (hk27.ev (.tail _ (.head _)))) (by decide) (by kernel_rfl) (fun a28 hk28 => ?_)
  refine pl_run 29 84 (.slice Aa na ca) hk28 (by kernel_rfl) (by kernel_rfl) (want_if (j := 27) (d := 82) (by kernel_rfl) (by kernel_rfl) (hk28.2.2 _ _ (.tail _ (.head _)))) (z_load (T := 22) (t := .tmp 83) (.inr rfl) (by kernel_rfl) (hk28.ev (.head _)) (ka.step hW).c2) (by decide) (by kernel_rfl) (fun a29 hk29 => ?_)
  refine pl_run 30 85 (.slice (some ⟨W.heap.size, 0, none⟩) 1 1) hk29 (by kernel_rfl) (by kernel_rfl) (want_if (j := 27) (d := 82) (by kernel_rfl) (by kernel_rfl) (hk29.2.2 _ _ (.tail _ (.tail _ (.head _))))) (z_build (k := 85) (by kernel_rfl) rfl) (by decide) (by kernel_rfl) (fun a30 hk30 => ?_)
  refine pl_call 31 86 (f := 32) hk30 (by kernel_rfl) (by kernel_rfl) (want_if (j := 27) (d := 82) (by kernel_rfl) (by kernel_rfl) (hk30.2.2 _ _ (.tail _ (.tail _ (.tail _ (.head _)))))) (z_call2 (ty := #[22, 22]) (x := .tmp 84) (y := .tmp 85) en_words (by kernel_rfl) rfl (hk30.ev (.tail _ (.head _))) (hk30.ev (.head _))) (by decide) (by kernel_rfl) ?_
  refine (words_k (v := 85) (ia.step hW) (by unfold B64; omega) (by omega)).mono ?_
  rintro _ W31 ⟨rfl, b31⟩
  have hW31 := below_step hW b31
  refine ⟨_, rfl, fun a31 hk31 => ?_⟩
  refine pl_run 32 87 (.bool true) hk31 (by kernel_rfl) (by kernel_rfl) (want_none (by kernel_rfl)) (z_pick (c := .tmp 82) (x := .tmp 86) (y := .const (.bool false)) (by kernel_rfl) (hk31.ev (.tail _ (.tail _ (.tail _ (.tail _ (.head _)))))) (hk31.ev (.head _))) (by decide) (by kernel_rfl) (fun a32 hk32 => ?_)
  refine pl_run 33 88 (.bool true) hk32 (by kernel_rfl) (by kernel_rfl) (want_none (by kernel_rfl)) (z_move (x := .tmp 87) (by kernel_rfl) (hk32.ev (.head _))) (by decide) (by kernel_rfl) (fun a33 hk33 => ?_)
  refine pl_run 34 89 (.pointer (some ⟨gb, 1, none⟩)) hk33 (by kernel_rfl) (by kernel_rfl) (want_if (j := 33) (d := 88) (by kernel_rfl) (by kernel_rfl) (hk33.2.2 _ _ (.head _))) (z_addr (t := .tmp 5) (j := 1) (by omega) (by kernel_rfl) (hk33.ev (.tail _ (.tail _ (.tail _ (.tail _ (.tail _ (.tail _ (.tail _ (.tail _ (.head _))))))))))) (by decide) (by kernel_rfl) (fun a34 hk34 => ?_)
  refine pl_run 35 90 (.int .i64 (-9)) hk34 (by kernel_rfl) (by kernel_rfl) (want_if (j := 33) (d := 88) (by kernel_rfl) (by kernel_rfl) (hk34.2.2 _ _ (.tail _ (.head _)))) (z_load (T := 2) (t := .tmp 89) (.inl rfl) (by kernel_rfl) (hk34.ev (.head _)) (kb.step hW31).c1) (by decide) (by kernel_rfl) (fun a35 hk35 => ?_)
  refine pl_run 36 91 (.bool true) hk35 (by kernel_rfl) (by kernel_rfl) (want_if (j := 33) (d := 88) (by kernel_rfl) (by kernel_rfl) (hk35.2.2 _ _ (.tail _ (.tail _ (.head _))))) (z_eql (t := .tmp 90) (k := -9) (.inl rfl) (by kernel_rfl) rfl (hk35.ev (.head _))) (by decide) (by kernel_rfl) (fun a36 hk36 => ?_)
  refine pl_run 37 92 (.bool true) hk36 (by kernel_rfl) (by kernel_rfl) (want_none (by kernel_rfl)) (z_pick (c := .tmp 88) (x := .tmp 91) (y := .const (.bool false)) (by kernel_rfl) (hk36.ev (.tail _ (.tail _ (.tail _ (.head _))))) (hk36.ev (.head _))) (by decide) (by kernel_rfl) (fun a37 hk37 => ?_)
  exact kq4 ka ia kb ib kc ic kd id kz iz kt it hend hW31 (Kno.add (Kno.add (Kno.add (Kno.add (Kno.add (Kno.add (Kno.nil hk37) hk37 (.head _)) hk37 (.tail _ (.tail _ (.tail _ (.tail _ (.tail _ (.tail _ (.tail _ (.tail _ (.tail _ (.tail _ (.tail _ (.tail _ (.tail _ (.tail _ (.tail _ (.tail _ (.head _)))))))))))))))))) hk37 (.tail _ (.tail _ (.tail _ (.tail _ (.tail _ (.tail _ (.tail _ (.tail _ (.tail _ (.tail _ (.tail _ (.tail _ (.tail _ (.tail _ (.tail _ (.head _))))))))))))))))) hk37 (.tail _ (.tail _ (.tail _ (.tail _ (.tail _ (.tail _ (.tail _ (.tail _ (.tail _ (.tail _ (.tail _ (.tail _ (.tail _ (.tail _ (.head _)))))))))))))))) hk37 (.tail _ (.tail _ (.tail _ (.tail _ (.tail _ (.tail _ (.tail _ (.tail _ (.tail _ (.tail _ (.tail _ (.tail _ (.tail _ (.head _))))))))))))))) hk37 (.tail _ (.tail _ (.tail _ (.tail _ (.tail _ (.tail _ (.tail _ (.tail _ (.tail _ (.tail _ (.tail _ (.tail _ (.head _))))))))))))))

set_option maxRecDepth 100000 in
set_option maxHeartbeats 4000000 in
theorem kq2 {QQ : Exit → Act → World → Prop} {w9 : World} {ga gb gc gd gz gt : Nat} {Aa Ab Ac Ad Az At : Option Addr} {na ca nb cb nc cc nd cd nz cz nt ct : Nat} (ka : Bx w9 ga n85.s n85.e Aa na ca) (ia : Is w9 Aa na ca n85.m) (kb : Bx w9 gb n171.s n171.e Ab nb cb) (ib : Is w9 Ab nb cb n171.m) (kc : Bx w9 gc n4.s n4.e Ac nc cc) (ic : Is w9 Ac nc cc n4.m) (kd : Bx w9 gd n9.s n9.e Ad nd cd) (id : Is w9 Ad nd cd n9.m) (kz : Bx w9 gz nm2.s nm2.e Az nz cz) (iz : Is w9 Az nz cz nm2.m) (kt : Bx w9 gt n129.s n129.e At nt ct) (it : Is w9 At nt ct n129.m) (hend : ∀ a' w', a'.defers = [] → a'.eval (.tmp 0) = .bool true → Below w9.heap.size w9 w' → QQ .normal a' w') {W : World} (hW : Below w9.heap.size w9 W) {a : Act} (hk : Kno 130 a [(3, .pointer (some ⟨ga, 0, none⟩)), (5, .pointer (some ⟨gb, 0, none⟩)), (7, .pointer (some ⟨gc, 0, none⟩)), (9, .pointer (some ⟨gd, 0, none⟩)), (11, .pointer (some ⟨gz, 0, none⟩)), (13, .pointer (some ⟨gt, 0, none⟩)), (14, .int .i64 0), (72, .bool true)]) :
    wpOps Tryd.prog (endOf Tryd.f9) QQ (List.range' 18 58) a W := by
  have _ := And.intro ka (And.intro ia (And.intro kb (And.intro ib (And.intro kc (And.intro ic (And.intro kd (And.intro id (And.intro kz (And.intro iz (And.intro kt (And.intro it hend)))))))))))
  refine pl_run 18 73 (.bool true) hk (by kernel_rfl) (by kernel_rfl) (want_none (by kernel_rfl)) (z_move (x := .tmp 72) (by kernel_rfl) (hk.ev (.tail _ (.tail _ (.tail _ (.tail _ (.tail _ (.tail _ (.tail _ (.head _)))))))))) (by decide) (by kernel_rfl) (fun a18 hk18 => ?_)
  refine pl_run 19 74 (.int .i64 0) hk18 (by kernel_rfl) (by kernel_rfl) (want_if (j := 18) (d := 73) (by kernel_rfl) (by kernel_rfl) (hk18.2.2 _ _ (.head _))) (z_move (x := .tmp 14) (by kernel_rfl) (hk18.ev (.tail _ (.tail _ (.tail _ (.tail _ (.tail _ (.tail _ (.tail _ (.head _)))))))))) (by decide) (by kernel_rfl) (fun a19 hk19 => ?_)
  refine pl_run 20 75 (.bool true) hk19 (by kernel_rfl) (by kernel_rfl) (want_if (j := 18) (d := 73) (by kernel_rfl) (by kernel_rfl) (hk19.2.2 _ _ (.tail _ (.head _)))) (z_eql (t := .tmp 74) (k := 0) (.inr (.inr rfl)) (by kernel_rfl) rfl (hk19.ev (.head _))) (by decide) (by kernel_rfl) (fun a20 hk20 => ?_)
  refine pl_run 21 76 (.bool true) hk20 (by kernel_rfl) (by kernel_rfl) (want_none (by kernel_rfl)) (z_pick (c := .tmp 73) (x := .tmp 75) (y := .const (.bool false)) (by kernel_rfl) (hk20.ev (.tail _ (.tail _ (.head _)))) (hk20.ev (.head _))) (by decide) (by kernel_rfl) (fun a21 hk21 => ?_)
  refine pl_run 22 77 (.bool true) hk21 (by kernel_rfl) (by kernel_rfl) (want_none (by kernel_rfl)) (z_move (x := .tmp 76) (by kernel_rfl) (hk21.ev (.head _))) (by decide) (by kernel_rfl) (fun a22 hk22 => ?_)
  refine pl_run 23 78 (.pointer (some ⟨ga, 1, none⟩)) hk22 (by kernel_rfl) (by kernel_rfl) (want_if (j := 22) (d := 77) (by kernel_rfl) (by kernel_rfl) (hk22.2.2 _ _ (.head _))) (z_addr (t := .tmp 3) (j := 1) (by omega) (by kernel_rfl) (hk22.ev (.tail _ (.tail _ (.tail _ (.tail _ (.tail _ (.head _)))))))) (by decide) (by kernel_rfl) (fun a23 hk23 => ?_)
  refine pl_run 24 79 (.int .i64 (-8)) hk23 (by kernel_rfl) (by kernel_rfl) (want_if (j := 22) (d := 77) (by kernel_rfl) (by kernel_rfl) (hk23.2.2 _ _ (.tail _ (.head _)))) (z_load (T := 2) (t := .tmp 78) (.inl rfl) (by kernel_rfl) (hk23.ev (.head _)) (ka.step hW).c1) (by decide) (by kernel_rfl) (fun a24 hk24 => ?_)
  refine pl_run 25 80 (.bool true) hk24 (by kernel_rfl) (by kernel_rfl) (want_if (j := 22) (d := 77) (by kernel_rfl) (by kernel_rfl) (hk24.2.2 _ _ (.tail _ (.tail _ (.head _))))) (z_eql (t := .tmp 79) (k := -8) (.inl rfl) (by kernel_rfl) rfl (hk24.ev (.head _))) (by decide) (by kernel_rfl) (fun a25 hk25 => ?_)
  refine pl_run 26 81 (.bool true) hk25 (by kernel_rfl) (by kernel_rfl) (want_none (by kernel_rfl)) (z_pick (c := .tmp 77) (x := .tmp 80) (y := .const (.bool false)) (by kernel_rfl) (hk25.ev (.tail _ (.tail _ (.tail _ (.head _))))) (hk25.ev (.head _))) (by decide) (by kernel_rfl) (fun a26 hk26 => ?_)
  exact kq3 ka ia kb ib kc ic kd id kz iz kt it hend hW (Kno.add (Kno.add (Kno.add (Kno.add (Kno.add (Kno.add (Kno.add (Kno.nil hk26) hk26 (.head _)) hk26 (.tail _ (.tail _ (.tail _ (.tail _ (.tail _ (.tail _ (.tail _ (.tail _ (.tail _ (.tail _ (.tail _ (.tail _ (.tail _ (.tail _ (.head _)))))))))))))))) hk26 (.tail _ (.tail _ (.tail _ (.tail _ (.tail _ (.tail _ (.tail _ (.tail _ (.tail _ (.tail _ (.tail _ (.tail _ (.tail _ (.head _))))))))))))))) hk26 (.tail _ (.tail _ (.tail _ (.tail _ (.tail _ (.tail _ (.tail _ (.tail _ (.tail _ (.tail _ (.tail _ (.tail _ (.head _)))))))))))))) hk26 (.tail _ (.tail _ (.tail _ (.tail _ (.tail _ (.tail _ (.tail _ (.tail _ (.tail _ (.tail _ (.tail _ (.head _))))))))))))) hk26 (.tail _ (.tail _ (.tail _ (.tail _ (.tail _ (.tail _ (.tail _ (.tail _ (.tail _ (.tail _ (.head _)))))))))))) hk26 (.tail _ (.tail _ (.tail _ (.tail _ (.tail _ (.tail _ (.tail _ (.tail _ (.tail _ (.head _)))))))))))

set_option maxRecDepth 100000 in
set_option maxHeartbeats 4000000 in
theorem kq1 {QQ : Exit → Act → World → Prop} {w9 : World} {ga gb gc gd gz gt : Nat} {Aa Ab Ac Ad Az At : Option Addr} {na ca nb cb nc cc nd cd nz cz nt ct : Nat} (ka : Bx w9 ga n85.s n85.e Aa na ca) (ia : Is w9 Aa na ca n85.m) (kb : Bx w9 gb n171.s n171.e Ab nb cb) (ib : Is w9 Ab nb cb n171.m) (kc : Bx w9 gc n4.s n4.e Ac nc cc) (ic : Is w9 Ac nc cc n4.m) (kd : Bx w9 gd n9.s n9.e Ad nd cd) (id : Is w9 Ad nd cd n9.m) (kz : Bx w9 gz nm2.s nm2.e Az nz cz) (iz : Is w9 Az nz cz nm2.m) (kt : Bx w9 gt n129.s n129.e At nt ct) (it : Is w9 At nt ct n129.m) (hend : ∀ a' w', a'.defers = [] → a'.eval (.tmp 0) = .bool true → Below w9.heap.size w9 w' → QQ .normal a' w') {W : World} (hW : Below w9.heap.size w9 W) {a : Act} (hk : Kno 130 a [(3, .pointer (some ⟨ga, 0, none⟩)), (5, .pointer (some ⟨gb, 0, none⟩)), (7, .pointer (some ⟨gc, 0, none⟩)), (9, .pointer (some ⟨gd, 0, none⟩)), (10, .int .i64 0), (11, .pointer (some ⟨gz, 0, none⟩)), (12, .int .i64 0), (13, .pointer (some ⟨gt, 0, none⟩)), (14, .int .i64 0), (64, .bool true)]) :
    wpOps Tryd.prog (endOf Tryd.f9) QQ (List.range' 10 66) a W := by
  have _ := And.intro ka (And.intro ia (And.intro kb (And.intro ib (And.intro kc (And.intro ic (And.intro kd (And.intro id (And.intro kz (And.intro iz (And.intro kt (And.intro it hend)))))))))))
  refine pl_run 10 65 (.bool true) hk (by kernel_rfl) (by kernel_rfl) (want_none (by kernel_rfl)) (z_move (x := .tmp 64) (by kernel_rfl) (hk.ev (.tail _ (.tail _ (.tail _ (.tail _ (.tail _ (.tail _ (.tail _ (.tail _ (.tail _ (.head _)))))))))))) (by decide) (by kernel_rfl) (fun a10 hk10 => ?_)
  refine pl_run 11 66 (.int .i64 0) hk10 (by kernel_rfl) (by kernel_rfl) (want_if (j := 10) (d := 65) (by kernel_rfl) (by kernel_rfl) (hk10.2.2 _ _ (.head _))) (z_move (x := .tmp 10) (by kernel_rfl) (hk10.ev (.tail _ (.tail _ (.tail _ (.tail _ (.tail _ (.head _)))))))) (by decide) (by kernel_rfl) (fun a11 hk11 => ?_)
  refine pl_run 12 67 (.bool true) hk11 (by kernel_rfl) (by kernel_rfl) (want_if (j := 10) (d := 65) (by kernel_rfl) (by kernel_rfl) (hk11.2.2 _ _ (.tail _ (.head _)))) (z_eql (t := .tmp 66) (k := 0) (.inr (.inr rfl)) (by kernel_rfl) rfl (hk11.ev (.head _))) (by decide) (by kernel_rfl) (fun a12 hk12 => ?_)
  refine pl_run 13 68 (.bool true) hk12 (by kernel_rfl) (by kernel_rfl) (want_none (by kernel_rfl)) (z_pick (c := .tmp 65) (x := .tmp 67) (y := .const (.bool false)) (by kernel_rfl) (hk12.ev (.tail _ (.tail _ (.head _)))) (hk12.ev (.head _))) (by decide) (by kernel_rfl) (fun a13 hk13 => ?_)
  refine pl_run 14 69 (.bool true) hk13 (by kernel_rfl) (by kernel_rfl) (want_none (by kernel_rfl)) (z_move (x := .tmp 68) (by kernel_rfl) (hk13.ev (.head _))) (by decide) (by kernel_rfl) (fun a14 hk14 => ?_)
  refine pl_run 15 70 (.int .i64 0) hk14 (by kernel_rfl) (by kernel_rfl) (want_if (j := 14) (d := 69) (by kernel_rfl) (by kernel_rfl) (hk14.2.2 _ _ (.head _))) (z_move (x := .tmp 12) (by kernel_rfl) (hk14.ev (.tail _ (.tail _ (.tail _ (.tail _ (.tail _ (.tail _ (.tail _ (.tail _ (.tail _ (.tail _ (.tail _ (.head _)))))))))))))) (by decide) (by kernel_rfl) (fun a15 hk15 => ?_)
  refine pl_run 16 71 (.bool true) hk15 (by kernel_rfl) (by kernel_rfl) (want_if (j := 14) (d := 69) (by kernel_rfl) (by kernel_rfl) (hk15.2.2 _ _ (.tail _ (.head _)))) (z_eql (t := .tmp 70) (k := 0) (.inr (.inr rfl)) (by kernel_rfl) rfl (hk15.ev (.head _))) (by decide) (by kernel_rfl) (fun a16 hk16 => ?_)
  refine pl_run 17 72 (.bool true) hk16 (by kernel_rfl) (by kernel_rfl) (want_none (by kernel_rfl)) (z_pick (c := .tmp 69) (x := .tmp 71) (y := .const (.bool false)) (by kernel_rfl) (hk16.ev (.tail _ (.tail _ (.head _)))) (hk16.ev (.head _))) (by decide) (by kernel_rfl) (fun a17 hk17 => ?_)
  exact kq2 ka ia kb ib kc ic kd id kz iz kt it hend hW (Kno.add (Kno.add (Kno.add (Kno.add (Kno.add (Kno.add (Kno.add (Kno.add (Kno.nil hk17) hk17 (.head _)) hk17 (.tail _ (.tail _ (.tail _ (.tail _ (.tail _ (.tail _ (.tail _ (.tail _ (.tail _ (.tail _ (.tail _ (.tail _ (.tail _ (.tail _ (.tail _ (.tail _ (.head _)))))))))))))))))) hk17 (.tail _ (.tail _ (.tail _ (.tail _ (.tail _ (.tail _ (.tail _ (.tail _ (.tail _ (.tail _ (.tail _ (.tail _ (.tail _ (.tail _ (.tail _ (.head _))))))))))))))))) hk17 (.tail _ (.tail _ (.tail _ (.tail _ (.tail _ (.tail _ (.tail _ (.tail _ (.tail _ (.tail _ (.tail _ (.tail _ (.tail _ (.head _))))))))))))))) hk17 (.tail _ (.tail _ (.tail _ (.tail _ (.tail _ (.tail _ (.tail _ (.tail _ (.tail _ (.tail _ (.tail _ (.head _))))))))))))) hk17 (.tail _ (.tail _ (.tail _ (.tail _ (.tail _ (.tail _ (.tail _ (.tail _ (.tail _ (.tail _ (.head _)))))))))))) hk17 (.tail _ (.tail _ (.tail _ (.tail _ (.tail _ (.tail _ (.tail _ (.tail _ (.tail _ (.head _))))))))))) hk17 (.tail _ (.tail _ (.tail _ (.tail _ (.tail _ (.tail _ (.tail _ (.tail _ (.head _))))))))))

set_option maxRecDepth 100000 in
set_option maxHeartbeats 4000000 in
theorem kq0 {QQ : Exit → Act → World → Prop} {w9 : World} {ga gb gc gd gz gt : Nat} {Aa Ab Ac Ad Az At : Option Addr} {na ca nb cb nc cc nd cd nz cz nt ct : Nat} (ka : Bx w9 ga n85.s n85.e Aa na ca) (ia : Is w9 Aa na ca n85.m) (kb : Bx w9 gb n171.s n171.e Ab nb cb) (ib : Is w9 Ab nb cb n171.m) (kc : Bx w9 gc n4.s n4.e Ac nc cc) (ic : Is w9 Ac nc cc n4.m) (kd : Bx w9 gd n9.s n9.e Ad nd cd) (id : Is w9 Ad nd cd n9.m) (kz : Bx w9 gz nm2.s nm2.e Az nz cz) (iz : Is w9 Az nz cz nm2.m) (kt : Bx w9 gt n129.s n129.e At nt ct) (it : Is w9 At nt ct n129.m) (hend : ∀ a' w', a'.defers = [] → a'.eval (.tmp 0) = .bool true → Below w9.heap.size w9 w' → QQ .normal a' w') {W : World} (hW : Below w9.heap.size w9 W) {a : Act} (hk : Kno 130 a [(3, .pointer (some ⟨ga, 0, none⟩)), (4, .int .i64 0), (5, .pointer (some ⟨gb, 0, none⟩)), (6, .int .i64 0), (7, .pointer (some ⟨gc, 0, none⟩)), (8, .int .i64 0), (9, .pointer (some ⟨gd, 0, none⟩)), (10, .int .i64 0), (11, .pointer (some ⟨gz, 0, none⟩)), (12, .int .i64 0), (13, .pointer (some ⟨gt, 0, none⟩)), (14, .int .i64 0)]) :
    wpOps Tryd.prog (endOf Tryd.f9) QQ (List.range' 0 76) a W := by
  have _ := And.intro ka (And.intro ia (And.intro kb (And.intro ib (And.intro kc (And.intro ic (And.intro kd (And.intro id (And.intro kz (And.intro iz (And.intro kt (And.intro it hend)))))))))))
  refine pl_run 0 55 (.int .i64 0) hk (by kernel_rfl) (by kernel_rfl) (want_none (by kernel_rfl)) (z_move (x := .tmp 4) (by kernel_rfl) (hk.ev (.tail _ (.head _)))) (by decide) (by kernel_rfl) (fun a0 hk0 => ?_)
  refine pl_run 1 56 (.bool true) hk0 (by kernel_rfl) (by kernel_rfl) (want_none (by kernel_rfl)) (z_eql (t := .tmp 55) (k := 0) (.inr (.inr rfl)) (by kernel_rfl) rfl (hk0.ev (.head _))) (by decide) (by kernel_rfl) (fun a1 hk1 => ?_)
  refine pl_run 2 57 (.bool true) hk1 (by kernel_rfl) (by kernel_rfl) (want_none (by kernel_rfl)) (z_move (x := .tmp 56) (by kernel_rfl) (hk1.ev (.head _))) (by decide) (by kernel_rfl) (fun a2 hk2 => ?_)
  refine pl_run 3 58 (.int .i64 0) hk2 (by kernel_rfl) (by kernel_rfl) (want_if (j := 2) (d := 57) (by kernel_rfl) (by kernel_rfl) (hk2.2.2 _ _ (.head _))) (z_move (x := .tmp 6) (by kernel_rfl) (hk2.ev (.tail _ (.tail _ (.tail _ (.tail _ (.tail _ (.tail _ (.head _))))))))) (by decide) (by kernel_rfl) (fun a3 hk3 => ?_)
  refine pl_run 4 59 (.bool true) hk3 (by kernel_rfl) (by kernel_rfl) (want_if (j := 2) (d := 57) (by kernel_rfl) (by kernel_rfl) (hk3.2.2 _ _ (.tail _ (.head _)))) (z_eql (t := .tmp 58) (k := 0) (.inr (.inr rfl)) (by kernel_rfl) rfl (hk3.ev (.head _))) (by decide) (by kernel_rfl) (fun a4 hk4 => ?_)
  refine pl_run 5 60 (.bool true) hk4 (by kernel_rfl) (by kernel_rfl) (want_none (by kernel_rfl)) (z_pick (c := .tmp 57) (x := .tmp 59) (y := .const (.bool false)) (by kernel_rfl) (hk4.ev (.tail _ (.tail _ (.head _)))) (hk4.ev (.head _))) (by decide) (by kernel_rfl) (fun a5 hk5 => ?_)
  refine pl_run 6 61 (.bool true) hk5 (by kernel_rfl) (by kernel_rfl) (want_none (by kernel_rfl)) (z_move (x := .tmp 60) (by kernel_rfl) (hk5.ev (.head _))) (by decide) (by kernel_rfl) (fun a6 hk6 => ?_)
  refine pl_run 7 62 (.int .i64 0) hk6 (by kernel_rfl) (by kernel_rfl) (want_if (j := 6) (d := 61) (by kernel_rfl) (by kernel_rfl) (hk6.2.2 _ _ (.head _))) (z_move (x := .tmp 8) (by kernel_rfl) (hk6.ev (.tail _ (.tail _ (.tail _ (.tail _ (.tail _ (.tail _ (.tail _ (.tail _ (.tail _ (.tail _ (.tail _ (.tail _ (.head _))))))))))))))) (by decide) (by kernel_rfl) (fun a7 hk7 => ?_)
  refine pl_run 8 63 (.bool true) hk7 (by kernel_rfl) (by kernel_rfl) (want_if (j := 6) (d := 61) (by kernel_rfl) (by kernel_rfl) (hk7.2.2 _ _ (.tail _ (.head _)))) (z_eql (t := .tmp 62) (k := 0) (.inr (.inr rfl)) (by kernel_rfl) rfl (hk7.ev (.head _))) (by decide) (by kernel_rfl) (fun a8 hk8 => ?_)
  refine pl_run 9 64 (.bool true) hk8 (by kernel_rfl) (by kernel_rfl) (want_none (by kernel_rfl)) (z_pick (c := .tmp 61) (x := .tmp 63) (y := .const (.bool false)) (by kernel_rfl) (hk8.ev (.tail _ (.tail _ (.head _)))) (hk8.ev (.head _))) (by decide) (by kernel_rfl) (fun a9 hk9 => ?_)
  exact kq1 ka ia kb ib kc ic kd id kz iz kt it hend hW (Kno.add (Kno.add (Kno.add (Kno.add (Kno.add (Kno.add (Kno.add (Kno.add (Kno.add (Kno.add (Kno.nil hk9) hk9 (.head _)) hk9 (.tail _ (.tail _ (.tail _ (.tail _ (.tail _ (.tail _ (.tail _ (.tail _ (.tail _ (.tail _ (.tail _ (.tail _ (.tail _ (.tail _ (.tail _ (.tail _ (.tail _ (.tail _ (.tail _ (.tail _ (.tail _ (.head _))))))))))))))))))))))) hk9 (.tail _ (.tail _ (.tail _ (.tail _ (.tail _ (.tail _ (.tail _ (.tail _ (.tail _ (.tail _ (.tail _ (.tail _ (.tail _ (.tail _ (.tail _ (.tail _ (.tail _ (.tail _ (.tail _ (.tail _ (.head _)))))))))))))))))))))) hk9 (.tail _ (.tail _ (.tail _ (.tail _ (.tail _ (.tail _ (.tail _ (.tail _ (.tail _ (.tail _ (.tail _ (.tail _ (.tail _ (.tail _ (.tail _ (.tail _ (.tail _ (.tail _ (.tail _ (.head _))))))))))))))))))))) hk9 (.tail _ (.tail _ (.tail _ (.tail _ (.tail _ (.tail _ (.tail _ (.tail _ (.tail _ (.tail _ (.tail _ (.tail _ (.tail _ (.tail _ (.tail _ (.tail _ (.tail _ (.tail _ (.head _)))))))))))))))))))) hk9 (.tail _ (.tail _ (.tail _ (.tail _ (.tail _ (.tail _ (.tail _ (.tail _ (.tail _ (.tail _ (.tail _ (.tail _ (.tail _ (.tail _ (.tail _ (.tail _ (.tail _ (.head _))))))))))))))))))) hk9 (.tail _ (.tail _ (.tail _ (.tail _ (.tail _ (.tail _ (.tail _ (.tail _ (.tail _ (.tail _ (.tail _ (.tail _ (.tail _ (.tail _ (.tail _ (.tail _ (.head _)))))))))))))))))) hk9 (.tail _ (.tail _ (.tail _ (.tail _ (.tail _ (.tail _ (.tail _ (.tail _ (.tail _ (.tail _ (.tail _ (.tail _ (.tail _ (.tail _ (.head _)))))))))))))))) hk9 (.tail _ (.tail _ (.tail _ (.tail _ (.tail _ (.tail _ (.tail _ (.tail _ (.tail _ (.tail _ (.tail _ (.tail _ (.head _)))))))))))))) hk9 (.tail _ (.tail _ (.tail _ (.tail _ (.tail _ (.tail _ (.tail _ (.tail _ (.tail _ (.tail _ (.head _))))))))))))

end Go.Proofs.YtnkbamjjpdmbaaaDoor
