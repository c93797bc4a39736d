/- round's functions on valid numbers; light; the numbers of known. -/
import Derived.Test.YtnkbamjjpdmbaaaDoorRndJ
import Derived.Test.YtnkbamjjpdmbaaaDoorRndF
namespace Go.Proofs.YtnkbamjjpdmbaaaDoor
open Go.RowKit Nx

theorem prec_of {p : Int} (h : 8 ≤ p ∧ p ≤ 256) : precb p = true := by simp [precb, h]
section
variable {w : World} {a b : Q} {A B : Option Addr} {n c m d : Nat}
theorem ansr_valid {g : Q → Q → Q × Int} {p : Int} (ha : Is w A n c a.m) (hb : Is w B m d b.m) (va : Valid a) (vb : Valid b) (hp : 8 ≤ p ∧ p ≤ 256) : ansr g p a.s a.e n (digs B64 a.m) b.s b.e m (digs B64 b.m) = g a b := by
  unfold ansr; rw [okb_of ha va, okb_of hb vb, prec_of hp, nval_digs B64_two, nval_digs B64_two]; rfl
theorem xadd_v (p : Int) (up : Bool) (ha : Is w A n c a.m) (hb : Is w B m d b.m) (va : Valid a) (vb : Valid b) (hp : 8 ≤ p ∧ p ≤ 256) (ht : Tab w) :
    Calls Tryd.prog 20 #[.agg #[.bool a.s, .int .i64 a.e, .slice A n c], .agg #[.bool b.s, .int .i64 b.e, .slice B m d], .int .i64 p, .bool up] w (NumPost2 w (gadd p up a b)) := by
  rw [← ansr_valid (g := gadd p up) ha hb va vb hp]; exact xadd_any w _ _ up _ _ p A B n c m d _ _ (is_arg ha) (is_arg hb) (v_arg ha va) (v_arg hb vb) ht
theorem xsub_v (p : Int) (up : Bool) (ha : Is w A n c a.m) (hb : Is w B m d b.m) (va : Valid a) (vb : Valid b) (hp : 8 ≤ p ∧ p ≤ 256) (ht : Tab w) :
    Calls Tryd.prog 22 #[.agg #[.bool a.s, .int .i64 a.e, .slice A n c], .agg #[.bool b.s, .int .i64 b.e, .slice B m d], .int .i64 p, .bool up] w (NumPost2 w (gsub p up a b)) := by
  rw [← ansr_valid (g := gsub p up) ha hb va vb hp]; exact xsub_any w _ _ up _ _ p A B n c m d _ _ (is_arg ha) (is_arg hb) (v_arg ha va) (v_arg hb vb) ht
theorem xmul_v (p : Int) (up : Bool) (ha : Is w A n c a.m) (hb : Is w B m d b.m) (va : Valid a) (vb : Valid b) (hp : 8 ≤ p ∧ p ≤ 256) (ht : Tab w) :
    Calls Tryd.prog 24 #[.agg #[.bool a.s, .int .i64 a.e, .slice A n c], .agg #[.bool b.s, .int .i64 b.e, .slice B m d], .int .i64 p, .bool up] w (NumPost2 w (gmul p up a b)) := by
  rw [← ansr_valid (g := gmul p up) ha hb va vb hp]; exact xmul_any w _ _ up _ _ p A B n c m d _ _ (is_arg ha) (is_arg hb) (v_arg ha va) (v_arg hb vb) ht
theorem xdiv_v (p : Int) (up : Bool) (ha : Is w A n c a.m) (hb : Is w B m d b.m) (va : Valid a) (vb : Valid b) (hp : 8 ≤ p ∧ p ≤ 256) (ht : Tab w) :
    Calls Tryd.prog 29 #[.agg #[.bool a.s, .int .i64 a.e, .slice A n c], .agg #[.bool b.s, .int .i64 b.e, .slice B m d], .int .i64 p, .bool up] w (NumPost2 w (gdiv p up a b)) := by
  rw [← ansr_valid (g := gdiv p up) ha hb va vb hp]; exact xdiv_any w _ _ up _ _ p A B n c m d _ _ (is_arg ha) (is_arg hb) (v_arg ha va) (v_arg hb vb) ht
theorem xfit_v (p : Int) (up : Bool) (ha : Is w A n c a.m) (va : Valid a) (hp : 8 ≤ p ∧ p ≤ 256) (ht : Tab w) :
    Calls Tryd.prog 11 #[.agg #[.bool a.s, .int .i64 a.e, .slice A n c], .int .i64 p, .bool up] w (NumPost2 w (res (rnd p.toNat up a))) := by
  have h := xfit_any w a.s up a.e p A n c _ (is_arg ha) (v_arg ha va) ht
  unfold ansf at h
  rw [okb_of ha va, prec_of hp, nval_digs B64_two] at h
  exact h
end
theorem gk_0 (p : Int) (up : Bool) : gk 0 p up = gadd p up := by funext a b; rfl
theorem gk_1 (p : Int) (up : Bool) : gk 1 p up = gsub p up := by funext a b; rfl
theorem gk_2 (p : Int) (up : Bool) : gk 2 p up = gmul p up := by funext a b; rfl
theorem gk_3 (p : Int) (up : Bool) : gk 3 p up = gdiv p up := by funext a b; rfl
theorem ansr_v1 {g : Q → Q → Q × Int} (hg : ∀ a b, Valid (g a b).1) (p : Int) (s : Bool) (e : Int) (n : Nat) (xs : List Nat) (s' : Bool) (e' : Int) (m : Nat) (ys : List Nat) : Valid (ansr g p s e n xs s' e' m ys).1 := by
  unfold ansr; split
  · exact hg _ _
  · exact valid0
theorem gadd_v (p : Int) (up : Bool) (a b : Q) : Valid (gadd p up a b).1 := res_valid (rnd_canon _ _ _)
theorem gsub_v (p : Int) (up : Bool) (a b : Q) : Valid (gsub p up a b).1 := res_valid (rnd_canon _ _ _)
theorem gmul_v (p : Int) (up : Bool) (a b : Q) : Valid (gmul p up a b).1 := res_valid (rnd_canon _ _ _)
theorem gdiv_v (p : Int) (up : Bool) (a b : Q) : Valid (gdiv p up a b).1 := by
  unfold gdiv; split
  · exact valid0
  · exact res_valid (ratq_canon _ _ _ _)
theorem ansf_v (p : Int) (up : Bool) (s : Bool) (e : Int) (n : Nat) (xs : List Nat) : Valid (ansf p up s e n xs).1 := by
  unfold ansf; split
  · exact res_valid (rnd_canon _ _ _)
  · exact valid0

set_option maxRecDepth 100000 in
set_option maxHeartbeats 1000000 in
theorem light3_any (w : World) (g n : Nat) (ls : List Nat) (h : LensN w g ls) (hn : ls.length = n) (hs : n ≤ 10) :
    Calls Tryd.prog 10 #[.slice (some ⟨g, 0, none⟩) n n] w fun e w' => e = .returned (.bool (ls.all (fun l => decide (l ≤ 70)))) ∧ w = w' := by
  have H := Lib.hid h; have HN := Lib.hid hn
  clear h hn
  obtain ⟨b, hb⟩ : ∃ b, b = ls.all (fun l => decide (l ≤ 70)) := ⟨_, rfl⟩
  rw [← hb]
  have HB := Lib.hid hb
  clear hb
  go_enter Tryd.func10, Tryd.ntmps10
  go_wp2
  go_loop [3] (fun i => ∃ k : Nat, k ≤ n ∧ i = .int .i64 k ∧ Hid (∀ (j l : Nat), j < k → ls[j]? = some l → l ≤ 70)) (fun i => n - (intOf i).toNat)
  case atStart => exact ⟨0, Nat.zero_le _, rfl, Lib.hid (fun j l hj => absurd hj (by omega))⟩
  case round =>
    obtain ⟨k, hk, rfl, hz⟩ := hrel
    by_cases hlt : k < n
    · obtain ⟨l, hl⟩ : ∃ l, ls[k]? = some l := ⟨ls[k]'(by have := HN.out; omega), List.getElem?_eq_getElem _⟩
      obtain ⟨A, c, hc⟩ := H.out k l hl
      have HLk := Lib.hid hl
      clear hl
      have i1 : (0 : Int) ≤ (k : Int) := by omega
      have i2 : (k : Int) < (n : Int) := by omega
      by_cases h40 : l ≤ 70
      · go_wp2
        go_round
        case rel => exact ⟨k + 1, by omega, by go_num, Lib.hid (fun j u hj hu => by
          rcases Nat.lt_or_ge j k with h1 | h1
          · exact hz.out j u h1 hu
          · obtain rfl : j = k := by omega
            have := HLk.out; rw [hu] at this; injection this with this; omega)⟩
        case measure => simp [intOf]; omega
      · go_wp2
        go_ret
        refine ⟨congrArg (fun z => Ending.returned (Value.bool z)) ?_, rfl⟩
        rw [HB.out]
        symm
        rw [List.all_eq_false]
        exact ⟨l, List.mem_of_getElem? HLk.out, by simp; omega⟩
    · go_wp2
      go_ret
      refine ⟨congrArg (fun z => Ending.returned (Value.bool z)) ?_, rfl⟩
      rw [HB.out]
      symm
      rw [List.all_eq_true]
      intro l hl
      obtain ⟨j, hj⟩ := List.getElem?_of_mem hl
      have := hz.out j l (by have := lt_of_get hj; have := HN.out; omega) hj
      simpa using this
theorem lensn1 (w : World) (s : Bool) (e : Int) (A : Option Addr) (n c : Nat) : LensN (w.alloc (.cells #[.bool s, .int .i64 e, .slice A n c] 24)) w.heap.size [n] := by
  intro i l h
  have hb : Blk (w.alloc (.cells #[.bool s, .int .i64 e, .slice A n c] 24)) w.heap.size 24 _ := Blk.new w _ _
  rw [hb.cell]
  match i, h with
  | 0, h => simp at h; subst h; exact ⟨A, c, rfl⟩
theorem lensn2 (w : World) (s s' : Bool) (e e' : Int) (A B : Option Addr) (n c m d : Nat) : LensN (w.alloc (.cells #[.bool s, .int .i64 e, .slice A n c, .bool s', .int .i64 e', .slice B m d] 24)) w.heap.size [n, m] := by
  intro i l h
  have hb : Blk (w.alloc (.cells #[.bool s, .int .i64 e, .slice A n c, .bool s', .int .i64 e', .slice B m d] 24)) w.heap.size 24 _ := Blk.new w _ _
  rw [hb.cell]
  match i, h with
  | 0, h => simp at h; subst h; exact ⟨A, c, rfl⟩
  | 1, h => simp at h; subst h; exact ⟨B, d, rfl⟩
theorem is_one {w : World} {A : Option Addr} {n c v : Nat} (h : Is w A n c v) (hv : v < B64) (h0 : v ≠ 0) : n = 1 := by
  have := h.1; rw [digs1 hv h0] at this; exact this.symm
/-- The words of a small number, against a slice that is written out. -/
theorem words_k {w : World} {A : Option Addr} {n c v : Nat} (h : Is w A n c v) (hv : v < B64) (h0 : v ≠ 0) :
    Calls Tryd.prog 32 #[.slice A n c, .slice (some ⟨w.heap.size, 0, none⟩) 1 1] (w.alloc (.cells #[.int .u64 (v : Int)] 47)) (BoolPost w true) := by
  have h1 := one_rd w v
  have h2 : Is (w.alloc (wd v)) (some ⟨w.heap.size, 0, none⟩) 1 1 v := by unfold Is; rw [digs1 hv h0]; exact h1
  refine (words_is (k := 1) (h.step (one_below w (wd v))) h2 (by rw [Nat.pow_one]; exact hv) (by omega)).mono ?_
  rintro e w' ⟨rfl, b⟩
  exact ⟨rfl, below_step (one_below w _) b⟩

theorem nm_lit {s : Bool} {M k N : Nat} {e t : Int} (ho : M % 2 = 1) (hN : N = M * 2 ^ k) (he : t = e + k) : nm s N e = ⟨s, M, t⟩ := by
  have h := nm_shift s M t k
  rw [show t - (k : Int) = e by omega, ← hN] at h
  rw [h]
  unfold nm
  rw [if_neg (by omega), ntz_odd ho]
  apply Q.ext' <;> simp
theorem valid_lit {s : Bool} {M : Nat} {e : Int} (ho : M % 2 = 1) (hM : M < B64) (h1 : -65536 ≤ e) (h2 : e ≤ 65536) : Valid ⟨s, M, e⟩ :=
  ⟨⟨fun h => by have h : M = 0 := h; omega, fun _ => ho⟩, Nat.lt_of_lt_of_le hM b64_le, h1, h2⟩
def n1 : Q := ⟨false, 1, 0⟩
def n3 : Q := ⟨false, 3, 0⟩
def n257 : Q := ⟨false, 257, 0⟩
theorem vn1 : Valid n1 := valid_lit rfl (by unfold B64; omega) (by omega) (by omega)
theorem vn3 : Valid n3 := valid_lit rfl (by unfold B64; omega) (by omega) (by omega)
theorem vn257 : Valid n257 := valid_lit rfl (by unfold B64; omega) (by omega) (by omega)
theorem va85 : Valid ⟨false, 85, -8⟩ := valid_lit rfl (by unfold B64; omega) (by omega) (by omega)
theorem va171 : Valid ⟨false, 171, -9⟩ := valid_lit rfl (by unfold B64; omega) (by omega) (by omega)
theorem va4 : Valid ⟨false, 1, 2⟩ := valid_lit rfl (by unfold B64; omega) (by omega) (by omega)
theorem va9 : Valid ⟨false, 9, 0⟩ := valid_lit rfl (by unfold B64; omega) (by omega) (by omega)
theorem vam2 : Valid ⟨true, 1, 1⟩ := valid_lit rfl (by unfold B64; omega) (by omega) (by omega)
theorem va129 : Valid ⟨false, 129, 1⟩ := valid_lit rfl (by unfold B64; omega) (by omega) (by omega)
theorem rat_down : ratq 8 false n1 n3 = ⟨false, 85, -8⟩ := by
  have h : ratq 8 false n1 n3 = nm false 170 (-9) := by decide +kernel
  rw [h]; exact nm_lit (M := 85) (k := 1) rfl rfl rfl
theorem rat_up : ratq 8 true n1 n3 = ⟨false, 171, -9⟩ := by
  have h : ratq 8 true n1 n3 = nm false 171 (-9) := by decide +kernel
  rw [h]; exact nm_lit (M := 171) (k := 0) rfl rfl rfl
theorem kd_div0 : gdiv 8 false n1 n3 = (⟨false, 85, -8⟩, 0) := by
  unfold gdiv; rw [if_neg (by decide), show (8 : Int).toNat = 8 from rfl, rat_down, res_ok va85.2]
theorem kd_div1 : gdiv 8 true n1 n3 = (⟨false, 171, -9⟩, 0) := by
  unfold gdiv; rw [if_neg (by decide), show (8 : Int).toNat = 8 from rfl, rat_up, res_ok va171.2]
theorem kd_add : gadd 8 false n1 n3 = (⟨false, 1, 2⟩, 0) := by
  unfold gadd
  have h : plus n1 n3 = ⟨false, 1, 2⟩ := nm_lit (M := 1) (k := 2) rfl rfl rfl
  rw [h, show (8 : Int).toNat = 8 from rfl, rnd_id va4.1 (by decide), res_ok va4.2]
theorem kd_mul : gmul 8 true n3 n3 = (⟨false, 9, 0⟩, 0) := by
  unfold gmul
  have h : times n3 n3 = ⟨false, 9, 0⟩ := nm_lit (M := 9) (k := 0) rfl rfl rfl
  rw [h, show (8 : Int).toNat = 8 from rfl, rnd_id va9.1 (by decide), res_ok va9.2]
theorem kd_sub : gsub 8 true n1 n3 = (⟨true, 1, 1⟩, 0) := by
  unfold gsub
  have h : minus n1 n3 = ⟨true, 1, 1⟩ := nm_lit (M := 1) (k := 1) rfl rfl rfl
  rw [h, show (8 : Int).toNat = 8 from rfl, rnd_id vam2.1 (by decide), res_ok vam2.2]
theorem kd_fit : res (rnd (8 : Int).toNat true n257) = (⟨false, 129, 1⟩, 0) := by
  have h : rnd 8 true n257 = nm false 129 1 := by decide +kernel
  rw [show (8 : Int).toNat = 8 from rfl, h, nm_lit (M := 129) (k := 0) (t := 1) rfl rfl rfl, res_ok va129.2]
end Go.Proofs.YtnkbamjjpdmbaaaDoor
