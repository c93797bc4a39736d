/- nat.addTo, nat.Add. make, copy: the runs and laws as the walks below use them; what a function that makes a number leaves. nat.Add, nat.Trim. nat.Cmp, nat.Right, nat.Trim, nat.Bits, nat.Zeros. nat.Trim, nat.Bits, nat.Zeros. -/
import Derived.Test.YthhaelnildaemaaGreatDoorPNatB
import Derived.Test.YthhaelnildaemaaGreatDoorPNatA
import Derived.Deep.RegionHeld3
import Derived.Deep.QuietTactic
import Derived.BigQuiet
import Derived.Deep.RegionLaw
import Derived.RegionTactic
import Derived.StillTailTactics
import Derived.Laws.MakeOwn
import Derived.Laws.CopyOwn
import Derived.Deep.DeepCutAuto
import Derived.LoopTactic
namespace Go.Proofs.YthhaelnildaemaaGreatDoor
open Go.RowKit Nx
def AddRel (w : World) (g : Nat) (pre seg post ys : List Nat) (n : Nat) (u c : Value) (wr : World) : Prop :=
  ∃ (k cy : Nat) (cur : List Nat), k ≤ n ∧ u = .int .i64 (k : Int) ∧ c = .int .u64 (cy : Int) ∧ cy ≤ 1 ∧
    Hid (AddI B64 n k cy cur seg ys) ∧
    Hid (Seg .u64 wr g 56 pre cur post) ∧ Hid (w.grownBy wr (some g))
def AddPost (w : World) (g : Nat) (pre seg post ys : List Nat) (e : Ending) (w' : World) : Prop :=
  ∃ (cy : Nat) (out : List Nat), e = .returned (.int .u64 (cy : Int)) ∧ cy ≤ 1 ∧ out.length = seg.length ∧ Small B64 out ∧ nval B64 out + B64 ^ seg.length * cy = nval B64 seg + nval B64 ys ∧
    Seg .u64 w' g 56 pre out post ∧ w.grownBy w' (some g)
set_option maxRecDepth 100000 in
set_option maxHeartbeats 1000000 in
theorem addTo_any (w : World) (lo hi g o n c m cb : Nat) (A : Option Addr) (pre seg post ys : List Nat) (hs : Seg .u64 w g 56 pre seg post) (ho : pre.length = o) (hn : seg.length = n) (hnc : n ≤ c)
    (hb : Rd .u64 w lo hi A m cb ys) (hg : hi ≤ g) (hmn : m ≤ n) (hsm : Small B64 seg) (hys : Small B64 ys) (hbig : n ≤ 1000000000) :
    Calls Tryz.prog 191 #[.slice (some ⟨g, o, none⟩) n c, .slice A m cb] w (AddPost w g pre seg post ys) := by
  have HS := Lib.hid hs; have HO := Lib.hid ho; have HN := Lib.hid hn; have HB := Lib.hid hb; have HM := Lib.hid hsm; have HY := Lib.hid hys
  have HL := Lib.hid hb.1
  have hB : 2 ≤ B64 := by unfold B64; omega
  clear hs ho hn hb hsm hys
  go_enter Tryz.func191, Tryz.ntmps191
  go_wp2
  go_step3
  go_wp2
  go_step3
  go_wp2
  go_loopw [9, 5] (fun u c wr => AddRel w g pre seg post ys n u c wr) (fun u _ _ => n - (intOf u).toNat)
  case atStart => exact ⟨0, 0, seg, Nat.zero_le _, rfl, rfl, Nat.zero_le _, Lib.hid (AddI.start HN.out HM.out), HS, Lib.hid (only_refl _ _)⟩
  case round =>
    obtain ⟨k, cy, cur, hk, rfl, rfl, hcy, hI, hS, hG⟩ := hrel
    by_cases hlt : k < n
    · obtain ⟨x, hx⟩ : ∃ x, cur[k]? = some x := ⟨cur[k]'(by have := hI.out.1; omega), List.getElem?_eq_getElem _⟩
      have hcx := hS.out.cell HO.out hx
      have hfx := hS.out.frozen (o + k)
      have HX := Lib.hid hx
      clear hx
      have i1 : (0 : Int) ≤ (k : Int) := by omega
      have i2 : (k : Int) < (n : Int) := by omega
      by_cases hkm : k < m
      · obtain ⟨ad, y, hA, _, hbl, hy, hcy0⟩ := HB.out.get_ (j := k) (by omega)
        subst hA
        have hcy1 : wr.cell? (ad.add k) = some (.int .u64 (y : Int)) := by
          rw [← hcy0]; exact World.cell?_of_block (hG.out.block _ (by rw [block_of_add]; have := HS.out.lt; omega) (by rw [block_of_add]; intro e; injection e with e; omega))
        have hI2 := Lib.hid (hI.out.step hB HX.out (getD_of hy.out))
        have hd1 := hI.out.carry HX.out (HY.out.get hy.out) hcy
        have hadd := add64_run x y cy hcy
        have hS2 := fun v => Lib.hid (hS.out.set_ HO.out (i := k) (by have := hI.out.1; omega) v)
        obtain ⟨v, hv⟩ : ∃ v, v = (x + y + cy) % B64 := ⟨_, rfl⟩
        obtain ⟨d, hd⟩ : ∃ d, d = (x + y + cy) / B64 := ⟨_, rfl⟩
        rw [← hv, ← hd] at hadd hI2
        rw [← hd] at hd1
        have hS3 := hS2 v
        clear hcy0 hv hd hS2
        have i3 : (k : Int) < (m : Int) := by omega
        go_wp2
        go_region
        go_wp2
        go_roundw
        case rel => exact ⟨k + 1, d, _, by omega, by go_num, rfl, hd1, hI2, Lib.hid hS3.out, Lib.hid (only_drew (only_set hG.out (.inl rfl) _))⟩
        case measure => simp [intOf]; omega
      · by_cases hc0 : cy = 0
        · subst hc0
          go_wp2
          rw [Exit.noGoto_ret]
          go_ret
          have he := hI.out.early HN.out hk (by have := HL.out; omega)
          exact ⟨0, cur, rfl, Nat.zero_le _, by rw [hI.out.1, HN.out], hI.out.2.1, by rw [he]; simp, hS.out, hG.out⟩
        · have hc1 : ((cy : Int) != 0) = true := by simp; omega
          have hI2 := Lib.hid (hI.out.step hB HX.out (getD_out (xs := ys) (k := k) (by have := HL.out; omega)))
          have hd1 := hI.out.carry HX.out (y := 0) (by unfold B64; omega) hcy
          have hadd := add64_run x 0 cy hcy
          rw [show ((0 : Nat) : Int) = 0 from rfl] at hadd
          have hS2 := fun v => Lib.hid (hS.out.set_ HO.out (i := k) (by have := hI.out.1; omega) v)
          obtain ⟨v, hv⟩ : ∃ v, v = (x + 0 + cy) % B64 := ⟨_, rfl⟩
          obtain ⟨d, hd⟩ : ∃ d, d = (x + 0 + cy) / B64 := ⟨_, rfl⟩
          rw [← hv, ← hd] at hadd hI2
          rw [← hd] at hd1
          have hS3 := hS2 v
          clear hv hd hS2
          go_wp2
          go_roundw
          case rel => exact ⟨k + 1, d, _, by omega, by go_num, rfl, hd1, hI2, Lib.hid hS3.out, Lib.hid (only_set hG.out (.inl rfl) _)⟩
          case measure => simp [intOf]; omega
    · have hkn : k = n := by omega
      subst hkn
      go_wp2
      rw [Exit.noGoto_ret]
      go_ret
      have he := hI.out.done HN.out (by have := HL.out; omega)
      exact ⟨cy, cur, rfl, hcy, by rw [hI.out.1, HN.out], hI.out.2.1, by rw [HN.out]; exact he, hS.out, hG.out⟩
end Go.Proofs.YthhaelnildaemaaGreatDoor
namespace Go.Proofs.YthhaelnildaemaaGreatDoor
open Go.RowKit Nx
theorem info64 : (Tryz.prog.info? 56).map (fun i => (i.zero, i.size, i.bytes)) = some (some (.int .u64 0), 1, 8) := by kernel_rfl
theorem info32 : (Tryz.prog.info? 154).map (fun i => (i.zero, i.size, i.bytes)) = some (some (.int .u32 0), 1, 4) := by kernel_rfl
theorem size64 : (Tryz.prog.info? 56).map (·.size) = some 1 := by kernel_rfl
def zrow (k : IntKind) (t : TypeId) (n : Nat) : Obj := .cells (ints k (List.replicate n 0)).toArray t
theorem zrow_row (k : IntKind) (t : TypeId) (n : Nat) (w : World) : Row k (w.alloc (zrow k t n)) w.heap.size t (List.replicate n 0) := Blk.new w t _
theorem made_zero (k : IntKind) (n : Nat) : madeCells #[.int k 0] n = (ints k (List.replicate n 0)).toArray := by
  apply Array.ext'
  rw [toList_madeCells_one]
  simp [ints]
theorem make64 (l : Int) (n : Nat) (hl : l = (n : Int)) (hn : n ≤ 4000000000) (w : World) :
    (Instr.makeSlice 26 (.int .i64 l) (.int .i64 l)).run Tryz.prog w = .ok (.slice (some ⟨w.heap.size, 0, none⟩) n n) (w.alloc (zrow .u64 56 n)) := by
  obtain ⟨i, hi, hz, h1, h2⟩ := info_parts info64
  subst hl
  rw [run_make w 26 56 i (.int .u64 0) Tryz.underlying26 hi hz .i64 .i64 n n (by omega) (by omega) (by rw [h2]; omega) (by omega), h1, Nat.mul_one, Int.toNat_natCast]
  show Result.ok _ (w.alloc (Obj.cells (madeCells #[.int .u64 0] n) 56)) = _
  rw [made_zero]; rfl
theorem make32 (l : Int) (n : Nat) (hl : l = (n : Int)) (hn : n ≤ 4000000000) (w : World) :
    (Instr.makeSlice 86 (.int .i64 l) (.int .i64 l)).run Tryz.prog w = .ok (.slice (some ⟨w.heap.size, 0, none⟩) n n) (w.alloc (zrow .u32 154 n)) := by
  obtain ⟨i, hi, hz, h1, h2⟩ := info_parts info32
  subst hl
  rw [run_make w 86 154 i (.int .u32 0) Tryz.underlying86 hi hz .i64 .i64 n n (by omega) (by omega) (by rw [h2]; omega) (by omega), h1, Nat.mul_one, Int.toNat_natCast]
  show Result.ok _ (w.alloc (Obj.cells (madeCells #[.int .u32 0] n) 154)) = _
  rw [made_zero]; rfl
def Fr (w : World) (A : Option Addr) (n : Nat) : Prop := ∀ (ad : Addr) (j : Nat), A = some ad → j < n → w.frozen? (ad.add j) = false
def NumPost (w : World) (N : Nat) (e : Ending) (w' : World) : Prop :=
  ∃ (A : Option Addr) (n c : Nat), e = .returned (.slice A n c) ∧ Rd .u64 w' w.heap.size w'.heap.size A n c (digs B64 N) ∧ Below w.heap.size w w' ∧ Fr w' A n
theorem Row.fr {k : IntKind} {w : World} {g : Nat} {t : TypeId} {zs : List Nat} (h : Row k w g t zs) {A : Option Addr} {n o : Nat} (hA : 0 < n → A = some ⟨g, o, none⟩) : Fr w A n := by
  intro ad j e hj
  have := hA (by omega)
  rw [this] at e
  injection e with e
  subst e
  rw [addr_add]
  exact Row.frozen h _
theorem ints_one (k : IntKind) (xs : List Nat) : ∀ v ∈ ints k xs, v.oneCell' = true := by
  intro v hv
  unfold ints at hv
  rw [List.mem_map] at hv
  obtain ⟨x, _, rfl⟩ := hv
  rfl
theorem copy64 (w : World) (lo hi g dc n c : Nat) (A : Option Addr) (zs xs : List Nat) (hz : Row .u64 w g 56 zs) (hx : Rd .u64 w lo hi A n c xs) (hn : n ≤ zs.length) :
    ∃ w', (Builtin.copy_ #[26, 26] 3 #[.slice (some ⟨g, 0, none⟩) zs.length dc, .slice A n c]).run Tryz.prog w = .ok (goInt n) w' ∧
      Row .u64 w' g 56 (xs ++ zs.drop n) ∧ w.grownBy w' (some g) := by
  rcases Nat.eq_zero_or_pos n with e | e
  · subst e
    have : xs = [] := List.eq_nil_of_length_eq_zero hx.1
    subst this
    exact ⟨w, run_copy_none w _ _ _ 56 _ _ _ _ _ _ Tryz.underlying26 size64 (Nat.zero_min _), by simpa using hz, only_refl _ _⟩
  · obtain ⟨ad, rfl, _, _, hc⟩ := hx.2.2 e
    have hl := hx.1
    have hrun := run_copy_row (P := Tryz.prog) w 26 26 3 56 g 0 zs.length dc ad n c (ints .u64 zs).toArray 56 (ints .u64 xs) Tryz.underlying26 size64 hz
      (by rw [ints_length, hl]; exact (Nat.min_eq_left hn).symm) (fun j v hv => by
        rw [ints_get] at hv
        cases hx' : xs[j]? with
        | none => rw [hx'] at hv; cases hv
        | some u => rw [hx'] at hv; injection hv with hv; subst hv; exact hc j u hx') (by simp [ints]; omega) (ints_one _ _)
    rw [ints_length, hl] at hrun
    refine ⟨_, hrun, ?_, ⟨rfl, rfl, rfl, by simp [World.setRow], fun k _ hne => setRow_other w g k _ (fun e => hne (by rw [e]))⟩⟩
    unfold Row Blk
    rw [setRow_heap w g _ _ 56 (0, 0) hz]
    simp [ints]
end Go.Proofs.YthhaelnildaemaaGreatDoor
namespace Go.Proofs.YthhaelnildaemaaGreatDoor
open Go.RowKit Nx
def AddCut (w : World) (lo hi S : Nat) (a b : Value) (wx : World) : Prop :=
  ∃ (A1 A2 : Option Addr) (n1 c1 n2 c2 : Nat) (p q : List Nat), a = .slice A1 n1 c1 ∧ b = .slice A2 n2 c2 ∧ w = wx ∧ n2 ≤ n1 ∧ n1 ≤ 100000000 ∧
    Hid (Rd .u64 w lo hi A1 n1 c1 p ∧ Rd .u64 w lo hi A2 n2 c2 q ∧ Small B64 p ∧ Small B64 q ∧ nval B64 p + nval B64 q = S)
set_option maxRecDepth 100000 in
set_option maxHeartbeats 1000000 in
theorem add_any (w : World) (lo hi : Nat) (A B : Option Addr) (n c m cb : Nat) (xs ys : List Nat) (ha : Rd .u64 w lo hi A n c xs) (hb : Rd .u64 w lo hi B m cb ys) (hxs : Small B64 xs) (hys : Small B64 ys)
    (hn : n ≤ 100000000) (hm : m ≤ 100000000) (hhi : hi ≤ w.heap.size) :
    Calls Tryz.prog 142 #[.slice A n c, .slice B m cb] w (NumPost w (nval B64 xs + nval B64 ys)) := by
  have ux := ulen_le hxs
  have uy := ulen_le hys
  rw [ha.1] at ux
  rw [hb.1] at uy
  have HA := Lib.hid ha; have HB := Lib.hid hb; have HX := Lib.hid hxs; have HY := Lib.hid hys
  clear ha hb hxs hys
  go_enter Tryz.func142, Tryz.ntmps142
  go_wp2_with fail
  refine (used_any w lo hi A n c xs HA.out HX.out (by omega)).mono ?_
  rintro e w' ⟨A1, c1, rfl, rfl, hA1, hc1⟩
  have H1 := Lib.hid (HA.out.used HX.out hA1 hc1)
  clear hA1 hc1
  go_wp2_with fail
  refine (used_any w lo hi B m cb ys HB.out HY.out (by omega)).mono ?_
  rintro e w' ⟨A2, c2, rfl, rfl, hA2, hc2⟩
  have H2 := Lib.hid (HB.out.used HY.out hA2 hc2)
  clear hA2 hc2
  have hB : 2 ≤ B64 := by unfold B64; omega
  generalize ulen xs = n1 at *
  generalize ulen ys = n2 at *
  go_upto_if 14 with fail
  go_cut [0, 1] (fun a b wx => AddCut w lo hi (nval B64 xs + nval B64 ys) a b wx)
  case first =>
    by_cases h : n1 < n2
    · go_wp2_with fail
      go_meet
      exact ⟨A2, A1, n2, c2, n1, c1, _, _, rfl, rfl, rfl, by omega, by omega, Lib.hid ⟨H2.out, H1.out, small_digs hB _, small_digs hB _, by rw [nval_digs hB, nval_digs hB, Nat.add_comm]⟩⟩
    · go_wp2_with fail
      go_meet
      exact ⟨A1, A2, n1, c1, n2, c2, _, _, rfl, rfl, rfl, by omega, by omega, Lib.hid ⟨H1.out, H2.out, small_digs hB _, small_digs hB _, by rw [nval_digs hB, nval_digs hB]⟩⟩
  case rest =>
    obtain ⟨A1, A2, n1, c1, n2, c2, p, q, rfl, rfl, rfl, h12, h1b, hI⟩ := hcut
    have hmk := fun W => make64 ((n1 : Int) + 1) (n1 + 1) (by omega) (by omega) W
    obtain ⟨hp, hq, sp, sq, hS⟩ := hI.out
    obtain ⟨w2, hcp, hrow, honly⟩ := copy64 (w.alloc (zrow .u64 56 (n1 + 1))) lo hi w.heap.size (n1 + 1) n1 c1 A1 _ p (zrow_row _ _ _ w) (hp.alloc hhi _) (by simp)
    rw [List.length_replicate] at hcp
    have hpl := hp.1
    have hrow2 : Row .u64 w2 w.heap.size 56 (p ++ [0]) := by
      have e : List.drop n1 (List.replicate (n1 + 1) 0) = [0] := by rw [List.drop_replicate, Nat.add_sub_cancel_left]; rfl
      rw [e] at hrow; exact hrow
    have hb2 : Below w.heap.size w w2 := ((Below.refl _ _).alloc (Nat.le_refl _) _).trans (only_below honly (by simp) (Nat.le_refl _))
    have hq2 := Lib.hid (hq.below (hb2.mono hhi))
    have HRow := Lib.hid hrow2
    have HB2 := Lib.hid hb2
    have HP := Lib.hid (And.intro sp (And.intro sq (And.intro hS hpl)))
    have hz2 := Lib.hid hrow2.lt
    clear hrow hrow2 honly hb2 hp hq sp sq hS hpl hI H1 H2 HA HB
    go_wp2_with fail
    refine (addTo_any w2 lo hi w.heap.size 0 (n1 + 1) (n1 + 1) n2 c2 A2 [] (p ++ [0]) [] q (Row.toSeg HRow.out (by simp)) rfl (by simp [HP.out.2.2.2]) (by omega) hq2.out hhi (by omega) (HP.out.1.append (by intro x hx; simp at hx; subst hx; unfold B64; omega)) HP.out.2.1 (by omega)).mono ?_
    rintro e w3 ⟨cy, out, rfl, _, hol, hos, hov, hseg, hon3⟩
    have hr3 : Row .u64 w3 w.heap.size 56 out := by
      have : ([] ++ out ++ [] : List Nat) = out := by simp
      unfold Seg at hseg; rw [this] at hseg; exact hseg
    have hb3 : Below w.heap.size w w3 := HB2.out.trans (only_below hon3 (by have := hz2.out; omega) (Nat.le_refl _))
    have hN : nval B64 out = nval B64 xs + nval B64 ys := by
      have h1 := HP.out.2.2.1
      have h2 := nval_lt HP.out.1
      have h3 := nval_lt HP.out.2.1
      have hql := hq2.out.1
      have h4 : nval B64 (p ++ [0]) = nval B64 p := by rw [nval_snoc]; simp
      rw [h4, List.length_append, HP.out.2.2.2] at hov
      rw [HP.out.2.2.2] at h2
      rw [hql] at h3
      have h5 : B64 ^ n2 ≤ B64 ^ n1 := Nat.pow_le_pow_right (by omega) h12
      have h6 : B64 ^ (n1 + [0].length) = B64 ^ n1 * B64 := by simp [Nat.pow_succ]
      have h7 : B64 ^ n1 * 2 ≤ B64 ^ n1 * B64 := Nat.mul_le_mul_left _ hB
      rw [h6] at hov
      rcases (show cy = 0 ∨ 1 ≤ cy by omega) with e | e
      · subst e; omega
      · have h8 : B64 ^ n1 * B64 * 1 ≤ B64 ^ n1 * B64 * cy := Nat.mul_le_mul_left _ e
        omega
    have hol2 : out.length = n1 + 1 := by rw [hol]; simp [HP.out.2.2.2]
    have HR3 := Lib.hid hr3
    have HB3 := Lib.hid hb3
    have HN := Lib.hid hN
    have HOS := Lib.hid hos
    have HOL := Lib.hid hol2
    clear hr3 hb3 hN hos hol2 hol hov hseg hon3
    go_wp2_with fail
    have hrd : Rd .u64 w3 w.heap.size w3.heap.size (some ⟨w.heap.size, 0, none⟩) (n1 + 1) (n1 + 1) out := by
      have := HR3.out.rd0 (lo := w.heap.size) (hi := w3.heap.size) (c := n1 + 1) (Nat.le_refl _) HR3.out.lt (by rw [HOL.out]; omega)
      rw [HOL.out] at this; exact this
    refine (used_any w3 w.heap.size w3.heap.size (some ⟨w.heap.size, 0, none⟩) (n1 + 1) (n1 + 1) out hrd HOS.out (by omega)).mono ?_
    rintro e w' ⟨A3, c3, rfl, rfl, hA3, hc3⟩
    have hfin := hrd.used HOS.out hA3 hc3
    rw [HN.out] at hfin
    go_wp2
    go_ret
    exact ⟨_, _, _, rfl, hfin, HB3.out, HR3.out.fr hA3⟩
end Go.Proofs.YthhaelnildaemaaGreatDoor
namespace Go.Proofs.YthhaelnildaemaaGreatDoor
open Go.RowKit Nx
theorem B64_two : 2 ≤ B64 := by unfold B64; omega
theorem B64_pow : B64 = 2 ^ 64 := rfl
def cmpv (x y : Nat) : Int := if x < y then -1 else if y < x then 1 else 0
theorem cmpv_lt {x y : Nat} (h : x < y) : cmpv x y = -1 := by unfold cmpv; rw [if_pos h]
theorem cmpv_gt {x y : Nat} (h : y < x) : cmpv x y = 1 := by unfold cmpv; rw [if_neg (by omega), if_pos h]
theorem cmpv_eq {x y : Nat} (h : x = y) : cmpv x y = 0 := by unfold cmpv; rw [if_neg (by omega), if_neg (by omega)]
def IntPost (w : World) (v : Int) (e : Ending) (w' : World) : Prop := ∃ m : Nat, e = .returned (.int .i64 v) ∧ w' = w.drewN m
theorem dr1 (w : World) (a b : Nat) : ∃ m, (w.drewN a).drewN b = w.drewN m := ⟨a + b, World.drewN_drewN ..⟩
theorem dr2 (w : World) (a b c : Nat) : ∃ m, ((w.drewN a).drewN b).drewN c = w.drewN m := ⟨a + (b + c), by rw [World.drewN_drewN, World.drewN_drewN]⟩
theorem IntPost.of {w w' : World} {v : Int} {e : Ending} (he : e = .returned (.int .i64 v)) (h : ∃ m, w' = w.drewN m) : IntPost w v e w' := by
  obtain ⟨m, hm⟩ := h; exact ⟨m, he, hm⟩
def CmpRel (w : World) (n : Nat) (p q : List Nat) (u : Value) (wr : World) : Prop :=
  ∃ k m : Nat, k ≤ n ∧ u = .int .i64 (k : Int) ∧ wr = w.drewN m ∧ Hid (p.drop (n - k) = q.drop (n - k))
theorem CmpRel.of {w wr : World} {n : Nat} {p q : List Nat} {u : Value} (k : Nat) (hk : k ≤ n) (hu : u = .int .i64 (k : Int)) (h : ∃ m, wr = w.drewN m) (hI : Hid (p.drop (n - k) = q.drop (n - k))) : CmpRel w n p q u wr := by
  obtain ⟨m, hm⟩ := h; exact ⟨k, m, hk, hu, hm, hI⟩
theorem top_lt {B X Y n k x y : Nat} (hB : 2 ≤ B) (h1 : (digs B X).length = n) (h2 : (digs B Y).length = n) (hk : k < n) (he : (digs B X).drop (n - k) = (digs B Y).drop (n - k))
    (hx : (digs B X)[n - 1 - k]? = some x) (hy : (digs B Y)[n - 1 - k]? = some y) (h : x < y) : X < Y := by
  have := lt_of_top (B := B) (xs := digs B X) (ys := digs B Y) (small_digs hB X) (n - 1 - k) (by omega) (by omega) (by rw [show n - 1 - k + 1 = n - k by omega]; exact he) (by rw [getD_of hx, getD_of hy]; exact h)
  rwa [nval_digs hB, nval_digs hB] at this
theorem top_next {p q : List Nat} {n k x : Nat} (h1 : p.length = n) (h2 : q.length = n) (hk : k < n) (he : p.drop (n - k) = q.drop (n - k)) (hx : p[n - 1 - k]? = some x) (hy : q[n - 1 - k]? = some x) :
    p.drop (n - (k + 1)) = q.drop (n - (k + 1)) := by
  rw [show n - (k + 1) = n - 1 - k by omega, List.drop_eq_getElem_cons (by omega), List.drop_eq_getElem_cons (l := q) (by omega), show n - 1 - k + 1 = n - k by omega, he]
  rw [List.getElem?_eq_getElem (by omega)] at hx hy
  injection hx with hx; injection hy with hy
  rw [hx, hy]
set_option maxRecDepth 100000 in
set_option maxHeartbeats 1000000 in
theorem cmp_any (w : World) (lo hi : Nat) (A B : Option Addr) (n c m cb : Nat) (xs ys : List Nat) (ha : Rd .u64 w lo hi A n c xs) (hb : Rd .u64 w lo hi B m cb ys) (hxs : Small B64 xs) (hys : Small B64 ys)
    (hn : n ≤ 100000000) (hm : m ≤ 100000000) :
    Calls Tryz.prog 192 #[.slice A n c, .slice B m cb] w (IntPost w (cmpv (nval B64 xs) (nval B64 ys))) := by
  have ux := ulen_le hxs
  have uy := ulen_le hys
  rw [ha.1] at ux
  rw [hb.1] at uy
  have HA := Lib.hid ha; have HB := Lib.hid hb; have HX := Lib.hid hxs; have HY := Lib.hid hys
  clear ha hb hxs hys
  obtain ⟨X, hX⟩ : ∃ X, X = nval B64 xs := ⟨_, rfl⟩
  obtain ⟨Y, hY⟩ : ∃ Y, Y = nval B64 ys := ⟨_, rfl⟩
  rw [← hX, ← hY]
  have HXv := Lib.hid hX; have HYv := Lib.hid hY
  clear hX hY
  go_enter Tryz.func192, Tryz.ntmps192
  go_wp2_with fail
  refine (used_any w lo hi A n c xs HA.out HX.out (by omega)).mono ?_
  rintro e w' ⟨A1, c1, rfl, rfl, hA1, hc1⟩
  have H1 := Lib.hid (HA.out.used HX.out hA1 hc1)
  clear hA1 hc1
  go_wp2_with fail
  refine (used_any w lo hi B m cb ys HB.out HY.out (by omega)).mono ?_
  rintro e w' ⟨A2, c2, rfl, rfl, hA2, hc2⟩
  have H2 := Lib.hid (HB.out.used HY.out hA2 hc2)
  clear hA2 hc2 HA HB HX HY
  generalize ulen xs = n1 at *
  generalize ulen ys = n2 at *
  rw [← HXv.out] at H1
  rw [← HYv.out] at H2
  rcases Nat.lt_or_ge n1 n2 with hlt | hge
  · have hv := Lib.hid (nval_le_of_len B64_two (m := X) (n := Y) (by rw [H1.out.1, H2.out.1]; exact hlt))
    go_wp2
    go_ret
    rw [cmpv_lt hv.out]
    exact ⟨0, rfl, rfl⟩
  · rcases Nat.lt_or_ge n2 n1 with hlt | hge2
    · have hv := Lib.hid (nval_le_of_len B64_two (m := Y) (n := X) (by rw [H1.out.1, H2.out.1]; exact hlt))
      go_wp2
      go_ret
      rw [cmpv_gt hv.out]
      exact ⟨0, rfl, rfl⟩
    · obtain rfl : n1 = n2 := by omega
      have f1 : decide (n1 < n1) = false := by simp
      go_wp2
      go_loopw [25] (fun u wr => CmpRel w n1 (digs B64 X) (digs B64 Y) u wr) (fun u _ => n1 - (intOf u).toNat)
      case atStart => exact ⟨0, 0, Nat.zero_le _, rfl, rfl, Lib.hid (by
        rw [List.drop_of_length_le (by have := H1.out.1; omega), List.drop_of_length_le (by have := H2.out.1; omega)])⟩
      case round =>
        obtain ⟨k, dn, hk, rfl, rfl, hI⟩ := hrel
        by_cases hlt : k < n1
        · obtain ⟨ad, x, hA, _, _, hx, hcx⟩ := H1.out.get_ (j := n1 - 1 - k) (by omega)
          subst hA
          obtain ⟨bd, y, hA, _, _, hy, hcy⟩ := H2.out.get_ (j := n1 - 1 - k) (by omega)
          subst hA
          have i1 : (0 : Int) ≤ (n1 : Int) - 1 - (k : Int) := by omega
          have i2 : (n1 : Int) - 1 - (k : Int) < (n1 : Int) := by omega
          have i3 : ((n1 : Int) - 1 - (k : Int)).toNat = n1 - 1 - k := by omega
          go_wp2
          go_quiet (fail)
          rcases Nat.lt_or_ge x y with hxy | hxy
          · go_wp2
            go_ret
            rw [cmpv_lt (top_lt B64_two H1.out.1 H2.out.1 hlt hI.out hx.out hy.out hxy)]
            exact IntPost.of rfl (by first | exact ⟨_, rfl⟩ | exact dr1 _ _ _ | exact dr2 _ _ _ _)
          · have f2 : decide (x < y) = false := by simp; omega
            go_wp2
            go_quiet (fail)
            rcases Nat.lt_or_ge y x with hyx | hyx
            · go_wp2
              go_ret
              rw [cmpv_gt (top_lt B64_two H2.out.1 H1.out.1 hlt hI.out.symm hy.out hx.out hyx)]
              exact IntPost.of rfl (by first | exact ⟨_, rfl⟩ | exact dr1 _ _ _ | exact dr2 _ _ _ _)
            · have f3 : decide (y < x) = false := by simp; omega
              obtain rfl : x = y := by omega
              go_wp2
              go_roundw
              case rel => exact CmpRel.of (k + 1) (by omega) (by go_num) (by first | exact ⟨_, rfl⟩ | exact dr1 _ _ _ | exact dr2 _ _ _ _) (Lib.hid (top_next H1.out.1 H2.out.1 hlt hI.out hx.out hy.out))
              case measure => simp [intOf]; omega
        · go_wp2
          go_ret
          have hkn : n1 - k = 0 := by omega
          have he := hI.out
          rw [hkn, List.drop_zero, List.drop_zero] at he
          have hXY : X = Y := by
            have h1 := nval_digs B64_two X
            rw [he, nval_digs B64_two] at h1
            exact h1.symm
          rw [cmpv_eq hXY]
          exact ⟨dn, rfl, rfl⟩
set_option maxRecDepth 100000 in
set_option maxHeartbeats 400000 in
theorem right_any (w : World) (lo hi : Nat) (A : Option Addr) (n c : Nat) (xs : List Nat) (ha : Rd .u64 w lo hi A n c xs) (hn : n ≤ 100000000) :
    Calls Tryz.prog 140 #[.slice A n c] w fun e w' => e = .returned (.bool (decide (n = 0 ∨ xs.getD (n - 1) 0 ≠ 0))) ∧ w = w' := by
  rcases Nat.eq_zero_or_pos n with e | e
  · subst e
    go_enter Tryz.func140, Tryz.ntmps140
    go_wp2
    go_ret
    exact ⟨by simp, rfl⟩
  · obtain ⟨ad, x, hA, _, _, hx, hcx⟩ := ha.get_ (j := n - 1) (by omega)
    subst hA
    have hg := getD_of hx.out
    rw [hg]
    have f0 : ((n : Int) == 0) = false := by simp; omega
    have HA := Lib.hid ha
    have HG := Lib.hid hg
    clear ha hg
    go_enter Tryz.func140, Tryz.ntmps140
    go_wp2
    go_ret
    refine ⟨congrArg (fun b => Ending.returned (Value.bool b)) ?_, rfl⟩
    rw [Bool.eq_iff_iff]
    simp
    omega
end Go.Proofs.YthhaelnildaemaaGreatDoor
namespace Go.Proofs.YthhaelnildaemaaGreatDoor
open Go.RowKit Nx
theorem pow64 (k : Nat) : B64 ^ k = 2 ^ (64 * k) := by rw [B64_pow, ← Nat.pow_mul]
theorem pow32 (k : Nat) : B32 ^ k = 2 ^ (32 * k) := by rw [show B32 = 2 ^ 32 from rfl, ← Nat.pow_mul]
theorem nbits_digs {B q N m t : Nat} (hB : 2 ≤ B) (hp : ∀ k, B ^ k = 2 ^ (q * k)) (hm : (digs B N).length = m) (h0 : 0 < m) (ht : (digs B N)[m - 1]? = some t) : nbits N = q * (m - 1) + nbits t := by
  have ht0 : t ≠ 0 := digs_last hB N t (by rw [List.getLast?_eq_getElem?, hm]; exact ht)
  have hs := nval_split B (digs B N) (m - 1) (by omega)
  have hd : (digs B N).drop (m - 1) = [t] := by
    rw [List.drop_eq_getElem_cons (by omega), show m - 1 + 1 = m by omega, List.drop_of_length_le (by omega)]
    rw [List.getElem?_eq_getElem (by omega)] at ht; injection ht with ht; rw [ht]
  have hl := nval_lt ((small_digs hB N).take (m - 1))
  rw [List.length_take, Nat.min_eq_left (by omega), hp] at hl
  rw [nval_digs hB, hd, hp] at hs
  rw [hs]
  have := nbits_top (q := q) (m := m - 1) (lowv := nval B ((digs B N).take (m - 1))) (top := t) hl ht0
  simpa [nval] using this
theorem ntz_digs {B q k x : Nat} {xs : List Nat} (hp : ∀ k, B ^ k = 2 ^ (q * k)) (hs : Small B xs) (hz : ∀ (j u : Nat), j < k → xs[j]? = some u → u = 0) (hx : xs[k]? = some x) (h0 : x ≠ 0) : ntz (nval B xs) = q * k + ntz x := by
  have hk := lt_of_get hx
  have hs1 := nval_split B xs k (by omega)
  have ht : nval B (xs.take k) = 0 := by
    have : ∀ ys : List Nat, (∀ (j u : Nat), ys[j]? = some u → u = 0) → nval B ys = 0 := by
      intro ys
      induction ys with
      | nil => intro _; rfl
      | cons y ys ih =>
        intro hh
        have h0 := hh 0 y (by simp)
        have := ih (fun j u hj => hh (j + 1) u (by simpa using hj))
        simp [nval, h0, this]
    refine this _ (fun j u hu => ?_)
    rw [List.getElem?_take] at hu
    split at hu
    · exact hz j u (by assumption) hu
    · cases hu
  have hd : xs.drop k = x :: xs.drop (k + 1) := by
    rw [List.drop_eq_getElem_cons hk]; rw [List.getElem?_eq_getElem hk] at hx; injection hx with hx; rw [hx]
  have hxB := hs.get hx
  have hB1 : B = 2 ^ q := by have := hp 1; simpa using this
  rw [hs1, ht, hd, Nat.zero_add, hp, nval, ntz_shift (by omega)]
  congr 1
  have := ntz_add (k := q) (b := nval B (xs.drop (k + 1))) h0 (by rw [← hB1]; exact hxB)
  rw [← hB1] at this
  exact this
theorem nval_all_zero {B : Nat} {xs : List Nat} (h : ∀ (j u : Nat), xs[j]? = some u → u = 0) : nval B xs = 0 := by
  induction xs with
  | nil => rfl
  | cons y ys ih =>
    have h0 := h 0 y (by simp)
    have := ih (fun j u hj => h (j + 1) u (by simpa using hj))
    simp [nval, h0, this]
set_option maxRecDepth 100000 in
set_option maxHeartbeats 400000 in
theorem trim_any (w : World) (lo hi : Nat) (A : Option Addr) (n c : Nat) (xs : List Nat) (ha : Rd .u64 w lo hi A n c xs) (hxs : Small B64 xs) (hn : n ≤ 100000000) (hhi : hi ≤ w.heap.size) :
    Calls Tryz.prog 185 #[.slice A n c] w (NumPost w (nval B64 xs)) := by
  have ux := ulen_le hxs
  rw [ha.1] at ux
  have HA := Lib.hid ha; have HX := Lib.hid hxs
  clear ha hxs
  go_enter Tryz.func185, Tryz.ntmps185
  go_wp2_with fail
  refine (used_any w lo hi A n c xs HA.out HX.out (by omega)).mono ?_
  rintro e w' ⟨A1, c1, rfl, rfl, hA1, hc1⟩
  have h1 := HA.out.used HX.out hA1 hc1
  clear hA1 hc1
  generalize ulen xs = n1 at *
  have hmk := fun W => make64 (n1 : Int) n1 rfl (by omega) W
  obtain ⟨w2, hcp, hrow, honly⟩ := copy64 (w.alloc (zrow .u64 56 n1)) lo hi w.heap.size n1 n1 c1 A1 _ _ (zrow_row _ _ _ w) (h1.alloc hhi _) (by simp)
  rw [List.length_replicate] at hcp
  have hpl := h1.1
  have hrow2 : Row .u64 w2 w.heap.size 56 (digs B64 (nval B64 xs)) := by
    have e : List.drop n1 (List.replicate n1 0) = [] := by rw [List.drop_replicate, Nat.sub_self]; rfl
    rw [e, List.append_nil] at hrow; exact hrow
  have hb2 : Below w.heap.size w w2 := ((Below.refl _ _).alloc (Nat.le_refl _) _).trans (only_below honly (by simp) (Nat.le_refl _))
  have HRow := Lib.hid hrow2
  have HB2 := Lib.hid hb2
  have HL := Lib.hid hpl
  clear hrow hrow2 honly hb2 hpl h1
  go_wp2
  go_ret
  refine ⟨_, _, _, rfl, ?_, HB2.out, HRow.out.fr (fun _ => rfl)⟩
  have := HRow.out.rd0 (lo := w.heap.size) (hi := w2.heap.size) (c := n1) (Nat.le_refl _) HRow.out.lt (by have := HL.out; omega)
  rw [HL.out] at this
  exact this
set_option maxRecDepth 100000 in
set_option maxHeartbeats 400000 in
theorem bits_any (w : World) (lo hi : Nat) (A : Option Addr) (n c : Nat) (xs : List Nat) (ha : Rd .u64 w lo hi A n c xs) (hxs : Small B64 xs) (hn : n ≤ 100000000) :
    Calls Tryz.prog 144 #[.slice A n c] w fun e w' => e = .returned (.int .i64 (nbits (nval B64 xs) : Int)) ∧ w = w' := by
  have ux := ulen_le hxs
  rw [ha.1] at ux
  have HA := Lib.hid ha; have HX := Lib.hid hxs
  clear ha hxs
  obtain ⟨N, hN⟩ : ∃ N, N = nbits (nval B64 xs) := ⟨_, rfl⟩
  rw [← hN]
  have HN := Lib.hid hN
  clear hN
  go_enter Tryz.func144, Tryz.ntmps144
  go_wp2_with fail
  refine (used_any w lo hi A n c xs HA.out HX.out (by omega)).mono ?_
  rintro e w' ⟨A1, c1, rfl, rfl, hA1, hc1⟩
  have h1 := Lib.hid (HA.out.used HX.out hA1 hc1)
  clear hA1 hc1
  generalize ulen xs = n1 at *
  rcases Nat.eq_zero_or_pos n1 with e | e
  · subst e
    have hz : N = 0 := by
      have := (digs_eq_nil B64_two).1 (List.eq_nil_of_length_eq_zero h1.out.1)
      rw [HN.out, this]; rfl
    have HZ := Lib.hid hz
    clear hz
    go_wp2
    go_ret
    exact ⟨by rw [HZ.out]; rfl, rfl⟩
  · obtain ⟨ad, x, hA, _, _, hx, hcx⟩ := h1.out.get_ (j := n1 - 1) (by omega)
    subst hA
    have f0 : ((n1 : Int) == 0) = false := by simp; omega
    have hxB : x < B64 := (small_digs B64_two _).get hx.out
    have hb : nbits x ≤ 64 := nbits_le (show x < 2 ^ 64 from hxB)
    have hNv := Lib.hid (HN.out.trans (nbits_digs B64_two pow64 h1.out.1 e hx.out))
    have i3 : ((n1 : Int) - 1).toNat = n1 - 1 := by omega
    go_wp2_with (go_at_call 194; refine (len64_any _ _ hxB).mono ?_; rintro e w' ⟨rfl, rfl⟩)
    go_ret
    refine ⟨congrArg (fun z => Ending.returned (Value.int IntKind.i64 z)) ?_, rfl⟩
    have := hNv.out
    omega
set_option maxRecDepth 100000 in
set_option maxHeartbeats 400000 in
theorem zeros_any (w : World) (lo hi : Nat) (A : Option Addr) (n c : Nat) (xs : List Nat) (ha : Rd .u64 w lo hi A n c xs) (hxs : Small B64 xs) (hn : n ≤ 100000000) (ht : Tab w) :
    Calls Tryz.prog 145 #[.slice A n c] w fun e w' => e = .returned (.int .i64 (ntz (nval B64 xs) : Int)) ∧ w = w' := by
  have HA := Lib.hid ha; have HX := Lib.hid hxs; have HT := Lib.hid ht
  have HL := Lib.hid ha.1
  clear ha hxs ht
  obtain ⟨N, hN⟩ : ∃ N, N = ntz (nval B64 xs) := ⟨_, rfl⟩
  rw [← hN]
  have HN := Lib.hid hN
  clear hN
  go_enter Tryz.func145, Tryz.ntmps145
  go_wp2
  go_loop [6] (fun i => ∃ k : Nat, k ≤ n ∧ i = .int .i64 k ∧ Hid (∀ j u, j < k → xs[j]? = some u → u = 0)) (fun i => n - (intOf i).toNat)
  case atStart => exact ⟨0, Nat.zero_le _, rfl, Lib.hid (fun j u hj => absurd hj (by omega))⟩
  case round =>
    obtain ⟨k, hk, rfl, hz⟩ := hrel
    by_cases hlt : k < n
    · obtain ⟨ad, x, hA, _, _, hx, hcx⟩ := HA.out.get_ (j := k) hlt
      subst hA
      have hxB : x < B64 := HX.out.get hx.out
      by_cases hx0 : x = 0
      · have f0 : ((x : Int) != 0) = false := by simp; omega
        go_wp2
        go_round
        case rel => exact ⟨k + 1, by omega, by go_num, Lib.hid (fun j u hj hu => by
          rcases Nat.lt_or_ge j k with h1 | h1
          · exact hz.out j u h1 hu
          · obtain rfl : j = k := by omega
            have := hx.out; rw [hu] at this; injection this with this; omega)⟩
        case measure => simp [intOf]; omega
      · have f0 : ((x : Int) != 0) = true := by simp; omega
        have hb : ntz x < 64 := ntz_lt hx0 (show x < 2 ^ 64 from hxB)
        have hNv := Lib.hid (HN.out.trans (ntz_digs pow64 HX.out hz.out hx.out hx0))
        go_wp2_with (go_at_call 195; refine (trail64_any _ hx0 hxB _ HT.out).mono ?_; rintro e w' ⟨rfl, rfl⟩)
        go_ret
        refine ⟨congrArg (fun z => Ending.returned (Value.int IntKind.i64 z)) ?_, rfl⟩
        have := hNv.out
        omega
    · go_wp2
      go_ret
      have : N = 0 := by
        rw [HN.out, nval_all_zero (fun j u hu => hz.out j u (by have := lt_of_get hu; have := HL.out; omega) hu), ntz_zero]
      exact ⟨by rw [this]; rfl, rfl⟩
end Go.Proofs.YthhaelnildaemaaGreatDoor
