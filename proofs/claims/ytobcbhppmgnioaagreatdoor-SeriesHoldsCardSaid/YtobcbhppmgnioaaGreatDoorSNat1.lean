/- nat.addTo, nat.Add. make, copy: the runs and laws as the walks below use them; what a function that makes a number leaves. nat.Add, nat.Trim. nat.Cmp, nat.Right, nat.Trim, nat.Bits, nat.Zeros. nat.Trim, nat.Bits, nat.Zeros. -/
import Derived.Test.YtobcbhppmgnioaaGreatDoorSNatB
import Derived.Test.YtobcbhppmgnioaaGreatDoorSNatA
import Derived.Deep.RegionHeld3
import Derived.Deep.QuietTactic
import Derived.BigQuiet
import Derived.Deep.RegionLaw
import Derived.RegionTactic
import Derived.StillTailTactics
import Derived.Laws.MakeOwn
import Derived.Laws.CopyOwn
import Derived.Deep.DeepCutAuto
import Derived.LoopTactic
namespace Go.Proofs.YtobcbhppmgnioaaGreatDoor
set_option maxHeartbeats 1000000
set_option maxRecDepth 100000
open Go.RowKit Nx
section
def AddRel (w : World) (g : Nat) (pre seg post ys : List Nat) (n : Nat) (u c : Value) (wr : World) : Prop :=
 ∃ (k cy : Nat) (cur : List Nat), k ≤ n ∧ u = .int .i64 (k : Int) ∧ c = .int .u64 (cy : Int) ∧ cy ≤ 1 ∧
  Hid (AddI B64 n k cy cur seg ys) ∧
  Hid (Seg .u64 wr g 66 pre cur post) ∧ Hid (w.grownBy wr (some g))
def AddPost (w : World) (g : Nat) (pre seg post ys : List Nat) (e : Ending) (w' : World) : Prop :=
 ∃ (cy : Nat) (out : List Nat), e = .returned (.int .u64 (cy : Int)) ∧ cy ≤ 1 ∧ out.length = seg.length ∧ Small B64 out ∧ nval B64 out + B64 ^ seg.length * cy = nval B64 seg + nval B64 ys ∧
  Seg .u64 w' g 66 pre out post ∧ w.grownBy w' (some g)
theorem addTo_any (w : World) (lo hi g o n c m cb : Nat) (A : Option Addr) (pre seg post ys : List Nat) (hs : Seg .u64 w g 66 pre seg post) (ho : pre.length = o) (hn : seg.length = n) (hnc : n ≤ c)
  (hb : Rd .u64 w lo hi A m cb ys) (hg : hi ≤ g) (hmn : m ≤ n) (hsm : Small B64 seg) (hys : Small B64 ys) (hbig : n ≤ 1000000000) :
  Calls Tryz.prog 154 #[.slice (some ⟨g, o, none⟩) n c, .slice A m cb] w (AddPost w g pre seg post ys) := by
 have HS := Lib.hid hs; have HO := Lib.hid ho; have HN := Lib.hid hn; have HB := Lib.hid hb; have HM := Lib.hid hsm; have HY := Lib.hid hys
 have HL := Lib.hid hb.1
 have hB : 2 ≤ B64 := by unfold B64; omega
 clear hs ho hn hb hsm hys
 go_enter Tryz.func154, Tryz.ntmps154
 go_wp2
 go_step3
 go_wp2
 go_step3
 go_wp2
 go_loopw [9, 5] (fun u c wr => AddRel w g pre seg post ys n u c wr) (fun u _ _ => n - (intOf u).toNat)
 case atStart => exact ⟨0, 0, seg, Nat.zero_le _, rfl, rfl, Nat.zero_le _, Lib.hid (AddI.start HN.out HM.out), HS, Lib.hid (only_refl _ _)⟩
 case round =>
  obtain ⟨k, cy, cur, hk, rfl, rfl, hcy, hI, hS, hG⟩ := hrel
  by_cases hlt : k < n
  ·obtain ⟨x, hx⟩ : ∃ x, cur[k]? = some x := ⟨cur[k]'(by have := hI.out.1; omega), List.getElem?_eq_getElem _⟩
   have hcx := hS.out.cell HO.out hx
   have hfx := hS.out.frozen (o + k)
   have HX := Lib.hid hx
   clear hx
   have i1 : (0 : Int) ≤ (k : Int) := by omega
   have i2 : (k : Int) < (n : Int) := by omega
   by_cases hkm : k < m
   ·obtain ⟨ad, y, hA, _, hbl, hy, hcy0⟩ := HB.out.get_ (j := k) (by omega)
    subst hA
    have hcy1 : wr.cell? (ad.add k) = some (.int .u64 (y : Int)) := by
     rw [← hcy0]; exact World.cell?_of_block (hG.out.block _ (by rw [block_of_add]; have := HS.out.lt; omega) (by rw [block_of_add]; intro e; injection e with e; omega))
    have hI2 := Lib.hid (hI.out.step hB HX.out (getD_of hy.out))
    have hd1 := hI.out.carry HX.out (HY.out.get hy.out) hcy
    have hadd := add64_run x y cy hcy
    have hS2 := fun v => Lib.hid (hS.out.set_ HO.out (i := k) (by have := hI.out.1; omega) v)
    obtain ⟨v, hv⟩ : ∃ v, v = (x + y + cy) % B64 := ⟨_, rfl⟩
    obtain ⟨d, hd⟩ : ∃ d, d = (x + y + cy) / B64 := ⟨_, rfl⟩
    rw [← hv, ← hd] at hadd hI2
    rw [← hd] at hd1
    have hS3 := hS2 v
    clear hcy0 hv hd hS2
    have i3 : (k : Int) < (m : Int) := by omega
    go_wp2
    go_region
    go_wp2
    go_roundw
    case rel => exact ⟨k + 1, d, _, by omega, by go_num, rfl, hd1, hI2, Lib.hid hS3.out, Lib.hid (only_drew (only_set hG.out (.inl rfl) _))⟩
    case measure => simp [intOf]; omega
   ·by_cases hc0 : cy = 0
    ·subst hc0
     go_wp2
     rw [Exit.noGoto_ret]
     go_ret
     have he := hI.out.early HN.out hk (by have := HL.out; omega)
     exact ⟨0, cur, rfl, Nat.zero_le _, by rw [hI.out.1, HN.out], hI.out.2.1, by rw [he]; simp, hS.out, hG.out⟩
    ·have hc1 : ((cy : Int) != 0) = true := by simp; omega
     have hI2 := Lib.hid (hI.out.step hB HX.out (getD_out (xs := ys) (k := k) (by have := HL.out; omega)))
     have hd1 := hI.out.carry HX.out (y := 0) (by unfold B64; omega) hcy
     have hadd := add64_run x 0 cy hcy
     rw [show ((0 : Nat) : Int) = 0 from rfl] at hadd
     have hS2 := fun v => Lib.hid (hS.out.set_ HO.out (i := k) (by have := hI.out.1; omega) v)
     obtain ⟨v, hv⟩ : ∃ v, v = (x + 0 + cy) % B64 := ⟨_, rfl⟩
     obtain ⟨d, hd⟩ : ∃ d, d = (x + 0 + cy) / B64 := ⟨_, rfl⟩
     rw [← hv, ← hd] at hadd hI2
     rw [← hd] at hd1
     have hS3 := hS2 v
     clear hv hd hS2
     go_wp2
     go_roundw
     case rel => exact ⟨k + 1, d, _, by omega, by go_num, rfl, hd1, hI2, Lib.hid hS3.out, Lib.hid (only_set hG.out (.inl rfl) _)⟩
     case measure => simp [intOf]; omega
  ·have hkn : k = n := by omega
   subst hkn
   go_wp2
   rw [Exit.noGoto_ret]
   go_ret
   have he := hI.out.done HN.out (by have := HL.out; omega)
   exact ⟨cy, cur, rfl, hcy, by rw [hI.out.1, HN.out], hI.out.2.1, by rw [HN.out]; exact he, hS.out, hG.out⟩
end
section
theorem info64 : (Tryz.prog.info? 66).map (fun i => (i.zero, i.size, i.bytes)) = some (some (.int .u64 0), 1, 8) := by kernel_rfl
theorem info32 : (Tryz.prog.info? 122).map (fun i => (i.zero, i.size, i.bytes)) = some (some (.int .u32 0), 1, 4) := by kernel_rfl
theorem size64 : (Tryz.prog.info? 66).map (·.size) = some 1 := by kernel_rfl
def zrow (k : IntKind) (t : TypeId) (n : Nat) : Obj := .cells (ints k (List.replicate n 0)).toArray t
theorem zrow_row (k : IntKind) (t : TypeId) (n : Nat) (w : World) : Row k (w.alloc (zrow k t n)) w.heap.size t (List.replicate n 0) := Blk.new w t _
theorem made_zero (k : IntKind) (n : Nat) : madeCells #[.int k 0] n = (ints k (List.replicate n 0)).toArray := by
 apply Array.ext'
 rw [toList_madeCells_one]
 simp [ints]
theorem make64 (l : Int) (n : Nat) (hl : l = (n : Int)) (hn : n ≤ 4000000000) (w : World) :
  (Instr.makeSlice 24 (.int .i64 l) (.int .i64 l)).run Tryz.prog w = .ok (.slice (some ⟨w.heap.size, 0, none⟩) n n) (w.alloc (zrow .u64 66 n)) := by
 obtain ⟨i, hi, hz, h1, h2⟩ := info_parts info64
 subst hl
 rw [run_make w 24 66 i (.int .u64 0) Tryz.underlying24 hi hz .i64 .i64 n n (by omega) (by omega) (by rw [h2]; omega) (by omega), h1, Nat.mul_one, Int.toNat_natCast]
 show Result.ok _ (w.alloc (Obj.cells (madeCells #[.int .u64 0] n) 66)) = _
 rw [made_zero]; rfl
theorem make32 (l : Int) (n : Nat) (hl : l = (n : Int)) (hn : n ≤ 4000000000) (w : World) :
  (Instr.makeSlice 54 (.int .i64 l) (.int .i64 l)).run Tryz.prog w = .ok (.slice (some ⟨w.heap.size, 0, none⟩) n n) (w.alloc (zrow .u32 122 n)) := by
 obtain ⟨i, hi, hz, h1, h2⟩ := info_parts info32
 subst hl
 rw [run_make w 54 122 i (.int .u32 0) Tryz.underlying54 hi hz .i64 .i64 n n (by omega) (by omega) (by rw [h2]; omega) (by omega), h1, Nat.mul_one, Int.toNat_natCast]
 show Result.ok _ (w.alloc (Obj.cells (madeCells #[.int .u32 0] n) 122)) = _
 rw [made_zero]; rfl
theorem slice64 (g n c l h : Nat) (l' h' : Int) (hl : l' = (l : Int)) (hh : h' = (h : Int)) (hlh : l ≤ h) (hhc : h ≤ c) (hlc : l < c) (w : World) :
  (Instr.slice 24 (.slice (some ⟨g, 0, none⟩) n c) (some (.int .i64 l')) (some (.int .i64 h')) none).run Tryz.prog w = .ok (.slice (some ⟨g, l, none⟩) (h - l) (c - l)) w := by
 obtain ⟨i, hi, hz, h1, h2⟩ := info_parts info64
 have he : Tryz.prog.elem 24 = 66 := by kernel_rfl
 subst hl; subst hh
 rw [run_slice_lh (P := Tryz.prog) w 24 (some ⟨g, 0, none⟩) n c (by rw [he]; exact Tryz.underlying24) .i64 .i64 l h (by omega) (by omega) (by omega), he]
 have hs : (sizeOf 66).run Tryz.prog w = .ok 1 w := by simp [sizeOf, typeInfo, hi, h1]
 rw [hs]
 simp only [Result.andThen, sliced, Int.toNat_natCast, Nat.mul_one]
 rw [if_neg (by omega), Option.map_some, addr_add, Nat.zero_add]
def Fr (w : World) (A : Option Addr) (n : Nat) : Prop := ∀ (ad : Addr) (j : Nat), A = some ad → j < n → w.frozen? (ad.add j) = false
def NumPost (w : World) (N : Nat) (e : Ending) (w' : World) : Prop :=
 ∃ (A : Option Addr) (n c : Nat), e = .returned (.slice A n c) ∧ Rd .u64 w' w.heap.size w'.heap.size A n c (digs B64 N) ∧ Below w.heap.size w w' ∧ Fr w' A n
theorem Row.fr {k : IntKind} {w : World} {g : Nat} {t : TypeId} {zs : List Nat} (h : Row k w g t zs) {A : Option Addr} {n o : Nat} (hA : 0 < n → A = some ⟨g, o, none⟩) : Fr w A n := by
 intro ad j e hj
 have := hA (by omega)
 rw [this] at e
 injection e with e
 subst e
 rw [addr_add]
 exact Row.frozen h _
theorem ints_one (k : IntKind) (xs : List Nat) : ∀ v ∈ ints k xs, v.oneCell' = true := by
 intro v hv
 unfold ints at hv
 rw [List.mem_map] at hv
 obtain ⟨x, _, rfl⟩ := hv
 rfl
theorem copy64 (w : World) (lo hi g dc n c : Nat) (A : Option Addr) (zs xs : List Nat) (hz : Row .u64 w g 66 zs) (hx : Rd .u64 w lo hi A n c xs) (hn : n ≤ zs.length) :
  ∃ w', (Builtin.copy_ #[24, 24] 3 #[.slice (some ⟨g, 0, none⟩) zs.length dc, .slice A n c]).run Tryz.prog w = .ok (goInt n) w' ∧
   Row .u64 w' g 66 (xs ++ zs.drop n) ∧ w.grownBy w' (some g) := by
 rcases Nat.eq_zero_or_pos n with e | e
 ·subst e
  have : xs = [] := List.eq_nil_of_length_eq_zero hx.1
  subst this
  exact ⟨w, run_copy_none w _ _ _ 66 _ _ _ _ _ _ Tryz.underlying24 size64 (Nat.zero_min _), by simpa using hz, only_refl _ _⟩
 ·obtain ⟨ad, rfl, _, _, hc⟩ := hx.2.2 e
  have hl := hx.1
  have hrun := run_copy_row (P := Tryz.prog) w 24 24 3 66 g 0 zs.length dc ad n c (ints .u64 zs).toArray 66 (ints .u64 xs) Tryz.underlying24 size64 hz
   (by rw [ints_length, hl]; exact (Nat.min_eq_left hn).symm) (fun j v hv => by
    rw [ints_get] at hv
    cases hx' : xs[j]? with
    | none => rw [hx'] at hv; cases hv
    | some u => rw [hx'] at hv; injection hv with hv; subst hv; exact hc j u hx') (by simp [ints]; omega) (ints_one _ _)
  rw [ints_length, hl] at hrun
  refine ⟨_, hrun, ?_, ⟨rfl, rfl, rfl, by simp [World.setRow], fun k _ hne => setRow_other w g k _ (fun e => hne (by rw [e]))⟩⟩
  unfold Row Blk
  rw [setRow_heap w g _ _ 66 (0, 0) hz]
  simp [ints]
end
section
def AddCut (w : World) (lo hi S : Nat) (a b : Value) (wx : World) : Prop :=
 ∃ (A1 A2 : Option Addr) (n1 c1 n2 c2 : Nat) (p q : List Nat), a = .slice A1 n1 c1 ∧ b = .slice A2 n2 c2 ∧ w = wx ∧ n2 ≤ n1 ∧ n1 ≤ 100000000 ∧
  Hid (Rd .u64 w lo hi A1 n1 c1 p ∧ Rd .u64 w lo hi A2 n2 c2 q ∧ Small B64 p ∧ Small B64 q ∧ nval B64 p + nval B64 q = S)
theorem add_any (w : World) (lo hi : Nat) (A B : Option Addr) (n c m cb : Nat) (xs ys : List Nat) (ha : Rd .u64 w lo hi A n c xs) (hb : Rd .u64 w lo hi B m cb ys) (hxs : Small B64 xs) (hys : Small B64 ys)
  (hn : n ≤ 100000000) (hm : m ≤ 100000000) (hhi : hi ≤ w.heap.size) :
  Calls Tryz.prog 140 #[.slice A n c, .slice B m cb] w (NumPost w (nval B64 xs + nval B64 ys)) := by
 have ux := ulen_le hxs
 have uy := ulen_le hys
 rw [ha.1] at ux
 rw [hb.1] at uy
 have HA := Lib.hid ha; have HB := Lib.hid hb; have HX := Lib.hid hxs; have HY := Lib.hid hys
 clear ha hb hxs hys
 go_enter Tryz.func140, Tryz.ntmps140
 go_wp2_with fail
 refine (used_any w lo hi A n c xs HA.out HX.out (by omega)).mono ?_
 rintro e w' ⟨A1, c1, rfl, rfl, hA1, hc1⟩
 have H1 := Lib.hid (HA.out.used HX.out hA1 hc1)
 clear hA1 hc1
 go_wp2_with fail
 refine (used_any w lo hi B m cb ys HB.out HY.out (by omega)).mono ?_
 rintro e w' ⟨A2, c2, rfl, rfl, hA2, hc2⟩
 have H2 := Lib.hid (HB.out.used HY.out hA2 hc2)
 clear hA2 hc2
 have hB : 2 ≤ B64 := by unfold B64; omega
 generalize ulen xs = n1 at *
 generalize ulen ys = n2 at *
 go_upto_if 14 with fail
 go_cut [0, 1] (fun a b wx => AddCut w lo hi (nval B64 xs + nval B64 ys) a b wx)
 case first =>
  by_cases h : n1 < n2
  ·go_wp2_with fail
   go_meet
   exact ⟨A2, A1, n2, c2, n1, c1, _, _, rfl, rfl, rfl, by omega, by omega, Lib.hid ⟨H2.out, H1.out, small_digs hB _, small_digs hB _, by rw [nval_digs hB, nval_digs hB, Nat.add_comm]⟩⟩
  ·go_wp2_with fail
   go_meet
   exact ⟨A1, A2, n1, c1, n2, c2, _, _, rfl, rfl, rfl, by omega, by omega, Lib.hid ⟨H1.out, H2.out, small_digs hB _, small_digs hB _, by rw [nval_digs hB, nval_digs hB]⟩⟩
 case rest =>
  obtain ⟨A1, A2, n1, c1, n2, c2, p, q, rfl, rfl, rfl, h12, h1b, hI⟩ := hcut
  have hmk := fun W => make64 ((n1 : Int) + 1) (n1 + 1) (by omega) (by omega) W
  obtain ⟨hp, hq, sp, sq, hS⟩ := hI.out
  obtain ⟨w2, hcp, hrow, honly⟩ := copy64 (w.alloc (zrow .u64 66 (n1 + 1))) lo hi w.heap.size (n1 + 1) n1 c1 A1 _ p (zrow_row _ _ _ w) (hp.alloc hhi _) (by simp)
  rw [List.length_replicate] at hcp
  have hpl := hp.1
  have hrow2 : Row .u64 w2 w.heap.size 66 (p ++ [0]) := by
   have e : List.drop n1 (List.replicate (n1 + 1) 0) = [0] := by rw [List.drop_replicate, Nat.add_sub_cancel_left]; rfl
   rw [e] at hrow; exact hrow
  have hb2 : Below w.heap.size w w2 := ((Below.refl _ _).alloc (Nat.le_refl _) _).trans (only_below honly (by simp) (Nat.le_refl _))
  have hq2 := Lib.hid (hq.below (hb2.mono hhi))
  have HRow := Lib.hid hrow2
  have HB2 := Lib.hid hb2
  have HP := Lib.hid (And.intro sp (And.intro sq (And.intro hS hpl)))
  have hz2 := Lib.hid hrow2.lt
  clear hrow hrow2 honly hb2 hp hq sp sq hS hpl hI H1 H2 HA HB
  go_wp2_with fail
  refine (addTo_any w2 lo hi w.heap.size 0 (n1 + 1) (n1 + 1) n2 c2 A2 [] (p ++ [0]) [] q (Row.toSeg HRow.out (by simp)) rfl (by simp [HP.out.2.2.2]) (by omega) hq2.out hhi (by omega) (HP.out.1.append (by intro x hx; simp at hx; subst hx; unfold B64; omega)) HP.out.2.1 (by omega)).mono ?_
  rintro e w3 ⟨cy, out, rfl, _, hol, hos, hov, hseg, hon3⟩
  have hr3 : Row .u64 w3 w.heap.size 66 out := by
   have : ([] ++ out ++ [] : List Nat) = out := by simp
   unfold Seg at hseg; rw [this] at hseg; exact hseg
  have hb3 : Below w.heap.size w w3 := HB2.out.trans (only_below hon3 (by have := hz2.out; omega) (Nat.le_refl _))
  have hN : nval B64 out = nval B64 xs + nval B64 ys := by
   have h1 := HP.out.2.2.1
   have h2 := nval_lt HP.out.1
   have h3 := nval_lt HP.out.2.1
   have hql := hq2.out.1
   have h4 : nval B64 (p ++ [0]) = nval B64 p := by rw [nval_snoc]; simp
   rw [h4, List.length_append, HP.out.2.2.2] at hov
   rw [HP.out.2.2.2] at h2
   rw [hql] at h3
   have h5 : B64 ^ n2 ≤ B64 ^ n1 := Nat.pow_le_pow_right (by omega) h12
   have h6 : B64 ^ (n1 + [0].length) = B64 ^ n1 * B64 := by simp [Nat.pow_succ]
   have h7 : B64 ^ n1 * 2 ≤ B64 ^ n1 * B64 := Nat.mul_le_mul_left _ hB
   rw [h6] at hov
   rcases (show cy = 0 ∨ 1 ≤ cy by omega) with e | e
   ·subst e; omega
   ·have h8 : B64 ^ n1 * B64 * 1 ≤ B64 ^ n1 * B64 * cy := Nat.mul_le_mul_left _ e
    omega
  have hol2 : out.length = n1 + 1 := by rw [hol]; simp [HP.out.2.2.2]
  have HR3 := Lib.hid hr3
  have HB3 := Lib.hid hb3
  have HN := Lib.hid hN
  have HOS := Lib.hid hos
  have HOL := Lib.hid hol2
  clear hr3 hb3 hN hos hol2 hol hov hseg hon3
  go_wp2_with fail
  have hrd : Rd .u64 w3 w.heap.size w3.heap.size (some ⟨w.heap.size, 0, none⟩) (n1 + 1) (n1 + 1) out := by
   have := HR3.out.rd0 (lo := w.heap.size) (hi := w3.heap.size) (c := n1 + 1) (Nat.le_refl _) HR3.out.lt (by rw [HOL.out]; omega)
   rw [HOL.out] at this; exact this
  refine (used_any w3 w.heap.size w3.heap.size (some ⟨w.heap.size, 0, none⟩) (n1 + 1) (n1 + 1) out hrd HOS.out (by omega)).mono ?_
  rintro e w' ⟨A3, c3, rfl, rfl, hA3, hc3⟩
  have hfin := hrd.used HOS.out hA3 hc3
  rw [HN.out] at hfin
  go_wp2
  go_ret
  exact ⟨_, _, _, rfl, hfin, HB3.out, HR3.out.fr hA3⟩
end
section
theorem B64_two : 2 ≤ B64 := by unfold B64; omega
theorem B64_pow : B64 = 2 ^ 64 := rfl
def cmpv (x y : Nat) : Int := if x < y then -1 else if y < x then 1 else 0
theorem cmpv_lt {x y : Nat} (h : x < y) : cmpv x y = -1 := by unfold cmpv; rw [if_pos h]
theorem cmpv_gt {x y : Nat} (h : y < x) : cmpv x y = 1 := by unfold cmpv; rw [if_neg (by omega), if_pos h]
theorem cmpv_eq {x y : Nat} (h : x = y) : cmpv x y = 0 := by unfold cmpv; rw [if_neg (by omega), if_neg (by omega)]
def IntPost (w : World) (v : Int) (e : Ending) (w' : World) : Prop := ∃ m : Nat, e = .returned (.int .i64 v) ∧ w' = w.drewN m
theorem dr1 (w : World) (a b : Nat) : ∃ m, (w.drewN a).drewN b = w.drewN m := ⟨a + b, World.drewN_drewN ..⟩
theorem dr2 (w : World) (a b c : Nat) : ∃ m, ((w.drewN a).drewN b).drewN c = w.drewN m := ⟨a + (b + c), by rw [World.drewN_drewN, World.drewN_drewN]⟩
theorem IntPost.of {w w' : World} {v : Int} {e : Ending} (he : e = .returned (.int .i64 v)) (h : ∃ m, w' = w.drewN m) : IntPost w v e w' := by
 obtain ⟨m, hm⟩ := h; exact ⟨m, he, hm⟩
def CmpRel (w : World) (n : Nat) (p q : List Nat) (u : Value) (wr : World) : Prop :=
 ∃ k m : Nat, k ≤ n ∧ u = .int .i64 (k : Int) ∧ wr = w.drewN m ∧ Hid (p.drop (n - k) = q.drop (n - k))
theorem CmpRel.of {w wr : World} {n : Nat} {p q : List Nat} {u : Value} (k : Nat) (hk : k ≤ n) (hu : u = .int .i64 (k : Int)) (h : ∃ m, wr = w.drewN m) (hI : Hid (p.drop (n - k) = q.drop (n - k))) : CmpRel w n p q u wr := by
 obtain ⟨m, hm⟩ := h; exact ⟨k, m, hk, hu, hm, hI⟩
theorem top_lt {B X Y n k x y : Nat} (hB : 2 ≤ B) (h1 : (digs B X).length = n) (h2 : (digs B Y).length = n) (hk : k < n) (he : (digs B X).drop (n - k) = (digs B Y).drop (n - k))
  (hx : (digs B X)[n - 1 - k]? = some x) (hy : (digs B Y)[n - 1 - k]? = some y) (h : x < y) : X < Y := by
 have := lt_of_top (B := B) (xs := digs B X) (ys := digs B Y) (small_digs hB X) (n - 1 - k) (by omega) (by omega) (by rw [show n - 1 - k + 1 = n - k by omega]; exact he) (by rw [getD_of hx, getD_of hy]; exact h)
 rwa [nval_digs hB, nval_digs hB] at this
theorem top_next {p q : List Nat} {n k x : Nat} (h1 : p.length = n) (h2 : q.length = n) (hk : k < n) (he : p.drop (n - k) = q.drop (n - k)) (hx : p[n - 1 - k]? = some x) (hy : q[n - 1 - k]? = some x) :
  p.drop (n - (k + 1)) = q.drop (n - (k + 1)) := by
 rw [show n - (k + 1) = n - 1 - k by omega, List.drop_eq_getElem_cons (by omega), List.drop_eq_getElem_cons (l := q) (by omega), show n - 1 - k + 1 = n - k by omega, he]
 rw [List.getElem?_eq_getElem (by omega)] at hx hy
 injection hx with hx; injection hy with hy
 rw [hx, hy]
theorem cmp_any (w : World) (lo hi : Nat) (A B : Option Addr) (n c m cb : Nat) (xs ys : List Nat) (ha : Rd .u64 w lo hi A n c xs) (hb : Rd .u64 w lo hi B m cb ys) (hxs : Small B64 xs) (hys : Small B64 ys)
  (hn : n ≤ 100000000) (hm : m ≤ 100000000) :
  Calls Tryz.prog 131 #[.slice A n c, .slice B m cb] w (IntPost w (cmpv (nval B64 xs) (nval B64 ys))) := by
 have ux := ulen_le hxs
 have uy := ulen_le hys
 rw [ha.1] at ux
 rw [hb.1] at uy
 have HA := Lib.hid ha; have HB := Lib.hid hb; have HX := Lib.hid hxs; have HY := Lib.hid hys
 clear ha hb hxs hys
 obtain ⟨X, hX⟩ : ∃ X, X = nval B64 xs := ⟨_, rfl⟩
 obtain ⟨Y, hY⟩ : ∃ Y, Y = nval B64 ys := ⟨_, rfl⟩
 rw [← hX, ← hY]
 have HXv := Lib.hid hX; have HYv := Lib.hid hY
 clear hX hY
 go_enter Tryz.func131, Tryz.ntmps131
 go_wp2_with fail
 refine (used_any w lo hi A n c xs HA.out HX.out (by omega)).mono ?_
 rintro e w' ⟨A1, c1, rfl, rfl, hA1, hc1⟩
 have H1 := Lib.hid (HA.out.used HX.out hA1 hc1)
 clear hA1 hc1
 go_wp2_with fail
 refine (used_any w lo hi B m cb ys HB.out HY.out (by omega)).mono ?_
 rintro e w' ⟨A2, c2, rfl, rfl, hA2, hc2⟩
 have H2 := Lib.hid (HB.out.used HY.out hA2 hc2)
 clear hA2 hc2 HA HB HX HY
 generalize ulen xs = n1 at *
 generalize ulen ys = n2 at *
 rw [← HXv.out] at H1
 rw [← HYv.out] at H2
 rcases Nat.lt_or_ge n1 n2 with hlt | hge
 ·have hv := Lib.hid (nval_le_of_len B64_two (m := X) (n := Y) (by rw [H1.out.1, H2.out.1]; exact hlt))
  go_wp2
  go_ret
  rw [cmpv_lt hv.out]
  exact ⟨0, rfl, rfl⟩
 ·rcases Nat.lt_or_ge n2 n1 with hlt | hge2
  ·have hv := Lib.hid (nval_le_of_len B64_two (m := Y) (n := X) (by rw [H1.out.1, H2.out.1]; exact hlt))
   go_wp2
   go_ret
   rw [cmpv_gt hv.out]
   exact ⟨0, rfl, rfl⟩
  ·obtain rfl : n1 = n2 := by omega
   have f1 : decide (n1 < n1) = false := by simp
   go_wp2
   go_loopw [25] (fun u wr => CmpRel w n1 (digs B64 X) (digs B64 Y) u wr) (fun u _ => n1 - (intOf u).toNat)
   case atStart => exact ⟨0, 0, Nat.zero_le _, rfl, rfl, Lib.hid (by
    rw [List.drop_of_length_le (by have := H1.out.1; omega), List.drop_of_length_le (by have := H2.out.1; omega)])⟩
   case round =>
    obtain ⟨k, dn, hk, rfl, rfl, hI⟩ := hrel
    by_cases hlt : k < n1
    ·obtain ⟨ad, x, hA, _, _, hx, hcx⟩ := H1.out.get_ (j := n1 - 1 - k) (by omega)
     subst hA
     obtain ⟨bd, y, hA, _, _, hy, hcy⟩ := H2.out.get_ (j := n1 - 1 - k) (by omega)
     subst hA
     have i1 : (0 : Int) ≤ (n1 : Int) - 1 - (k : Int) := by omega
     have i2 : (n1 : Int) - 1 - (k : Int) < (n1 : Int) := by omega
     have i3 : ((n1 : Int) - 1 - (k : Int)).toNat = n1 - 1 - k := by omega
     go_wp2
     go_quiet (fail)
     rcases Nat.lt_or_ge x y with hxy | hxy
     ·go_wp2
      go_ret
      rw [cmpv_lt (top_lt B64_two H1.out.1 H2.out.1 hlt hI.out hx.out hy.out hxy)]
      exact IntPost.of rfl (by first | exact ⟨_, rfl⟩ | exact dr1 _ _ _ | exact dr2 _ _ _ _)
     ·have f2 : decide (x < y) = false := by simp; omega
      go_wp2
      go_quiet (fail)
      rcases Nat.lt_or_ge y x with hyx | hyx
      ·go_wp2
       go_ret
       rw [cmpv_gt (top_lt B64_two H2.out.1 H1.out.1 hlt hI.out.symm hy.out hx.out hyx)]
       exact IntPost.of rfl (by first | exact ⟨_, rfl⟩ | exact dr1 _ _ _ | exact dr2 _ _ _ _)
      ·have f3 : decide (y < x) = false := by simp; omega
       obtain rfl : x = y := by omega
       go_wp2
       go_roundw
       case rel => exact CmpRel.of (k + 1) (by omega) (by go_num) (by first | exact ⟨_, rfl⟩ | exact dr1 _ _ _ | exact dr2 _ _ _ _) (Lib.hid (top_next H1.out.1 H2.out.1 hlt hI.out hx.out hy.out))
       case measure => simp [intOf]; omega
    ·go_wp2
     go_ret
     have hkn : n1 - k = 0 := by omega
     have he := hI.out
     rw [hkn, List.drop_zero, List.drop_zero] at he
     have hXY : X = Y := by
      have h1 := nval_digs B64_two X
      rw [he, nval_digs B64_two] at h1
      exact h1.symm
     rw [cmpv_eq hXY]
     exact ⟨dn, rfl, rfl⟩
theorem right_any (w : World) (lo hi : Nat) (A : Option Addr) (n c : Nat) (xs : List Nat) (ha : Rd .u64 w lo hi A n c xs) (hn : n ≤ 100000000) :
  Calls Tryz.prog 96 #[.slice A n c] w fun e w' => e = .returned (.bool (decide (n = 0 ∨ xs.getD (n - 1) 0 ≠ 0))) ∧ w = w' := by
 rcases Nat.eq_zero_or_pos n with e | e
 ·subst e
  go_enter Tryz.func96, Tryz.ntmps96
  go_wp2
  go_ret
  exact ⟨by simp, rfl⟩
 ·obtain ⟨ad, x, hA, _, _, hx, hcx⟩ := ha.get_ (j := n - 1) (by omega)
  subst hA
  have hg := getD_of hx.out
  rw [hg]
  have f0 : ((n : Int) == 0) = false := by simp; omega
  have HA := Lib.hid ha
  have HG := Lib.hid hg
  clear ha hg
  go_enter Tryz.func96, Tryz.ntmps96
  go_wp2
  go_ret
  refine ⟨congrArg (fun b => Ending.returned (Value.bool b)) ?_, rfl⟩
  rw [Bool.eq_iff_iff]
  simp
  omega
end
section
theorem pow64 (k : Nat) : B64 ^ k = 2 ^ (64 * k) := by rw [B64_pow, ← Nat.pow_mul]
theorem pow32 (k : Nat) : B32 ^ k = 2 ^ (32 * k) := by rw [show B32 = 2 ^ 32 from rfl, ← Nat.pow_mul]
theorem nbits_digs {B q N m t : Nat} (hB : 2 ≤ B) (hp : ∀ k, B ^ k = 2 ^ (q * k)) (hm : (digs B N).length = m) (h0 : 0 < m) (ht : (digs B N)[m - 1]? = some t) : nbits N = q * (m - 1) + nbits t := by
 have ht0 : t ≠ 0 := digs_last hB N t (by rw [List.getLast?_eq_getElem?, hm]; exact ht)
 have hs := nval_split B (digs B N) (m - 1) (by omega)
 have hd : (digs B N).drop (m - 1) = [t] := by
  rw [List.drop_eq_getElem_cons (by omega), show m - 1 + 1 = m by omega, List.drop_of_length_le (by omega)]
  rw [List.getElem?_eq_getElem (by omega)] at ht; injection ht with ht; rw [ht]
 have hl := nval_lt ((small_digs hB N).take (m - 1))
 rw [List.length_take, Nat.min_eq_left (by omega), hp] at hl
 rw [nval_digs hB, hd, hp] at hs
 rw [hs]
 have := nbits_top (q := q) (m := m - 1) (lowv := nval B ((digs B N).take (m - 1))) (top := t) hl ht0
 simpa [nval] using this
theorem ntz_digs {B q k x : Nat} {xs : List Nat} (hp : ∀ k, B ^ k = 2 ^ (q * k)) (hs : Small B xs) (hz : ∀ (j u : Nat), j < k → xs[j]? = some u → u = 0) (hx : xs[k]? = some x) (h0 : x ≠ 0) : ntz (nval B xs) = q * k + ntz x := by
 have hk := lt_of_get hx
 have hs1 := nval_split B xs k (by omega)
 have ht : nval B (xs.take k) = 0 := by
  have : ∀ ys : List Nat, (∀ (j u : Nat), ys[j]? = some u → u = 0) → nval B ys = 0 := by
   intro ys
   induction ys with
   | nil => intro _; rfl
   | cons y ys ih =>
    intro hh
    have h0 := hh 0 y (by simp)
    have := ih (fun j u hj => hh (j + 1) u (by simpa using hj))
    simp [nval, h0, this]
  refine this _ (fun j u hu => ?_)
  rw [List.getElem?_take] at hu
  split at hu
  ·exact hz j u (by assumption) hu
  ·cases hu
 have hd : xs.drop k = x :: xs.drop (k + 1) := by
  rw [List.drop_eq_getElem_cons hk]; rw [List.getElem?_eq_getElem hk] at hx; injection hx with hx; rw [hx]
 have hxB := hs.get hx
 have hB1 : B = 2 ^ q := by have := hp 1; simpa using this
 rw [hs1, ht, hd, Nat.zero_add, hp, nval, ntz_shift (by omega)]
 congr 1
 have := ntz_add (k := q) (b := nval B (xs.drop (k + 1))) h0 (by rw [← hB1]; exact hxB)
 rw [← hB1] at this
 exact this
theorem nval_all_zero {B : Nat} {xs : List Nat} (h : ∀ (j u : Nat), xs[j]? = some u → u = 0) : nval B xs = 0 := by
 induction xs with
 | nil => rfl
 | cons y ys ih =>
  have h0 := h 0 y (by simp)
  have := ih (fun j u hj => h (j + 1) u (by simpa using hj))
  simp [nval, h0, this]
theorem trim_any (w : World) (lo hi : Nat) (A : Option Addr) (n c : Nat) (xs : List Nat) (ha : Rd .u64 w lo hi A n c xs) (hxs : Small B64 xs) (hn : n ≤ 100000000) (hhi : hi ≤ w.heap.size) :
  Calls Tryz.prog 156 #[.slice A n c] w (NumPost w (nval B64 xs)) := by
 have ux := ulen_le hxs
 rw [ha.1] at ux
 have HA := Lib.hid ha; have HX := Lib.hid hxs
 clear ha hxs
 go_enter Tryz.func156, Tryz.ntmps156
 go_wp2_with fail
 refine (used_any w lo hi A n c xs HA.out HX.out (by omega)).mono ?_
 rintro e w' ⟨A1, c1, rfl, rfl, hA1, hc1⟩
 have h1 := HA.out.used HX.out hA1 hc1
 clear hA1 hc1
 generalize ulen xs = n1 at *
 have hmk := fun W => make64 (n1 : Int) n1 rfl (by omega) W
 obtain ⟨w2, hcp, hrow, honly⟩ := copy64 (w.alloc (zrow .u64 66 n1)) lo hi w.heap.size n1 n1 c1 A1 _ _ (zrow_row _ _ _ w) (h1.alloc hhi _) (by simp)
 rw [List.length_replicate] at hcp
 have hpl := h1.1
 have hrow2 : Row .u64 w2 w.heap.size 66 (digs B64 (nval B64 xs)) := by
  have e : List.drop n1 (List.replicate n1 0) = [] := by rw [List.drop_replicate, Nat.sub_self]; rfl
  rw [e, List.append_nil] at hrow; exact hrow
 have hb2 : Below w.heap.size w w2 := ((Below.refl _ _).alloc (Nat.le_refl _) _).trans (only_below honly (by simp) (Nat.le_refl _))
 have HRow := Lib.hid hrow2
 have HB2 := Lib.hid hb2
 have HL := Lib.hid hpl
 clear hrow hrow2 honly hb2 hpl h1
 go_wp2
 go_ret
 refine ⟨_, _, _, rfl, ?_, HB2.out, HRow.out.fr (fun _ => rfl)⟩
 have := HRow.out.rd0 (lo := w.heap.size) (hi := w2.heap.size) (c := n1) (Nat.le_refl _) HRow.out.lt (by have := HL.out; omega)
 rw [HL.out] at this
 exact this
theorem bits_any (w : World) (lo hi : Nat) (A : Option Addr) (n c : Nat) (xs : List Nat) (ha : Rd .u64 w lo hi A n c xs) (hxs : Small B64 xs) (hn : n ≤ 100000000) :
  Calls Tryz.prog 136 #[.slice A n c] w fun e w' => e = .returned (.int .i64 (nbits (nval B64 xs) : Int)) ∧ w = w' := by
 have ux := ulen_le hxs
 rw [ha.1] at ux
 have HA := Lib.hid ha; have HX := Lib.hid hxs
 clear ha hxs
 obtain ⟨N, hN⟩ : ∃ N, N = nbits (nval B64 xs) := ⟨_, rfl⟩
 rw [← hN]
 have HN := Lib.hid hN
 clear hN
 go_enter Tryz.func136, Tryz.ntmps136
 go_wp2_with fail
 refine (used_any w lo hi A n c xs HA.out HX.out (by omega)).mono ?_
 rintro e w' ⟨A1, c1, rfl, rfl, hA1, hc1⟩
 have h1 := Lib.hid (HA.out.used HX.out hA1 hc1)
 clear hA1 hc1
 generalize ulen xs = n1 at *
 rcases Nat.eq_zero_or_pos n1 with e | e
 ·subst e
  have hz : N = 0 := by
   have := (digs_eq_nil B64_two).1 (List.eq_nil_of_length_eq_zero h1.out.1)
   rw [HN.out, this]; rfl
  have HZ := Lib.hid hz
  clear hz
  go_wp2
  go_ret
  exact ⟨by rw [HZ.out]; rfl, rfl⟩
 ·obtain ⟨ad, x, hA, _, _, hx, hcx⟩ := h1.out.get_ (j := n1 - 1) (by omega)
  subst hA
  have f0 : ((n1 : Int) == 0) = false := by simp; omega
  have hxB : x < B64 := (small_digs B64_two _).get hx.out
  have hb : nbits x ≤ 64 := nbits_le (show x < 2 ^ 64 from hxB)
  have hNv := Lib.hid (HN.out.trans (nbits_digs B64_two pow64 h1.out.1 e hx.out))
  have i3 : ((n1 : Int) - 1).toNat = n1 - 1 := by omega
  go_wp2_with (go_at_call 149; refine (len64_any _ _ hxB).mono ?_; rintro e w' ⟨rfl, rfl⟩)
  go_ret
  refine ⟨congrArg (fun z => Ending.returned (Value.int IntKind.i64 z)) ?_, rfl⟩
  have := hNv.out
  omega
theorem zeros_any (w : World) (lo hi : Nat) (A : Option Addr) (n c : Nat) (xs : List Nat) (ha : Rd .u64 w lo hi A n c xs) (hxs : Small B64 xs) (hn : n ≤ 100000000) (ht : Tab w) :
  Calls Tryz.prog 139 #[.slice A n c] w fun e w' => e = .returned (.int .i64 (ntz (nval B64 xs) : Int)) ∧ w = w' := by
 have HA := Lib.hid ha; have HX := Lib.hid hxs; have HT := Lib.hid ht
 have HL := Lib.hid ha.1
 clear ha hxs ht
 obtain ⟨N, hN⟩ : ∃ N, N = ntz (nval B64 xs) := ⟨_, rfl⟩
 rw [← hN]
 have HN := Lib.hid hN
 clear hN
 go_enter Tryz.func139, Tryz.ntmps139
 go_wp2
 go_loop [6] (fun i => ∃ k : Nat, k ≤ n ∧ i = .int .i64 k ∧ Hid (∀ j u, j < k → xs[j]? = some u → u = 0)) (fun i => n - (intOf i).toNat)
 case atStart => exact ⟨0, Nat.zero_le _, rfl, Lib.hid (fun j u hj => absurd hj (by omega))⟩
 case round =>
  obtain ⟨k, hk, rfl, hz⟩ := hrel
  by_cases hlt : k < n
  ·obtain ⟨ad, x, hA, _, _, hx, hcx⟩ := HA.out.get_ (j := k) hlt
   subst hA
   have hxB : x < B64 := HX.out.get hx.out
   by_cases hx0 : x = 0
   ·have f0 : ((x : Int) != 0) = false := by simp; omega
    go_wp2
    go_round
    case rel => exact ⟨k + 1, by omega, by go_num, Lib.hid (fun j u hj hu => by
     rcases Nat.lt_or_ge j k with h1 | h1
     ·exact hz.out j u h1 hu
     ·obtain rfl : j = k := by omega
      have := hx.out; rw [hu] at this; injection this with this; omega)⟩
    case measure => simp [intOf]; omega
   ·have f0 : ((x : Int) != 0) = true := by simp; omega
    have hb : ntz x < 64 := ntz_lt hx0 (show x < 2 ^ 64 from hxB)
    have hNv := Lib.hid (HN.out.trans (ntz_digs pow64 HX.out hz.out hx.out hx0))
    go_wp2_with (go_at_call 153; refine (trail64_any _ hx0 hxB _ HT.out).mono ?_; rintro e w' ⟨rfl, rfl⟩)
    go_ret
    refine ⟨congrArg (fun z => Ending.returned (Value.int IntKind.i64 z)) ?_, rfl⟩
    have := hNv.out
    omega
  ·go_wp2
   go_ret
   have : N = 0 := by
    rw [HN.out, nval_all_zero (fun j u hu => hz.out j u (by have := lt_of_get hu; have := HL.out; omega) hu), ntz_zero]
   exact ⟨by rw [this]; rfl, rfl⟩
end
section
def SubRel (w : World) (g : Nat) (pre seg post ys : List Nat) (n : Nat) (u c : Value) (wr : World) : Prop :=
 ∃ (k cy : Nat) (cur : List Nat), k ≤ n ∧ u = .int .i64 (k : Int) ∧ c = .int .u64 (cy : Int) ∧ cy ≤ 1 ∧
  Hid (SubI B64 n k cy cur seg ys) ∧ Hid (Seg .u64 wr g 66 pre cur post) ∧ Hid (w.grownBy wr (some g))
def SubPost (w : World) (g : Nat) (pre seg post ys : List Nat) (e : Ending) (w' : World) : Prop :=
 ∃ (cy : Nat) (out : List Nat), e = .returned (.tuple #[]) ∧ out.length = seg.length ∧ Small B64 out ∧ nval B64 out + nval B64 ys = nval B64 seg + B64 ^ seg.length * cy ∧
  Seg .u64 w' g 66 pre out post ∧ w.grownBy w' (some g)
theorem subFrom_any (w : World) (lo hi g o n c m cb : Nat) (A : Option Addr) (pre seg post ys : List Nat) (hs : Seg .u64 w g 66 pre seg post) (ho : pre.length = o) (hn : seg.length = n) (hnc : n ≤ c)
  (hb : Rd .u64 w lo hi A m cb ys) (hg : hi ≤ g) (hmn : m ≤ n) (hsm : Small B64 seg) (hys : Small B64 ys) (hbig : n ≤ 1000000000) :
  Calls Tryz.prog 157 #[.slice (some ⟨g, o, none⟩) n c, .slice A m cb] w (SubPost w g pre seg post ys) := by
 have HS := Lib.hid hs; have HO := Lib.hid ho; have HN := Lib.hid hn; have HB := Lib.hid hb; have HM := Lib.hid hsm; have HY := Lib.hid hys
 have HL := Lib.hid hb.1
 clear hs ho hn hb hsm hys
 go_enter Tryz.func157, Tryz.ntmps157
 go_wp2
 go_step3
 go_wp2
 go_step3
 go_wp2
 go_loopw [8, 4] (fun u c wr => SubRel w g pre seg post ys n u c wr) (fun u _ _ => n - (intOf u).toNat)
 case atStart => exact ⟨0, 0, seg, Nat.zero_le _, rfl, rfl, Nat.zero_le _, Lib.hid (SubI.start HN.out HM.out), HS, Lib.hid (only_refl _ _)⟩
 case round =>
  obtain ⟨k, cy, cur, hk, rfl, rfl, hcy, hI, hS, hG⟩ := hrel
  by_cases hlt : k < n
  ·obtain ⟨x, hx⟩ : ∃ x, cur[k]? = some x := ⟨cur[k]'(by have := hI.out.1; omega), List.getElem?_eq_getElem _⟩
   have hcx := hS.out.cell HO.out hx
   have hfx := hS.out.frozen (o + k)
   have HX := Lib.hid hx
   clear hx
   have i1 : (0 : Int) ≤ (k : Int) := by omega
   have i2 : (k : Int) < (n : Int) := by omega
   have hxB := hI.out.2.1.get HX.out
   by_cases hkm : k < m
   ·obtain ⟨ad, y, hA, _, hbl, hy, hcy0⟩ := HB.out.get_ (j := k) (by omega)
    subst hA
    have hcy1 : wr.cell? (ad.add k) = some (.int .u64 (y : Int)) := by
     rw [← hcy0]; exact World.cell?_of_block (hG.out.block _ (by rw [block_of_add]; have := HS.out.lt; omega) (by rw [block_of_add]; intro e; injection e with e; omega))
    have hyB := HY.out.get hy.out
    obtain ⟨hw1, hw2⟩ := sub_word hxB hyB hcy
    have hI2 := Lib.hid (hI.out.step HX.out (getD_of hy.out) hw2 hw1)
    have hd1 : (if x < y + cy then 1 else 0) ≤ 1 := by split <;> omega
    have hadd := sub64_run x y cy hcy
    have hS2 := fun v => Lib.hid (hS.out.set_ HO.out (i := k) (by have := hI.out.1; omega) v)
    obtain ⟨v, hv⟩ : ∃ v, v = (x + B64 - y - cy) % B64 := ⟨_, rfl⟩
    obtain ⟨d, hd⟩ : ∃ d, d = (if x < y + cy then 1 else 0) := ⟨_, rfl⟩
    rw [← hv, ← hd] at hadd hI2
    rw [← hd] at hd1
    have hS3 := hS2 v
    clear hcy0 hv hd hS2 hw1 hw2 hxB hyB
    have i3 : (k : Int) < (m : Int) := by omega
    go_wp2
    go_region
    go_wp2
    go_roundw
    case rel => exact ⟨k + 1, d, _, by omega, by go_num, rfl, hd1, hI2, Lib.hid hS3.out, Lib.hid (only_drew (only_set hG.out (.inl rfl) _))⟩
    case measure => simp [intOf]; omega
   ·by_cases hc0 : cy = 0
    ·subst hc0
     clear hxB
     go_wp2
     rw [Exit.noGoto_normal]
     go_end0
     have he := hI.out.early HN.out hk (by have := HL.out; omega)
     exact ⟨0, cur, rfl, by rw [hI.out.1, HN.out], hI.out.2.1, by rw [he]; simp, hS.out, hG.out⟩
    ·have hc1 : ((cy : Int) != 0) = true := by simp; omega
     obtain ⟨hw1, hw2⟩ := sub_word (y := 0) hxB (by unfold B64; omega) hcy
     have hI2 := Lib.hid (hI.out.step HX.out (getD_out (xs := ys) (k := k) (by have := HL.out; omega)) hw2 hw1)
     have hd1 : (if x < 0 + cy then 1 else 0) ≤ 1 := by split <;> omega
     have hadd := sub64_run x 0 cy hcy
     rw [show ((0 : Nat) : Int) = 0 from rfl] at hadd
     have hS2 := fun v => Lib.hid (hS.out.set_ HO.out (i := k) (by have := hI.out.1; omega) v)
     obtain ⟨v, hv⟩ : ∃ v, v = (x + B64 - 0 - cy) % B64 := ⟨_, rfl⟩
     obtain ⟨d, hd⟩ : ∃ d, d = (if x < 0 + cy then 1 else 0) := ⟨_, rfl⟩
     rw [← hv, ← hd] at hadd hI2
     rw [← hd] at hd1
     have hS3 := hS2 v
     clear hv hd hS2 hw1 hw2 hxB
     go_wp2
     go_roundw
     case rel => exact ⟨k + 1, d, _, by omega, by go_num, rfl, hd1, hI2, Lib.hid hS3.out, Lib.hid (only_set hG.out (.inl rfl) _)⟩
     case measure => simp [intOf]; omega
  ·have hkn : k = n := by omega
   subst hkn
   go_wp2
   rw [Exit.noGoto_normal]
   go_end0
   have he := hI.out.done HN.out (by have := HL.out; omega)
   exact ⟨cy, cur, rfl, by rw [hI.out.1, HN.out], hI.out.2.1, by rw [HN.out]; exact he, hS.out, hG.out⟩
end
section
theorem below_drewN {B : Nat} {a w : World} (h : Below B a w) (n : Nat) : Below B a (w.drewN n) := ⟨h.os, h.tape, h.output, h.size, h.block⟩
def SubOut (w : World) (X Y : Nat) (e : Ending) (w' : World) : Prop :=
 ∃ (A : Option Addr) (n c : Nat), e = .returned (.tuple #[.slice A n c, .bool (decide (Y ≤ X))]) ∧ Rd .u64 w' w.heap.size w'.heap.size A n c (digs B64 (X - Y)) ∧ Below w.heap.size w w' ∧ Fr w' A n
theorem sub_any (w : World) (lo hi : Nat) (A B : Option Addr) (n c m cb : Nat) (xs ys : List Nat) (ha : Rd .u64 w lo hi A n c xs) (hb : Rd .u64 w lo hi B m cb ys) (hxs : Small B64 xs) (hys : Small B64 ys)
  (hn : n ≤ 100000000) (hm : m ≤ 100000000) (hhi : hi ≤ w.heap.size) :
  Calls Tryz.prog 144 #[.slice A n c, .slice B m cb] w (SubOut w (nval B64 xs) (nval B64 ys)) := by
 have ux := ulen_le hxs
 have uy := ulen_le hys
 rw [ha.1] at ux
 rw [hb.1] at uy
 have HA := Lib.hid ha; have HB := Lib.hid hb; have HX := Lib.hid hxs; have HY := Lib.hid hys
 clear ha hb hxs hys
 obtain ⟨X, hX⟩ : ∃ X, X = nval B64 xs := ⟨_, rfl⟩
 obtain ⟨Y, hY⟩ : ∃ Y, Y = nval B64 ys := ⟨_, rfl⟩
 rw [← hX, ← hY]
 have HXv := Lib.hid hX; have HYv := Lib.hid hY
 clear hX hY
 go_enter Tryz.func144, Tryz.ntmps144
 go_wp2_with fail
 refine (used_any w lo hi A n c xs HA.out HX.out (by omega)).mono ?_
 rintro e w' ⟨A1, c1, rfl, rfl, hA1, hc1⟩
 have H1 := Lib.hid (HA.out.used HX.out hA1 hc1)
 clear hA1 hc1
 go_wp2_with fail
 refine (used_any w lo hi B m cb ys HB.out HY.out (by omega)).mono ?_
 rintro e w' ⟨A2, c2, rfl, rfl, hA2, hc2⟩
 have H2 := Lib.hid (HB.out.used HY.out hA2 hc2)
 clear hA2 hc2 HA HB HX HY
 generalize ulen xs = n1 at *
 generalize ulen ys = n2 at *
 rw [← HXv.out] at H1
 rw [← HYv.out] at H2
 go_wp2_with fail
 refine (cmp_any w lo hi A1 A2 n1 c1 n2 c2 _ _ H1.out H2.out (small_digs B64_two _) (small_digs B64_two _) (by omega) (by omega)).mono ?_
 rintro e w' ⟨dn, rfl, rfl⟩
 rw [nval_digs B64_two, nval_digs B64_two]
 rcases Nat.lt_or_ge X Y with hlt | hge
 ·rw [cmpv_lt hlt]
  have HLT := Lib.hid hlt
  clear hlt
  go_wp2
  go_ret2
  refine ⟨none, 0, 0, ?_, ?_, below_drewN (Below.refl _ _) _, fun _ j _ hj => absurd hj (by omega)⟩
  ·exact congrArg (fun b => Ending.returned (.tuple #[.slice none 0 0, .bool b])) (by have := HLT.out; simp; omega)
  ·rw [show X - Y = 0 by have := HLT.out; omega, digs_zero]; exact Rd.none_
 ·have hc0 : 0 ≤ cmpv X Y := by
   rcases Nat.lt_or_ge Y X with h | h
   ·rw [cmpv_gt h]; omega
   ·rw [cmpv_eq (by omega)]; omega
  generalize cmpv X Y = cv at *
  have HGE := Lib.hid hge
  clear hge
  have hl12 : n2 ≤ n1 := by
   rcases Nat.lt_or_ge n1 n2 with h | h
   ·have := nval_le_of_len B64_two (m := X) (n := Y) (by rw [H1.out.1, H2.out.1]; exact h)
    have := HGE.out; omega
   ·exact h
  have hmk := fun W => make64 (n1 : Int) n1 rfl (by omega) W
  obtain ⟨w2, hcp, hrow, honly⟩ := copy64 ((w.drewN dn).alloc (zrow .u64 66 n1)) lo hi w.heap.size n1 n1 c1 A1 _ _ (zrow_row _ _ _ (w.drewN dn)) ((H1.out.drewN dn).alloc hhi _) (by simp)
  rw [List.length_replicate] at hcp
  have hrow2 : Row .u64 w2 w.heap.size 66 (digs B64 X) := by
   have e : List.drop n1 (List.replicate n1 0) = [] := by rw [List.drop_replicate, Nat.sub_self]; rfl
   rw [e, List.append_nil] at hrow; exact hrow
  have hb2 : Below w.heap.size w w2 := ((below_drewN (Below.refl w.heap.size w) dn).alloc (Nat.le_refl _) _).trans (only_below honly (by simp) (Nat.le_refl _))
  have HRow := Lib.hid hrow2
  have HB2 := Lib.hid hb2
  have hq2 := Lib.hid (H2.out.below (hb2.mono hhi))
  clear hrow hrow2 honly hb2
  go_wp2_with fail
  refine (subFrom_any w2 lo hi w.heap.size 0 n1 n1 n2 c2 A2 [] (digs B64 X) [] (digs B64 Y) (Row.toSeg HRow.out (by simp)) rfl H1.out.1 (by omega) hq2.out hhi hl12 (small_digs B64_two _) (small_digs B64_two _) (by omega)).mono ?_
  rintro e w3 ⟨cy, out, rfl, hol, hos, hov, hseg, hon3⟩
  have hr3 : Row .u64 w3 w.heap.size 66 out := by
   have : ([] ++ out ++ [] : List Nat) = out := by simp
   unfold Seg at hseg; rw [this] at hseg; exact hseg
  have hb3 : Below w.heap.size w w3 := HB2.out.trans (only_below hon3 (by have := HRow.out.lt; omega) (Nat.le_refl _))
  have hN : nval B64 out = X - Y := by
   rw [nval_digs B64_two, nval_digs B64_two] at hov
   have h1 := nval_lt hos
   rw [hol] at h1
   have := HGE.out
   rcases Nat.eq_zero_or_pos cy with e | e
   ·subst e; omega
   ·have h8 : B64 ^ (digs B64 X).length * 1 ≤ B64 ^ (digs B64 X).length * cy := Nat.mul_le_mul_left _ e
    omega
  have hol2 : out.length = n1 := by rw [hol]; exact H1.out.1
  have HR3 := Lib.hid hr3
  have HB3 := Lib.hid hb3
  have HN := Lib.hid hN
  have HOS := Lib.hid hos
  have HOL := Lib.hid hol2
  clear hr3 hb3 hN hos hol2 hol hov hseg hon3
  go_wp2_with fail
  have hrd : Rd .u64 w3 w.heap.size w3.heap.size (some ⟨w.heap.size, 0, none⟩) n1 n1 out := by
   have := HR3.out.rd0 (lo := w.heap.size) (hi := w3.heap.size) (c := n1) (Nat.le_refl _) HR3.out.lt (by rw [HOL.out]; omega)
   rw [HOL.out] at this; exact this
  refine (used_any w3 w.heap.size w3.heap.size (some ⟨w.heap.size, 0, none⟩) n1 n1 out hrd HOS.out (by omega)).mono ?_
  rintro e w' ⟨A3, c3, rfl, rfl, hA3, hc3⟩
  have hfin := hrd.used HOS.out hA3 hc3
  rw [HN.out] at hfin
  have HF := Lib.hid hfin
  clear hfin
  go_wp2
  go_ret2
  refine ⟨_, _, _, ?_, HF.out, HB3.out, HR3.out.fr hA3⟩
  exact congrArg (fun b => Ending.returned (.tuple #[.slice A3 (ulen out) c3, .bool b])) (by have := HGE.out; simp; omega)
end
section
theorem prod_parts {B a b x c l0 h0 s1 c1 s2 c2 : Nat} (hB : 2 ≤ B) (ha : a < B) (hb : b < B) (hx : x < B) (hc : c < B) (hl : l0 = a * b % B) (hh : h0 = a * b / B) (h1 : s1 = (l0 + c + 0) % B) (h2 : c1 = (l0 + c + 0) / B)
  (h3 : s2 = (s1 + x + 0) % B) (h4 : c2 = (s1 + x + 0) / B) : s2 = (x + a * b + c) % B ∧ h0 + c1 + c2 = (x + a * b + c) / B ∧ h0 + c1 + c2 < B := by
 have e1 := Nat.mod_add_div (a * b) B
 have e2 := Nat.mod_add_div (l0 + c + 0) B
 have e3 := Nat.mod_add_div (s1 + x + 0) B
 rw [← hl, ← hh] at e1
 rw [← h1, ← h2] at e2
 rw [← h3, ← h4] at e3
 have hs2 : s2 < B := by rw [h3]; exact Nat.mod_lt _ (by omega)
 have hsum : x + a * b + c = s2 + B * (h0 + c1 + c2) := by
  rw [Nat.mul_add, Nat.mul_add]; omega
 have hbig : (x + b * a + c) / B < B := mul_carry hx hb ha hc
 rw [Nat.mul_comm b a] at hbig
 have q1 : (x + a * b + c) % B = s2 := by rw [hsum, Nat.add_mul_mod_self_left, Nat.mod_eq_of_lt hs2]
 have q2 : (x + a * b + c) / B = h0 + c1 + c2 := by rw [hsum, Nat.add_mul_div_left _ _ (by omega), Nat.div_eq_of_lt hs2, Nat.zero_add]
 exact ⟨q1.symm, q2.symm, by rw [← q2]; exact hbig⟩
theorem addProduct_any (x a b c : Nat) (hx : x < B64) (ha : a < B64) (hb : b < B64) (hc : c < B64) (w : World) :
  Calls Tryz.prog 159 #[.int .u64 (x : Int), .int .u64 (a : Int), .int .u64 (b : Int), .int .u64 (c : Int)] w
   fun e w' => e = .returned (.tuple #[.int .u64 (((x + a * b + c) % B64 : Nat) : Int), .int .u64 (((x + a * b + c) / B64 : Nat) : Int)]) ∧ w = w' := by
 obtain ⟨l0, hl⟩ : ∃ l0, l0 = a * b % B64 := ⟨_, rfl⟩
 obtain ⟨h0, hh⟩ : ∃ h0, h0 = a * b / B64 := ⟨_, rfl⟩
 obtain ⟨s1, h1⟩ : ∃ s1, s1 = (l0 + c + 0) % B64 := ⟨_, rfl⟩
 obtain ⟨c1, h2⟩ : ∃ c1, c1 = (l0 + c + 0) / B64 := ⟨_, rfl⟩
 obtain ⟨s2, h3⟩ : ∃ s2, s2 = (s1 + x + 0) % B64 := ⟨_, rfl⟩
 obtain ⟨c2, h4⟩ : ∃ c2, c2 = (s1 + x + 0) / B64 := ⟨_, rfl⟩
 obtain ⟨r1, r2, r3⟩ := prod_parts B64_two ha hb hx hc hl hh h1 h2 h3 h4
 have hm := mul64_any a b ha hb w
 rw [← hl, ← hh] at hm
 have HM := Lib.hid hm
 have ha1 := add64_run l0 c 0 (by omega)
 have ha2 := add64_run s1 x 0 (by omega)
 rw [← h1, ← h2, show ((0 : Nat) : Int) = 0 from rfl] at ha1
 rw [← h3, ← h4, show ((0 : Nat) : Int) = 0 from rfl] at ha2
 rw [← r1, ← r2]
 obtain ⟨H1, hH1⟩ : ∃ H1, H1 = h0 + c1 := ⟨_, rfl⟩
 obtain ⟨H2, hH2⟩ : ∃ H2, H2 = H1 + c2 := ⟨_, rfl⟩
 have r3' : h0 + c1 + c2 < 18446744073709551616 := r3
 have w1 : IntKind.u64.wrap ((h0 : Int) + (c1 : Int)) = (H1 : Int) := by rw [cast_add, u64_fits _ (by omega), hH1]
 have w2 : IntKind.u64.wrap ((H1 : Int) + (c2 : Int)) = (H2 : Int) := by rw [cast_add, u64_fits _ (by omega), hH2]
 rw [← hH1, ← hH2]
 clear hm hl hh h1 h2 h3 h4 r1 r2 r3 r3' hH1 hH2
 go_enter Tryz.func159, Tryz.ntmps159
 go_wp2_with (go_at_call 161; refine (HM.out).mono ?_; rintro e w' ⟨rfl, rfl⟩)
 go_ret2
 exact ⟨rfl, rfl⟩
def RowRel (w : World) (g : Nat) (pre seg post ys : List Nat) (f n m : Nat) (u c : Value) (wr : World) : Prop :=
 ∃ (k cy : Nat) (cur : List Nat), k ≤ m ∧ u = .int .i64 (k : Int) ∧ c = .int .u64 (cy : Int) ∧
  Hid (MulI B64 n k cy f cur seg ys ∧ cy < B64) ∧ Hid (Seg .u64 wr g 66 pre cur post) ∧ Hid (w.grownBy wr (some g))
def RowPost (w : World) (g : Nat) (pre seg post ys : List Nat) (f m : Nat) (e : Ending) (w' : World) : Prop :=
 ∃ (out : List Nat), e = .returned (.tuple #[]) ∧ out.length = m + 1 ∧ Small B64 out ∧ nval B64 out = nval B64 (seg.take m) + f * nval B64 ys ∧
  Seg .u64 w' g 66 pre out post ∧ w.grownBy w' (some g)
theorem addRow_any (w : World) (lo hi g o m c cb f : Nat) (A : Option Addr) (pre seg post ys : List Nat) (hs : Seg .u64 w g 66 pre seg post) (ho : pre.length = o) (hn : seg.length = m + 1) (hnc : m + 1 ≤ c)
  (hb : Rd .u64 w lo hi A m cb ys) (hg : hi ≤ g) (hsm : Small B64 seg) (hys : Small B64 ys) (hf : f < B64) (hbig : m ≤ 1000000000) :
  Calls Tryz.prog 155 #[.slice (some ⟨g, o, none⟩) (m + 1) c, .slice A m cb, .int .u64 (f : Int)] w (RowPost w g pre seg post ys f m) := by
 have HS := Lib.hid hs; have HO := Lib.hid ho; have HN := Lib.hid hn; have HB := Lib.hid hb; have HM := Lib.hid hsm; have HY := Lib.hid hys; have HF := Lib.hid hf
 have HL := Lib.hid hb.1
 clear hs ho hn hb hsm hys hf
 go_enter Tryz.func155, Tryz.ntmps155
 go_wp2
 go_loopw [10, 6] (fun u c wr => RowRel w g pre seg post ys f (m + 1) m u c wr) (fun u _ _ => m - (intOf u).toNat)
 case atStart => exact ⟨0, 0, seg, Nat.zero_le _, rfl, rfl, Lib.hid ⟨MulI.start HN.out HM.out, by unfold B64; omega⟩, HS, Lib.hid (only_refl _ _)⟩
 case round =>
  obtain ⟨k, cy, cur, hk, rfl, rfl, hI, hS, hG⟩ := hrel
  by_cases hlt : k < m
  ·obtain ⟨x, hx⟩ : ∃ x, cur[k]? = some x := ⟨cur[k]'(by have := hI.out.1.1; omega), List.getElem?_eq_getElem _⟩
   have hcx := hS.out.cell HO.out hx
   have hfx := hS.out.frozen (o + k)
   have HX := Lib.hid hx
   clear hx
   have i1 : (0 : Int) ≤ (k : Int) := by omega
   have i2 : (k : Int) < (m : Int) + 1 := by omega
   have i3 : (k : Int) < (m : Int) := by omega
   obtain ⟨ad, y, hA, _, hbl, hy, hcy0⟩ := HB.out.get_ (j := k) (by omega)
   subst hA
   have hcy1 : wr.cell? (ad.add k) = some (.int .u64 (y : Int)) := by
    rw [← hcy0]; exact World.cell?_of_block (hG.out.block _ (by rw [block_of_add]; have := HS.out.lt; omega) (by rw [block_of_add]; intro e; injection e with e; omega))
   have hI2 := Lib.hid (And.intro (hI.out.1.step B64_two HX.out (getD_of hy.out)) (mul_carry (hI.out.1.2.1.get HX.out) (HY.out.get hy.out) HF.out hI.out.2))
   have hcall := fun W => Lib.hid (addProduct_any x y f cy (hI.out.1.2.1.get HX.out) (HY.out.get hy.out) HF.out hI.out.2 W)
   have hS2 := fun v => Lib.hid (hS.out.set_ HO.out (i := k) (by have := hI.out.1.1; omega) v)
   obtain ⟨v, hv⟩ : ∃ v, v = (x + y * f + cy) % B64 := ⟨_, rfl⟩
   obtain ⟨d, hd⟩ : ∃ d, d = (x + y * f + cy) / B64 := ⟨_, rfl⟩
   rw [← hv, ← hd] at hcall hI2
   have hS3 := hS2 v
   clear hcy0 hv hd hS2
   go_wp2
   go_region_with (go_at_call 159; refine (hcall _).out.mono ?_; rintro e w' ⟨rfl, rfl⟩)
   all_goals
    go_wp2
    go_roundw
    case rel => exact ⟨k + 1, d, _, by omega, by go_num, rfl, hI2, Lib.hid hS3.out, Lib.hid (only_drew (only_set hG.out (.inl rfl) _))⟩
    case measure => simp [intOf]; omega
  ·have hkn : k = m := by omega
   subst hkn
   obtain ⟨x, hx⟩ : ∃ x, cur[k]? = some x := ⟨cur[k]'(by have := hI.out.1.1; omega), List.getElem?_eq_getElem _⟩
   have hcx := hS.out.cell HO.out hx
   have hfx := hS.out.frozen (o + k)
   have hS3 := Lib.hid (hS.out.set_ HO.out (i := k) (by have := hI.out.1.1; omega) cy)
   have i2 : (k : Int) < (k : Int) + 1 := by omega
   clear hx
   go_wp2
   go_end0
   have hd := hI.out.1.done HL.out
   have hl := hI.out.1.1
   refine ⟨_, rfl, by simpa using hl, hI.out.1.2.1.set k hI.out.2, ?_, hS3.out, only_set hG.out (.inl rfl) _⟩
   rw [← hd, ← List.take_of_length_le (l := cur.set k cy) (i := k + 1) (by simp; omega), nval_take_succ, take_set_same, getD_set _ _ _ (by omega)]
end
section
def MulJ (B n m k : Nat) (out xs ys : List Nat) : Prop :=
 out.length = n + m ∧ Small B out ∧ nval B out = nval B (xs.take k) * nval B ys ∧ out.drop (k + m) = List.replicate (n - k) 0
theorem MulJ.start {B n m : Nat} {xs ys : List Nat} (hB : 2 ≤ B) : MulJ B n m 0 (List.replicate (n + m) 0) xs ys :=
 ⟨by simp, small_replicate (by omega), by rw [nval_zeros]; simp [nval], by rw [List.drop_replicate]; congr 1; omega⟩
theorem MulJ.parts {B n m k f : Nat} {out xs ys : List Nat} (h : MulJ B n m k out xs ys) (hk : k < n) (hf : xs[k]? = some f) :
  ∃ pre seg post : List Nat, out = pre ++ seg ++ post ∧ pre.length = k ∧ seg.length = m + 1 ∧ Small B seg ∧
   ∀ o2 : List Nat, o2.length = m + 1 → Small B o2 → nval B o2 = nval B (seg.take m) + f * nval B ys → MulJ B n m (k + 1) (pre ++ o2 ++ post) xs ys := by
 obtain ⟨h1, h2, h3, h4⟩ := h
 have hz : out.drop (k + m) = 0 :: List.replicate (n - k - 1) 0 := by
  rw [h4, show n - k = (n - k - 1) + 1 by omega, List.replicate_succ]; rfl
 refine ⟨out.take k, (out.drop k).take (m + 1), out.drop (k + m + 1), ?_, by simp; omega, by simp; omega, (h2.drop k).take _, ?_⟩
 ·rw [List.append_assoc, show out.drop (k + m + 1) = (out.drop k).drop (m + 1) by rw [List.drop_drop, Nat.add_assoc], List.take_append_drop, List.take_append_drop]
 ·intro o2 g1 g2 g3
  have hpost : out.drop (k + m + 1) = List.replicate (n - k - 1) 0 := by
   have := congrArg (List.drop 1) hz
   rw [List.drop_drop] at this
   simpa using this
  refine ⟨?_, ((h2.take k).append g2).append (h2.drop _), ?_, ?_⟩
  ·simp; omega
  ·have e1 : ((out.drop k).take (m + 1)).take m = (out.drop k).take m := by rw [List.take_take]; congr 1; omega
   rw [e1] at g3
   have e2 : nval B out = nval B (out.take k) + B ^ k * nval B (out.drop k) := nval_split B out k (by omega)
   have e3 : nval B (out.drop k) = nval B ((out.drop k).take m) + B ^ m * nval B ((out.drop k).drop m) := nval_split B (out.drop k) m (by simp; omega)
   rw [List.drop_drop, h4, nval_zeros, Nat.mul_zero, Nat.add_zero] at e3
   rw [List.append_assoc, nval_append, nval_append, g1, hpost, nval_zeros, Nat.mul_zero, Nat.add_zero, g3, List.length_take, Nat.min_eq_left (by omega), nval_take_succ, getD_of hf, Nat.add_mul, ← h3, e2, e3]
   grind
  ·rw [List.append_assoc, List.drop_append, List.drop_append]
   have l1 : (out.take k).length = k := by simp; omega
   rw [l1, g1, List.drop_of_length_le (l := out.take k) (by omega), List.drop_of_length_le (l := o2) (by omega), List.nil_append, List.nil_append, hpost, List.drop_replicate]
   congr 1; omega
theorem only_trans {a b c : World} {row : Option Nat} (h : a.grownBy b row) (k : b.grownBy c row) : a.grownBy c row :=
 ⟨k.os.trans h.os, k.tape.trans h.tape, k.output.trans h.output, Nat.le_trans h.size k.size, fun i hi hne => (k.block i (Nat.lt_of_lt_of_le hi h.size) hne).trans (h.block i hi hne)⟩
def MulRel (w : World) (g n m : Nat) (xs ys : List Nat) (u : Value) (wr : World) : Prop :=
 ∃ (k : Nat) (out : List Nat), k ≤ n ∧ u = .int .i64 (k : Int) ∧ Hid (MulJ B64 n m k out xs ys) ∧ Hid (Row .u64 wr g 66 out) ∧ Hid (w.grownBy wr (some g))
theorem mul_any (w : World) (lo hi : Nat) (A B : Option Addr) (n c m cb : Nat) (xs ys : List Nat) (ha : Rd .u64 w lo hi A n c xs) (hb : Rd .u64 w lo hi B m cb ys) (hxs : Small B64 xs) (hys : Small B64 ys)
  (hn : n ≤ 100000000) (hm : m ≤ 100000000) (hhi : hi ≤ w.heap.size) :
  Calls Tryz.prog 141 #[.slice A n c, .slice B m cb] w (NumPost w (nval B64 xs * nval B64 ys)) := by
 have ux := ulen_le hxs
 have uy := ulen_le hys
 rw [ha.1] at ux
 rw [hb.1] at uy
 have HA := Lib.hid ha; have HB := Lib.hid hb; have HX := Lib.hid hxs; have HY := Lib.hid hys
 clear ha hb hxs hys
 obtain ⟨X, hX⟩ : ∃ X, X = nval B64 xs := ⟨_, rfl⟩
 obtain ⟨Y, hY⟩ : ∃ Y, Y = nval B64 ys := ⟨_, rfl⟩
 rw [← hX, ← hY]
 have HXv := Lib.hid hX; have HYv := Lib.hid hY
 clear hX hY
 go_enter Tryz.func141, Tryz.ntmps141
 go_wp2_with fail
 refine (used_any w lo hi A n c xs HA.out HX.out (by omega)).mono ?_
 rintro e w' ⟨A1, c1, rfl, rfl, hA1, hc1⟩
 have H1 := Lib.hid (HA.out.used HX.out hA1 hc1)
 clear hA1 hc1
 go_wp2_with fail
 refine (used_any w lo hi B m cb ys HB.out HY.out (by omega)).mono ?_
 rintro e w' ⟨A2, c2, rfl, rfl, hA2, hc2⟩
 have H2 := Lib.hid (HB.out.used HY.out hA2 hc2)
 clear hA2 hc2 HA HB HX HY
 generalize ulen xs = n1 at *
 generalize ulen ys = n2 at *
 rw [← HXv.out] at H1
 rw [← HYv.out] at H2
 have hzero : n1 = 0 ∨ n2 = 0 → X * Y = 0 := by
  rintro (h | h)
  ·have := (digs_eq_nil B64_two).1 (List.eq_nil_of_length_eq_zero (H1.out.1.trans h)); rw [this, Nat.zero_mul]
  ·have := (digs_eq_nil B64_two).1 (List.eq_nil_of_length_eq_zero (H2.out.1.trans h)); rw [this, Nat.mul_zero]
 have HZ := Lib.hid hzero
 clear hzero
 rcases Nat.eq_zero_or_pos n1 with e1 | e1
 ·have HE := Lib.hid (HZ.out (.inl e1))
  subst e1
  go_wp2
  go_ret
  exact ⟨none, 0, 0, rfl, by rw [HE.out, digs_zero]; exact Rd.none_, Below.refl _ _, fun _ j _ hj => absurd hj (by omega)⟩
 ·have f1 : ((n1 : Int) == 0) = false := by simp; omega
  rcases Nat.eq_zero_or_pos n2 with e2 | e2
  ·have HE := Lib.hid (HZ.out (.inr e2))
   subst e2
   go_wp2
   go_ret
   exact ⟨none, 0, 0, rfl, by rw [HE.out, digs_zero]; exact Rd.none_, Below.refl _ _, fun _ j _ hj => absurd hj (by omega)⟩
  ·have f2 : ((n2 : Int) == 0) = false := by simp; omega
   have hmk := fun W => make64 ((n1 : Int) + (n2 : Int)) (n1 + n2) (by omega) (by omega) W
   have HRow := Lib.hid (zrow_row .u64 66 (n1 + n2) w)
   have HB0 := Lib.hid ((Below.refl w.heap.size w).alloc (Nat.le_refl _) (zrow .u64 66 (n1 + n2)))
   have HSz := Lib.hid (show w.heap.size < (w.alloc (zrow .u64 66 (n1 + n2))).heap.size by simp)
   go_wp2
   generalize hw0 : w.alloc (zrow .u64 66 (n1 + n2)) = w0 at *
   clear hw0
   go_loopw [27] (fun u wr => MulRel w0 w.heap.size n1 n2 (digs B64 X) (digs B64 Y) u wr) (fun u _ => n1 - (intOf u).toNat)
   case atStart => exact ⟨0, _, Nat.zero_le _, rfl, Lib.hid (MulJ.start B64_two), HRow, Lib.hid (only_refl _ _)⟩
   case round =>
    obtain ⟨k, out, hk, rfl, hI, hR, hG⟩ := hrel
    have hbw : Below w.heap.size w wr := HB0.out.trans (only_below hG.out (by have := HSz.out; omega) (Nat.le_refl _))
    by_cases hlt : k < n1
    ·obtain ⟨ad, x, hA, _, hbl, hx, hcx0⟩ := H1.out.get_ (j := k) hlt
     subst hA
     have hcx : wr.cell? (ad.add k) = some (.int .u64 (x : Int)) := by rw [← hcx0]; exact hbw.cell (by rw [block_of_add]; omega)
     obtain ⟨pre, seg, post, q1, q2, q3, q4, q5⟩ := hI.out.parts hlt hx.out
     have hq2 := H2.out.below (hbw.mono hhi)
     have hcall := fun W (h1 : Seg .u64 W w.heap.size 66 pre seg post) (h2 : Rd .u64 W lo hi A2 n2 c2 (digs B64 Y)) =>
      Lib.hid (addRow_any W lo hi w.heap.size k n2 (n1 + n2 - k) c2 x A2 pre seg post (digs B64 Y) h1 q2 q3 (by omega) h2 hhi q4 (small_digs B64_two _) ((small_digs B64_two _).get hx.out) (by omega))
     have HC := Lib.hid hcall
     have HQ := Lib.hid (And.intro (hR.out.toSeg q1) (And.intro hq2 q5))
     clear hcall q1 q2 q3 q4 q5 hq2 hcx0
     have HBW := Lib.hid hbw
     clear hbw
     have i1 : (0 : Int) ≤ (k : Int) := by omega
     have i2 : (k : Int) < (n1 : Int) := by omega
     have i3 : (k : Int) ≤ (k : Int) + (n2 : Int) + 1 := by omega
     have i4 : (k : Int) + (n2 : Int) + 1 ≤ (n1 : Int) + (n2 : Int) := by omega
     have hsl := fun W => slice64 w.heap.size (n1 + n2) (n1 + n2) k (k + n2 + 1) (k : Int) ((k : Int) + (n2 : Int) + 1) rfl (by omega) (by omega) (by omega) (by omega) W
     rw [show k + n2 + 1 - k = n2 + 1 by omega] at hsl
     have j1 : IntKind.i64.wrap ((k : Int) + (n2 : Int)) = (k : Int) + (n2 : Int) := IntWalk.i64_in _ (by omega)
     have j2 : IntKind.i64.wrap ((k : Int) + (n2 : Int) + 1) = (k : Int) + (n2 : Int) + 1 := IntWalk.i64_in _ (by omega)
     go_wp2
     go_region_with (go_at_call 155; refine (HC.out _ ?_ ?_).out.mono ?_; (exact HQ.out.1); (exact HQ.out.2.1); rintro e w' ⟨o2, rfl, z1, z2, z3, z4, z5⟩)
     have hJ := Lib.hid (HQ.out.2.2 o2 z1 z2 z3)
     have hR2 : Row .u64 w' w.heap.size 66 (pre ++ o2 ++ post) := z4
     have HR2 := Lib.hid hR2
     have HG2 := Lib.hid (only_trans (only_drew hG.out) z5)
     clear z1 z2 z3 z4 z5 hR2 hsl j1 j2
     go_wp2
     go_roundw
     case rel => exact ⟨k + 1, _, by omega, by go_num, hJ, HR2, HG2⟩
     case measure => simp [intOf]; omega
    ·have hkn : k = n1 := by omega
     subst hkn
     have hl := hI.out.1
     have hval : nval B64 out = X * Y := by
      have := hI.out.2.2.1
      rw [List.take_of_length_le (by rw [H1.out.1]; omega), nval_digs B64_two, nval_digs B64_two] at this
      exact this
     have hrd : Rd .u64 wr w.heap.size wr.heap.size (some ⟨w.heap.size, 0, none⟩) (k + n2) (k + n2) out := by
      have := hR.out.rd0 (lo := w.heap.size) (hi := wr.heap.size) (c := k + n2) (Nat.le_refl _) hR.out.lt (by rw [hl]; omega)
      rw [hl] at this; exact this
     have HRD := Lib.hid hrd
     have HV := Lib.hid hval
     have HBW := Lib.hid hbw
     clear hl hval hrd hbw
     go_wp2_with fail
     refine (used_any wr w.heap.size wr.heap.size (some ⟨w.heap.size, 0, none⟩) (k + n2) (k + n2) out HRD.out hI.out.2.1 (by omega)).mono ?_
     rintro e w' ⟨A3, c3, rfl, rfl, hA3, hc3⟩
     have hfin := HRD.out.used hI.out.2.1 hA3 hc3
     rw [HV.out] at hfin
     have HF := Lib.hid hfin
     clear hfin
     go_wp2
     go_ret
     exact ⟨_, _, _, rfl, HF.out, HBW.out, hR.out.fr hA3⟩
end
section
def UpI (n s q k : Nat) (cur p : List Nat) : Prop :=
 cur.length = s + n + 1 ∧ Small B64 cur ∧ nval B64 cur = B64 ^ s * (2 ^ q * nval B64 (p.take k)) ∧ cur.getD (s + k) 0 < 2 ^ q ∧ cur.drop (s + k + 1) = List.replicate (n - k) 0
theorem UpI.start {n s q : Nat} {p : List Nat} : UpI n s q 0 (List.replicate (s + n + 1) 0) p := by
 refine ⟨by simp, small_replicate (by unfold B64; omega), by rw [nval_zeros]; simp [nval], ?_, ?_⟩
 ·have : (List.replicate (s + n + 1) 0).getD (s + 0) 0 = 0 := by
   rw [List.getD_eq_getElem?_getD, List.getElem?_replicate]; split <;> rfl
  rw [this]; exact Nat.two_pow_pos q
 ·rw [List.drop_replicate]; congr 1; omega
theorem up_words {q x h lx hx : Nat} (hq : q ≤ 64) (hxB : x < B64) (hh : h < 2 ^ q) (h1 : lx = x * 2 ^ q % B64) (h2 : hx = x / 2 ^ (64 - q)) :
  h ||| lx = h + lx ∧ h + lx < B64 ∧ lx < B64 ∧ hx < 2 ^ q ∧ lx + B64 * hx = x * 2 ^ q := by
 have hp : 2 ^ (64 - q) * 2 ^ q = B64 := by rw [← Nat.pow_add, Nat.sub_add_cancel (by omega)]; rfl
 have hqp := Nat.two_pow_pos q
 have hd : x * 2 ^ q / B64 = x / 2 ^ (64 - q) := by rw [← hp, Nat.mul_div_mul_right _ _ hqp]
 have hm := Nat.mod_add_div (x * 2 ^ q) B64
 rw [hd, ← h1, ← h2] at hm
 have hl : lx = 2 ^ q * (x % 2 ^ (64 - q)) := by
  rw [h1, ← hp, Nat.mul_mod_mul_right, Nat.mul_comm]
 have hlt : x % 2 ^ (64 - q) < 2 ^ (64 - q) := Nat.mod_lt _ (Nat.two_pow_pos _)
 have hle : 2 ^ q * (x % 2 ^ (64 - q) + 1) ≤ 2 ^ q * 2 ^ (64 - q) := Nat.mul_le_mul_left _ hlt
 rw [Nat.mul_add, ← hl, Nat.mul_comm (2 ^ q) (2 ^ (64 - q)), hp] at hle
 refine ⟨?_, by omega, by omega, ?_, hm⟩
 ·rw [Nat.or_comm, hl, ← Nat.two_pow_add_eq_or_of_lt hh, Nat.add_comm]
 ·rw [h2, Nat.div_lt_iff_lt_mul (Nat.two_pow_pos _), Nat.mul_comm, hp]; exact hxB
theorem UpI.step {n s q k x h lx hx : Nat} {cur p : List Nat} (hI : UpI n s q k cur p) (hk : k < n) (hq : q < 64) (hp : p[k]? = some x) (hxB : x < B64) (hh : cur[s + k]? = some h) (h1 : lx = x * 2 ^ q % B64) (h2 : hx = x / 2 ^ (64 - q)) :
  UpI n s q (k + 1) ((cur.set (s + k) (h + lx)).set (s + k + 1) hx) p := by
 obtain ⟨g1, g2, g3, g4, g5⟩ := hI
 have hg := getD_of hh
 rw [hg] at g4
 obtain ⟨_, w2, w3, w4, w5⟩ := up_words (Nat.le_of_lt hq) hxB g4 h1 h2
 have hz : cur.drop (s + k + 1) = 0 :: List.replicate (n - k - 1) 0 := by
  rw [g5, show n - k = (n - k - 1) + 1 by omega, List.replicate_succ]; rfl
 have h0 : cur.getD (s + k + 1) 0 = 0 := by
  have : cur[s + k + 1]? = some 0 := by
   have e : (cur.drop (s + k + 1))[0]? = cur[s + k + 1]? := by simp
   rw [← e, hz]; rfl
  exact getD_of this
 have hqB : 2 ^ q ≤ B64 := by rw [B64_pow]; exact Nat.pow_le_pow_right (by omega) (by omega)
 have n1 := nval_set B64 cur (s + k) (h + lx) (by omega)
 have n2 := nval_set B64 (cur.set (s + k) (h + lx)) (s + k + 1) hx (by simp; omega)
 have h0' : (cur.set (s + k) (h + lx)).getD (s + k + 1) 0 = 0 := by
  rw [List.getD_eq_getElem?_getD, List.getElem?_set_ne (by omega), ← List.getD_eq_getElem?_getD]; exact h0
 rw [h0', Nat.mul_zero, Nat.add_zero] at n2
 rw [hg] at n1
 refine ⟨by simpa using g1, (g2.set _ w2).set _ (by omega), ?_, ?_, ?_⟩
 ·rw [n2, nval_take_succ, getD_of hp]
  have e1 : B64 ^ (s + k + 1) * hx = B64 ^ (s + k) * (B64 * hx) := by rw [Nat.pow_succ]; grind
  have e2 : B64 ^ s * (2 ^ q * (nval B64 (p.take k) + B64 ^ k * x)) = B64 ^ s * (2 ^ q * nval B64 (p.take k)) + B64 ^ (s + k) * (x * 2 ^ q) := by rw [Nat.pow_add]; grind
  rw [e2, ← g3, ← w5, e1, Nat.mul_add]
  rw [Nat.mul_add] at n1
  omega
 ·rw [show s + (k + 1) = s + k + 1 by omega, getD_set _ _ _ (by simp; omega)]; exact w4
 ·rw [show s + (k + 1) + 1 = s + k + 1 + 1 by omega, drop_set_succ]
  have e := congrArg (List.drop 1) hz
  rw [List.drop_drop] at e
  rw [List.drop_set, if_pos (by omega)]
  rw [show n - (k + 1) = n - k - 1 by omega]
  simpa using e
def UpRel (w : World) (g n s q : Nat) (p : List Nat) (u : Value) (wr : World) : Prop :=
 ∃ (k : Nat) (cur : List Nat), k ≤ n ∧ u = .int .i64 (k : Int) ∧ Hid (UpI n s q k cur p) ∧ Hid (Row .u64 wr g 66 cur) ∧ Hid (w.grownBy wr (some g))
theorem shiftUp_any (w : World) (lo hi : Nat) (A : Option Addr) (n c s q b : Nat) (xs : List Nat) (ha : Rd .u64 w lo hi A n c xs) (hxs : Small B64 xs) (hn : n ≤ 100000000) (hhi : hi ≤ w.heap.size)
  (hb : b ≤ 1000000) (hs : s = b / 64) (hq : q = b % 64) :
  Calls Tryz.prog 152 #[.slice A n c, .int .i64 (b : Int)] w (NumPost w (nval B64 xs * 2 ^ b)) := by
 have HA := Lib.hid ha; have HX := Lib.hid hxs
 have HL := Lib.hid ha.1
 have e1 : (b : Int) / 64 = (s : Int) := by omega
 have e2 : (b : Int) % 64 = (q : Int) := by omega
 have hq64 : q < 64 := by omega
 have hs64 : s ≤ 1000000 := by omega
 have HB := Lib.hid (show B64 ^ s * 2 ^ q = 2 ^ b by rw [pow64, ← Nat.pow_add]; congr 1; omega)
 clear ha hxs hs hq
 rcases Nat.eq_zero_or_pos n with e | e
 ·have hz : nval B64 xs * 2 ^ b = 0 := by
   rw [List.eq_nil_of_length_eq_zero (HL.out.trans e)]; simp [nval]
  have HZ := Lib.hid hz
  clear hz
  subst e
  go_enter Tryz.func152, Tryz.ntmps152
  go_wp2
  go_ret
  exact ⟨none, 0, 0, rfl, by rw [HZ.out, digs_zero]; exact Rd.none_, Below.refl _ _, fun _ j _ hj => absurd hj (by omega)⟩
 ·have f1 : ((n : Int) == 0) = false := by simp; omega
  have hmk := fun W => make64 ((s : Int) + (n : Int) + 1) (s + n + 1) (by omega) (by omega) W
  have HRow := Lib.hid (zrow_row .u64 66 (s + n + 1) w)
  have HB0 := Lib.hid ((Below.refl w.heap.size w).alloc (Nat.le_refl _) (zrow .u64 66 (s + n + 1)))
  have HSz := Lib.hid (show w.heap.size < (w.alloc (zrow .u64 66 (s + n + 1))).heap.size by simp)
  go_enter Tryz.func152, Tryz.ntmps152
  go_wp2
  generalize hw0 : w.alloc (zrow .u64 66 (s + n + 1)) = w0 at *
  clear hw0
  go_loopw [24] (fun u wr => UpRel w0 w.heap.size n s q xs u wr) (fun u _ => n - (intOf u).toNat)
  case atStart => exact ⟨0, _, Nat.zero_le _, rfl, Lib.hid UpI.start, HRow, Lib.hid (only_refl _ _)⟩
  case round =>
   obtain ⟨k, cur, hk, rfl, hI, hR, hG⟩ := hrel
   have hbw : Below w.heap.size w wr := HB0.out.trans (only_below hG.out (by have := HSz.out; omega) (Nat.le_refl _))
   by_cases hlt : k < n
   ·obtain ⟨ad, x, hA, _, hbl, hx, hcx0⟩ := HA.out.get_ (j := k) hlt
    subst hA
    have hcx : wr.cell? (ad.add k) = some (.int .u64 (x : Int)) := by rw [← hcx0]; exact hbw.cell (by rw [block_of_add]; omega)
    have hlen := hI.out.1
    obtain ⟨h, hh⟩ : ∃ h, cur[s + k]? = some h := ⟨cur[s + k]'(by omega), List.getElem?_eq_getElem _⟩
    obtain ⟨h', hh'⟩ : ∃ h', cur[s + k + 1]? = some h' := ⟨cur[s + k + 1]'(by omega), List.getElem?_eq_getElem _⟩
    have hch := hR.out.cell (i := s + k) (by omega)
    have hch' := hR.out.cell (i := s + k + 1) (by omega)
    rw [getD_of hh] at hch
    rw [getD_of hh'] at hch'
    have hf1 := hR.out.frozen (s + k)
    have hf2 := hR.out.frozen (s + k + 1)
    have HBW := Lib.hid hbw
    have hxB := HX.out.get hx.out
    obtain ⟨lx, hlx⟩ : ∃ lx, lx = x * 2 ^ q % B64 := ⟨_, rfl⟩
    obtain ⟨hx2, hhx⟩ : ∃ hx2, hx2 = x / 2 ^ (64 - q) := ⟨_, rfl⟩
    have hh2 : h < 2 ^ q := by have := hI.out.2.2.2.1; rwa [getD_of hh] at this
    obtain ⟨y1, y2, y3, y4, y5⟩ := up_words (Nat.le_of_lt hq64) hxB hh2 hlx hhx
    have hI2 := Lib.hid (hI.out.step hlt hq64 hx.out hxB hh hlx hhx)
    obtain ⟨v, hv⟩ : ∃ v, v = h + lx := ⟨_, rfl⟩
    rw [← hv] at y1 y2 hI2
    have k1 : IntKind.u64.wrap ((x : Int) * 2 ^ q) = (lx : Int) := by rw [show (x : Int) * 2 ^ q = ((x * 2 ^ q : Nat) : Int) by simp, u64_wraps, hlx]; rfl
    have k2 : bits .or .u64 (h : Int) (lx : Int) = (v : Int) := by rw [bits_or_u64_nat h lx (by unfold B64 at y2; omega) y3, y1]
    have k3 : (x : Int) / 2 ^ (64 - q) = (hx2 : Int) := by rw [show (x : Int) / 2 ^ (64 - q) = ((x / 2 ^ (64 - q) : Nat) : Int) by simp, hhx]
    have hrow1 := hR.out.set_ (s + k) v
    have hrow2 := hrow1.set_ (s + k + 1) hx2
    have m1 : (wr.setCell ⟨w.heap.size, s + k, none⟩ (.int .u64 (v : Int))).cell? (ad.add k) = some (.int .u64 (x : Int)) := by
     rw [← hcx]; exact World.cell?_setCell_other _ _ _ _ (fun e => by have := congrArg Addr.block e; rw [block_of_add] at this; simp at this; omega)
    have m2 : (wr.setCell ⟨w.heap.size, s + k, none⟩ (.int .u64 (v : Int))).cell? ⟨w.heap.size, s + k + 1, none⟩ = some (.int .u64 (h' : Int)) := by
     rw [← hch']; exact World.cell?_setCell_other _ _ _ _ (fun e => by have := congrArg Addr.off e; simp at this)
    have m3 := hrow1.frozen (s + k + 1)
    have G1 := Lib.hid (only_set (p := ⟨w.heap.size, s + k + 1, none⟩) (only_set (p := ⟨w.heap.size, s + k, none⟩) hG.out (.inl rfl) (.int .u64 (v : Int))) (.inl rfl) (.int .u64 (hx2 : Int)))
    have HR2 := Lib.hid hrow2
    have hz1 : ¬ (s + k = s + k + 1) := by omega
    clear hbw hh hh' hlen hcx0 hxB hlx hhx hh2 y1 y2 y3 y4 y5 hv hrow1 hrow2
    have i1 : (0 : Int) ≤ (k : Int) := by omega
    have i2 : (k : Int) < (n : Int) := by omega
    have i3 : (0 : Int) ≤ (s : Int) + (k : Int) := by omega
    have i4 : (s : Int) + (k : Int) < (s : Int) + (n : Int) + 1 := by omega
    have i5 : ((s : Int) + (k : Int)).toNat = s + k := by omega
    have j1 : IntKind.i64.wrap ((s : Int) + (k : Int)) = (s : Int) + (k : Int) := IntWalk.i64_in _ (by omega)
    go_wp2
    go_region
    clear j1
    go_wp2
    go_roundw
    case rel => exact ⟨k + 1, _, by omega, by go_num, hI2, Lib.hid HR2.out, Lib.hid (only_drew G1.out)⟩
    case measure => simp [intOf]; omega
   ·have hkn : k = n := by omega
    subst hkn
    have hl := hI.out.1
    have hval : nval B64 cur = nval B64 xs * 2 ^ b := by
     have := hI.out.2.2.1
     rw [List.take_of_length_le (by rw [HL.out]; omega), ← Nat.mul_assoc, HB.out, Nat.mul_comm] at this
     exact this
    have hrd : Rd .u64 wr w.heap.size wr.heap.size (some ⟨w.heap.size, 0, none⟩) (s + k + 1) (s + k + 1) cur := by
     have := hR.out.rd0 (lo := w.heap.size) (hi := wr.heap.size) (c := s + k + 1) (Nat.le_refl _) hR.out.lt (by rw [hl]; omega)
     rw [hl] at this; exact this
    have HRD := Lib.hid hrd
    have HV := Lib.hid hval
    have HBW := Lib.hid hbw
    clear hl hval hrd hbw
    go_wp2_with fail
    refine (used_any wr w.heap.size wr.heap.size (some ⟨w.heap.size, 0, none⟩) (s + k + 1) (s + k + 1) cur HRD.out hI.out.2.1 (by omega)).mono ?_
    rintro e w' ⟨A3, c3, rfl, rfl, hA3, hc3⟩
    have hfin := HRD.out.used hI.out.2.1 hA3 hc3
    rw [HV.out] at hfin
    have HF := Lib.hid hfin
    clear hfin
    go_wp2
    go_ret
    exact ⟨_, _, _, rfl, HF.out, HBW.out, hR.out.fr hA3⟩
end
section
def DnI (m q k : Nat) (cur d : List Nat) : Prop :=
 cur.length = m ∧ Small B64 cur ∧ nval B64 (cur.take k) = nval B64 (d.take k) / 2 ^ q ∧ ∀ j, k = j + 1 → cur.getD j 0 < 2 ^ (64 - q)
theorem DnI.start {m q : Nat} {d : List Nat} : DnI m q 0 (List.replicate m 0) d :=
 ⟨by simp, small_replicate (by unfold B64; omega), by simp [nval], fun j h => absurd h (by omega)⟩
theorem DnI.first {m q x : Nat} {cur d : List Nat} (hI : DnI m q 0 cur d) (hm : 0 < m) (hq : q < 64) (hx : d[0]? = some x) (hxB : x < B64) : DnI m q 1 (cur.set 0 (x / 2 ^ q)) d := by
 obtain ⟨g1, g2, g3, g4⟩ := hI
 have hp : 2 ^ (64 - q) * 2 ^ q = B64 := by rw [← Nat.pow_add, Nat.sub_add_cancel (by omega)]; rfl
 have hlt : x / 2 ^ q < 2 ^ (64 - q) := by rw [Nat.div_lt_iff_lt_mul (Nat.two_pow_pos _), hp]; exact hxB
 have hle : x / 2 ^ q ≤ x := Nat.div_le_self _ _
 refine ⟨by simpa using g1, g2.set 0 (by omega), ?_, ?_⟩
 ·have e1 := nval_take_succ B64 (cur.set 0 (x / 2 ^ q)) 0
  have e2 := nval_take_succ B64 d 0
  rw [getD_set _ _ _ (by omega)] at e1
  rw [getD_of hx] at e2
  rw [Nat.zero_add] at e1 e2
  rw [e1, e2]; simp [nval]
 ·intro j hj
  obtain rfl : j = 0 := by omega
  rw [getD_set _ _ _ (by omega)]; exact hlt
theorem DnI.step {m q j x h lx hx : Nat} {cur d : List Nat} (hI : DnI m q (j + 1) cur d) (hk : j + 1 < m) (hq : q < 64) (hd : d[j + 1]? = some x) (hxB : x < B64) (hh : cur[j]? = some h)
  (h1 : lx = x * 2 ^ (64 - q) % B64) (h2 : hx = x / 2 ^ q) : DnI m q (j + 1 + 1) ((cur.set (j + 1) hx).set j (h + lx)) d := by
 obtain ⟨g1, g2, g3, g4⟩ := hI
 have g4 := g4 j rfl
 have hg := getD_of hh
 rw [hg] at g4
 obtain ⟨_, w2, w3, w4, w5⟩ := up_words (q := 64 - q) (hx := hx) (by omega) hxB g4 h1 (by rw [h2, show 64 - (64 - q) = q by omega])
 have hqp := Nat.two_pow_pos q
 have hle : hx ≤ x := by rw [h2]; exact Nat.div_le_self _ _
 have hj : j < cur.length := by omega
 have e0 : (cur.set (j + 1) hx).set j (h + lx) = (cur.set j (h + lx)).set (j + 1) hx := List.set_comm _ _ (by omega)
 refine ⟨by simpa using g1, (g2.set _ (by omega)).set _ w2, ?_, ?_⟩
 ·rw [e0, nval_take_succ, take_set_same, getD_set _ _ _ (by simp; omega), nval_take_succ B64 d, getD_of hd]
  have e1 := nval_take_succ B64 (cur.set j (h + lx)) j
  have e2 := nval_take_succ B64 cur j
  rw [take_set_same, getD_set _ _ _ hj] at e1
  rw [hg] at e2
  have hp : B64 = 2 ^ q * 2 ^ (64 - q) := by rw [← Nat.pow_add, show q + (64 - q) = 64 by omega]; rfl
  have e3 : B64 ^ (j + 1) * x = 2 ^ q * (B64 ^ j * (x * 2 ^ (64 - q))) := by
   rw [Nat.pow_succ]; conv => lhs; arg 1; arg 2; rw [hp]
   grind
  rw [e3, Nat.add_mul_div_left _ _ hqp, ← g3, e1, e2, ← w5, Nat.mul_add, Nat.mul_add, Nat.pow_succ]
  grind
 ·intro i hi
  obtain rfl : i = j + 1 := by omega
  rw [e0, getD_set _ _ _ (by simp; omega)]; exact w4
theorem DnI.done {m q s b : Nat} {cur xs : List Nat} (hI : DnI m q m cur (xs.drop s)) (hxs : Small B64 xs) (hm : m = xs.length - s) (hs : s ≤ xs.length) (hb : B64 ^ s * 2 ^ q = 2 ^ b) : nval B64 cur = nval B64 xs / 2 ^ b := by
 obtain ⟨g1, _, g3, _⟩ := hI
 rw [List.take_of_length_le (by omega), List.take_of_length_le (by simp; omega)] at g3
 have h1 := nval_split B64 xs s hs
 have h2 := nval_lt (hxs.take s)
 rw [List.length_take, Nat.min_eq_left hs] at h2
 have h3 : nval B64 xs / B64 ^ s = nval B64 (xs.drop s) := by
  rw [h1, Nat.add_mul_div_left _ _ (by omega), Nat.div_eq_of_lt h2, Nat.zero_add]
 rw [g3, ← h3, Nat.div_div_eq_div_mul, hb]
def DnRel (w : World) (g m q : Nat) (d : List Nat) (u : Value) (wr : World) : Prop :=
 ∃ (k : Nat) (cur : List Nat), k ≤ m ∧ u = .int .i64 (k : Int) ∧ Hid (DnI m q k cur d) ∧ Hid (Row .u64 wr g 66 cur) ∧ Hid (w.grownBy wr (some g))
theorem shiftDown_any (w : World) (lo hi : Nat) (A : Option Addr) (n c s q b m : Nat) (xs : List Nat) (ha : Rd .u64 w lo hi A n c xs) (hxs : Small B64 xs) (hn : n ≤ 100000000) (hhi : hi ≤ w.heap.size)
  (hb : b ≤ 1000000) (hs : s = b / 64) (hq : q = b % 64) (hm : m = n - s) :
  Calls Tryz.prog 151 #[.slice A n c, .int .i64 (b : Int)] w (NumPost w (nval B64 xs / 2 ^ b)) := by
 have HA := Lib.hid ha; have HX := Lib.hid hxs
 have HL := Lib.hid ha.1
 have e1 : (b : Int) / 64 = (s : Int) := by omega
 have e2 : (b : Int) % 64 = (q : Int) := by omega
 have hq64 : q < 64 := by omega
 have hs64 : s ≤ 1000000 := by omega
 have hpow : B64 ^ s * 2 ^ q = 2 ^ b := by rw [pow64, ← Nat.pow_add]; congr 1; omega
 have HB := Lib.hid hpow
 clear ha hxs hs hq
 rcases Nat.lt_or_ge s n with e | e
 rotate_left
 ·have hz : nval B64 xs / 2 ^ b = 0 := by
   rw [Nat.div_eq_of_lt]
   have h1 := nval_lt HX.out
   rw [HL.out] at h1
   have h2 : B64 ^ n ≤ B64 ^ s := Nat.pow_le_pow_right (by unfold B64; omega) e
   have h3 : B64 ^ s * 1 ≤ B64 ^ s * 2 ^ q := Nat.mul_le_mul_left _ (Nat.two_pow_pos q)
   omega
  have HZ := Lib.hid hz
  clear hz hpow
  go_enter Tryz.func151, Tryz.ntmps151
  go_wp2
  go_ret
  exact ⟨none, 0, 0, rfl, by rw [HZ.out, digs_zero]; exact Rd.none_, Below.refl _ _, fun _ j _ hj => absurd hj (by omega)⟩
 ·have hmn : m + s = n := by omega
  have hmp : 0 < m := by omega
  have HM := Lib.hid hm
  have em : (n : Int) - (s : Int) = (m : Int) := by omega
  clear hpow hm
  have hmk := fun W => make64 (m : Int) m rfl (by omega) W
  have HRow := Lib.hid (zrow_row .u64 66 m w)
  have HB0 := Lib.hid ((Below.refl w.heap.size w).alloc (Nat.le_refl _) (zrow .u64 66 m))
  have HSz := Lib.hid (show w.heap.size < (w.alloc (zrow .u64 66 m)).heap.size by simp)
  have HMN := Lib.hid hmn
  have hms : m + s ≤ n := by omega
  have hms' : n ≤ m + s := by omega
  clear hmn
  go_enter Tryz.func151, Tryz.ntmps151
  go_wp2
  generalize hw0 : w.alloc (zrow .u64 66 m) = w0 at *
  clear hw0
  go_loopw [24] (fun u wr => DnRel w0 w.heap.size m q (xs.drop s) u wr) (fun u _ => m - (intOf u).toNat)
  case atStart => exact ⟨0, _, Nat.zero_le _, rfl, Lib.hid DnI.start, HRow, Lib.hid (only_refl _ _)⟩
  case round =>
   obtain ⟨k, cur, hk, rfl, hI, hR, hG⟩ := hrel
   have hbw : Below w.heap.size w wr := HB0.out.trans (only_below hG.out (by have := HSz.out; omega) (Nat.le_refl _))
   by_cases hlt : k < m
   ·obtain ⟨ad, x, hA, _, hbl, hx, hcx0⟩ := HA.out.get_ (j := s + k) (by omega)
    subst hA
    have hcx : wr.cell? (ad.add (s + k)) = some (.int .u64 (x : Int)) := by rw [← hcx0]; exact hbw.cell (by rw [block_of_add]; omega)
    have hlen := hI.out.1
    have hxB := HX.out.get hx.out
    have hxd : (xs.drop s)[k]? = some x := by rw [List.getElem?_drop]; exact hx.out
    obtain ⟨h', hh'⟩ : ∃ h', cur[k]? = some h' := ⟨cur[k]'(by omega), List.getElem?_eq_getElem _⟩
    have hch' := hR.out.cell (i := k) (by omega)
    rw [getD_of hh'] at hch'
    have hf2 := hR.out.frozen k
    obtain ⟨hx2, hhx⟩ : ∃ hx2, hx2 = x / 2 ^ q := ⟨_, rfl⟩
    have k3 : (x : Int) / 2 ^ q = (hx2 : Int) := by rw [show (x : Int) / 2 ^ q = ((x / 2 ^ q : Nat) : Int) by simp, hhx]
    have hrow1 := hR.out.set_ k hx2
    have HBW := Lib.hid hbw
    have i1 : (0 : Int) ≤ (k : Int) := by omega
    have i2 : (k : Int) < (m : Int) := by omega
    have i3 : (0 : Int) ≤ (s : Int) + (k : Int) := by omega
    have i4 : (s : Int) + (k : Int) < (n : Int) := by omega
    have i5 : ((s : Int) + (k : Int)).toNat = s + k := by omega
    rcases Nat.eq_zero_or_pos k with k0 | k0
    ·have hI2 : Hid (DnI m q (k + 1) (cur.set k hx2) (xs.drop s)) := by
      subst k0; rw [hhx]; exact Lib.hid (hI.out.first hmp hq64 hxd hxB)
     have G1 := Lib.hid (only_set (p := ⟨w.heap.size, k, none⟩) hG.out (.inl rfl) (.int .u64 (hx2 : Int)))
     have HR1 := Lib.hid hrow1
     have k0' : k ≤ 0 := by omega
     have k0b : decide ((0 : Int) < (k : Int)) = false := by simp; omega
     clear hbw hh' hlen hcx0 hxB hhx hxd hrow1 k0
     go_wp2
     go_roundw
     case rel => exact ⟨k + 1, _, by omega, by go_num, hI2, Lib.hid HR1.out, Lib.hid G1.out⟩
     case measure => simp [intOf]; omega
    ·obtain ⟨j, hj⟩ : ∃ j, k = j + 1 := ⟨k - 1, by omega⟩
     obtain ⟨h, hh⟩ : ∃ h, cur[j]? = some h := ⟨cur[j]'(by omega), List.getElem?_eq_getElem _⟩
     obtain ⟨lx, hlx⟩ : ∃ lx, lx = x * 2 ^ (64 - q) % B64 := ⟨_, rfl⟩
     have hh2 : h < 2 ^ (64 - q) := by have := hI.out.2.2.2 j hj; rwa [getD_of hh] at this
     obtain ⟨y1, y2, y3, y4, y5⟩ := up_words (q := 64 - q) (hx := hx2) (by omega) hxB hh2 hlx (by rw [hhx, show 64 - (64 - q) = q by omega])
     have hI2 : Hid (DnI m q (k + 1) ((cur.set k hx2).set j (h + lx)) (xs.drop s)) := by
      subst hj; exact Lib.hid (hI.out.step hlt hq64 hxd hxB hh hlx hhx)
     obtain ⟨v, hv⟩ : ∃ v, v = h + lx := ⟨_, rfl⟩
     rw [← hv] at y1 y2 hI2
     have k1 : IntKind.u64.wrap ((x : Int) * 2 ^ (64 - q)) = (lx : Int) := by rw [show (x : Int) * 2 ^ (64 - q) = ((x * 2 ^ (64 - q) : Nat) : Int) by simp, u64_wraps, hlx]; rfl
     have k2 : bits .or .u64 (h : Int) (lx : Int) = (v : Int) := by rw [bits_or_u64_nat h lx (by unfold B64 at y2; omega) y3, y1]
     have hrow2 := hrow1.set_ j v
     have m1 : (wr.setCell ⟨w.heap.size, k, none⟩ (.int .u64 (hx2 : Int))).cell? (ad.add (s + k)) = some (.int .u64 (x : Int)) := by
      rw [← hcx]; exact World.cell?_setCell_other _ _ _ _ (fun e => by have := congrArg Addr.block e; rw [block_of_add] at this; simp at this; omega)
     have m2 : (wr.setCell ⟨w.heap.size, k, none⟩ (.int .u64 (hx2 : Int))).cell? ⟨w.heap.size, j, none⟩ = some (.int .u64 (h : Int)) := by
      have hc := hR.out.cell (i := j) (by omega)
      rw [getD_of hh] at hc
      rw [← hc]; exact World.cell?_setCell_other _ _ _ _ (fun e => by have := congrArg Addr.off e; simp at this; omega)
     have m3 := hrow1.frozen j
     have G1 := Lib.hid (only_set (p := ⟨w.heap.size, j, none⟩) (only_set (p := ⟨w.heap.size, k, none⟩) hG.out (.inl rfl) (.int .u64 (hx2 : Int))) (.inl rfl) (.int .u64 (v : Int)))
     have HR2 := Lib.hid hrow2
     have HJ := Lib.hid hj
     have j2 : (k : Int) - 1 = (j : Int) := by omega
     have j3 : (j : Int) < (m : Int) := by omega
     have j4 : (0 : Int) ≤ (j : Int) := by omega
     have kb : decide ((0 : Int) < (k : Int)) = true := by simp; omega
     clear hbw hh' hlen hcx0 hxB hhx hxd hrow1 hrow2 hlx hh hh2 y1 y2 y3 y4 y5 hv hj
     have j1 : IntKind.i64.wrap ((s : Int) + (k : Int)) = (s : Int) + (k : Int) := IntWalk.i64_in _ (by omega)
     have j5 : IntKind.i64.wrap (j : Int) = (j : Int) := IntWalk.i64_in _ (by omega)
     have j6 : IntKind.i64.wrap (64 - (q : Int)) = 64 - (q : Int) := IntWalk.i64_in _ (by omega)
     go_wp2
     go_region
     clear j1 j5 j6
     go_wp2
     go_roundw
     case rel => exact ⟨k + 1, _, by omega, by go_num, hI2, Lib.hid HR2.out, Lib.hid (only_drew G1.out)⟩
     case measure => simp [intOf]; omega
   ·have hkn : k = m := by omega
    subst hkn
    have hl := hI.out.1
    have hval : nval B64 cur = nval B64 xs / 2 ^ b := hI.out.done HX.out (by rw [HL.out]; exact HM.out) (by rw [HL.out]; omega) HB.out
    have hrd : Rd .u64 wr w.heap.size wr.heap.size (some ⟨w.heap.size, 0, none⟩) k k cur := by
     have := hR.out.rd0 (lo := w.heap.size) (hi := wr.heap.size) (c := k) (Nat.le_refl _) hR.out.lt (by rw [hl]; omega)
     rw [hl] at this; exact this
    have HRD := Lib.hid hrd
    have HV := Lib.hid hval
    have HBW := Lib.hid hbw
    clear hl hval hrd hbw
    go_wp2_with fail
    refine (used_any wr w.heap.size wr.heap.size (some ⟨w.heap.size, 0, none⟩) k k cur HRD.out hI.out.2.1 (by omega)).mono ?_
    rintro e w' ⟨A3, c3, rfl, rfl, hA3, hc3⟩
    have hfin := HRD.out.used hI.out.2.1 hA3 hc3
    rw [HV.out] at hfin
    have HF := Lib.hid hfin
    clear hfin
    go_wp2
    go_ret
    exact ⟨_, _, _, rfl, HF.out, HBW.out, hR.out.fr hA3⟩
def shv (X : Nat) (n : Int) : Nat := if min (max n (-262144)) 262144 < 0 then X / 2 ^ (-(min (max n (-262144)) 262144)).toNat else X * 2 ^ (min (max n (-262144)) 262144).toNat
theorem shv_up {X : Nat} {n : Int} {b : Nat} (h : min (max n (-262144)) 262144 = (b : Int)) : shv X n = X * 2 ^ b := by
 unfold shv; rw [h, if_neg (by omega), Int.toNat_natCast]
theorem shv_down {X : Nat} {n : Int} {b : Nat} (h : min (max n (-262144)) 262144 = -(b : Int)) (hb : 0 < b) : shv X n = X / 2 ^ b := by
 unfold shv; rw [h, if_pos (by omega), Int.neg_neg, Int.toNat_natCast]
theorem shift_any (w : World) (lo hi : Nat) (A : Option Addr) (n c : Nat) (t : Int) (xs : List Nat) (ha : Rd .u64 w lo hi A n c xs) (hxs : Small B64 xs) (hn : n ≤ 100000000) (hhi : hi ≤ w.heap.size) :
  Calls Tryz.prog 138 #[.slice A n c, .int .i64 t] w (NumPost w (shv (nval B64 xs) t)) := by
 have ux := ulen_le hxs
 rw [ha.1] at ux
 have HA := Lib.hid ha; have HX := Lib.hid hxs
 clear ha hxs
 obtain ⟨X, hX⟩ : ∃ X, X = nval B64 xs := ⟨_, rfl⟩
 rw [← hX]
 have HXv := Lib.hid hX
 clear hX
 go_enter Tryz.func138, Tryz.ntmps138
 go_wp2_with fail
 refine (used_any w lo hi A n c xs HA.out HX.out (by omega)).mono ?_
 rintro e w' ⟨A1, c1, rfl, rfl, hA1, hc1⟩
 have H1 := Lib.hid (HA.out.used HX.out hA1 hc1)
 clear hA1 hc1
 generalize ulen xs = n1 at *
 rw [← HXv.out] at H1
 go_wp2_with fail
 ·obtain ⟨b, hb⟩ : ∃ b : Nat, min (max t (-262144)) 262144 = -(b : Int) := ⟨(-(min (max t (-262144)) 262144)).toNat, by omega⟩
  have hb0 : 0 < b := by omega
  have hbb : b ≤ 1000000 := by omega
  have HV := Lib.hid (shv_down (X := X) hb hb0)
  rw [hb, Int.neg_neg]
  clear hb
  refine (shiftDown_any w lo hi A1 n1 c1 _ _ b _ _ H1.out (small_digs B64_two _) (by omega) hhi hbb rfl rfl rfl).mono ?_
  rintro e w' ⟨A2, n2, c2, rfl, h1, h2, h3⟩
  rw [nval_digs B64_two, ← HV.out] at h1
  have K1 := Lib.hid h1; have K2 := Lib.hid h2; have K3 := Lib.hid h3
  clear h1 h2 h3
  go_wp2
  go_ret
  exact ⟨_, _, _, rfl, K1.out, K2.out, K3.out⟩
 ·obtain ⟨b, hb⟩ : ∃ b : Nat, min (max t (-262144)) 262144 = (b : Int) := ⟨(min (max t (-262144)) 262144).toNat, by omega⟩
  have hbb : b ≤ 1000000 := by omega
  have HV := Lib.hid (shv_up (X := X) hb)
  rw [hb]
  clear hb
  refine (shiftUp_any w lo hi A1 n1 c1 _ _ b _ H1.out (small_digs B64_two _) (by omega) hhi hbb rfl rfl).mono ?_
  rintro e w' ⟨A2, n2, c2, rfl, h1, h2, h3⟩
  rw [nval_digs B64_two, ← HV.out] at h1
  have K1 := Lib.hid h1; have K2 := Lib.hid h2; have K3 := Lib.hid h3
  clear h1 h2 h3
  go_wp2
  go_ret
  exact ⟨_, _, _, rfl, K1.out, K2.out, K3.out⟩
end
section
def TruePost (w : World) (e : Ending) (w' : World) : Prop := ∃ m : Nat, e = .returned (.bool true) ∧ w' = w.drewN m
theorem TruePost.of {w w' : World} {e : Ending} (he : e = .returned (.bool true)) (h : ∃ m, w' = w.drewN m) : TruePost w e w' := by
 obtain ⟨m, hm⟩ := h; exact ⟨m, he, hm⟩
def SameRel (w : World) (n : Nat) (u : Value) (wr : World) : Prop := ∃ k m : Nat, k ≤ n ∧ u = .int .i64 (k : Int) ∧ wr = w.drewN m
theorem SameRel.of {w wr : World} {n : Nat} {u : Value} (k : Nat) (hk : k ≤ n) (hu : u = .int .i64 (k : Int)) (h : ∃ m, wr = w.drewN m) : SameRel w n u wr := by
 obtain ⟨m, hm⟩ := h; exact ⟨k, m, hk, hu, hm⟩
theorem words_same (w : World) (lo hi lo' hi' : Nat) (A B : Option Addr) (n c m cb : Nat) (xs : List Nat) (ha : Rd .u64 w lo hi A n c xs) (hb : Rd .u64 w lo' hi' B m cb xs) (hn : n ≤ 1000000000) :
  Calls Tryz.prog 34 #[.slice A n c, .slice B m cb] w (TruePost w) := by
 obtain rfl : n = m := ha.1.symm.trans hb.1
 have HA := Lib.hid ha; have HB := Lib.hid hb
 clear ha hb
 have f1 : ((n : Int) != (n : Int)) = false := by simp
 go_enter Tryz.func34, Tryz.ntmps34
 go_wp2
 go_loopw [5] (fun u wr => SameRel w n u wr) (fun u _ => n - (intOf u).toNat)
 case atStart => exact ⟨0, 0, Nat.zero_le _, rfl, rfl⟩
 case round =>
  obtain ⟨k, dn, hk, rfl, rfl⟩ := hrel
  by_cases hlt : k < n
  ·obtain ⟨ad, x, hA, _, _, hx, hcx⟩ := HA.out.get_ (j := k) hlt
   subst hA
   obtain ⟨bd, y, hA, _, _, hy, hcy⟩ := HB.out.get_ (j := k) hlt
   subst hA
   obtain rfl : x = y := by have := hx.out; rw [hy.out] at this; injection this with this; exact this.symm
   have i1 : (0 : Int) ≤ (k : Int) := by omega
   have i2 : (k : Int) < (n : Int) := by omega
   have f2 : ((x : Int) != (x : Int)) = false := by simp
   go_wp2
   go_quiet (fail)
   go_wp2
   go_roundw
   case rel => exact SameRel.of (k + 1) (by omega) (by go_num) (by first | exact ⟨_, rfl⟩ | exact dr1 _ _ _)
   case measure => simp [intOf]; omega
  ·go_wp2
   go_ret
   exact ⟨dn, rfl, rfl⟩
theorem built1 (w : World) (v : Nat) (lo hi g : Nat) (hg : g = w.heap.size) (hl : lo ≤ g) (hh : g < hi) : Rd .u64 (w.alloc (.cells #[.int .u64 (v : Int)] 66)) lo hi (some ⟨g, 0, none⟩) 1 1 [v] := by
 subst hg
 have : Row .u64 (w.alloc (.cells #[.int .u64 (v : Int)] 66)) w.heap.size 66 [v] := Blk.new w _ _
 exact this.rd0 hl hh (by simp)
theorem Rd.wide {k : IntKind} {w : World} {lo hi H n c : Nat} {A : Option Addr} {xs : List Nat} (h : Rd k w lo hi A n c xs) (hH : hi ≤ H) : Rd k w 0 H A n c xs := (h.more hH).less (Nat.zero_le _)
theorem small1 {v : Nat} (h : v < B64) : Small B64 [v] := Small.cons h Small.nil
theorem nval1 (v : Nat) : nval B64 [v] = v := by simp [nval]
end
section
theorem Tab.below {w W : World} (h : Tab w) (hb : Below w.heap.size w W) : Tab W := fun i hi => by
 rw [← h i hi]; exact hb.cell (World.block_lt_of_cell? w _ (h i hi))
def wd (a : Nat) : Obj := .cells #[.int .u64 (a : Int)] 66
theorem one_rd (W : World) (a : Nat) : Rd .u64 (W.alloc (wd a)) 0 (W.alloc (wd a)).heap.size (some ⟨W.heap.size, 0, none⟩) 1 1 [a] := built1 W a 0 _ _ rfl (Nat.zero_le _) (by simp)
theorem one_below (W : World) (o : Obj) : Below W.heap.size W (W.alloc o) := (Below.refl _ _).alloc (Nat.le_refl _) _
theorem below_step {w W W' : World} (h : Below w.heap.size w W) (h' : Below W.heap.size W W') : Below w.heap.size w W' := h.trans (h'.mono h.size)
theorem rd_step {k : IntKind} {W W' : World} {n c : Nat} {A : Option Addr} {xs : List Nat} (h : Rd k W 0 W.heap.size A n c xs) (h' : Below W.heap.size W W') : Rd k W' 0 W'.heap.size A n c xs := (h.below h').more h'.size
end
section
def Has (w : World) (A : Option Addr) (n c X k : Nat) : Prop := ∃ xs : List Nat, Rd .u64 w 0 w.heap.size A n c xs ∧ Small B64 xs ∧ nval B64 xs = X ∧ n ≤ k
def Is (w : World) (A : Option Addr) (n c N : Nat) : Prop := Rd .u64 w 0 w.heap.size A n c (digs B64 N)
theorem Has.step {w w' : World} {A : Option Addr} {n c X k : Nat} (h : Has w A n c X k) (hb : Below w.heap.size w w') : Has w' A n c X k := by
 obtain ⟨xs, h1, h2⟩ := h; exact ⟨xs, rd_step h1 hb, h2⟩
theorem Is.step {w w' : World} {A : Option Addr} {n c N : Nat} (h : Is w A n c N) (hb : Below w.heap.size w w') : Is w' A n c N := rd_step h hb
theorem Is.has {w : World} {A : Option Addr} {n c N k : Nat} (h : Is w A n c N) (hk : N < B64 ^ k) : Has w A n c N k :=
 ⟨_, h, small_digs B64_two _, nval_digs B64_two _, by rw [← h.1]; exact digs_len_le B64_two hk⟩
theorem Has.lt {w : World} {A : Option Addr} {n c X k : Nat} (h : Has w A n c X k) : X < B64 ^ k := by
 obtain ⟨xs, h1, h2, rfl, h4⟩ := h
 have := nval_lt h2
 rw [h1.1] at this
 exact Nat.lt_of_lt_of_le this (Nat.pow_le_pow_right (by unfold B64; omega) h4)
def NewIs (W : World) (N : Nat) (e : Ending) (w' : World) : Prop := ∃ (A : Option Addr) (n c : Nat), e = .returned (.slice A n c) ∧ Is w' A n c N ∧ Below W.heap.size W w'
theorem NewIs.of {W w' : World} {N M : Nat} {e : Ending} (h : NumPost W N e w') (hN : N = M) : NewIs W M e w' := by
 obtain ⟨A, n, c, he, h1, h2, _⟩ := h
 subst hN
 exact ⟨A, n, c, he, h1.less (Nat.zero_le _), h2⟩
section
variable {W : World} {A B : Option Addr} {n c m d X Y k l : Nat}
theorem add_is (ha : Has W A n c X k) (hb : Has W B m d Y l) (hk : k ≤ 100000) (hl : l ≤ 100000) : Calls Tryz.prog 140 #[.slice A n c, .slice B m d] W (NewIs W (X + Y)) := by
 obtain ⟨xs, a1, a2, rfl, a4⟩ := ha
 obtain ⟨ys, b1, b2, rfl, b4⟩ := hb
 exact (add_any W 0 _ A B n c m d xs ys a1 b1 a2 b2 (by omega) (by omega) (Nat.le_refl _)).mono fun e w' h => NewIs.of h rfl
theorem shift_is (t : Int) (ha : Has W A n c X k) (hk : k ≤ 100000) : Calls Tryz.prog 138 #[.slice A n c, .int .i64 t] W (NewIs W (shv X t)) := by
 obtain ⟨xs, a1, a2, rfl, a4⟩ := ha
 exact (shift_any W 0 _ A n c t xs a1 a2 (by omega) (Nat.le_refl _)).mono fun e w' h => NewIs.of h rfl
theorem cmp_is (ha : Has W A n c X k) (hb : Has W B m d Y l) (hk : k ≤ 100000) (hl : l ≤ 100000) : Calls Tryz.prog 131 #[.slice A n c, .slice B m d] W fun e w' => e = .returned (.int .i64 (cmpv X Y)) ∧ Below W.heap.size W w' := by
 obtain ⟨xs, a1, a2, rfl, a4⟩ := ha
 obtain ⟨ys, b1, b2, rfl, b4⟩ := hb
 refine (cmp_any W 0 _ A B n c m d xs ys a1 b1 a2 b2 (by omega) (by omega)).mono ?_
 rintro e w' ⟨t, rfl, rfl⟩
 exact ⟨rfl, below_drewN (Below.refl _ _) t⟩
end
theorem lt_add {a b x y : Nat} (hx : x < B64 ^ a) (hy : y < B64 ^ b) : x + y < B64 ^ (a + b + 1) := by
 have h1 : B64 ^ a ≤ B64 ^ (a + b) := Nat.pow_le_pow_right (by unfold B64; omega) (by omega)
 have h2 : B64 ^ b ≤ B64 ^ (a + b) := Nat.pow_le_pow_right (by unfold B64; omega) (by omega)
 have h3 : B64 ^ (a + b) * 2 ≤ B64 ^ (a + b) * B64 := Nat.mul_le_mul_left _ B64_two
 rw [Nat.pow_succ]; omega
theorem lt_mul {a b x y : Nat} (hx : x < B64 ^ a) (hy : y < B64 ^ b) : x * y < B64 ^ (a + b) := by
 rw [Nat.pow_add]; exact Nat.mul_lt_mul'' hx hy
theorem lt_up {a b x : Nat} (hx : x < B64 ^ a) (h : a ≤ b) : x < B64 ^ b := Nat.lt_of_lt_of_le hx (Nat.pow_le_pow_right (by unfold B64; omega) h)
def Arg (w : World) (A : Option Addr) (n c : Nat) (xs : List Nat) : Prop := Rd .u64 w 0 w.heap.size A n c xs ∧ Small B64 xs
theorem Arg.step {w w' : World} {A : Option Addr} {n c : Nat} {xs : List Nat} (h : Arg w A n c xs) (hb : Below w.heap.size w w') : Arg w' A n c xs := ⟨rd_step h.1 hb, h.2⟩
theorem Arg.has {w : World} {A : Option Addr} {n c : Nat} {xs : List Nat} (h : Arg w A n c xs) (hn : n ≤ 40) : Has w A n c (nval B64 xs) 40 := ⟨xs, h.1, h.2, rfl, hn⟩
end
end Go.Proofs.YtobcbhppmgnioaaGreatDoor
