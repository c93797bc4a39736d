/- Decks: boxes, points in boxes, parts of boxes, as they are drawn. -/
import Derived.Test.YtcpfepjdeikchaaGreatDoorYAkM
import Derived.Test.YtcpfepjdeikchaaGreatDoorYAl2
import Derived.Test.YtcpfepjdeikchaaGreatDoorYAl7
namespace Go.Proofs.YtcpfepjdeikchaaGreatDoor
set_option linter.unusedSimpArgs false
set_option linter.unusedVariables false
open Go.RowKit Nx
attribute [local irreducible] chk
section
set_option maxRecDepth 100000
set_option maxHeartbeats 4000000
attribute [local go_sem] X.eta J.eta Q.eta brkf_b brkf_t exef_some exif_some condf_b lpf hdS hd1 pick forget postf_some memOf cntF nmL rnL nmA rnA isV contsOf ndB refO orO pin Int.toNat_zero decide_eq_true_eq wrap0 wrap1 ci1 ci2 BEq.rfl beq_self_eq_true Int.natCast_zero ge_iff_le gt_iff_lt Int.le_refl Nat.zero_mul Nat.one_mul Nat.zero_add Nat.zero_lt_succ Nat.lt_add_one Nat.le_refl dkO dpf_some rK rKI rKJ Int.toNat_natCast dk0 noE boxL_nil boxL_cons ptsL_nil ptsL_cons bxe pxe bne_self_eq_false wr2 wr3 wr4 wr5 wr6 wr7 wr8 gB gP gBB gBP gBZ gBBZ asB asP nilB asJs asXs wsOf bC_nil bC_cons pC_nil pC_cons fvO Lc.up tyB tiS tiBB List.replicate_succ List.replicate_zero List.flatten_cons List.flatten_nil Int.ofNat_lt Int.cast_ofNat_Int Int.ofNat_eq_natCast List.isEmpty_nil List.isEmpty_cons and_false false_and List.cons_ne_nil Nat.add_zero ite_true ite_false if_true if_false Nat.le_zero_eq eq_self
attribute [local go_sem ↓] not_cond outL_box outL_pts clL_box clL_pts okL_box okL_pts ment_box ment_pts olL_box olL_pts cvL_box cvL_pts noO_box noO_pts asB_box asP_pts len_box len_pts
def Goods (l : List J) : Prop := ∀ j ∈ l, Good j
theorem rightB_good {l : List J} (h : Goods l) (h1 : 1 ≤ l.length) (h4 : l.length ≤ 4) : rightB l = true := by
 unfold rightB
 rw [decide_eq_true h1, decide_eq_true h4]
 exact List.all_eq_true.2 fun j hj => (h j hj).1
def rKB (K : Nat → List J → Prop × AV × Nat) : DK := fun k rest => match rest with
 | [x] => (match asB x with
  | some l => some (K k l)
  | none => none)
 | _ => none
section
variable {l : List J} {m : List X}
theorem cb_box : cbL (boxC l) = true := by cases l <;> rfl
theorem cb_pts : cbL (ptsC m) = true := by cases m <;> rfl
end
theorem d_dim0 (xs : List Nat) (k : Nat) (hk : k ≤ 900) (h : ((dk xs k % 4 : Nat) : Int) = 0) : DCt 19 xs [] k (iA 1) (k + 1) := by
 refine dct_of (O := fun A n c => dkO 59 A n c (rKI fun k z => (k ≤ 1000 ∧ 0 < z ∧ z ≤ 1000, iA ((dk xs k % z.toNat : Nat) : Int), k + 1))) (by kernel_rfl) tyB_ok (fun A n c F w hA hn => dkO_ok (xs := xs) (ent Tryz.func59 (by kernel_rfl) rfl) (rKI_ok fun k z hp => dn_dct hp) hA hn) [] 1500 6 [.tmp 2] Tryz.func19 rfl Tryz.ntmps19 (by decide) (by rw [Tryz.results19]) (by simp) rfl (fun A n c hsm hs => ?_)
 simp (maxSteps := 10000000) only [go_sem, seval, reduceCtorEq, rKB, ↓cb_box, ↓cb_pts, h]
 repeat' with_reducible first | apply And.intro | apply condP <;> intro _
 all_goals first | (show chk _ _ = true; kernel_rfl) | with_reducible assumption | omega | (simp only [go_sem, *, Int.reduceToNat, h] <;> rfl) | rfl | (exfalso; simp_all only [Bool.true_eq_false, Bool.false_eq_true, reduceCtorEq]; done)
theorem d_dim1 (xs : List Nat) (k : Nat) (hk : k ≤ 900) (h : ((dk xs k % 4 : Nat) : Int) = 1) : DCt 19 xs [] k (iA 2) (k + 1) := by
 refine dct_of (O := fun A n c => dkO 59 A n c (rKI fun k z => (k ≤ 1000 ∧ 0 < z ∧ z ≤ 1000, iA ((dk xs k % z.toNat : Nat) : Int), k + 1))) (by kernel_rfl) tyB_ok (fun A n c F w hA hn => dkO_ok (xs := xs) (ent Tryz.func59 (by kernel_rfl) rfl) (rKI_ok fun k z hp => dn_dct hp) hA hn) [] 1500 6 [.tmp 2] Tryz.func19 rfl Tryz.ntmps19 (by decide) (by rw [Tryz.results19]) (by simp) rfl (fun A n c hsm hs => ?_)
 simp (maxSteps := 10000000) only [go_sem, seval, reduceCtorEq, rKB, ↓cb_box, ↓cb_pts, h]
 repeat' with_reducible first | apply And.intro | apply condP <;> intro _
 all_goals first | (show chk _ _ = true; kernel_rfl) | with_reducible assumption | omega | (simp only [go_sem, *, Int.reduceToNat, h] <;> rfl) | rfl | (exfalso; simp_all only [Bool.true_eq_false, Bool.false_eq_true, reduceCtorEq]; done)
theorem d_dim2 (xs : List Nat) (k : Nat) (hk : k ≤ 900) (h : ((dk xs k % 4 : Nat) : Int) = 2) : DCt 19 xs [] k (iA 3) (k + 1) := by
 refine dct_of (O := fun A n c => dkO 59 A n c (rKI fun k z => (k ≤ 1000 ∧ 0 < z ∧ z ≤ 1000, iA ((dk xs k % z.toNat : Nat) : Int), k + 1))) (by kernel_rfl) tyB_ok (fun A n c F w hA hn => dkO_ok (xs := xs) (ent Tryz.func59 (by kernel_rfl) rfl) (rKI_ok fun k z hp => dn_dct hp) hA hn) [] 1500 6 [.tmp 2] Tryz.func19 rfl Tryz.ntmps19 (by decide) (by rw [Tryz.results19]) (by simp) rfl (fun A n c hsm hs => ?_)
 simp (maxSteps := 10000000) only [go_sem, seval, reduceCtorEq, rKB, ↓cb_box, ↓cb_pts, h]
 repeat' with_reducible first | apply And.intro | apply condP <;> intro _
 all_goals first | (show chk _ _ = true; kernel_rfl) | with_reducible assumption | omega | (simp only [go_sem, *, Int.reduceToNat, h] <;> rfl) | rfl | (exfalso; simp_all only [Bool.true_eq_false, Bool.false_eq_true, reduceCtorEq]; done)
theorem d_dim3 (xs : List Nat) (k : Nat) (hk : k ≤ 900) (h : ((dk xs k % 4 : Nat) : Int) = 3) : DCt 19 xs [] k (iA 4) (k + 1) := by
 refine dct_of (O := fun A n c => dkO 59 A n c (rKI fun k z => (k ≤ 1000 ∧ 0 < z ∧ z ≤ 1000, iA ((dk xs k % z.toNat : Nat) : Int), k + 1))) (by kernel_rfl) tyB_ok (fun A n c F w hA hn => dkO_ok (xs := xs) (ent Tryz.func59 (by kernel_rfl) rfl) (rKI_ok fun k z hp => dn_dct hp) hA hn) [] 1500 6 [.tmp 2] Tryz.func19 rfl Tryz.ntmps19 (by decide) (by rw [Tryz.results19]) (by simp) rfl (fun A n c hsm hs => ?_)
 simp (maxSteps := 10000000) only [go_sem, seval, reduceCtorEq, rKB, ↓cb_box, ↓cb_pts, h]
 repeat' with_reducible first | apply And.intro | apply condP <;> intro _
 all_goals first | (show chk _ _ = true; kernel_rfl) | with_reducible assumption | omega | (simp only [go_sem, *, Int.reduceToNat, h] <;> rfl) | rfl | (exfalso; simp_all only [Bool.true_eq_false, Bool.false_eq_true, reduceCtorEq]; done)
end
section
def LC6 (f : FuncId) (A : Option Addr) (n c : Nat) (xs : List Nat) (args : List AV) : Prop := ∀ w us, Tab w → Arg w A n c xs → RA envA (fun _ => false) w args us →
 Calls Tryz.prog f us.toArray w fun e w' => e = .returned (.bool true) ∧ Below w.heap.size w w'
theorem lc6_of {ty : TypeId → Option TI} {O : Orac} (hm : Tryz.prog.follows .mixedOrders = true) (hty : ∀ t i, ty t = some i → TiOK Tryz.prog t i) {f : FuncId} {fn : Func} {c0 : Code} {args : List AV} {A : Option Addr} {n c : Nat} {xs : List Nat}
  (hO : ∀ w, Arg w A n c xs → (∀ ad, 0 < n → A = some ad → ¬ (fun _ : Nat => False) ad.block) → OrOK Tryz.prog O (fun _ => False) w) (fg : List Nat)
  (fuel N : Nat) (rs : List ResultVar) (hf : Tryz.prog.funcs[f]? = some fn) (hb : fn.body = some c0) (hN : fn.ntmps = N) (hr : fn.results.toList = rs) (hl : args.length ≤ N) (hc : args.all cbA = true)
  (h : smAs args → Small B64 xs → run ty O N (fun st => postf (· = bA true) (resA ty st rs)) fg fuel [.code c0] (init 0 args)) : LC6 f A n c xs args := by
 intro w us ht hX hA
 replace h := h hA.sm hX.2
 refine (call_of (mem := []) (ρ := ⟨fun n => n, w.heap.size, fun _ => undef, fun _ => 0, fun _ => false⟩) hm hty (hO w hX (fun _ _ _ h => h)) fg fuel N rs hf hb hN hr hl ht (fun k v h => by cases h) (fun b v h => by cases h) (fun b b' h => by cases h) (hA.closed hc fun _ _ => ⟨fun _ h => (by cases h), fun _ h => (by cases h)⟩) rfl rfl (by rw [List.append_nil]; exact h)).mono ?_
 rintro e w' ⟨u, r, rfl, rfl, hcl, hR, hb⟩
 rw [show u = .bool true from RL.one.1 (hR envA (fun _ => false) ⟨fun _ h => (by cases h), fun _ _ h => (by cases h), Nat.zero_le _⟩)]
 exact ⟨rfl, hb⟩
end
end Go.Proofs.YtcpfepjdeikchaaGreatDoor
