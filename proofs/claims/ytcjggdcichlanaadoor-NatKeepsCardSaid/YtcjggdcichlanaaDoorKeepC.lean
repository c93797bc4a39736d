/- The last statement of NatKeeps: the laws at its steps. -/
import Derived.Test.YtcjggdcichlanaaDoorKeepB
import Derived.Deep.RegionLaw
namespace Go.Proofs.YtcjggdcichlanaaDoor
open Go.RowKit Nx

theorem bdrew {B : Nat} {a w : World} (h : Below B a w) : Below B a w.drew := ⟨h.os, h.tape, h.output, h.size, h.block⟩

theorem step_first {W0 w : World} {ops : Array Oper} {o : Oper} {a : Act} {K : Act → World → Prop} {Q : Exit → Act → World → Prop} {E : Prop} (s x : Operand)
    (g n c : Nat) (A : Option Addr) (xs : List Nat) (ho : o.op = .call { callee := .builtin .append, args := #[s, x], argTypes := #[22, 22] }) (hty : o.type = 22)
    (hs : a.eval s = .slice (some ⟨g, 0, none⟩) 0 0) (hx : a.eval x = .slice A n c) (hw : Region.wanted o (yielded ops a.tmps) = true)
    (hr : Rd .u64 W0 0 W0.heap.size A n c xs) (hn : n ≤ 1000000) (he : Emp w g W0.heap.size) (hB : Below W0.heap.size W0 w)
    (h : ∀ v' w', OutL .u64 27 w' W0.heap.size v' xs → Below w.heap.size w w' → Below W0.heap.size W0 w' → K (a.put o.dst v') w') : if Region.wanted o (yielded ops a.tmps) = true then Oper.wp Tryd.prog o a w K Q else E :=
  step_app0 s x g W0.heap.size n c A xs ho hty hs hx hw he (rd_step hr hB) hn hB.size fun v' w' h1 h2 => h v' w' h1 h2 (below_step hB h2)
theorem step_second {W0 w : World} {ops : Array Oper} {o : Oper} {a : Act} {K : Act → World → Prop} {Q : Exit → Act → World → Prop} {E : Prop} (s x : Operand)
    (hh n : Nat) (v : Value) (xs : List Nat) (ho : o.op = .call { callee := .builtin .append, args := #[s, x], argTypes := #[22, 22] }) (hty : o.type = 22)
    (hs : a.eval s = v) (hx : a.eval x = .slice (some ⟨hh, 0, none⟩) 2 2) (hw : Region.wanted o (yielded ops a.tmps) = true)
    (hO : OutL .u64 27 w W0.heap.size v xs) (ht : Two w hh) (hB : Below W0.heap.size W0 w) (hl : xs.length = n) (hn : n ≤ 1000000)
    (h : ∀ A c w', Rd .u64 w' 0 w'.heap.size A (n + 2) c (xs ++ [77, 77]) → Below W0.heap.size W0 w' → K (a.put o.dst (.slice A (n + 2) c)) w') : if Region.wanted o (yielded ops a.tmps) = true then Oper.wp Tryd.prog o a w K Q else E := by
  subst hl
  exact step_app2 s x W0.heap.size hh v xs ho hty hs hx hw hO ht hB.size hn fun A c w' h1 h2 => h A c w' (h1.less (Nat.zero_le _)) (hB.trans h2)

section
variable {S W W0 : World}
theorem two_a (b : Below ((S.alloc (.cells #[] 27)).alloc (.cells #[.int .u64 77, .int .u64 77] 27)).heap.size ((S.alloc (.cells #[] 27)).alloc (.cells #[.int .u64 77, .int .u64 77] 27)) W) : Two W (S.heap.size + 1) :=
  (Two.new rfl (by simp)).step b
theorem two_b (b : Below ((S.alloc (.cells #[.int .u64 77, .int .u64 77] 27)).alloc (.cells #[] 27)).heap.size ((S.alloc (.cells #[.int .u64 77, .int .u64 77] 27)).alloc (.cells #[] 27)) W) : Two W S.heap.size :=
  ((Two.new rfl rfl).step (one_below _ _)).step b
theorem two_ad (b : Below (((S.alloc (.cells #[] 27)).alloc (.cells #[.int .u64 77, .int .u64 77] 27)).drew).heap.size (((S.alloc (.cells #[] 27)).alloc (.cells #[.int .u64 77, .int .u64 77] 27)).drew) W) : Two W (S.heap.size + 1) :=
  two_a ⟨b.os, b.tape, b.output, b.size, b.block⟩
theorem two_bd (b : Below (((S.alloc (.cells #[.int .u64 77, .int .u64 77] 27)).alloc (.cells #[] 27)).drew).heap.size (((S.alloc (.cells #[.int .u64 77, .int .u64 77] 27)).alloc (.cells #[] 27)).drew) W) : Two W S.heap.size :=
  two_b ⟨b.os, b.tape, b.output, b.size, b.block⟩
theorem emp_1 (h : Below W0.heap.size W0 S) : Emp (S.alloc (.cells #[] 27)) S.heap.size W0.heap.size := Emp.new rfl rfl h.size
theorem emp_2 (h : Below W0.heap.size W0 S) (o : Obj) : Emp ((S.alloc (.cells #[] 27)).alloc o) S.heap.size W0.heap.size := (emp_1 h).step (one_below _ _)
theorem emp_3 (h : Below W0.heap.size W0 S) (o : Obj) : Emp ((S.alloc o).alloc (.cells #[] 27)) (S.heap.size + 1) W0.heap.size := Emp.new rfl (by simp) (by have := h.size; simp; omega)
theorem emp_1d (h : Below W0.heap.size W0 S) : Emp (S.alloc (.cells #[] 27)).drew S.heap.size W0.heap.size := emp_1 h
theorem emp_2d (h : Below W0.heap.size W0 S) (o : Obj) : Emp ((S.alloc (.cells #[] 27)).alloc o).drew S.heap.size W0.heap.size := emp_2 h o
theorem emp_3d (h : Below W0.heap.size W0 S) (o : Obj) : Emp ((S.alloc o).alloc (.cells #[] 27)).drew (S.heap.size + 1) W0.heap.size := emp_3 h o
theorem bel_1 (h : Below W0.heap.size W0 S) (o : Obj) : Below W0.heap.size W0 (S.alloc o) := below_step h (one_below _ _)
theorem bel_2 (h : Below W0.heap.size W0 S) (o o' : Obj) : Below W0.heap.size W0 ((S.alloc o).alloc o') := bel_1 (bel_1 h o) o'

theorem keep_words {A B : Option Addr} {n c m d : Nat} {zs : List Nat} (hx : Rd .u64 W0 0 W0.heap.size A n c zs) (hB : Below W0.heap.size W0 W) (hy : Rd .u64 W 0 W.heap.size B m d zs) (hn : n ≤ 1000000) :
    Calls Tryd.prog 14 #[.slice A n c, .slice B m d] W fun e w' => e = .returned (.bool true) ∧ Below W0.heap.size W0 w' := by
  refine (words_same W 0 _ 0 _ A B n c m d _ (rd_step hx hB) hy (by omega)).mono ?_
  rintro e w' ⟨t, rfl, rfl⟩
  exact ⟨rfl, below_drewN hB t⟩
theorem keep_add {A B : Option Addr} {n c m d X Y : Nat} (ha : Has W0 A n c X 40) (hb : Has W0 B m d Y 40) (hB : Below W0.heap.size W0 W) :
    Calls Tryd.prog 24 #[.slice A n c, .slice B m d] W fun e w' => ∃ (A' : Option Addr) (n' c' : Nat), e = .returned (.slice A' n' c') ∧ Rd .u64 w' 0 w'.heap.size A' n' c' (digs B64 (X + Y)) ∧ Below W0.heap.size W0 w' := by
  refine (add_is (ha.step hB) (hb.step hB) (by omega) (by omega)).mono ?_
  rintro e w' ⟨A', n', c', rfl, h1, h2⟩
  exact ⟨A', n', c', rfl, h1, below_step hB h2⟩
end
end Go.Proofs.YtcjggdcichlanaaDoor
