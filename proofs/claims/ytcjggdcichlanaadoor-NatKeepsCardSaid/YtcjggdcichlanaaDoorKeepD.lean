/- Regions that draw their order: laws over a frame that is a letter, and the making of a copy by two appends in whatever order. -/
import Derived.Test.YtcjggdcichlanaaDoorKeepC
namespace Go.Proofs.YtcjggdcichlanaaDoor
open Go.RowKit Nx

theorem any_act {P : Program} {md : Region.Mode} {ops : Array Oper} {Q : Exit → Act → World → Prop} {fuel : Nat} {L : Array Bool} {a : Act} {w : World} (h : ∀ a', a' = a → wpAny P md ops Q fuel L a' w) : wpAny P md ops Q fuel L a w := h a rfl

theorem ev_same {a : Act} {d : Tmp} {v : Value} (h : d < a.tmps.size) : (a.put (some d) v).eval (.tmp d) = v := by
  simp [Act.put, Act.eval, Array.getD, h]
theorem ev_other {a : Act} {d d' : Tmp} {v : Value} (h : d ≠ d') : (a.put (some d) v).eval (.tmp d') = a.eval (.tmp d') := by
  simp only [Act.put, Act.eval, Array.getD_eq_getD_getElem?, Array.getElem?_setIfInBounds_ne h]
theorem get_other {a : Act} {d d' : Tmp} {v : Value} (h : d ≠ d') : (a.put (some d) v).tmps[d']? = a.tmps[d']? := by
  simp only [Act.put, Array.getElem?_setIfInBounds_ne h]
theorem get_same {a : Act} {d : Tmp} {v : Value} (h : d < a.tmps.size) : (a.put (some d) v).tmps[d]? = some v := by
  simp [Act.put, h]
theorem size_put (a : Act) (d : Tmp) (v : Value) : (a.put (some d) v).tmps.size = a.tmps.size := by simp [Act.put]
theorem put_comm (a : Act) {d d' : Tmp} (v v' : Value) (h : d ≠ d') : (a.put (some d) v).put (some d') v' = (a.put (some d') v').put (some d) v := by
  simp only [Act.put]
  rw [Array.setIfInBounds_comm _ _ h]

theorem step_emp {w : World} {ops : Array Oper} {o : Oper} {a : Act} {K : Act → World → Prop} {Q : Exit → Act → World → Prop} {E : Prop} (ho : o.op = .buildSlice 22 0 #[]) (hw : Region.wanted o (yielded ops a.tmps) = true)
    (h : K (a.put o.dst (.slice (some ⟨w.heap.size, 0, none⟩) 0 0)) (w.alloc (.cells #[] 27))) : if Region.wanted o (yielded ops a.tmps) = true then Oper.wp Tryd.prog o a w K Q else E := by
  have hrun : (execOp a.eval o).run Tryd.prog w = .ok (.value (.slice (some ⟨w.heap.size, 0, none⟩) 0 0)) (w.alloc (.cells #[] 27)) := by
    unfold execOp; rw [ho]; go_simp
  rw [if_pos hw]
  unfold Oper.wp
  rw [hrun]
  exact h
theorem step_two {w : World} {ops : Array Oper} {o : Oper} {a : Act} {K : Act → World → Prop} {Q : Exit → Act → World → Prop} {E : Prop} (ho : o.op = .buildSlice 22 2 #[(0, .const (.int .u64 77)), (1, .const (.int .u64 77))]) (hw : Region.wanted o (yielded ops a.tmps) = true)
    (h : K (a.put o.dst (.slice (some ⟨w.heap.size, 0, none⟩) 2 2)) (w.alloc (.cells #[.int .u64 77, .int .u64 77] 27))) : if Region.wanted o (yielded ops a.tmps) = true then Oper.wp Tryd.prog o a w K Q else E := by
  have hrun : (execOp a.eval o).run Tryd.prog w = .ok (.value (.slice (some ⟨w.heap.size, 0, none⟩) 2 2)) (w.alloc (.cells #[.int .u64 77, .int .u64 77] 27)) := by
    unfold execOp; rw [ho]; go_simp
  rw [if_pos hw]
  unfold Oper.wp
  rw [hrun]
  exact h

theorem y_move {P : Program} {ρ : Operand → Value} {o : Oper} {x : Operand} (ho : o.op = .move x) (w : World) : (execOp ρ o).run P w = .ok (.value (ρ x)) w := by
  unfold execOp; rw [ho]; rfl
theorem y_assign {P : Program} {ρ : Operand → Value} {o : Oper} {x : Operand} (ho : o.op = .assign x) (w : World) : (execOp ρ o).run P w = .ok (.value (ρ x)) w := by
  unfold execOp; rw [ho]; rfl
theorem y_pick {P : Program} {ρ : Operand → Value} {o : Oper} {c x y : Operand} (ho : o.op = .pick c x y) (hc : ρ c = .bool true) (w : World) : (execOp ρ o).run P w = .ok (.value (ρ x)) w := by
  unfold execOp; rw [ho]; simp only [hc]; rfl
theorem y_len {ρ : Operand → Value} {o : Oper} {s : Operand} {A : Option Addr} {n c : Nat} (ho : o.op = .call { callee := .builtin .len, args := #[s], argTypes := #[22] }) (hs : ρ s = .slice A n c) (w : World) : (execOp ρ o).run Tryd.prog w = .ok (.value (.int .i64 (n : Int))) w := by
  unfold execOp; rw [ho]; go_simp
theorem y_add {ρ : Operand → Value} {o : Oper} {s : Operand} {n : Nat} (ho : o.op = .binOp .add 3 s (.const (.int .i64 2)) 3) (hs : ρ s = .int .i64 (n : Int)) (hc : ρ (.const (.int .i64 2)) = .int .i64 2) (hn : n ≤ 1000) (w : World) : (execOp ρ o).run Tryd.prog w = .ok (.value (.int .i64 ((n : Int) + 2))) w := by
  unfold execOp; rw [ho]; go_simp
  exact IntWalk.i64_in _ (by omega)
theorem y_slice {ρ : Operand → Value} {o : Oper} {x hi : Operand} {g n c : Nat} (ho : o.op = .slice 22 x none (some hi) none) (hx : ρ x = .slice (some ⟨g, 0, none⟩) n c) (hh : ρ hi = .int .i64 ((n : Int) + 2)) (hc : n + 2 ≤ c) (w : World) : (execOp ρ o).run Tryd.prog w = .ok (.value (.slice (some ⟨g, 0, none⟩) (n + 2) c)) w := by
  unfold execOp; rw [ho]; go_simp
  rw [if_pos ⟨by omega, by omega⟩, show ((n : Int) + 2).toNat = n + 2 by omega]

/-- A frame that is another but for four slots. -/
def Near (a a' : Act) (d5 d7 d8 d9 : Tmp) : Prop := a'.tmps.size = a.tmps.size ∧ ∀ k, k ≠ d5 → k ≠ d7 → k ≠ d8 → k ≠ d9 → a'.tmps[k]? = a.tmps[k]?
theorem Near.refl (a : Act) (d5 d7 d8 d9 : Tmp) : Near a a d5 d7 d8 d9 := ⟨rfl, fun _ _ _ _ _ => rfl⟩
theorem Near.put {a a' : Act} {d5 d7 d8 d9 : Tmp} (h : Near a a' d5 d7 d8 d9) {d : Tmp} (v : Value) (hd : d = d5 ∨ d = d7 ∨ d = d8 ∨ d = d9) : Near a (a'.put (some d) v) d5 d7 d8 d9 := by
  refine ⟨(size_put ..).trans h.1, fun k h5 h7 h8 h9 => (get_other ?_).trans (h.2 k h5 h7 h8 h9)⟩
  rcases hd with rfl | rfl | rfl | rfl <;> (intro e; simp_all)
theorem Near.eval {a a' : Act} {d5 d7 d8 d9 s : Tmp} (h : Near a a' d5 d7 d8 d9) (h5 : s ≠ d5) (h7 : s ≠ d7) (h8 : s ≠ d8) (h9 : s ≠ d9) : a'.eval (.tmp s) = a.eval (.tmp s) := by
  simp only [Act.eval, Array.getD_eq_getD_getElem?]
  rw [h.2 s h5 h7 h8 h9]

/-- What the four operations are, and which may come up after which. -/
structure Four (md : Region.Mode) (ops : Array Oper) (L : Array Bool) (a : Act) (i5 i7 i8 i9 : Nat) (o5 o7 o8 o9 : Oper) (d5 d7 d8 d9 sx : Tmp) : Prop where
  g5 : ops[i5]? = some o5
  g7 : ops[i7]? = some o7
  g8 : ops[i8]? = some o8
  g9 : ops[i9]? = some o9
  p5 : o5.op = .buildSlice 22 0 #[]
  p7 : o7.op = .call { callee := .builtin .append, args := #[.tmp d5, .tmp sx], argTypes := #[22, 22] }
  p8 : o8.op = .buildSlice 22 2 #[(0, .const (.int .u64 77)), (1, .const (.int .u64 77))]
  p9 : o9.op = .call { callee := .builtin .append, args := #[.tmp d7, .tmp d8], argTypes := #[22, 22] }
  t7 : o7.type = 22
  t9 : o9.type = 22
  e5 : o5.dst = some d5
  e7 : o7.dst = some d7
  e8 : o8.dst = some d8
  e9 : o9.dst = some d9
  r0 : Region.ready md ops L = [i5, i8]
  r5 : Region.ready md ops (L.setIfInBounds i5 true) = [i7, i8]
  r8 : Region.ready md ops (L.setIfInBounds i8 true) = [i5]
  r57 : Region.ready md ops ((L.setIfInBounds i5 true).setIfInBounds i7 true) = [i8]
  r58 : Region.ready md ops ((L.setIfInBounds i5 true).setIfInBounds i8 true) = [i7]
  r578 : Region.ready md ops (((L.setIfInBounds i5 true).setIfInBounds i7 true).setIfInBounds i8 true) = [i9]
  ni : i5 ≠ i8 ∧ i7 ≠ i8
  nd : d5 ≠ d7 ∧ d5 ≠ d8 ∧ d7 ≠ d8
  ns : sx ≠ d5 ∧ sx ≠ d7 ∧ sx ≠ d8 ∧ sx ≠ d9
  ls : d5 < a.tmps.size ∧ d7 < a.tmps.size ∧ d8 < a.tmps.size
  wn : ∀ a', Near a a' d5 d7 d8 d9 → Region.wanted o5 (yielded ops a'.tmps) = true ∧ Region.wanted o7 (yielded ops a'.tmps) = true ∧ Region.wanted o8 (yielded ops a'.tmps) = true ∧ Region.wanted o9 (yielded ops a'.tmps) = true

theorem group_law {md : Region.Mode} {ops : Array Oper} {Q : Exit → Act → World → Prop} {fuel : Nat} {L : Array Bool} {a : Act} {W W0 : World} {i5 i7 i8 i9 : Nat} {o5 o7 o8 o9 : Oper} {d5 d7 d8 d9 sx : Tmp} {A : Option Addr} {n c : Nat} {xs : List Nat}
    (F : Four md ops L a i5 i7 i8 i9 o5 o7 o8 o9 d5 d7 d8 d9 sx) (hx : a.eval (.tmp sx) = .slice A n c) (hr : Rd .u64 W0 0 W0.heap.size A n c xs) (hn : n ≤ 1000000) (hB : Below W0.heap.size W0 W)
    (h : ∀ v5 v7 v8 A' c' W', Rd .u64 W' 0 W'.heap.size A' (n + 2) c' (xs ++ [77, 77]) → Below W0.heap.size W0 W' →
      wpAny Tryd.prog md ops Q fuel ((((L.setIfInBounds i5 true).setIfInBounds i7 true).setIfInBounds i8 true).setIfInBounds i9 true) ((((a.put (some d5) v5).put (some d7) v7).put (some d8) v8).put (some d9) (.slice A' (n + 2) c')) W') :
    wpAny Tryd.prog md ops Q (fuel + 4) L a W := by
  obtain ⟨n57, n58, n78⟩ := F.nd
  obtain ⟨s5, s7, s8, s9⟩ := F.ns
  obtain ⟨l5, l7, l8⟩ := F.ls
  -- the last append, all else done
  have last : ∀ (v5 v7 : Value) (hh : Nat) (w : World), OutL .u64 27 w W0.heap.size v7 xs → Two w hh → Below W0.heap.size W0 w →
      wpAny Tryd.prog md ops Q (fuel + 1) (((L.setIfInBounds i5 true).setIfInBounds i7 true).setIfInBounds i8 true) (((a.put (some d5) v5).put (some d7) v7).put (some d8) (.slice (some ⟨hh, 0, none⟩) 2 2)) w := by
    intro v5 v7 hh w hO hT hB'
    refine wpAny_ready F.r578 (by simp) (AllReady.cons F.g9 (fun K hK => ?_) AllReady.nil)
    have hN : Near a (((a.put (some d5) v5).put (some d7) v7).put (some d8) (.slice (some ⟨hh, 0, none⟩) 2 2)) d5 d7 d8 d9 := (((Near.refl ..).put _ (.inl rfl)).put _ (.inr (.inl rfl))).put _ (.inr (.inr (.inl rfl)))
    refine step_second (W0 := W0) _ _ hh n v7 xs F.p9 F.t9 ?_ ?_ (F.wn _ hN).2.2.2 hO hT hB' hr.1 hn ?_
    · rw [ev_other n78.symm, ev_same (by rw [size_put]; exact l7)]
    · exact ev_same (by rw [size_put, size_put]; exact l8)
    · intro A' c' w' h1 h2
      rw [F.e9]
      exact hK _ _ (h v5 v7 _ A' c' w' h1 h2)
  refine wpAny_ready F.r0 (by simp) (AllReady.cons F.g5 (fun K hK => ?_) (AllReady.cons F.g8 (fun K hK => ?_) AllReady.nil))
  · refine step_emp F.p5 (F.wn a (Near.refl ..)).1 ?_
    rw [F.e5]
    refine hK _ _ (wpAny_ready F.r5 (by simp) (AllReady.cons F.g7 (fun K' hK' => ?_) (AllReady.cons F.g8 (fun K' hK' => ?_) AllReady.nil)))
    · -- 5, 7, 8
      have hN : Near a (a.put (some d5) (.slice (some ⟨W.heap.size, 0, none⟩) 0 0)) d5 d7 d8 d9 := (Near.refl ..).put _ (.inl rfl)
      refine step_first (W0 := W0) _ _ W.heap.size n c A xs F.p7 F.t7 (ev_same l5) ((hN.eval s5 s7 s8 s9).trans hx) (F.wn _ hN).2.1 hr hn (emp_1 hB) (bel_1 hB _) ?_
      intro v7 w7 o7 b7 B7
      rw [F.e7]
      refine hK' _ _ (wpAny_ready F.r57 (by simp) (AllReady.cons F.g8 (fun K2 hK2 => ?_) AllReady.nil))
      refine step_two F.p8 (F.wn _ (hN.put _ (.inr (.inl rfl)))).2.2.1 ?_
      rw [F.e8]
      exact hK2 _ _ (last _ v7 w7.heap.size _ (o7.keep (one_below _ _)) (Two.new rfl rfl) (bel_1 B7 _))
    · -- 5, 8, 7
      have hN : Near a (a.put (some d5) (.slice (some ⟨W.heap.size, 0, none⟩) 0 0)) d5 d7 d8 d9 := (Near.refl ..).put _ (.inl rfl)
      refine step_two F.p8 (F.wn _ hN).2.2.1 ?_
      rw [F.e8]
      refine hK' _ _ (wpAny_ready F.r58 (by simp) (AllReady.cons F.g7 (fun K2 hK2 => ?_) AllReady.nil))
      have hN2 := hN.put (d := d8) (.slice (some ⟨(W.alloc (.cells #[] 27)).heap.size, 0, none⟩) 2 2) (.inr (.inr (.inl rfl)))
      refine step_first (W0 := W0) _ _ W.heap.size n c A xs F.p7 F.t7 ((ev_other n58.symm).trans (ev_same l5)) ((hN2.eval s5 s7 s8 s9).trans hx) (F.wn _ hN2).2.1 hr hn (emp_2 hB _) (bel_2 hB _ _) ?_
      intro v7 w7 o7 b7 B7
      rw [F.e7, put_comm _ _ _ n78.symm]
      rw [Array.setIfInBounds_comm _ _ F.ni.2.symm] at hK2
      exact hK2 _ _ (last _ v7 _ _ o7 ((Two.new rfl rfl).step b7) B7)
  · -- 8, 5, 7
    refine step_two F.p8 (F.wn a (Near.refl ..)).2.2.1 ?_
    rw [F.e8]
    refine hK _ _ (wpAny_ready F.r8 (by simp) (AllReady.cons F.g5 (fun K' hK' => ?_) AllReady.nil))
    have hN : Near a (a.put (some d8) (.slice (some ⟨W.heap.size, 0, none⟩) 2 2)) d5 d7 d8 d9 := (Near.refl ..).put _ (.inr (.inr (.inl rfl)))
    refine step_emp F.p5 (F.wn _ hN).1 ?_
    rw [F.e5, put_comm _ _ _ n58.symm]
    rw [Array.setIfInBounds_comm _ _ F.ni.1.symm] at hK'
    refine hK' _ _ (wpAny_ready F.r58 (by simp) (AllReady.cons F.g7 (fun K2 hK2 => ?_) AllReady.nil))
    have hN2 : Near a ((a.put (some d5) (.slice (some ⟨(W.alloc (.cells #[.int .u64 77, .int .u64 77] 27)).heap.size, 0, none⟩) 0 0)).put (some d8) (.slice (some ⟨W.heap.size, 0, none⟩) 2 2)) d5 d7 d8 d9 := ((Near.refl ..).put _ (.inl rfl)).put _ (.inr (.inr (.inl rfl)))
    refine step_first (W0 := W0) _ _ (W.alloc (.cells #[.int .u64 77, .int .u64 77] 27)).heap.size n c A xs F.p7 F.t7 ((ev_other n58.symm).trans (ev_same l5)) ((hN2.eval s5 s7 s8 s9).trans hx) (F.wn _ hN2).2.1 hr hn (emp_1 (bel_1 hB _)) (bel_2 hB _ _) ?_
    intro v7 w7 o7 b7 B7
    rw [F.e7, put_comm _ _ _ n78.symm]
    rw [Array.setIfInBounds_comm _ _ F.ni.2.symm] at hK2
    exact hK2 _ _ (last _ v7 _ _ o7 (((Two.new rfl rfl).step (one_below _ _)).step b7) B7)
end Go.Proofs.YtcjggdcichlanaaDoor
