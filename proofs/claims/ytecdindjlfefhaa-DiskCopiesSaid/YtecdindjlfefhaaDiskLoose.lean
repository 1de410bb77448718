/- The document's loose writes: a copy of them, one more, one overwritten. -/
import Derived.Test.YtecdindjlfefhaaDiskBox
import Derived.Laws.OwnMore
namespace Go.Proofs.Ytecdindjlfefhaa.DiskLoose
open Go.RowKit Base DiskPlain DiskMem DiskSmall DiskRead DiskGrow DiskWrite DiskSync DiskCrash DiskSpoil DiskCopy DiskLaw DiskDo DiskPlumb DiskTwo DiskGrows DiskSim DiskSyncs DiskRef DiskRefRead DiskRefDo DiskRefDo3 DiskBox Go.Maps

theorem write_str : (Try.prog.info? 68).map (fun i => (i.zero, i.size, i.bytes)) = some (some (.agg #[.int .i64 0, .string .empty]), 2, 24) := by kernel_rfl
theorem looseStr_snoc (l : List (Nat × Pg)) (p : Nat) (y : Pg) : looseStr (l ++ [(p, y)]) = looseStr l ++ [.int .i64 (p : Int), .string (tx y)] := by simp [looseStr]
/-- append([]Write{}, l...) -/
theorem loose_copy (wx : World) (g : Nat) (A : Option Addr) (c : Nat) (l : List (Nat × Pg)) (hll : l.length ≤ 100000000) (hg : At wx g 68 #[]) (hr : Row wx wx.heap.size A (looseStr l)) :
    ∃ A' c' wz, (Builtin.append_ #[29, 29] 29 #[.slice (some ⟨g, 0, none⟩) 0 0, .slice A l.length c]).run Try.prog wx = .ok (.slice A' l.length c') wz ∧ Wd wz 68 2 A' l.length c' (looseStr l) ∧ wx.grownBy wz (some g) ∧
      (A'.map (·.block) = some g ∨ A'.map (·.block) = some wx.heap.size) := by
  obtain ⟨i, i1, i2, i3, i4⟩ := info_parts write_str
  have hown : Wd wx 68 2 (some ⟨g, 0, none⟩) 0 0 [] := ⟨rfl, .inr ⟨g, 0, #[], rfl, Nat.zero_le _, hg, Nat.le_refl _, by simp [maxLen], rfl, rfl⟩⟩
  cases A with
  | none =>
    have h0 : l = [] := by
      cases l with
      | nil => rfl
      | cons x l => obtain ⟨ad, e, _⟩ := hr.get 0 (by simp [looseStr]); cases e
    subst h0
    refine ⟨some ⟨g, 0, none⟩, 0, wx, ?_, hown, World.grownBy.refl wx _, .inl rfl⟩
    simp [Builtin.append_, run_underlying Try.underlying29, sizeOf, typeInfo, i1, Builtin.lenOf, Builtin.firstCells, storeCells]
  | some ad =>
    obtain ⟨A', c', w2, hrun, hw2, hgr, hpl⟩ := append_wide (t := 29) (ty := 29) 2 24 Try.underlying29 i1 i2 i3 i4 (by simp [Value.cells]) (by omega) hown ad l.length c (looseStr l) (looseStr_len l) (fun j u hu => by
      obtain ⟨ad', e, _, hc⟩ := hr j u hu
      injection e with e
      subst e
      exact hc) (looseStr_one l) (by omega) (by omega)
    rw [Nat.zero_add] at hrun hw2
    rw [List.nil_append] at hw2
    exact ⟨A', c', w2, hrun, hw2, hgr, hpl⟩
/-- append(l, Write{p, y}) -/
theorem loose_add (wx : World) (h : Nat) (A : Option Addr) (n c : Nat) (l : List (Nat × Pg)) (p : Nat) (y : Pg) (hll : n ≤ 100000000) (hw : Wd wx 68 2 A n c (looseStr l)) (hh : At wx h 68 #[.int .i64 (p : Int), .string (tx y)]) :
    ∃ A' c' wz, (Builtin.append_ #[29, 29] 29 #[.slice A n c, .slice (some ⟨h, 0, none⟩) 1 1]).run Try.prog wx = .ok (.slice A' (n + 1) c') wz ∧ Wd wz 68 2 A' (n + 1) c' (looseStr (l ++ [(p, y)])) ∧ wx.grownBy wz (A.map (·.block)) ∧
      (A'.map (·.block) = A.map (·.block) ∨ A'.map (·.block) = some wx.heap.size) := by
  obtain ⟨i, i1, i2, i3, i4⟩ := info_parts write_str
  rw [looseStr_snoc]
  exact append_wide (t := 29) (ty := 29) 2 24 Try.underlying29 i1 i2 i3 i4 (by simp [Value.cells]) (by omega) hw ⟨h, 0, none⟩ 1 1 [.int .i64 (p : Int), .string (tx y)] rfl (fun j u hu => by
    rw [add_zero_block, hh.cell]
    simpa using hu) (by intro u hu; simp at hu; rcases hu with rfl | rfl <;> rfl) (by omega) (by omega)
/-- such a row, as one that is read -/
theorem wd_rowR {w : World} {e : TypeId} {size : Nat} {A : Option Addr} {n c : Nat} {xs : List Value} {R : Nat → Prop} (h : Wd w e size A n c xs) (hR : ∀ i, A.map (·.block) = some i → R i) : RowR w R A xs := fun k v hv => by
  have hn : 0 < n := by
    rcases Nat.eq_zero_or_pos n with q | q
    · subst q
      have e : xs = [] := List.eq_nil_of_length_eq_zero (by have := h.len; omega)
      rw [e] at hv
      simp at hv
    · exact q
  obtain ⟨g, cur, rfl, hg, _⟩ := h.form hn
  refine ⟨_, rfl, hR g rfl, heap_lt hg, ?_⟩
  rw [add_zero_block]
  exact h.cell rfl hv
/-- behind two appends to new blocks nothing old has turned -/
theorem grown_below {B : Nat} {W wx wz : World} {row : Option Nat} (hb : Below B W wx) (hg : wx.grownBy wz row) (hr : ∀ i, row = some i → B ≤ i) (hs : B ≤ wx.heap.size) : Below B W wz :=
  hb.trans ⟨hg.os, hg.tape, hg.output, hg.size, fun i hi => hg.block i (by omega) (fun e => by have := hr i e.symm; omega)⟩
/-- a loose write's bytes overwritten, or left -/
def spf (p a : Nat) (b : Pg) (x : Nat × Pg) : Nat × Pg := if x.1 = p then (x.1, splice x.2 a b) else x
def spUp (p a : Nat) (b : Pg) (l : List (Nat × Pg)) (k : Nat) : List (Nat × Pg) := (l.take k).map (spf p a b) ++ l.drop k
theorem spUp_len (p a : Nat) (b : Pg) (l : List (Nat × Pg)) (k : Nat) : (spUp p a b l k).length = l.length := by simp [spUp]; omega
theorem spUp_at {p a : Nat} {b : Pg} {l : List (Nat × Pg)} {k : Nat} {x : Nat × Pg} (hx : l[k]? = some x) : (spUp p a b l k)[k]? = some x := by
  have hk : k < l.length := (List.getElem?_eq_some_iff.1 hx).1
  rw [spUp, List.getElem?_append_right (by simp; omega), List.getElem?_drop]
  simpa [show k + (k - min k l.length) = k by omega] using hx
theorem spUp_succ {p a : Nat} {b : Pg} {l : List (Nat × Pg)} {k : Nat} {x : Nat × Pg} (hx : l[k]? = some x) : spUp p a b l (k + 1) = (spUp p a b l k).set k (spf p a b x) := by
  have hk : k < l.length := (List.getElem?_eq_some_iff.1 hx).1
  have hd : l.drop k = x :: l.drop (k + 1) := by
    rw [List.drop_eq_getElem_cons hk, (List.getElem?_eq_some_iff.1 hx).2]
  unfold spUp
  rw [hd, List.set_append_right _ _ (by simp; omega), List.take_succ_eq_append_getElem hk, (List.getElem?_eq_some_iff.1 hx).2]
  simp [show k - min k l.length = 0 by omega]
theorem spUp_same {p a : Nat} {b : Pg} {l : List (Nat × Pg)} {k : Nat} {x : Nat × Pg} (hx : l[k]? = some x) (hp : x.1 ≠ p) : spUp p a b l (k + 1) = spUp p a b l k := by
  have := spUp_at (p := p) (a := a) (b := b) hx
  rw [spUp_succ hx, spf, if_neg hp]
  apply List.ext_getElem?
  intro j
  rw [List.getElem?_set]
  by_cases e : k = j
  · subst e
    rw [if_pos rfl, if_pos (List.getElem?_eq_some_iff.1 this).1, this]
  · rw [if_neg e]
theorem looseStr_set (l : List (Nat × Pg)) (k p : Nat) (y y' : Pg) (hx : l[k]? = some (p, y)) : (looseStr l).set (k * 2 + 1) (.string (tx y')) = looseStr (l.set k (p, y')) := by
  have hs := flat_splice 2 _ (looseStr_each l) k 1 [Value.int .i64 (p : Int), Value.string (tx y)] [.string (tx y')] (by simp [hx]) (by simp)
  have hlen : k * 2 + 1 < (looseStr l).length := by rw [looseStr_len]; have := (List.getElem?_eq_some_iff.1 hx).1; omega
  have e : splice (looseStr l) (k * 2 + 1) [.string (tx y')] = (looseStr l).set (k * 2 + 1) (.string (tx y')) := by
    rw [List.set_eq_take_append_cons_drop, if_pos hlen]
    simp [splice]
  rw [← e]
  unfold looseStr at hs ⊢
  rw [hs, List.map_set]
  rfl
/-- an append whose run is known, as one step of a region that draws its order, its slot named -/
theorem step_append_d {P : Program} {w : World} {ops : Array Oper} {o : Oper} {a : Act} {K : Act → World → Prop} {Q : Exit → Act → World → Prop} {E : Prop} {d : Tmp} (hg : o.guard = none) (hd : o.dst = some d) (s x : Operand) (t u : TypeId)
    (hop : o.op = Op.call { callee := Callee.builtin Builtin.append, args := #[s, x], argTypes := #[t, u] }) {vs vx v : Value} {w' : World} (hs : a.eval s = vs) (hx : a.eval x = vx)
    (hrun : (Builtin.append_ #[t, u] o.type #[vs, vx]).run P w = .ok v w') (hK : K (a.put (some d) v) w') : if Region.wanted o (yielded ops a.tmps) = true then Oper.wp P o a w K Q else E :=
  step_append_run hg s x t u hop hs hx hrun (by rw [hd]; exact hK)
end Go.Proofs.Ytecdindjlfefhaa.DiskLoose
