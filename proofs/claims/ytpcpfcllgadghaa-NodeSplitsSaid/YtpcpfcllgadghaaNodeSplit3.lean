/- The contract of Split of fewer keys than two; plain facts on halves. -/
import Derived.Test.YtpcpfcllgadghaaNodeSplit2
import Derived.Test.YtpcpfcllgadghaaNodeCopied
import Derived.Test.YtpcpfcllgadghaaNodeSame
namespace Go.Proofs.Ytpcpfcllgadghaa.NodeSplit3
open Go.RowKit Base NodePlain NodeRead NodeSlice NodeCheck NodeBox NodePut NodeSplit NodeCopied NodeSame

theorem long_sub {a b : List ByteArray} (h : ∀ x ∈ a, x ∈ b) : Long a → Long b := fun ⟨t, ht, hz⟩ => ⟨t, h t ht, hz⟩
theorem ok_part {n m : Nd} (h : Ok n) (hk : ∀ x ∈ m.keys, x ∈ n.keys) (hv : ∀ x ∈ m.vals, x ∈ n.vals) (hd : ∀ x ∈ m.kids, x ∈ n.kids) (hu : Up m.keys) (hf : if m.leaf then m.vals.length = m.keys.length ∧ m.kids = [] else m.kids.length = m.keys.length + 1 ∧ m.vals = []) : Ok m :=
  ⟨fun q => h.1 (q.imp (long_sub hk) (long_sub hv)), hf, fun k q => h.2.2.1 k (hd k q), hu⟩
theorem ok_lt {n : Nd} (h : Ok n) (hl : n.leaf = true) (k : Nat) : Ok ⟨true, n.keys.take k, n.vals.take k, []⟩ := by
  have hf := h.2.1
  rw [hl] at hf
  exact ok_part h (fun x => List.mem_of_mem_take) (fun x => List.mem_of_mem_take) (fun x q => by cases q) (h.2.2.2.take k) (by simp only [if_true] at hf ⊢; simp [hf.1])
theorem ok_ld {n : Nd} (h : Ok n) (hl : n.leaf = true) (k : Nat) : Ok ⟨true, n.keys.drop k, n.vals.drop k, []⟩ := by
  have hf := h.2.1
  rw [hl] at hf
  exact ok_part h (fun x => List.mem_of_mem_drop) (fun x => List.mem_of_mem_drop) (fun x q => by cases q) (h.2.2.2.drop k) (by simp only [if_true] at hf ⊢; simp [hf.1])
theorem ok_bt {n : Nd} (h : Ok n) (hl : n.leaf = false) (k : Nat) (hk : k < n.keys.length) : Ok ⟨false, n.keys.take k, [], n.kids.take (k + 1)⟩ := by
  have hf := h.2.1
  rw [hl] at hf
  simp only [Bool.false_eq_true, if_false] at hf
  exact ok_part h (fun x => List.mem_of_mem_take) (fun x q => by cases q) (fun x => List.mem_of_mem_take) (h.2.2.2.take k) (by simp only [Bool.false_eq_true, if_false, List.length_take]; exact ⟨by omega, trivial⟩)
theorem ok_bd {n : Nd} (h : Ok n) (hl : n.leaf = false) (k : Nat) (hk : k < n.keys.length) : Ok ⟨false, n.keys.drop (k + 1), [], n.kids.drop (k + 1)⟩ := by
  have hf := h.2.1
  rw [hl] at hf
  simp only [Bool.false_eq_true, if_false] at hf
  exact ok_part h (fun x => List.mem_of_mem_drop) (fun x q => by cases q) (fun x => List.mem_of_mem_drop) (h.2.2.2.drop (k + 1)) (by simp only [Bool.false_eq_true, if_false, List.length_drop]; exact ⟨by omega, trivial⟩)
theorem small_part {n m : Nd} (h : Small n) (hk : m.keys.Sublist n.keys) (hv : m.vals.Sublist n.vals) (hd : m.kids.Sublist n.kids) : Small m :=
  ⟨Nat.le_trans hk.length_le h.k, Nat.le_trans hv.length_le h.v, Nat.le_trans hd.length_le h.d, fun q hq => h.ks q (hk.subset hq), fun q hq => h.vs q (hv.subset hq)⟩
theorem joined_l {n : Nd} (h : Ok n) (hl : n.leaf = true) (k : Nat) : (⟨true, n.keys.take k ++ n.keys.drop k, n.vals.take k ++ n.vals.drop k, []⟩ : Nd) = n := by
  have hf := h.2.1
  rw [hl] at hf
  exact nd_ext hl.symm (List.take_append_drop _ _) (List.take_append_drop _ _) (by simp only [if_true] at hf; exact hf.2.symm)
theorem joined_b {n : Nd} (h : Ok n) (hl : n.leaf = false) (k : Nat) (hk : k < n.keys.length) : (⟨false, n.keys.take k ++ n.keys[k] :: n.keys.drop (k + 1), [], n.kids.take (k + 1) ++ n.kids.drop (k + 1)⟩ : Nd) = n := by
  have hf := h.2.1
  rw [hl] at hf
  simp only [Bool.false_eq_true, if_false] at hf
  exact nd_ext hl.symm (by rw [← List.drop_eq_getElem_cons hk]; exact List.take_append_drop _ _) hf.2.symm (List.take_append_drop _ _)
abbrev zs : Array Value := #[.bool false, .slice none 0 0, .slice none 0 0, .slice none 0 0]
abbrev zn : Nd := ⟨true, [], [], []⟩
theorem lay_zn (w : World) : Lay w zn ⟨none, 0, none, 0, none, 0⟩ := ⟨Row.nil, Row.nil, Row.nil, Nat.le_refl _, Nat.le_refl _, Nat.le_refl _⟩

set_option maxRecDepth 100000 in
set_option maxHeartbeats 6400000 in
theorem split_few (W : World) (n : Nd) (h : Hd) (hl : Lay W n h) (hs : Small n) (h2 : n.keys.length < 2) :
    Calls Try.prog 31 #[nv n h] W fun e w' => ∃ va vb, e = .returned (.tuple #[va, .string ⟨#[]⟩, vb]) ∧ Nv n va w' ∧ Nv zn vb w' ∧ Below W.heap.size W w' := by
  have b1 := box_below W n h
  have b2 := al (box W n h) (.cells zs 25)
  have b3 := al ((box W n h).alloc (.cells zs 25)) (.cells zs 25)
  have bx := ((bx_new W n h).below b2).below b3
  have hl3 := ((hl.below b1).below b2).below b3
  have a2 := (at_new (box W n h) zs 25).below b3
  have a4 := at_new ((box W n h).alloc (.cells zs 25)) zs 25
  have hB := Below.step (Below.step b1 b2) b3
  have s1 : (box W n h).heap.size = W.heap.size + 1 := by simp
  have s2 : ((box W n h).alloc (.cells zs 25)).heap.size = W.heap.size + 1 + 1 := by simp
  rw [s1] at a2
  rw [s2] at a4
  have hc := copied_o _ n h hl3 hs
  obtain ⟨w3, hw3⟩ : ∃ v, v = ((box W n h).alloc (.cells zs 25)).alloc (.cells zs 25) := ⟨_, rfl⟩
  rw [← hw3] at bx hl3 a2 a4 hB hc
  unfold box at hw3
  have HW3 := Lib.hid hw3
  rw [hw3] at hc
  have h2i : ((n.keys.length : Int) < 2) := by omega
  clear hw3 b1 b2 b3 s1 s2 hl hs
  go_enter Try.func31, Try.ntmps31
  go_wp2_with fail
  refine hc.mono ?_
  rintro e v4 ⟨v, rfl, hv, hb4⟩
  clear hc
  rw [← HW3.out] at hb4 hv
  clear HW3 h2i
  have hv9 := hv.low (lo' := W.heap.size + 3) (heap_lt a4)
  obtain ⟨x, y, z, rfl, fa, fb, fc⟩ := hv
  obtain ⟨A1, m1, k1, rfl⟩ := fa.form
  obtain ⟨A2, m2, k2, rfl⟩ := fb.form
  obtain ⟨A3, m3, k3, rfl⟩ := fc.form
  clear fa fb fc
  have a2 := a2.below hb4
  have a4 := a4.below hb4
  have hB4 := bstep hB hB.size hb4
  obtain ⟨x0, x1, x2, x3, y0, y1, y2, y3⟩ := a2.f4
  have hA2 := set4 a2 (.bool n.leaf) (.slice A1 m1 k1) (.slice A2 m2 k2) (.slice A3 m3 k3)
  have hA4 := at_far4 (g := W.heap.size + 1) (a := .bool n.leaf) (b := .slice A1 m1 k1) (c := .slice A2 m2 k2) (d := .slice A3 m3 k3) a4 (by omega)
  have hV := hv9.st4 (g := W.heap.size + 1) (a := .bool n.leaf) (b := .slice A1 m1 k1) (c := .slice A2 m2 k2) (d := .slice A3 m3 k3) (by omega)
  have hB5 := below4 hB4 (show W.heap.size ≤ W.heap.size + 1 by omega) (.bool n.leaf) (.slice A1 m1 k1) (.slice A2 m2 k2) (.slice A3 m3 k3)
  obtain ⟨u0, u1, u2, u3, q0, q1, q2, q3⟩ := a4.f4
  have HA2 := Lib.hid (at_far4 (g := W.heap.size + 1 + 1) (a := .bool true) (b := .slice none 0 0) (c := .slice none 0 0) (d := .slice none 0 0) hA2 (by omega))
  have HA4 := Lib.hid (set4 hA4 (.bool true) (.slice none 0 0) (.slice none 0 0) (.slice none 0 0))
  have HV := Lib.hid (hV.st4 (g := W.heap.size + 1 + 1) (a := .bool true) (b := .slice none 0 0) (c := .slice none 0 0) (d := .slice none 0 0) (by omega)).nv
  have HB := Lib.hid (below4 hB5 (show W.heap.size ≤ W.heap.size + 1 + 1 by omega) (.bool true) (.slice none 0 0) (.slice none 0 0) (.slice none 0 0))
  clear hV hv9 hA2 hA4 hB5 hB4 a2 a4 hb4 hB
  go_wp2_with fail
  refine bodyPost_ret (results_ctc rfl _ _ (W.heap.size + 1) (W.heap.size + 1 + 1) 25 25 _ _ (0, 0) (0, 0) _ rfl rfl HA2.out HA4.out Try.underlying25 rfl (by kernel_rfl) (by kernel_rfl)) rfl ?_
  exact ⟨_, _, rfl, HV.out, ⟨⟨none, 0, none, 0, none, 0⟩, rfl, lay_zn _⟩, HB.out⟩
end Go.Proofs.Ytpcpfcllgadghaa.NodeSplit3
