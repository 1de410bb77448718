/- A leaf as a list of pairs: plain facts on what is put to it and dropped. -/
import Derived.Test.YtpcpfcllgadghaaNodePutDrop
import Derived.Test.YtpcpfcllgadghaaNodeSame
import Derived.Test.YtpcpfcllgadghaaNodeCopied
namespace Go.Proofs.Ytpcpfcllgadghaa.NodeLeaf
open Go.RowKit Base NodePlain NodeRead NodeSlice NodeCheck NodeBox NodePutDrop NodeSame NodeFind NodeCopied

abbrev Ps := List (ByteArray × ByteArray)
def ks (l : Ps) : List ByteArray := l.map (·.1)
def vs (l : Ps) : List ByteArray := l.map (·.2)
def lfn (l : Ps) : Nd := ⟨true, ks l, vs l, []⟩
def ins (k v : ByteArray) : Ps → Ps
  | [] => [(k, v)]
  | p :: l => if less p.1 k then p :: ins k v l else if p.1 = k then (k, v) :: l else (k, v) :: p :: l
def del (k : ByteArray) (l : Ps) : Ps := l.filter fun p => !decide (p.1 = k)
theorem ins_mem {k v : ByteArray} {q : ByteArray × ByteArray} : ∀ {l : Ps}, q ∈ ins k v l → q = (k, v) ∨ q ∈ l
  | [], h => by simp [ins] at h; exact .inl h
  | p :: l, h => by
    simp only [ins] at h
    split at h
    · rcases List.mem_cons.1 h with rfl | h
      · exact .inr (by simp)
      · rcases ins_mem h with h | h
        · exact .inl h
        · exact .inr (by simp [h])
    · split at h
      · rcases List.mem_cons.1 h with rfl | h
        · exact .inl rfl
        · exact .inr (by simp [h])
      · rcases List.mem_cons.1 h with rfl | h
        · exact .inl rfl
        · exact .inr h
theorem ins_len (k v : ByteArray) : ∀ l : Ps, (ins k v l).length ≤ l.length + 1
  | [] => by simp [ins]
  | p :: l => by
    simp only [ins]
    split
    · have := ins_len k v l; simp; omega
    · split <;> simp
theorem del_mem {k : ByteArray} {q : ByteArray × ByteArray} {l : Ps} (h : q ∈ del k l) : q ∈ l := (List.mem_filter.1 h).1
theorem up_cons {p : ByteArray × ByteArray} {l : Ps} : Up (ks (p :: l)) ↔ (∀ q ∈ l, less p.1 q.1 = true) ∧ Up (ks l) := by
  unfold Up ks
  rw [List.map_cons, List.pairwise_cons]
  constructor
  · rintro ⟨h1, h2⟩
    exact ⟨fun q hq => h1 _ (List.mem_map_of_mem hq), h2⟩
  · rintro ⟨h1, h2⟩
    refine ⟨fun a ha => ?_, h2⟩
    obtain ⟨q, hq, rfl⟩ := List.mem_map.1 ha
    exact h1 q hq
theorem up_ins (k v : ByteArray) : ∀ {l : Ps}, Up (ks l) → Up (ks (ins k v l))
  | [], _ => by simp [ins, ks, Up]
  | p :: l, h => by
    obtain ⟨h1, h2⟩ := up_cons.1 h
    simp only [ins]
    split
    · rename_i hlt
      refine up_cons.2 ⟨fun q hq => ?_, up_ins k v h2⟩
      rcases ins_mem hq with rfl | hq
      · exact hlt
      · exact h1 q hq
    · rename_i hlt
      split
      · rename_i he
        subst he
        exact up_cons.2 ⟨h1, h2⟩
      · rename_i hne
        have hk : less k p.1 = true := by
          rcases less_cases p.1 k with ⟨q, _⟩ | ⟨q, _⟩ | ⟨q, _⟩
          · exact absurd q hlt
          · exact absurd q hne
          · exact q
        refine up_cons.2 ⟨fun q hq => ?_, h⟩
        rcases List.mem_cons.1 hq with rfl | hq
        · exact hk
        · exact less_trans hk (h1 q hq)
theorem up_del (k : ByteArray) {l : Ps} (h : Up (ks l)) : Up (ks (del k l)) := List.Pairwise.sublist (List.filter_sublist.map _) h
theorem del_comm (a b : ByteArray) (l : Ps) : del a (del b l) = del b (del a l) := by
  unfold del
  rw [List.filter_filter, List.filter_filter]
  congr 1
  funext p
  exact Bool.and_comm _ _
theorem ins_comm {a b : ByteArray} (x y : ByteArray) (hab : a ≠ b) : ∀ l : Ps, ins a x (ins b y l) = ins b y (ins a x l)
  | [] => by
    rcases less_cases a b with ⟨h1, h2, h3⟩ | ⟨h1, _⟩ | ⟨h1, h2, h3⟩
    · simp [ins, h1, h2, h3.symm]
    · exact absurd h1 hab
    · simp [ins, h1, h2, hab]
  | p :: l => by
    have ih := ins_comm x y hab l
    obtain ⟨c, z⟩ := p
    rcases less_cases c a with ⟨p1, p2, p3⟩ | ⟨p1, p2, p3⟩ | ⟨p1, p2, p3⟩ <;> rcases less_cases c b with ⟨q1, q2, q3⟩ | ⟨q1, q2, q3⟩ | ⟨q1, q2, q3⟩
    · simp [ins, p1, q1, ih]
    · subst q1
      simp [ins, p1, q2]
    · have h1 := less_trans q1 p1
      simp [ins, p1, q2, q3, h1]
    · subst p1
      simp [ins, q1, p2]
    · subst p1; exact absurd q1 hab
    · subst p1
      simp [ins, p2, q1, q2, q3]
    · have h1 := less_trans p1 q1
      simp [ins, q1, p2, p3, h1]
    · subst q1
      simp [ins, p1, p2, p3, q2]
    · rcases less_cases a b with ⟨h1, h2, h3⟩ | ⟨h1, _⟩ | ⟨h1, h2, h3⟩
      · simp [ins, p2, p3, q2, q3, h1, h2, h3.symm]
      · exact absurd h1 hab
      · simp [ins, p2, p3, q2, q3, h1, h2, hab]
theorem ins_idem (a x : ByteArray) : ∀ l : Ps, ins a x (ins a x l) = ins a x l
  | [] => by simp [ins, less_irrefl]
  | p :: l => by
    obtain ⟨c, z⟩ := p
    rcases less_cases c a with ⟨p1, p2, p3⟩ | ⟨p1, p2, p3⟩ | ⟨p1, p2, p3⟩
    · simp [ins, p1, ins_idem a x l]
    · subst p1; simp [ins, p2]
    · simp [ins, p2, p3, less_irrefl]
theorem has_cons (a k : ByteArray) (l : List ByteArray) : has (a :: l) k = (decide (a = k) || has l k) := by simp [has]
theorem has_no {k : ByteArray} {l : Ps} (h : ∀ q ∈ l, less k q.1 = true) : has (ks l) k = false := by
  rw [Bool.eq_false_iff]
  intro hh
  obtain ⟨q, hq, e⟩ := List.mem_map.1 ((has_mem _ _).1 hh)
  have := h q hq
  rw [e, less_irrefl] at this
  cases this
theorem ins_at (k v : ByteArray) : ∀ {l : Ps}, Up (ks l) → ins k v l = l.take (pos (ks l) k) ++ ([(k, v)] ++ l.drop (pos (ks l) k + if has (ks l) k then 1 else 0))
  | [], _ => by simp [ins, ks, has, pos]
  | p :: l, h => by
    obtain ⟨h1, h2⟩ := up_cons.1 h
    have ih := ins_at k v h2
    obtain ⟨c, z⟩ := p
    rcases less_cases c k with ⟨p1, p2, p3⟩ | ⟨p1, p2, p3⟩ | ⟨p1, p2, p3⟩
    · have e1 : pos (ks ((c, z) :: l)) k = pos (ks l) k + 1 := by simp [ks, pos, p1]
      have e2 : has (ks ((c, z) :: l)) k = has (ks l) k := by show has (c :: ks l) k = _; rw [has_cons]; simp [p3]
      rw [e1, e2, Nat.add_right_comm, List.take_succ_cons, List.drop_succ_cons]
      simp only [ins, p1, if_true]
      rw [ih]
      rfl
    · subst p1
      have e1 : pos (ks ((c, z) :: l)) c = 0 := by simp [ks, pos, p2]
      have e2 : has (ks ((c, z) :: l)) c = true := by show has (c :: ks l) c = _; rw [has_cons]; simp
      rw [e1, e2]
      simp [ins, p2]
    · have e1 : pos (ks ((c, z) :: l)) k = 0 := by simp [ks, pos, p2]
      have e2 : has (ks ((c, z) :: l)) k = false := has_no fun q hq => by
        rcases List.mem_cons.1 hq with rfl | hq
        · exact p1
        · exact less_trans p1 (h1 q hq)
      rw [e1, e2]
      simp [ins, p2, p3]
theorem del_no {k : ByteArray} {l : Ps} (h : has (ks l) k = false) : del k l = l := by
  unfold del
  rw [List.filter_eq_self]
  intro p hp
  simp only [Bool.not_eq_eq_eq_not, Bool.not_true, decide_eq_false_iff_not]
  rintro rfl
  have := (has_mem (ks l) p.1).2 (List.mem_map_of_mem hp)
  rw [h] at this
  cases this
theorem del_at (k : ByteArray) : ∀ {l : Ps}, Up (ks l) → has (ks l) k = true → del k l = l.take (pos (ks l) k) ++ ([] ++ l.drop (pos (ks l) k + 1))
  | [], _, h => by simp [has, ks] at h
  | p :: l, h, hh => by
    obtain ⟨h1, h2⟩ := up_cons.1 h
    obtain ⟨c, z⟩ := p
    rcases less_cases c k with ⟨p1, p2, p3⟩ | ⟨p1, p2, p3⟩ | ⟨p1, p2, p3⟩
    · have e1 : pos (ks ((c, z) :: l)) k = pos (ks l) k + 1 := by simp [ks, pos, p1]
      have e2 : has (ks ((c, z) :: l)) k = has (ks l) k := by show has (c :: ks l) k = _; rw [has_cons]; simp [p3]
      rw [e2] at hh
      have ih := del_at k h2 hh
      rw [e1, List.take_succ_cons, List.drop_succ_cons, List.cons_append, ← ih]
      simp [del, p3]
    · subst p1
      have e1 : pos (ks ((c, z) :: l)) c = 0 := by simp [ks, pos, p2]
      rw [e1]
      have e3 : del c l = l := del_no (has_no fun q hq => h1 q hq)
      have e4 : del c ((c, z) :: l) = del c l := by simp [del]
      rw [e4, e3]
      rfl
    · have e2 : has (ks ((c, z) :: l)) k = false := has_no fun q hq => by
        rcases List.mem_cons.1 hq with rfl | hq
        · exact p1
        · exact less_trans p1 (h1 q hq)
      rw [e2] at hh
      cases hh
/-- a leaf's pairs, and that it is not too great -/
structure Lf (c : Nat) (l : Ps) : Prop where
  len : l.length ≤ c
  up : Up (ks l)
  sz : ∀ p ∈ l, p.1.size ≤ 300 ∧ p.2.size ≤ 300
theorem Lf.ins {c : Nat} {l : Ps} (h : Lf c l) {k v : ByteArray} (hk : k.size ≤ 300) (hv : v.size ≤ 300) : Lf (c + 1) (ins k v l) :=
  ⟨by have := ins_len k v l; have := h.len; omega, up_ins k v h.up, fun p hp => by
    rcases ins_mem hp with rfl | hp
    · exact ⟨hk, hv⟩
    · exact h.sz p hp⟩
theorem Lf.del {c : Nat} {l : Ps} (h : Lf c l) (k : ByteArray) : Lf c (del k l) := ⟨Nat.le_trans (List.length_filter_le _ _) h.len, up_del k h.up, fun p hp => h.sz p (del_mem hp)⟩
theorem Lf.small {c : Nat} {l : Ps} (h : Lf c l) (hc : c ≤ 1000) : Small (lfn l) :=
  ⟨by have := h.len; simp [lfn, ks]; omega, by have := h.len; simp [lfn, vs]; omega, by simp [lfn], fun q hq => by
    obtain ⟨p, hp, rfl⟩ := List.mem_map.1 hq
    have := (h.sz p hp).1
    omega, fun q hq => by
    obtain ⟨p, hp, rfl⟩ := List.mem_map.1 hq
    have := (h.sz p hp).2
    omega⟩
/-- a leaf that may be, as pairs -/
theorem leaf_pairs {n : Nd} (ho : Ok n) (hl : n.leaf = true) (hf : Few n) : ∃ l, n = lfn l ∧ Lf 100 l := by
  have h := ho.2.1
  rw [hl] at h
  simp only [if_true] at h
  have e1 : ks (n.keys.zip n.vals) = n.keys := by unfold ks; exact List.map_fst_zip (by omega)
  have e2 : vs (n.keys.zip n.vals) = n.vals := by unfold vs; exact List.map_snd_zip (by omega)
  refine ⟨n.keys.zip n.vals, nd_ext hl e1.symm e2.symm h.2, ?_, by rw [e1]; exact ho.2.2.2, ?_⟩
  · rw [List.length_zip]; have := hf.1; omega
  · intro p hp
    have h1 : p.1 ∈ n.keys := by rw [← e1]; exact List.mem_map_of_mem hp
    have h2 : p.2 ∈ n.vals := by rw [← e2]; exact List.mem_map_of_mem hp
    exact ⟨hf.2.2.2.1 _ h1, hf.2.2.2.2 _ h2⟩
/-- a leaf's value -/
def Lv (l : Ps) (v : Value) (w : World) : Prop := ∃ (m : Nd) (h : Hd), v = nv m h ∧ m = lfn l ∧ Lay w m h
theorem Lv.below {l : Ps} {v : Value} {w w' : World} (h : Lv l v w) (hb : Below w.heap.size w w') : Lv l v w' := by
  obtain ⟨m, h, h1, h2, h3⟩ := h
  exact ⟨m, h, h1, h2, h3.below hb⟩
theorem lv_of {l : Ps} {m : Nd} {v : Value} {w : World} (h : Nv m v w) (e : m = lfn l) : Lv l v w := by
  obtain ⟨h, h1, h2⟩ := h
  exact ⟨m, h, h1, e, h2⟩
theorem put_lf (W : World) (l : Ps) (n : Nd) (h : Hd) (key value : ByteArray) (hn : n = lfn l) {c : Nat} (hf : Lf c l) (hc : c ≤ 1000) (hl : Lay W n h) :
    Calls Try.prog 26 #[nv n h, .string key, .string value] W fun e w' => ∃ v, e = .returned v ∧ Lv (ins key value l) v w' ∧ Below W.heap.size W w' := by
  have hs : Small n := by rw [hn]; exact hf.small hc
  have hlf : n.leaf = true := by rw [hn]; rfl
  have hk : n.keys = ks l := by rw [hn]; rfl
  have hv : n.vals = vs l := by rw [hn]; rfl
  have hu : Up n.keys := by rw [hk]; exact hf.up
  have hat : at_ n key = pos (ks l) key := by rw [← hk]; simp [at_, hlf]
  have hi := ins_at key value hf.up
  cases hh : has n.keys key with
  | true =>
    refine (put_true W n h key value hl hs hu hlf hh (at_ n key + 1) rfl).mono ?_
    rintro e w' ⟨v, rfl, hv', hb⟩
    refine ⟨v, rfl, lv_of hv' ?_, hb⟩
    rw [hk] at hh
    rw [hh, if_pos rfl] at hi
    rw [hi]
    unfold putP lfn ks vs
    rw [hat, hk, hv]
    simp [ks, vs, List.map_take, List.map_drop]
  | false =>
    refine (put_false W n h key value hl hs hu hlf hh (at_ n key) rfl).mono ?_
    rintro e w' ⟨v, rfl, hv', hb⟩
    refine ⟨v, rfl, lv_of hv' ?_, hb⟩
    rw [hk] at hh
    rw [hh] at hi
    simp only [Bool.false_eq_true, if_false, Nat.add_zero] at hi
    rw [hi]
    unfold putP lfn ks vs
    rw [hat, hk, hv]
    simp [ks, vs, List.map_take, List.map_drop]
set_option maxRecDepth 100000 in
set_option maxHeartbeats 3200000 in
theorem drop_no (W : World) (n : Nd) (h : Hd) (key : ByteArray) (hl : Lay W n h) (hs : Small n) (hu : Up n.keys) (hhas : has n.keys key = false) (hleaf : n.leaf = true) :
    Calls Try.prog 28 #[nv n h, .string key] W fun e w' => ∃ v, e = .returned v ∧ Nv n v w' ∧ Below W.heap.size W w' := by
  have HSM := Lib.hid hs
  have hb1 := box_below W n h
  have hbx := bx_new W n h
  have b2 := al (box W n h) (.cells #[.bool false, .slice none 0 0, .slice none 0 0, .slice none 0 0] 25)
  have hat := at_new (box W n h) #[.bool false, .slice none 0 0, .slice none 0 0, .slice none 0 0] 25
  have hsz : (box W n h).heap.size = W.heap.size + 1 := by simp
  rw [hsz] at hat
  have hbx2 := hbx.below b2
  have hl2 := (hl.below hb1).below b2
  have hB2 := Below.step hb1 b2
  obtain ⟨w2, hw2⟩ : ∃ v, v = (box W n h).alloc (.cells #[.bool false, .slice none 0 0, .slice none 0 0, .slice none 0 0] 25) := ⟨_, rfl⟩
  rw [← hw2] at hat hbx2 hl2 hB2
  unfold box at hw2
  rw [hleaf] at hw2
  have HW2 := Lib.hid hw2
  have HLF := Lib.hid hleaf
  have hfi := find_any w2 n h key hl2 hu (by have := hs.k; omega)
  unfold nv at hfi
  rw [hleaf] at hfi
  rw [hhas] at hfi
  have HJ := Lib.hid (fun w' (hb : Below w2.heap.size w2 w') => show Bx w' W.heap.size n h ∧ Lay w' n h ∧ At w' (W.heap.size + 1) 25 #[.bool false, .slice none 0 0, .slice none 0 0, .slice none 0 0] ∧ Below W.heap.size W w' from ⟨hbx2.below hb, hl2.below hb, hat.below hb, bstep hB2 hB2.size hb⟩)
  clear hw2 hat hl2 hB2 hb1 hbx b2 hsz hs hl hu hbx2 hhas
  generalize at_ n key = a at *
  go_enter Try.func28, Try.ntmps28
  go_wp2_with fail
  rw [← HW2.out]
  clear HW2
  refine hfi.mono ?_
  rintro e' w3 ⟨rfl, b3⟩
  obtain ⟨hbx2, hl2, hat, hB2⟩ := HJ.out w3 b3
  clear hfi HJ b3
  obtain ⟨c0, c1, c2, c3, _⟩ := hbx2
  rw [hleaf] at c0
  have hc := copied_o w3 n h hl2 HSM.out
  unfold nv at hc
  rw [hleaf] at hc
  clear hleaf
  go_wp2_with fail
  refine hc.mono ?_
  rintro e' w4 ⟨v, rfl, hv, hb4⟩
  clear hc c0 c1 c2 c3
  have at4 := hat.below hb4
  have hb5 := bstep hB2 hB2.size hb4
  have hv9 := hv.low (lo' := W.heap.size + 2) (heap_lt hat)
  obtain ⟨x, y, z, rfl, fa, fb, fc⟩ := hv
  obtain ⟨A1, m1, k1, rfl⟩ := fa.form
  obtain ⟨A2, m2, k2, rfl⟩ := fb.form
  obtain ⟨A3, m3, k3, rfl⟩ := fc.form
  clear fa fb fc hat hB2 hb4
  rw [HLF.out] at hv9 ⊢
  obtain ⟨z0, z1, z2, z3, y0, y1, y2, y3⟩ := at4.f4
  have HV := Lib.hid (hv9.st4 (g := W.heap.size + 1) (a := .bool true) (b := .slice A1 m1 k1) (c := .slice A2 m2 k2) (d := .slice A3 m3 k3) (by omega)).nv
  have HA := Lib.hid (set4 at4 (.bool true) (.slice A1 m1 k1) (.slice A2 m2 k2) (.slice A3 m3 k3))
  have HB := Lib.hid (below4 hb5 (show W.heap.size ≤ W.heap.size + 1 by omega) (.bool true) (.slice A1 m1 k1) (.slice A2 m2 k2) (.slice A3 m3 k3))
  clear hv9 at4 hb5
  go_wp2_with fail
  refine bodyPost_ret (results_cell_row rfl _ _ (W.heap.size + 1) 25 _ (0, 0) _ rfl HA.out Try.underlying25 rfl (by kernel_rfl)) rfl ?_
  exact ⟨_, rfl, HV.out, HB.out⟩
set_option maxRecDepth 100000 in
set_option maxHeartbeats 3200000 in
theorem drop_br (W : World) (n : Nd) (h : Hd) (key : ByteArray) (hl : Lay W n h) (hs : Small n) (hu : Up n.keys) (hleaf : n.leaf = false) :
    Calls Try.prog 28 #[nv n h, .string key] W fun e w' => ∃ v, e = .returned v ∧ Nv n v w' ∧ Below W.heap.size W w' := by
  have HSM := Lib.hid hs
  have hb1 := box_below W n h
  have hbx := bx_new W n h
  have b2 := al (box W n h) (.cells #[.bool false, .slice none 0 0, .slice none 0 0, .slice none 0 0] 25)
  have hat := at_new (box W n h) #[.bool false, .slice none 0 0, .slice none 0 0, .slice none 0 0] 25
  have hsz : (box W n h).heap.size = W.heap.size + 1 := by simp
  rw [hsz] at hat
  have hbx2 := hbx.below b2
  have hl2 := (hl.below hb1).below b2
  have hB2 := Below.step hb1 b2
  obtain ⟨w2, hw2⟩ : ∃ v, v = (box W n h).alloc (.cells #[.bool false, .slice none 0 0, .slice none 0 0, .slice none 0 0] 25) := ⟨_, rfl⟩
  rw [← hw2] at hat hbx2 hl2 hB2
  unfold box at hw2
  rw [hleaf] at hw2
  have HW2 := Lib.hid hw2
  have HLF := Lib.hid hleaf
  have hfi := find_any w2 n h key hl2 hu (by have := hs.k; omega)
  unfold nv at hfi
  rw [hleaf] at hfi
  have HJ := Lib.hid (fun w' (hb : Below w2.heap.size w2 w') => show Bx w' W.heap.size n h ∧ Lay w' n h ∧ At w' (W.heap.size + 1) 25 #[.bool false, .slice none 0 0, .slice none 0 0, .slice none 0 0] ∧ Below W.heap.size W w' from ⟨hbx2.below hb, hl2.below hb, hat.below hb, bstep hB2 hB2.size hb⟩)
  clear hw2 hat hl2 hB2 hb1 hbx b2 hsz hs hl hu hbx2
  generalize at_ n key = a at *
  go_enter Try.func28, Try.ntmps28
  go_wp2_with fail
  rw [← HW2.out]
  clear HW2
  refine hfi.mono ?_
  rintro e' w3 ⟨rfl, b3⟩
  obtain ⟨hbx2, hl2, hat, hB2⟩ := HJ.out w3 b3
  clear hfi HJ b3
  obtain ⟨c0, c1, c2, c3, _⟩ := hbx2
  rw [hleaf] at c0
  have hc := copied_o w3 n h hl2 HSM.out
  unfold nv at hc
  rw [hleaf] at hc
  clear hleaf
  go_wp2_with fail
  refine hc.mono ?_
  rintro e' w4 ⟨v, rfl, hv, hb4⟩
  clear hc c0 c1 c2 c3
  have at4 := hat.below hb4
  have hb5 := bstep hB2 hB2.size hb4
  have hv9 := hv.low (lo' := W.heap.size + 2) (heap_lt hat)
  obtain ⟨x, y, z, rfl, fa, fb, fc⟩ := hv
  obtain ⟨A1, m1, k1, rfl⟩ := fa.form
  obtain ⟨A2, m2, k2, rfl⟩ := fb.form
  obtain ⟨A3, m3, k3, rfl⟩ := fc.form
  clear fa fb fc hat hB2 hb4
  rw [HLF.out] at hv9 ⊢
  obtain ⟨z0, z1, z2, z3, y0, y1, y2, y3⟩ := at4.f4
  have HV := Lib.hid (hv9.st4 (g := W.heap.size + 1) (a := .bool false) (b := .slice A1 m1 k1) (c := .slice A2 m2 k2) (d := .slice A3 m3 k3) (by omega)).nv
  have HA := Lib.hid (set4 at4 (.bool false) (.slice A1 m1 k1) (.slice A2 m2 k2) (.slice A3 m3 k3))
  have HB := Lib.hid (below4 hb5 (show W.heap.size ≤ W.heap.size + 1 by omega) (.bool false) (.slice A1 m1 k1) (.slice A2 m2 k2) (.slice A3 m3 k3))
  clear hv9 at4 hb5
  go_wp2_with fail
  refine bodyPost_ret (results_cell_row rfl _ _ (W.heap.size + 1) 25 _ (0, 0) _ rfl HA.out Try.underlying25 rfl (by kernel_rfl)) rfl ?_
  exact ⟨_, rfl, HV.out, HB.out⟩
set_option maxRecDepth 100000 in
set_option maxHeartbeats 3200000 in
theorem put_br (W : World) (n : Nd) (h : Hd) (key value : ByteArray) (hl : Lay W n h) (hs : Small n) (hleaf : n.leaf = false) :
    Calls Try.prog 26 #[nv n h, .string key, .string value] W fun e w' => ∃ v, e = .returned v ∧ Nv n v w' ∧ Below W.heap.size W w' := by
  have HSM := Lib.hid hs
  have hb1 := box_below W n h
  have hbx := bx_new W n h
  have b2 := al (box W n h) (.cells #[.bool false, .slice none 0 0, .slice none 0 0, .slice none 0 0] 25)
  have hat := at_new (box W n h) #[.bool false, .slice none 0 0, .slice none 0 0, .slice none 0 0] 25
  have hsz : (box W n h).heap.size = W.heap.size + 1 := by simp
  rw [hsz] at hat
  have hbx2 := hbx.below b2
  have hl2 := (hl.below hb1).below b2
  have hB2 := Below.step hb1 b2
  obtain ⟨w2, hw2⟩ : ∃ v, v = (box W n h).alloc (.cells #[.bool false, .slice none 0 0, .slice none 0 0, .slice none 0 0] 25) := ⟨_, rfl⟩
  rw [← hw2] at hat hbx2 hl2 hB2
  unfold box at hw2
  rw [hleaf] at hw2
  have HW2 := Lib.hid hw2
  have HLF := Lib.hid hleaf
  have hc := copied_o w2 n h hl2 HSM.out
  unfold nv at hc
  rw [hleaf] at hc
  obtain ⟨c0, c1, c2, c3, _⟩ := hbx2
  rw [hleaf] at c0
  rw [hw2] at hc c0 c1 c2 c3
  clear hw2 hl2 hb1 hbx b2 hsz hs hl
  go_enter Try.func26, Try.ntmps26
  go_wp2_with fail
  refine hc.mono ?_
  rintro e' w4 ⟨v, rfl, hv, hb4⟩
  clear hc c0 c1 c2 c3
  rw [← HW2.out] at hb4 hv
  clear HW2 hleaf
  have at4 := hat.below hb4
  have hb5 := bstep hB2 hB2.size hb4
  have hv9 := hv.low (lo' := W.heap.size + 2) (heap_lt hat)
  obtain ⟨x, y, z, rfl, fa, fb, fc⟩ := hv
  obtain ⟨A1, m1, k1, rfl⟩ := fa.form
  obtain ⟨A2, m2, k2, rfl⟩ := fb.form
  obtain ⟨A3, m3, k3, rfl⟩ := fc.form
  clear fa fb fc hat hB2 hb4
  rw [HLF.out] at hv9 ⊢
  obtain ⟨z0, z1, z2, z3, y0, y1, y2, y3⟩ := at4.f4
  have HV := Lib.hid (hv9.st4 (g := W.heap.size + 1) (a := .bool false) (b := .slice A1 m1 k1) (c := .slice A2 m2 k2) (d := .slice A3 m3 k3) (by omega)).nv
  have HA := Lib.hid (set4 at4 (.bool false) (.slice A1 m1 k1) (.slice A2 m2 k2) (.slice A3 m3 k3))
  have HB := Lib.hid (below4 hb5 (show W.heap.size ≤ W.heap.size + 1 by omega) (.bool false) (.slice A1 m1 k1) (.slice A2 m2 k2) (.slice A3 m3 k3))
  clear hv9 at4 hb5
  go_wp2_with fail
  refine bodyPost_ret (results_cell_row rfl _ _ (W.heap.size + 1) 25 _ (0, 0) _ rfl HA.out Try.underlying25 rfl (by kernel_rfl)) rfl ?_
  exact ⟨_, rfl, HV.out, HB.out⟩
theorem drop_lf (W : World) (l : Ps) (n : Nd) (h : Hd) (key : ByteArray) (hn : n = lfn l) {c : Nat} (hf : Lf c l) (hc : c ≤ 1000) (hl : Lay W n h) :
    Calls Try.prog 28 #[nv n h, .string key] W fun e w' => ∃ v, e = .returned v ∧ Lv (del key l) v w' ∧ Below W.heap.size W w' := by
  have hs : Small n := by rw [hn]; exact hf.small hc
  have hlf : n.leaf = true := by rw [hn]; rfl
  have hk : n.keys = ks l := by rw [hn]; rfl
  have hv : n.vals = vs l := by rw [hn]; rfl
  have hu : Up n.keys := by rw [hk]; exact hf.up
  have hat : at_ n key = pos (ks l) key := by rw [← hk]; simp [at_, hlf]
  cases hh : has n.keys key with
  | true =>
    refine (drop_true W n h key hl hs hu hlf hh (at_ n key + 1) rfl).mono ?_
    rintro e w' ⟨v, rfl, hv', hb⟩
    refine ⟨v, rfl, lv_of hv' ?_, hb⟩
    rw [hk] at hh
    have hi := del_at key hf.up hh
    rw [hi]
    unfold dropP lfn ks vs
    rw [hat, hk, hv]
    simp [ks, vs, List.map_take, List.map_drop]
  | false =>
    refine (drop_no W n h key hl hs hlf (hu := hu) (hhas := hh)).mono ?_
    rintro e w' ⟨v, rfl, hv', hb⟩
    refine ⟨v, rfl, lv_of hv' ?_, hb⟩
    rw [hk] at hh
    rw [del_no hh]
    exact hn
end Go.Proofs.Ytpcpfcllgadghaa.NodeLeaf
