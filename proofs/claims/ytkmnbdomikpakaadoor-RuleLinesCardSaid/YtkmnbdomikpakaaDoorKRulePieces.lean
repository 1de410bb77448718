/- The code's pieces, readKind, readRule. -/
import Derived.Test.YtkmnbdomikpakaaDoorKRuleReadE
namespace Go.Proofs.YtkmnbdomikpakaaDoor.RulePieces
open Go.RowKit Base KeyPlain TuplePlain TupleRef RulePlain RuleMem RuleRec RuleAlike RuleCan RuleLex RuleGl RuleChkC RuleWord RuleWordC RuleParse RuleRow RuleCopied RuleReadE TurnB
open RuleFind (results_cell_tmp_row)

theorem pieces_any (s : ByteArray) (w : World) : Calls Tryd.prog 52 #[.string s] w fun e w' => e = .returned (.tuple #[passV w.heap.size, wordV w.heap.size]) ∧ RuleWord.Left w.heap.size s w' ∧ Below w.heap.size w w' := by
  obtain ⟨w1, hw1⟩ : ∃ v, v = w.alloc (.cells #[.string s] 9) := ⟨_, rfl⟩
  obtain ⟨b, hbe⟩ : ∃ v, v = w.heap.size := ⟨_, rfl⟩
  have hb1 : Below w.heap.size w w1 := by rw [hw1]; exact al _ _
  have a1 : w1.heap[b]? = some (.cells #[.string s] 9 (0, 0)) := by rw [hw1, hbe]; exact heap_alloc_new w _
  have HW := Lib.hid hw1
  have HBE := Lib.hid hbe
  have HR := Lib.hid (And.intro a1 hb1)
  clear hw1 hbe a1 hb1
  rw [← HBE.out]
  go_enter Tryd.func52, Tryd.ntmps52
  go_upto_region 1 with fail
  try rw [← HW.out]
  try rw [← HBE.out]
  clear HW
  go_wp2_with fail
  refine bodyPost_ret (results_tmp2 rfl _ _ _) rfl ?_
  exact ⟨rfl, HR.out.1, by rw [HBE.out] at *; exact HR.out.2⟩
theorem turn_below {w w1 w' : World} (hb : Below w.heap.size w w1) (hT : Turn (fun g => g = w1.heap.size) w1 w') : Below w.heap.size w w' := hT.belowOf hb hb.size fun k hk => by rw [hk]; exact hb.size
theorem off_new {w : World} (h : Gl w) : Off w.heap.size := ⟨fun e => by have := h.1.1; simp only at this; omega, fun e => by have := h.2.1; simp only at this; omega⟩
/-- what a kind's line tells -/
def KindPost (s : ByteArray) (w : World) (r : Ending) (w' : World) : Prop := ∃ n ok, r = .returned (.tuple #[.string n, .bool ok]) ∧ Below w.heap.size w w' ∧
  (ok = true → wordL (bl n) = true ∧ ∃ x, bl s = bl kKind ++ 32 :: (bl n ++ 10 :: x)) ∧ (ok = false → ∀ (m : ByteArray) (x : List UInt8), wordL (bl m) = true → bl s ≠ bl kKind ++ 32 :: (bl m ++ 10 :: x))
theorem stop10 (x : List UInt8) : Stop (10 :: x) := show wch 10 = false by decide
theorem kind_no {s : List UInt8} (h : [107, 105, 110, 100, 32].isPrefixOf s = false) (m x : List UInt8) : s ≠ bl kKind ++ 32 :: (m ++ 10 :: x) := fun e => by
  rw [e] at h
  have : (bl kKind ++ 32 :: (m ++ 10 :: x)) = [107, 105, 110, 100, 32] ++ (m ++ 10 :: x) := rfl
  rw [this] at h
  rw [List.isPrefixOf_iff_prefix.2 (List.prefix_append _ _)] at h
  cases h
theorem kind_end {s s1 s2 n : ByteArray} {p : Bool} (h1 : [107, 105, 110, 100, 32].isPrefixOf (bl s) = true) (hs1 : bl s1 = cut [107, 105, 110, 100, 32] (bl s)) (hn : bl n = (bl s1).takeWhile wch) (hs2 : bl s2 = (bl s1).dropWhile wch) (hp : [10].isPrefixOf (bl s2) = p) :
    ((!em n && p) = true → wordL (bl n) = true ∧ ∃ x, bl s = bl kKind ++ 32 :: (bl n ++ 10 :: x)) ∧ ((!em n && p) = false → ∀ (m : ByteArray) (x : List UInt8), wordL (bl m) = true → bl s ≠ bl kKind ++ 32 :: (bl m ++ 10 :: x)) := by
  have e1 := cut_hit h1
  rw [← hs1] at e1
  have e2 := split_word (bl s1)
  rw [← hn, ← hs2] at e2
  refine ⟨fun h => ?_, fun h m x hm e => ?_⟩
  · rw [Bool.and_eq_true, Bool.not_eq_true'] at h
    refine ⟨word_of (by rw [hn]; exact take_all _) h.1, cut [10] (bl s2), ?_⟩
    have e3 := cut_hit (p := [10]) (s := bl s2) (by rw [hp, h.2])
    rw [e1, ← e2]
    conv => lhs; rw [e3]
    rfl
  · have e4 : bl s1 = bl m ++ 10 :: x := by
      have : bl kKind ++ 32 :: (bl m ++ 10 :: x) = [107, 105, 110, 100, 32] ++ (bl m ++ 10 :: x) := rfl
      rw [this, e1] at e
      exact List.append_cancel_left e
    obtain ⟨t1, t2⟩ := take_of (word_all hm) (stop10 x)
    rw [e4, t1] at hn
    rw [e4, t2] at hs2
    have h1 : em n = false := by
      cases g : em n with
      | false => rfl
      | true => exact absurd (hn.symm.trans ((em_bl n).1 g)) (word_ne hm)
    rw [hs2] at hp
    have hp : p = true := by rw [← hp]; simp [List.isPrefixOf]
    rw [h1, hp] at h
    cases h
set_option maxRecDepth 100000 in
set_option maxHeartbeats 3200000 in
theorem readKind_any (s : ByteArray) (w : World) (hz : s.size ≤ 1000000000) : Calls Tryd.prog 26 #[.string s] w (KindPost s w) := by
  have hcall := pieces_any s w
  go_enter Tryd.func26, Tryd.ntmps26
  go_wp2_with fail
  (with_reducible refine hcall.mono ?_)
  clear hcall
  rintro e9 v1 ⟨rfl, hL1, hb1⟩
  have hcall := pass_any ⟨#[107, 105, 110, 100, 32]⟩ s _ v1 hL1
  go_wp2_with fail
  (with_reducible refine hcall.mono ?_)
  clear hcall hL1
  rintro e9 v2 ⟨rfl, ⟨s1, hs1, hL2⟩, hT2⟩
  have hB2 : Below w.heap.size w v2 := hT2.belowOf hb1 hb1.size fun k hk => Nat.le_of_eq hk.symm
  have hz1 : s1.size ≤ s.size := by rw [← bl_size s1, ← bl_size s, hs1]; exact cut_le _ _
  have hs1 : bl s1 = cut [107, 105, 110, 100, 32] (bl s) := hs1
  generalize hp : (bl ⟨#[107, 105, 110, 100, 32]⟩).isPrefixOf (bl s) = p
  have hp : [107, 105, 110, 100, 32].isPrefixOf (bl s) = p := hp
  clear hT2 hb1
  cases p with
  | false =>
    have HX := Lib.hid (fun (m : ByteArray) (x : List UInt8) (_ : wordL (bl m) = true) => kind_no hp (bl m) x)
    clear hp hs1 hL2
    go_wp2_with fail
    refine bodyPost_ret (results_tmp2 rfl _ _ _) rfl ?_
    exact ⟨_, _, rfl, hB2, fun e => by simp at e, fun _ => HX.out⟩
  | true =>
    have hcall := word_any s1 _ v2 hL2 (by omega)
    go_wp2_with fail
    (with_reducible refine hcall.mono ?_)
    clear hcall hL2
    rintro e9 v3 ⟨n, s2, rfl, hn, hs2, hL3, hT3⟩
    have hB3 : Below w.heap.size w v3 := hT3.belowOf hB2 hB2.size fun k hk => Nat.le_of_eq hk.symm
    have HK := Lib.hid (fun (p : Bool) (h : [10].isPrefixOf (bl s2) = p) => kind_end hp hs1 hn hs2 h)
    have hcall := pass_any ⟨#[10]⟩ s2 _ v3 hL3
    clear hs1 hp hn hs2 hT3 hL3 hB2
    by_cases he : em n = true
    · have hq : n.toList.isEmpty = true := by rw [em_is]; exact he
      have HE := Lib.hid he
      clear hcall he
      go_wp2_with fail
      refine bodyPost_ret (results_tmp2 rfl _ _ _) rfl ?_
      exact ⟨_, _, rfl, hB3, by have h := HK.out _ rfl; rw [HE.out] at h; exact h⟩
    · have he : em n = false := by simpa using he
      have hq : n.toList.isEmpty = false := by rw [em_is]; exact he
      have HE := Lib.hid he
      clear he
      go_wp2_with fail
      (with_reducible refine hcall.mono ?_)
      clear hcall
      rintro e9 v4 ⟨rfl, ⟨s3, _, _⟩, hT4⟩
      have hB4 : Below w.heap.size w v4 := hT4.belowOf hB3 hB3.size fun k hk => Nat.le_of_eq hk.symm
      generalize hp : (bl ⟨#[10]⟩).isPrefixOf (bl s2) = p
      have HX := Lib.hid (HK.out p hp)
      clear hp hT4
      go_wp2_with fail
      refine bodyPost_ret (results_tmp2 rfl _ _ _) rfl ?_
      exact ⟨_, _, rfl, hB4, by have h := HX.out; rw [HE.out] at h; exact h⟩
/-- what a rule's line tells -/
def RTells (lo : Nat) (s : List UInt8) (v : World) (rel : ByteArray) (q : List Value) (ok : Bool) : Prop :=
  (ok = true → ∃ e, LayF (St lo none v) e q ∧ Rl.can ⟨rel, e⟩ = true ∧ ∃ x, s = lineR ⟨rel, e⟩ ++ 10 :: x) ∧ (ok = false → ∀ (r : Rl) (x : List UInt8), Rl.can r = true → s ≠ lineR r ++ 10 :: x)
def RulePost (s : ByteArray) (w : World) (r : Ending) (w' : World) : Prop := ∃ rel q0 q1 q2 A n c ok, r = .returned (.tuple #[.agg #[.string rel, .string q0, .string q1, .string q2, .slice A n c], .bool ok]) ∧ Below w.heap.size w w' ∧
  RTells w.heap.size (bl s) w' rel [.string q0, .string q1, .string q2, .slice A n c] ok
theorem lineR_eq (r : Rl) (x : List UInt8) : lineR r ++ 10 :: x = bl r.rel ++ ([32, 61, 32] ++ (r.e.text ++ 10 :: x)) := by simp [lineR]
theorem rule_none {s rel s1 : ByteArray} (hr : bl rel = (bl s).takeWhile wch) (hs1 : bl s1 = (bl s).dropWhile wch) (h : em rel = true ∨ [32, 61, 32].isPrefixOf (bl s1) = false) (r : Rl) (x : List UInt8) (hc : Rl.can r = true) : bl s ≠ lineR r ++ 10 :: x := fun e => by
  simp only [Rl.can, Bool.and_eq_true] at hc
  rw [lineR_eq] at e
  obtain ⟨t1, t2⟩ := take_of (word_all hc.1) (show Stop ([32, 61, 32] ++ (r.e.text ++ 10 :: x)) from stop_c _ (Or.inl rfl))
  rw [← e] at t1 t2
  rw [t1] at hr
  rw [t2] at hs1
  rcases h with h | h
  · exact word_ne hc.1 (hr.symm.trans ((em_bl rel).1 h))
  · rw [hs1, List.isPrefixOf_iff_prefix.2 (List.prefix_append _ _)] at h
    cases h
/-- a word and the sign, and what lies behind -/
def RuleAt (s : List UInt8) (rel : ByteArray) (s3 : List UInt8) : Prop := wordL (bl rel) = true ∧ s = bl rel ++ 32 :: 61 :: 32 :: s3
theorem rule_at {s rel s1 s3 : ByteArray} (hr : bl rel = (bl s).takeWhile wch) (hs1 : bl s1 = (bl s).dropWhile wch) (he : em rel = false) (hp : [32, 61, 32].isPrefixOf (bl s1) = true) (h3 : bl s3 = cut [32, 61, 32] (bl s1)) : RuleAt (bl s) rel (bl s3) := by
  refine ⟨word_of (by rw [hr]; exact take_all _) he, ?_⟩
  have e := split_word (bl s)
  rw [← hr, ← hs1] at e
  have e2 := cut_hit hp
  rw [← h3] at e2
  rw [← e, e2]
  rfl
theorem rule_back {s : List UInt8} {rel : ByteArray} {s3 : List UInt8} (h : RuleAt s rel s3) {r : Rl} {x : List UInt8} (hc : Rl.can r = true) (e : s = lineR r ++ 10 :: x) : rel = r.rel ∧ s3 = r.e.text ++ 10 :: x := by
  simp only [Rl.can, Bool.and_eq_true] at hc
  rw [lineR_eq, h.2] at e
  obtain ⟨e1, e2⟩ := word_split (word_all h.1) (word_all hc.1) (stop_c _ (Or.inl rfl)) (show Stop ([32, 61, 32] ++ (r.e.text ++ 10 :: x)) from stop_c _ (Or.inl rfl)) e
  exact ⟨ba_of e1, by simpa using e2⟩
theorem rule_end {lo lo' : Nat} (hlo : lo' ≤ lo) {v : World} {s : List UInt8} {rel s4 : ByteArray} {s3 : List UInt8} {e : Ex} {q : List Value} {p : Bool} (h : RuleAt s rel s3 ∧ ExAt s3 (some (e, bl s4)) ∧ (Wordy e → Stop (bl s4))) (hl : LayF (St lo none v) e q) (hp : [10].isPrefixOf (bl s4) = p) : RTells lo' s v rel q p := by
  obtain ⟨h1, h2, h3⟩ := h
  refine ⟨fun ep => ⟨e, lay_lo hlo hl, by simp [Rl.can, h1.1, h2.1], cut [10] (bl s4), ?_⟩, fun ep r x hc hr => ?_⟩
  · have e4 := cut_hit (p := [10]) (s := bl s4) (by rw [hp, ep])
    rw [lineR_eq, h1.2, h2.2]
    conv => lhs; rw [e4]
    simp
  · obtain ⟨_, e3⟩ := rule_back h1 hc hr
    simp only [Rl.can, Bool.and_eq_true] at hc
    obtain ⟨_, e5⟩ := text_two e r.e (bl s4) (10 :: x) h2.1 hc.2 h3 (fun _ => stop10 x) (by rw [← h2.2, e3])
    rw [e5, ep] at hp
    simp [List.isPrefixOf] at hp
theorem rule_off {lo : Nat} {v : World} {s : List UInt8} {rel : ByteArray} {s3 : List UInt8} (q : List Value) (h : RuleAt s rel s3 ∧ ExAt s3 none) : RTells lo s v rel q false :=
  ⟨fun e => by simp at e, fun _ r x hc hr => by
    obtain ⟨_, e3⟩ := rule_back h.1 hc hr
    simp only [Rl.can, Bool.and_eq_true] at hc
    exact h.2 r.e (10 :: x) hc.2 (stop10 x) e3⟩
theorem set5_other {w : World} {g b : Nat} (h : g ≠ b) (x y z u t : Value) : (((((w.setCell ⟨b, 0, none⟩ x).setCell ⟨b, 1, none⟩ y).setCell ⟨b, 2, none⟩ z).setCell ⟨b, 3, none⟩ u).setCell ⟨b, 4, none⟩ t).heap[g]? = w.heap[g]? :=
  (Below.heap_setCell _ _ _ _ h).trans (set4_other h x y z u)
theorem lay_turn {lo S : Nat} {w w' : World} {e : Ex} {q : List Value} (h : LayF (St lo none w) e q) (hT : Turn (fun k => k = S) w w') (hS : S < lo) : LayF (St lo none w') e q := h.imp fun _ _ s => st_turn s hT hS
theorem lay_set5 {lo b : Nat} {w : World} {e : Ex} {q : List Value} (hb : b < lo) (h : LayF (St lo none w) e q) (x y z u t : Value) : LayF (St lo none (((((w.setCell ⟨b, 0, none⟩ x).setCell ⟨b, 1, none⟩ y).setCell ⟨b, 2, none⟩ z).setCell ⟨b, 3, none⟩ u).setCell ⟨b, 4, none⟩ t)) e q :=
  (lay_set4 hb h x y z u).imp fun _ _ s => st_set s (p := ⟨b, 4, none⟩) (v := t) hb
set_option maxRecDepth 100000 in
set_option maxHeartbeats 12800000 in
theorem readRule_any (s : ByteArray) (w : World) (hz : s.size ≤ 1000000000) (hG : Gl w) : Calls Tryd.prog 27 #[.string s] w (RulePost s w) := by
  obtain ⟨w1, hw1⟩ : ∃ v, v = w.alloc (.cells #[.string ⟨#[]⟩, .string ⟨#[]⟩, .string ⟨#[]⟩, .string ⟨#[]⟩, .slice none 0 0] 47) := ⟨_, rfl⟩
  obtain ⟨b, hbe⟩ : ∃ v, v = w.heap.size := ⟨_, rfl⟩
  have hb1 : Below w.heap.size w w1 := by rw [hw1]; exact al _ _
  have a1 : w1.heap[b]? = some (.cells #[.string ⟨#[]⟩, .string ⟨#[]⟩, .string ⟨#[]⟩, .string ⟨#[]⟩, .slice none 0 0] 47 (0, 0)) := by rw [hw1, hbe]; exact heap_alloc_new w _
  have HW := Lib.hid hw1
  have HBE := Lib.hid hbe
  clear hw1 hbe
  have HG := Lib.hid (fun (w' : World) (hw' : Turn (fun g => g = w1.heap.size) w1 w') => hG.later (turn_below hb1 hw'))
  have HOF := Lib.hid (off_new (hG.later hb1))
  have HLE := Lib.hid (show w.heap.size ≤ b from Nat.le_of_eq HBE.out.symm)
  have HBW := Lib.hid hb1
  have HLW := Lib.hid (heap_lt a1)
  have HBX := Lib.hid (fun (w' : World) (hw' : Turn (fun g => g = w1.heap.size) w1 w') => hw'.at a1 (fun e => by have := HLW.out; omega))
  have HZ := Lib.hid hz
  have hcall := pieces_any s w1
  clear hG hz hb1 a1
  go_enter Tryd.func27, Tryd.ntmps27
  go_upto_region 1 with fail
  try rw [← HW.out]
  try rw [← HBE.out]
  clear HW
  go_wp2_with fail
  (with_reducible refine hcall.mono ?_)
  clear hcall
  rintro e9 v1 ⟨rfl, hL1, hb1⟩
  have hT1 : Turn (fun g => g = w1.heap.size) w1 v1 := Turn.ofBelow hb1
  have hcall := word_any s _ v1 hL1 HZ.out
  clear hb1 hL1
  go_wp2_with fail
  (with_reducible refine hcall.mono ?_)
  clear hcall
  rintro e9 v2 ⟨rel, s1, rfl, hrel, hs1, hL2, hT2⟩
  have hT2 := hT1.step hT2
  have hz1 : s1.size ≤ s.size := by rw [← bl_size s1, ← bl_size s, hs1]; exact (List.dropWhile_suffix wch).length_le
  clear hT1
  have HW1 := Lib.hid (And.intro hrel hs1)
  clear hrel hs1
  have hcall := pass_any ⟨#[32, 61, 32]⟩ s1 _ v2 hL2
  by_cases he : em rel = true
  · have hq : rel.toList.isEmpty = true := by rw [em_is]; exact he
    clear hcall hL2
    have hbx := HBX.out _ hT2
    obtain ⟨d0, d1, d2, d3, d4⟩ := five_at hbx
    have f0 : v2.frozen? ⟨b, 0, none⟩ = false := by simp [World.frozen?, hbx]
    have f1 : v2.frozen? ⟨b, 1, none⟩ = false := by simp [World.frozen?, hbx]
    have f2 : v2.frozen? ⟨b, 2, none⟩ = false := by simp [World.frozen?, hbx]
    have f3 : v2.frozen? ⟨b, 3, none⟩ = false := by simp [World.frozen?, hbx]
    have f4 : v2.frozen? ⟨b, 4, none⟩ = false := by simp [World.frozen?, hbx]
    have HS5 := Lib.hid (set5 hbx (.string ⟨#[]⟩) (.string ⟨#[]⟩) (.string ⟨#[]⟩) (.string ⟨#[]⟩) (.slice none 0 0))
    have HBL := Lib.hid (below5 (turn_below HBW.out hT2) HLE.out (.string ⟨#[]⟩) (.string ⟨#[]⟩) (.string ⟨#[]⟩) (.string ⟨#[]⟩) (.slice none 0 0))
    have HX := Lib.hid (rule_none HW1.out.1 HW1.out.2 (Or.inl he))
    clear hbx
    go_wp2_with fail
    refine bodyPost_ret (results_cell_tmp_row rfl _ _ b 47 _ (0, 0) _ rfl HS5.out Tryd.underlying47 rfl (by kernel_rfl)) rfl ?_
    unfold RulePost
    exact ⟨_, _, _, _, _, _, _, _, rfl, HBL.out, fun e => by simp at e, fun _ => HX.out⟩
  · have he : em rel = false := by simpa using he
    have hq : rel.toList.isEmpty = false := by rw [em_is]; exact he
    have HE0 := Lib.hid he
    clear he
    go_wp2_with fail
    (with_reducible refine hcall.mono ?_)
    clear hcall hL2
    rintro e9 v3 ⟨rfl, ⟨s3, hs3, hL3⟩, hT3⟩
    have hT3 := hT2.step hT3
    have hz3 : s3.size ≤ s1.size := by rw [← bl_size s3, ← bl_size s1, hs3]; exact cut_le _ _
    have hs3 : bl s3 = cut [32, 61, 32] (bl s1) := hs3
    generalize hp : (bl ⟨#[32, 61, 32]⟩).isPrefixOf (bl s1) = p
    have hp : [32, 61, 32].isPrefixOf (bl s1) = p := hp
    clear hT2
    cases p with
    | false =>
      clear hL3 hq
      have hbx := HBX.out _ hT3
      obtain ⟨d0, d1, d2, d3, d4⟩ := five_at hbx
      have f0 : v3.frozen? ⟨b, 0, none⟩ = false := by simp [World.frozen?, hbx]
      have f1 : v3.frozen? ⟨b, 1, none⟩ = false := by simp [World.frozen?, hbx]
      have f2 : v3.frozen? ⟨b, 2, none⟩ = false := by simp [World.frozen?, hbx]
      have f3 : v3.frozen? ⟨b, 3, none⟩ = false := by simp [World.frozen?, hbx]
      have f4 : v3.frozen? ⟨b, 4, none⟩ = false := by simp [World.frozen?, hbx]
      have HS5 := Lib.hid (set5 hbx (.string ⟨#[]⟩) (.string ⟨#[]⟩) (.string ⟨#[]⟩) (.string ⟨#[]⟩) (.slice none 0 0))
      have HBL := Lib.hid (below5 (turn_below HBW.out hT3) HLE.out (.string ⟨#[]⟩) (.string ⟨#[]⟩) (.string ⟨#[]⟩) (.string ⟨#[]⟩) (.slice none 0 0))
      have HX := Lib.hid (rule_none HW1.out.1 HW1.out.2 (Or.inr hp))
      clear hbx
      go_wp2_with fail
      refine bodyPost_ret (results_cell_tmp_row rfl _ _ b 47 _ (0, 0) _ rfl HS5.out Tryd.underlying47 rfl (by kernel_rfl)) rfl ?_
      unfold RulePost
      exact ⟨_, _, _, _, _, _, _, _, rfl, HBL.out, fun e => by simp at e, fun _ => HX.out⟩
    | true =>
      have HRA := Lib.hid (rule_at HW1.out.1 HW1.out.2 HE0.out hp hs3)
      have hcall := readExpr_any _ s3 v3 (by have := HZ.out; omega) HOF.out hL3 (HG.out _ hT3)
      have HT3 := Lib.hid hT3
      have HS3 := Lib.hid (heap_lt hL3)
      unfold ReadPost at hcall
      clear hp hs3 hz3 hz1 hL3 hT3
      go_wp2_with fail
      (with_reducible refine hcall.mono ?_)
      clear hcall
      rintro e9 v4 ⟨q0, q1, q2, A, n, c, ok, s4, rfl, hL4, hT4, hTe⟩
      obtain ⟨v7, hw17⟩ : ∃ v, v = v4.alloc (.cells #[.string q0, .string q1, .string q2, .slice A n c] 34) := ⟨_, rfl⟩
      obtain ⟨b7, hbe7⟩ : ∃ v, v = v4.heap.size := ⟨_, rfl⟩
      have hb17 : Below v4.heap.size v4 v7 := by rw [hw17]; exact al _ _
      have a17 : v7.heap[b7]? = some (.cells #[.string q0, .string q1, .string q2, .slice A n c] 34 (0, 0)) := by rw [hw17, hbe7]; exact heap_alloc_new v4 _
      have HW7 := Lib.hid hw17
      have HBE7 := Lib.hid hbe7
      clear hw17 hbe7
      have HL7 := Lib.hid (hL4.later hb17)
      have HT7 := Lib.hid ((HT3.out.step hT4).step (Turn.ofBelow hb17))
      have HTE := Lib.hid hTe
      have HB17 := Lib.hid hb17
      have HN7 := Lib.hid (show w1.heap.size < b7 ∧ b < b7 from by have h1 := heap_lt hL4; have h2 := HLW.out; rw [HBE7.out]; exact ⟨h1, by omega⟩)
      have HB7 := Lib.hid (fun (w' : World) (hw' : Turn (fun g => g = w1.heap.size) v7 w') => hw'.at a17 (fun e => by have := HN7.out.1; omega))
      clear hL4 hb17 hT4 hTe a17
      go_upto_region 6 with fail
      try rw [← HW7.out]
      try rw [← HBE7.out]
      clear HW7
      cases ok with
      | false =>
        have HE := Lib.hid (And.intro HRA.out (HTE.out.2 rfl))
        have hbx := HBX.out _ HT7.out
        obtain ⟨d0, d1, d2, d3, d4⟩ := five_at hbx
        have f0 : v7.frozen? ⟨b, 0, none⟩ = false := by simp [World.frozen?, hbx]
        have f1 : v7.frozen? ⟨b, 1, none⟩ = false := by simp [World.frozen?, hbx]
        have f2 : v7.frozen? ⟨b, 2, none⟩ = false := by simp [World.frozen?, hbx]
        have f3 : v7.frozen? ⟨b, 3, none⟩ = false := by simp [World.frozen?, hbx]
        have f4 : v7.frozen? ⟨b, 4, none⟩ = false := by simp [World.frozen?, hbx]
        have HS5 := Lib.hid (set5 hbx (.string rel) (.string q0) (.string q1) (.string q2) (.slice A n c))
        have HBL := Lib.hid (below5 (turn_below HBW.out HT7.out) HLE.out (.string rel) (.string q0) (.string q1) (.string q2) (.slice A n c))
        have HX := Lib.hid (rule_off (lo := w.heap.size) (v := (((((v7.setCell ⟨b, 0, none⟩ (.string rel)).setCell ⟨b, 1, none⟩ (.string q0)).setCell ⟨b, 2, none⟩ (.string q1)).setCell ⟨b, 3, none⟩ (.string q2)).setCell ⟨b, 4, none⟩ (.slice A n c)).drew) [.string q0, .string q1, .string q2, .slice A n c] HE.out)
        clear hbx
        refine wp_region_any (by kernel_rfl) ?_
        change wpAny _ _ _ _ _ _ _ (World.drew _)
        refine Held.any_of_G (S := (fun w' : World => w'.cell? ⟨b7, 0, none⟩ = some (.string q0) ∧ w'.cell? ⟨b7, 1, none⟩ = some (.string q1) ∧ w'.cell? ⟨b7, 2, none⟩ = some (.string q2) ∧ w'.cell? ⟨b7, 3, none⟩ = some (.slice A n c))) (z := 9) _ _ _ _ ?_
        refine Held.G_take (i := 0) (d := 30) (v := ?_) [0, 2, 8, 9] rfl rfl (by kernel_rfl) (by kernel_rfl) (by kernel_rfl) (by kernel_rfl) (fun _ _ _ h => h) (Or.inl ⟨by rfl, ?_⟩) (four_at (HB7.out _ (show Turn (fun g => g = w1.heap.size) v7 v7.drew from (Turn.refl _ _).drew))) ?_
        rotate_left 1
        · intro w hSw; clear hSw; go_simp <;> with_reducible rfl
        simp only [Act.put, List.setIfInBounds_toArray, List.set_cons_zero, List.set_cons_succ]
        refine Held.G_take (i := 1) (d := 31) (v := ?_) [1, 2, 8, 9] rfl rfl (by kernel_rfl) (by kernel_rfl) (by kernel_rfl) (by kernel_rfl) (fun _ _ _ h => h) (Or.inl ⟨by rfl, ?_⟩) (four_at (HB7.out _ (show Turn (fun g => g = w1.heap.size) v7 v7.drew from (Turn.refl _ _).drew))) ?_
        rotate_left 1
        · intro w hSw; obtain ⟨d0, d1, d2, d3⟩ := hSw; go_simp <;> with_reducible rfl
        simp only [Act.put, List.setIfInBounds_toArray, List.set_cons_zero, List.set_cons_succ]
        refine Held.G_take (i := 2) (d := 32) (v := ?_) [2, 8, 9] rfl rfl (by kernel_rfl) (by kernel_rfl) (by kernel_rfl) (by kernel_rfl) (fun _ _ _ h => h) (Or.inl ⟨by rfl, ?_⟩) (four_at (HB7.out _ (show Turn (fun g => g = w1.heap.size) v7 v7.drew from (Turn.refl _ _).drew))) ?_
        rotate_left 1
        · intro w hSw; clear hSw; go_simp <;> with_reducible rfl
        simp only [Act.put, List.setIfInBounds_toArray, List.set_cons_zero, List.set_cons_succ]
        refine Held.G_take (i := 3) (d := 33) (v := ?_) [3, 4, 5, 6, 7, 8, 9] rfl rfl (by kernel_rfl) (by kernel_rfl) (by kernel_rfl) (by kernel_rfl) (fun _ _ _ h => h) (Or.inl ⟨by rfl, ?_⟩) (four_at (HB7.out _ (show Turn (fun g => g = w1.heap.size) v7 v7.drew from (Turn.refl _ _).drew))) ?_
        rotate_left 1
        · intro w hSw; clear hSw; go_simp <;> with_reducible rfl
        simp only [Act.put, List.setIfInBounds_toArray, List.set_cons_zero, List.set_cons_succ]
        refine Held.G_take (i := 4) (d := 34) (v := ?_) [4, 5, 6, 7, 8, 9] rfl rfl (by kernel_rfl) (by kernel_rfl) (by kernel_rfl) (by kernel_rfl) (fun _ _ _ h => h) (Or.inl ⟨by rfl, ?_⟩) (four_at (HB7.out _ (show Turn (fun g => g = w1.heap.size) v7 v7.drew from (Turn.refl _ _).drew))) ?_
        rotate_left 1
        · intro w hSw; clear hSw; go_simp <;> with_reducible rfl
        simp only [Act.put, List.setIfInBounds_toArray, List.set_cons_zero, List.set_cons_succ]
        refine Held.G_take (i := 5) (d := 35) (v := undef) [5, 6, 7, 8, 9] rfl rfl (by kernel_rfl) (by kernel_rfl) (by kernel_rfl) (by kernel_rfl) (fun _ _ _ h => h) (Or.inr ⟨by rfl, rfl⟩) (four_at (HB7.out _ (show Turn (fun g => g = w1.heap.size) v7 v7.drew from (Turn.refl _ _).drew))) ?_
        simp only [Act.put, List.setIfInBounds_toArray, List.set_cons_zero, List.set_cons_succ]
        refine Held.G_take (i := 6) (d := 36) (v := undef) [6, 7, 8, 9] rfl rfl (by kernel_rfl) (by kernel_rfl) (by kernel_rfl) (by kernel_rfl) (fun _ _ _ h => h) (Or.inr ⟨by rfl, rfl⟩) (four_at (HB7.out _ (show Turn (fun g => g = w1.heap.size) v7 v7.drew from (Turn.refl _ _).drew))) ?_
        simp only [Act.put, List.setIfInBounds_toArray, List.set_cons_zero, List.set_cons_succ]
        refine Held.G_take (i := 7) (d := 37) (v := ?_) [7, 9] rfl rfl (by kernel_rfl) (by kernel_rfl) (by kernel_rfl) (by kernel_rfl) (fun _ _ _ h => h) (Or.inl ⟨by rfl, ?_⟩) (four_at (HB7.out _ (show Turn (fun g => g = w1.heap.size) v7 v7.drew from (Turn.refl _ _).drew))) ?_
        rotate_left 1
        · intro w hSw; clear hSw; go_simp <;> with_reducible rfl
        simp only [Act.put, List.setIfInBounds_toArray, List.set_cons_zero, List.set_cons_succ]
        refine Held.G_ready (rs := [8]) (by decide +kernel) (by simp) ?_
        refine Held.G_cons rfl (fun KK hK => ?_) Held.G_nil
        go_simp
        refine hK _ _ ⟨(four_at ((set5_other (show b7 ≠ b from by have := HN7.out.2; omega) (.string rel) (.string q0) (.string q1) (.string q2) (.slice A n c)).trans (HB7.out _ (Turn.refl _ _)))), ?_⟩
        clear hK KK
        refine Held.G_ready (rs := [9]) (by decide +kernel) (by simp) ?_
        refine Held.G_last rfl (fun KK hK => ?_) Held.G_nil
        go_simp
        refine hK _ _ ?_
        clear hK KK
        refine Held.G_done (by kernel_rfl) ?_ _
        clear d0 d1 d2 d3 d4 f0 f1 f2 f3 f4
        go_wp2_with fail
        refine bodyPost_ret (results_cell_tmp_row rfl _ _ b 47 _ (0, 0) _ rfl HS5.out Tryd.underlying47 rfl (by kernel_rfl)) rfl ?_
        unfold RulePost
        exact ⟨_, _, _, _, _, _, _, _, rfl, HBL.out.drew, HX.out⟩
      | true =>
        obtain ⟨e, hqe, hat, hst⟩ := HTE.out.1 rfl
        have HE := Lib.hid (And.intro HRA.out (And.intro hat hst))
        have HLY := Lib.hid (hqe.imp fun _ _ s => st_later s HB17.out)
        have HLB := Lib.hid (show b < v3.heap.size from by have := HLW.out; have := HS3.out; omega)
        have HSB := Lib.hid HS3.out
        have HLL := Lib.hid (show w.heap.size ≤ v3.heap.size from by have := HLE.out; have := HLB.out; omega)
        clear hqe hat hst
        refine wp_region_any (by kernel_rfl) ?_
        change wpAny _ _ _ _ _ _ _ (World.drew _)
        refine Held.any_of_G (S := (fun w' : World => w'.cell? ⟨b7, 0, none⟩ = some (.string q0) ∧ w'.cell? ⟨b7, 1, none⟩ = some (.string q1) ∧ w'.cell? ⟨b7, 2, none⟩ = some (.string q2) ∧ w'.cell? ⟨b7, 3, none⟩ = some (.slice A n c))) (z := 9) _ _ _ _ ?_
        refine Held.G_take (i := 0) (d := 30) (v := ?_) [0, 2, 8, 9] rfl rfl (by kernel_rfl) (by kernel_rfl) (by kernel_rfl) (by kernel_rfl) (fun _ _ _ h => h) (Or.inl ⟨by rfl, ?_⟩) (four_at (HB7.out _ (show Turn (fun g => g = w1.heap.size) v7 v7.drew from (Turn.refl _ _).drew))) ?_
        rotate_left 1
        · intro w hSw; clear hSw; go_simp <;> with_reducible rfl
        simp only [Act.put, List.setIfInBounds_toArray, List.set_cons_zero, List.set_cons_succ]
        refine Held.G_take (i := 1) (d := 31) (v := ?_) [1, 2, 8, 9] rfl rfl (by kernel_rfl) (by kernel_rfl) (by kernel_rfl) (by kernel_rfl) (fun _ _ _ h => h) (Or.inl ⟨by rfl, ?_⟩) (four_at (HB7.out _ (show Turn (fun g => g = w1.heap.size) v7 v7.drew from (Turn.refl _ _).drew))) ?_
        rotate_left 1
        · intro w hSw; obtain ⟨d0, d1, d2, d3⟩ := hSw; go_simp <;> with_reducible rfl
        simp only [Act.put, List.setIfInBounds_toArray, List.set_cons_zero, List.set_cons_succ]
        refine Held.G_take (i := 2) (d := 32) (v := ?_) [2, 8, 9] rfl rfl (by kernel_rfl) (by kernel_rfl) (by kernel_rfl) (by kernel_rfl) (fun _ _ _ h => h) (Or.inl ⟨by rfl, ?_⟩) (four_at (HB7.out _ (show Turn (fun g => g = w1.heap.size) v7 v7.drew from (Turn.refl _ _).drew))) ?_
        rotate_left 1
        · intro w hSw; clear hSw; go_simp <;> with_reducible rfl
        simp only [Act.put, List.setIfInBounds_toArray, List.set_cons_zero, List.set_cons_succ]
        refine Held.G_take (i := 3) (d := 33) (v := ?_) [3, 4, 5, 6, 7, 8, 9] rfl rfl (by kernel_rfl) (by kernel_rfl) (by kernel_rfl) (by kernel_rfl) (fun _ _ _ h => h) (Or.inl ⟨by rfl, ?_⟩) (four_at (HB7.out _ (show Turn (fun g => g = w1.heap.size) v7 v7.drew from (Turn.refl _ _).drew))) ?_
        rotate_left 1
        · intro w hSw; clear hSw; go_simp <;> with_reducible rfl
        simp only [Act.put, List.setIfInBounds_toArray, List.set_cons_zero, List.set_cons_succ]
        refine Held.G_take (i := 4) (d := 34) (v := ?_) [4, 5, 6, 7, 8, 9] rfl rfl (by kernel_rfl) (by kernel_rfl) (by kernel_rfl) (by kernel_rfl) (fun _ _ _ h => h) (Or.inl ⟨by rfl, ?_⟩) (four_at (HB7.out _ (show Turn (fun g => g = w1.heap.size) v7 v7.drew from (Turn.refl _ _).drew))) ?_
        rotate_left 1
        · intro w hSw; clear hSw; go_simp <;> with_reducible rfl
        simp only [Act.put, List.setIfInBounds_toArray, List.set_cons_zero, List.set_cons_succ]
        refine Held.G_take (i := 5) (d := 35) (v := ?_) [5, 6, 7, 8, 9] rfl rfl (by kernel_rfl) (by kernel_rfl) (by kernel_rfl) (by kernel_rfl) (fun _ _ _ h => h) (Or.inl ⟨by rfl, ?_⟩) (four_at (HB7.out _ (show Turn (fun g => g = w1.heap.size) v7 v7.drew from (Turn.refl _ _).drew))) ?_
        rotate_left 1
        · intro w hSw; clear hSw; go_simp <;> with_reducible rfl
        simp only [Act.put, List.setIfInBounds_toArray, List.set_cons_zero, List.set_cons_succ]
        refine Held.G_ready (rs := [6]) (by decide +kernel) (by simp) ?_
        refine Held.G_cons rfl (fun KK hK => ?_) Held.G_nil
        go_simp
        have hcall := pass_any ⟨#[10]⟩ s4 w1.heap.size v7.drew (show RuleWord.Left _ _ v7.drew from HL7.out)
        (with_reducible refine hcall.mono ?_)
        clear hcall
        rintro e9 x8 ⟨rfl, ⟨s7, _, _⟩, hT7⟩
        have hq6 : Turn (fun g => g = w1.heap.size) v7 x8 := (Turn.refl _ _).drew.step hT7
        generalize hp : (bl ⟨#[10]⟩).isPrefixOf (bl s4) = p
        have hbx := HBX.out _ (HT7.out.step hq6)
        obtain ⟨d0, d1, d2, d3, d4⟩ := five_at hbx
        have f0 : x8.frozen? ⟨b, 0, none⟩ = false := by simp [World.frozen?, hbx]
        have f1 : x8.frozen? ⟨b, 1, none⟩ = false := by simp [World.frozen?, hbx]
        have f2 : x8.frozen? ⟨b, 2, none⟩ = false := by simp [World.frozen?, hbx]
        have f3 : x8.frozen? ⟨b, 3, none⟩ = false := by simp [World.frozen?, hbx]
        have f4 : x8.frozen? ⟨b, 4, none⟩ = false := by simp [World.frozen?, hbx]
        have HS5 := Lib.hid (set5 hbx (.string rel) (.string q0) (.string q1) (.string q2) (.slice A n c))
        have HBL := Lib.hid (below5 (turn_below HBW.out (HT7.out.step hq6)) HLE.out (.string rel) (.string q0) (.string q1) (.string q2) (.slice A n c))
        have HX := Lib.hid (rule_end HLL.out (v := (((((x8.setCell ⟨b, 0, none⟩ (.string rel)).setCell ⟨b, 1, none⟩ (.string q0)).setCell ⟨b, 2, none⟩ (.string q1)).setCell ⟨b, 3, none⟩ (.string q2)).setCell ⟨b, 4, none⟩ (.slice A n c))) HE.out (lay_set5 HLB.out (lay_turn HLY.out hq6 HSB.out) (.string rel) (.string q0) (.string q1) (.string q2) (.slice A n c)) hp)
        clear hbx
        clear hp hT7
        go_simp
        refine hK _ _ ?_
        clear hK KK
        refine ⟨(four_at (HB7.out _ hq6)), ?_⟩
        refine Held.G_take (i := 7) (d := 37) (v := ?_) [7, 9] rfl rfl (by kernel_rfl) (by kernel_rfl) (by kernel_rfl) (by kernel_rfl) (fun _ _ _ h => h) (Or.inl ⟨by rfl, ?_⟩) (four_at (HB7.out _ hq6)) ?_
        rotate_left 1
        · intro w hSw; clear hSw; go_simp <;> with_reducible rfl
        simp only [Act.put, List.setIfInBounds_toArray, List.set_cons_zero, List.set_cons_succ]
        refine Held.G_ready (rs := [8]) (by decide +kernel) (by simp) ?_
        refine Held.G_cons rfl (fun KK hK => ?_) Held.G_nil
        go_simp
        refine hK _ _ ⟨(four_at ((set5_other (show b7 ≠ b from by have := HN7.out.2; omega) (.string rel) (.string q0) (.string q1) (.string q2) (.slice A n c)).trans (HB7.out _ hq6))), ?_⟩
        clear hK KK
        refine Held.G_ready (rs := [9]) (by decide +kernel) (by simp) ?_
        refine Held.G_last rfl (fun KK hK => ?_) Held.G_nil
        go_simp
        refine hK _ _ ?_
        clear hK KK
        refine Held.G_done (by kernel_rfl) ?_ _
        clear d0 d1 d2 d3 d4 f0 f1 f2 f3 f4 hq6
        go_wp2_with fail
        refine bodyPost_ret (results_cell_tmp_row rfl _ _ b 47 _ (0, 0) _ rfl HS5.out Tryd.underlying47 rfl (by kernel_rfl)) rfl ?_
        unfold RulePost
        exact ⟨_, _, _, _, _, _, _, _, rfl, HBL.out, HX.out⟩
end Go.Proofs.YtkmnbdomikpakaaDoor.RulePieces
