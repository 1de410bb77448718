/- The code's readExpr. -/
import Derived.Test.YtkmnbdomikpakaaDoorKHeld
import Derived.Test.YtkmnbdomikpakaaDoorKRuleCopied
import Derived.Test.YtkmnbdomikpakaaDoorKRuleParse
import Derived.Test.YtkmnbdomikpakaaDoorKRuleWordC
namespace Go.Proofs.YtkmnbdomikpakaaDoor.RuleReadE
open Go.RowKit Base KeyPlain TuplePlain TupleRef RulePlain RuleMem RuleRec RuleFind RuleCan RuleLex RuleGl RuleChkC RuleWord RuleWordC RuleParse RuleRow RuleCopied TurnB

/-- how much is left -/
def leftLen (S : Nat) (w : World) : Nat := match w.heap[S]? with
  | some (.cells cs _ _) => (match cs[0]? with | some (Value.string s) => s.size | _ => 0)
  | _ => 0
theorem left_len {S : Nat} {s : ByteArray} {w : World} (h : RuleWord.Left S s w) : leftLen S w = s.size := by
  unfold RuleWord.Left at h
  unfold leftLen
  rw [h]
  rfl
theorem turn4 {F : Nat → Prop} {a w : World} {b : Nat} (h : Turn F a w) (hb : a.heap.size ≤ b ∨ F b) (x y z u : Value) : Turn F a ((((w.setCell ⟨b, 0, none⟩ x).setCell ⟨b, 1, none⟩ y).setCell ⟨b, 2, none⟩ z).setCell ⟨b, 3, none⟩ u) :=
  (((h.set ⟨b, 0, none⟩ hb x).set ⟨b, 1, none⟩ hb y).set ⟨b, 2, none⟩ hb z).set ⟨b, 3, none⟩ hb u
theorem left4 {S b : Nat} {s : ByteArray} {w : World} (h : RuleWord.Left S s w) (hb : S ≠ b) (x y z u : Value) : RuleWord.Left S s ((((w.setCell ⟨b, 0, none⟩ x).setCell ⟨b, 1, none⟩ y).setCell ⟨b, 2, none⟩ z).setCell ⟨b, 3, none⟩ u) := (set4_other hb x y z u).trans h
theorem left_set {S b i : Nat} {s : ByteArray} {w : World} (h : RuleWord.Left S s w) (hb : S ≠ b) (x : Value) : RuleWord.Left S s (w.setCell ⟨b, i, none⟩ x) := (Below.heap_setCell _ _ _ _ hb).trans h
theorem left_at {S : Nat} {s : ByteArray} {F : Nat → Prop} {w w' : World} (h : RuleWord.Left S s w) (hT : Turn F w w') (hn : ¬ F S) : RuleWord.Left S s w' := hT.at h hn
/-- what an expression's reading says -/
def Tells (lo : Nat) (s s1 : List UInt8) (w : World) (q : List Value) (ok : Bool) : Prop :=
  (ok = true → ∃ e, LayF (St lo none w) e q ∧ ExAt s (some (e, s1)) ∧ (Wordy e → Stop s1)) ∧ (ok = false → ExAt s none)
def ReadPost (S : Nat) (s : ByteArray) (w : World) (r : Ending) (w' : World) : Prop :=
  ∃ q0 q1 q2 A n c ok s1, r = .returned (.tuple #[.agg #[.string q0, .string q1, .string q2, .slice A n c], .bool ok]) ∧ RuleWord.Left S s1 w' ∧ Turn (fun g => g = S) w w' ∧ Tells w.heap.size (bl s) (bl s1) w' [.string q0, .string q1, .string q2, .slice A n c] ok
theorem lay_nil (S : Addr → List Value → Prop) (op nm fo : ByteArray) : LayF S (.mk op nm fo []) [.string op, .string nm, .string fo, .slice none 0 0] :=
  .mk op nm fo [] none 0 (fun _ => []) (Nat.zero_le _) (fun i h => absurd h (Nat.not_lt_zero i)) fun i h => absurd h (Nat.not_lt_zero i)
theorem lay_rdW (S : Addr → List Value → Prop) (t : ByteArray) : LayF S (rdW t) [.string (rdW t).op, .string (rdW t).nm, .string (rdW t).fo, .slice none 0 0] := by
  unfold rdW
  split <;> exact lay_nil _ _ _ _
theorem word_end {lo : Nat} {s t s2 : ByteArray} {v : World} (ht : bl t = (bl s).takeWhile wch) (hs : bl s2 = (bl s).dropWhile wch) (h40 : [40].isPrefixOf (bl s) = false) :
    Tells lo (bl s) (bl s2) v [.string (rdW t).op, .string (rdW t).nm, .string (rdW t).fo, .slice none 0 0] (!em t) := by
  refine ⟨fun h => ⟨rdW t, lay_rdW _ _, by rw [hs]; exact word_yes ht (by simpa using h), fun _ => by rw [hs]; exact drop_stop _⟩, fun h => word_none ht (by simpa using h) h40⟩
/-- no table lies there -/
def Off (S : Nat) : Prop := S ≠ 0 ∧ S ≠ 1
theorem sees_turn {S B : Nat} {w w' : World} {a : Addr} {vs : List Value} (h : Sees w w.heap.size a vs) (hT : Turn (fun g => g = S) w w') (hn : S ≠ a.block) (hB : B = w'.heap.size) : Sees w' B a vs := by
  refine ⟨by rw [hB]; exact Nat.lt_of_lt_of_le h.1 hT.size, fun j v hv => ?_⟩
  have e := hT.block a.block h.1 (fun e => hn e.symm)
  exact (World.cell?_of_block (by rw [blk_add]; exact e)).trans (h.2 j v hv)
theorem gl_turn {S : Nat} {w w' : World} (h : Gl w) (hT : Turn (fun g => g = S) w w') (hS : Off S) : Gl w' := ⟨sees_turn h.1 hT hS.1 rfl, sees_turn h.2 hT hS.2 rfl⟩
theorem cut_le (p s : List UInt8) : (cut p s).length ≤ s.length := by
  unfold cut
  split
  · rw [List.length_drop]; omega
  · exact Nat.le_refl _
theorem from_end {lo : Nat} {v : World} {s s2 s3 s4 s5 : List UInt8} {s6 s7 fo nm : ByteArray} {p : Bool} (h : FromAt s s2 s3 s4 s5 (bl s6) fo nm) (h7 : bl s7 = cut [41] (bl s6)) (hp : [41].isPrefixOf (bl s6) = p) (hf : formC kFrom nm fo 0 = true) :
    Tells lo s (bl s7) v [.string kFrom, .string nm, .string fo, .slice none 0 0] p := by
  refine ⟨fun e => ⟨.mk kFrom nm fo [], lay_nil _ _ _ _, by rw [h7]; exact from_yes h hf (by rw [hp, e]), fun hw => ?_⟩, fun e => from_no h (Or.inr (by rw [hp, e]))⟩
  rcases hw with g | g <;> (simp only [Ex.op] at g; exact absurd g (by decide))
theorem from_off {lo : Nat} {v : World} {s s2 s3 s4 s5 s6 : List UInt8} {fo nm : ByteArray} (h : FromAt s s2 s3 s4 s5 s6 fo nm) (hf : formC kFrom nm fo 0 = false) (x : List UInt8) :
    Tells lo s x v [.string kFrom, .string nm, .string fo, .slice none 0 0] false := ⟨fun e => by simp at e, fun _ => from_no h (Or.inl hf)⟩
/-! the own row of parts, while what was read turns -/
theorem st_turn {lo S : Nat} {g : Option Nat} {w w' : World} {a : Addr} {vs : List Value} (h : St lo g w a vs) (hT : Turn (fun k => k = S) w w') (hS : S < lo) : St lo g w' a vs := by
  refine ⟨h.1, h.2.1, Nat.lt_of_lt_of_le h.2.2.1 hT.size, fun j v hv => ?_⟩
  have e := hT.block a.block h.2.2.1 (fun e => by have := h.1; omega)
  exact (World.cell?_of_block (by rw [blk_add]; exact e)).trans (h.2.2.2 j v hv)
theorem Parts.turn {lo S : Nat} {w w' : World} {A : Option Addr} {k c : Nat} {ps : List Ex} {qf : Nat → List Value} (h : Parts lo w A k c ps qf) (hT : Turn (fun k => k = S) w w') (hS : S < lo) : Parts lo w' A k c ps qf :=
  ⟨World.ownsRow.kept h.own (row := some S) ⟨hT.os, hT.tape, hT.output, hT.size, fun k hk hn => hT.block k hk (fun e => hn (by rw [e]))⟩ (by
    cases A with
    | none => exact .inl rfl
    | some a =>
      refine .inr fun e => ?_
      have := (h.own.lt S (by rw [← e])).1
      omega), h.len, fun i hi hk => (h.lay i hi hk).imp fun _ _ q => st_turn q hT hS⟩
theorem Parts.widen {lo : Nat} {w : World} {A : Option Addr} {c : Nat} {ps : List Ex} {qf : Nat → List Value} (h : Parts lo w A ps.length c ps qf) (e : Ex) : Parts lo w A ps.length c (ps ++ [e]) qf :=
  ⟨h.own, h.len, fun i hi hk => by rw [List.getElem_append_left hk]; exact h.lay i hk hk⟩
theorem Parts.more {lo : Nat} {w w' : World} {A A' : Option Addr} {c c' : Nat} {ps : List Ex} {qf : Nat → List Value} {e : Ex} (h : Parts lo w A ps.length c ps qf) {q : List Value} (hq : LayF (St lo (Value.slice A ps.length c).ownBlock w) e q)
    (ho : w'.ownsRow lo 34 4 (.slice A' (ps.length + 1) c') (ps.length + 1) ((List.range ps.length).flatMap qf ++ q)) (hg : w.grownBy w' (Value.slice A ps.length c).ownBlock)
    (hl : (Value.slice A' (ps.length + 1) c').ownBlock = (Value.slice A ps.length c).ownBlock ∨ (Value.slice A' (ps.length + 1) c').ownBlock = some w.heap.size) : ∃ qf', Parts lo w' A' (ps ++ [e]).length c' (ps ++ [e]) qf' := by
  have hk : ps.length < (ps ++ [e]).length := by simp
  have he : (ps ++ [e])[ps.length] = e := by simp
  have hn : (ps ++ [e]).length = ps.length + 1 := by simp
  rw [hn]
  exact ⟨_, Parts.push (Parts.widen h e) hk (by rw [he]; exact hq) ho hg hl⟩
theorem size_set (w : World) (p : Addr) (v : Value) : (w.setCell p v).heap.size = w.heap.size := by simp [World.setCell]
theorem lay_set4 {lo b : Nat} {w : World} {e : Ex} {q : List Value} (hb : b < lo) (h : LayF (St lo none w) e q) (x y z u : Value) : LayF (St lo none ((((w.setCell ⟨b, 0, none⟩ x).setCell ⟨b, 1, none⟩ y).setCell ⟨b, 2, none⟩ z).setCell ⟨b, 3, none⟩ u)) e q :=
  (((h.imp fun _ _ s => st_set s (p := ⟨b, 0, none⟩) (v := x) hb).imp fun _ _ s => st_set s (p := ⟨b, 1, none⟩) (v := y) hb).imp fun _ _ s => st_set s (p := ⟨b, 2, none⟩) (v := z) hb).imp fun _ _ s => st_set s (p := ⟨b, 3, none⟩) (v := u) hb
theorem lay_lo {lo lo' : Nat} {w : World} {e : Ex} {q : List Value} (hl : lo ≤ lo') (h : LayF (St lo' none w) e q) : LayF (St lo none w) e q := h.imp fun _ _ s => ⟨Nat.le_trans hl s.1, s.2⟩
theorem node_end_ok {lo : Nat} {v : World} {s sk : List UInt8} {s3 s7 t : ByteArray} {ps : List Ex} {q : List Value} {p : Bool} (hN : NodeAt s t ps sk) (h3 : bl s3 = sk) (hb : ps.length = 0 ∨ formC t ⟨#[]⟩ ⟨#[]⟩ ps.length = false ∨ [41].isPrefixOf sk = false → ExAt s none) (h0 : 0 < ps.length)
    (hf : formC t ⟨#[]⟩ ⟨#[]⟩ ps.length = true) (h7 : bl s7 = cut [41] (bl s3)) (hp : [41].isPrefixOf (bl s3) = p) (hl : LayF (St lo none v) (.mk t ⟨#[]⟩ ⟨#[]⟩ ps) q) : Tells lo s (bl s7) v q p := by
  rw [h3] at h7 hp
  refine ⟨fun e => ⟨_, hl, ?_, fun hw => absurd hw (node_wordy h0 hf)⟩, fun e => hb (Or.inr (Or.inr (by rw [hp, e])))⟩
  have h41 := cut_hit (p := [41]) (s := sk) (by rw [hp, e])
  rw [← h7] at h41
  rw [h41] at hN
  exact node_good hN h0 hf
theorem node_end_off {lo : Nat} {v : World} {s : List UInt8} {q : List Value} (x : List UInt8) (h : ExAt s none) : Tells lo s x v q false := ⟨fun e => by simp at e, fun _ => h⟩
set_option maxRecDepth 100000 in
set_option maxHeartbeats 12800000 in
theorem read_step (N : Nat) (HI0 : ∀ (S : Nat) (s : ByteArray) (w : World), s.size < N → s.size ≤ 1000000000 → Off S → RuleWord.Left S s w → Gl w → Calls Tryd.prog 53 #[passV S, wordV S] w (ReadPost S s w)) :
    ∀ (S : Nat) (s : ByteArray) (w : World), s.size < N + 1 → s.size ≤ 1000000000 → Off S → RuleWord.Left S s w → Gl w → Calls Tryd.prog 53 #[passV S, wordV S] w (ReadPost S s w) := by
  intro S s w hN hz hO hL hG
  have HOF := Lib.hid hO
  have HI := Lib.hid HI0
  have HZ := Lib.hid (And.intro hN hz)
  have HSL := Lib.hid (heap_lt hL)
  obtain ⟨w1, hw1⟩ : ∃ v, v = w.alloc (.cells #[.string ⟨#[]⟩, .string ⟨#[]⟩, .string ⟨#[]⟩, .slice none 0 0] 34) := ⟨_, rfl⟩
  obtain ⟨b, hbe⟩ : ∃ v, v = w.heap.size := ⟨_, rfl⟩
  have hb1 : Below w.heap.size w w1 := by rw [hw1]; exact al _ _
  have a1 : w1.heap[b]? = some (.cells #[.string ⟨#[]⟩, .string ⟨#[]⟩, .string ⟨#[]⟩, .slice none 0 0] 34 (0, 0)) := by rw [hw1, hbe]; exact heap_alloc_new w _
  have HW := Lib.hid hw1
  have HBE := Lib.hid hbe
  clear hw1 hbe
  have hL1 := hL.later hb1
  have HG := Lib.hid (fun (w' : World) (hw' : Turn (fun g => g = S) w1 w') => gl_turn hG ((Turn.ofBelow hb1).trans hw' fun _ _ g => g) HOF.out)
  have HLE := Lib.hid (show w.heap.size ≤ b from Nat.le_of_eq HBE.out.symm)
  have HNE := Lib.hid (show S ≠ b from by have := HSL.out; have := HLE.out; omega)
  have HBX := Lib.hid (fun (w' : World) (hw' : Turn (fun g => g = S) w1 w') => hw'.at a1 (fun e => HNE.out e.symm))
  have HT0 := Lib.hid (fun (w' : World) (hw' : Turn (fun g => g = S) w1 w') => (Turn.ofBelow (F := fun g => g = S) hb1).trans hw' fun _ _ g => g)
  have HLW := Lib.hid (heap_lt a1)
  have hcall := pass_any ⟨#[40]⟩ s S w1 hL1
  clear hN hz hO hL hL1 hG hb1 a1 HI0
  go_enter Tryd.func53, Tryd.ntmps53
  go_upto_region 1 with fail
  try rw [← HW.out]
  try rw [← HBE.out]
  clear HW
  go_wp2_with fail
  (with_reducible refine hcall.mono ?_)
  clear hcall
  rintro e9 v1 ⟨rfl, ⟨s1, hs1, hL1⟩, hT1⟩
  have hz1 : s1.size ≤ s.size := by rw [← bl_size s1, ← bl_size s, hs1]; exact cut_le _ _
  generalize hp : (bl ⟨#[40]⟩).isPrefixOf (bl s) = p
  have hp : [40].isPrefixOf (bl s) = p := hp
  have hs1 : bl s1 = cut [40] (bl s) := hs1
  cases p with
  | false =>
    have hs1 : [40].isPrefixOf (bl s) = false ∧ bl s1 = bl s := ⟨hp, by rw [hs1, cut, hp]; rfl⟩
    clear hp
    have hcall := word_any s1 S v1 hL1 (by have := hz1; have := HZ.out.2; omega)
    go_wp2_with fail
    (with_reducible refine hcall.mono ?_)
    clear hcall
    rintro e9 v2 ⟨t, s2, rfl, ht, hs2, hL2, hT2⟩
    have hcall := wordExpr_any t v2 (HG.out v2 (hT1.step hT2))
    unfold exV at hcall
    go_wp2_with fail
    (with_reducible refine hcall.mono ?_)
    clear hcall
    rintro e9 v3 ⟨rfl, hb3⟩
    have hT3 : Turn (fun g => g = S) w1 v3 := (hT1.step hT2).step (Turn.ofBelow hb3)
    have hbx := HBX.out v3 hT3
    obtain ⟨d0, d1, d2, d3⟩ := four_at hbx
    have f0 : v3.frozen? ⟨b, 0, none⟩ = false := by simp [World.frozen?, hbx]
    have f1 : v3.frozen? ⟨b, 1, none⟩ = false := by simp [World.frozen?, hbx]
    have f2 : v3.frozen? ⟨b, 2, none⟩ = false := by simp [World.frozen?, hbx]
    have f3 : v3.frozen? ⟨b, 3, none⟩ = false := by simp [World.frozen?, hbx]
    have HS4 := Lib.hid (set4 hbx (.string (rdW t).op) (.string (rdW t).nm) (.string (rdW t).fo) (.slice none 0 0))
    have HTX := Lib.hid (turn4 (HT0.out v3 hT3) (Or.inl HLE.out) (.string (rdW t).op) (.string (rdW t).nm) (.string (rdW t).fo) (.slice none 0 0))
    have HL := Lib.hid (left4 (hL2.later hb3) HNE.out (.string (rdW t).op) (.string (rdW t).nm) (.string (rdW t).fo) (.slice none 0 0))
    have HX := Lib.hid (word_end (v := (((v3.setCell ⟨b, 0, none⟩ (.string (rdW t).op)).setCell ⟨b, 1, none⟩ (.string (rdW t).nm)).setCell ⟨b, 2, none⟩ (.string (rdW t).fo)).setCell ⟨b, 3, none⟩ (.slice none 0 0)) (lo := w.heap.size) (s := s) (t := t) (s2 := s2) (by rw [← hs1.2]; exact ht) (by rw [← hs1.2]; exact hs2) hs1.1)
    clear hbx hb3 hT3 hL1 hL2 hT1 hT2 hs1 hs2 ht
    go_wp2_with fail
    refine bodyPost_ret (results_cell_tmp_row rfl _ _ b 34 _ (0, 0) _ rfl HS4.out Tryd.underlying34 rfl (by kernel_rfl)) rfl ?_
    unfold ReadPost
    exact ⟨_, _, _, _, _, _, _, _, rfl, HL.out, HTX.out, HX.out⟩
  | true =>
    have hs1 : bl s = 40 :: bl s1 := by rw [hs1]; exact cut_hit hp
    clear hp
    have hcall := word_any s1 S v1 hL1 (by have := hz1; have := HZ.out.2; omega)
    go_wp2_with fail
    (with_reducible refine hcall.mono ?_)
    clear hcall
    rintro e9 v2 ⟨t, s2, rfl, ht, hs2, hL2, hT2⟩
    obtain ⟨v3, hw16⟩ : ∃ v, v = v2.alloc (.cells #[.string t, .string ⟨#[]⟩, .string ⟨#[]⟩, .slice none 0 0] 34) := ⟨_, rfl⟩
    obtain ⟨b6, hbe6⟩ : ∃ v, v = v2.heap.size := ⟨_, rfl⟩
    have hb16 : Below v2.heap.size v2 v3 := by rw [hw16]; exact al _ _
    have a16 : v3.heap[b6]? = some (.cells #[.string t, .string ⟨#[]⟩, .string ⟨#[]⟩, .slice none 0 0] 34 (0, 0)) := by rw [hw16, hbe6]; exact heap_alloc_new v2 _
    have HW6 := Lib.hid hw16
    have HBE6 := Lib.hid hbe6
    clear hw16 hbe6
    have hL3 := hL2.later hb16
    have hT3 : Turn (fun g => g = S) w1 v3 := (hT1.step hT2).step (Turn.ofBelow hb16)
    have HN6 := Lib.hid (show S < b6 ∧ b < b6 ∧ w1.heap.size ≤ b6 from by have h1 := HSL.out; have h2 := HLE.out; have h3 := HLW.out; have h4 := (hT1.step hT2).size; rw [HBE6.out]; exact ⟨by omega, by omega, h4⟩)
    have HLO := Lib.hid (show b6 < v3.heap.size from heap_lt a16)
    have HE := Lib.hid (show bl s = 40 :: (bl t ++ bl s2) ∧ (bl t).all wch = true ∧ Stop (bl s2) from ⟨by rw [hs1, ht, hs2, split_word], by rw [ht]; exact take_all _, by rw [hs2]; exact drop_stop _⟩)
    have hz2 : s2.size ≤ s1.size := by rw [← bl_size s2, ← bl_size s1, hs2]; exact (List.dropWhile_suffix wch).length_le
    have hz1s : s1.size < s.size := by rw [← bl_size s1, ← bl_size s, hs1, List.length_cons]; exact Nat.lt_succ_self _
    have HZ2 := Lib.hid (show s2.size < s.size from Nat.lt_of_le_of_lt hz2 hz1s)
    clear hz2 hz1 hz1s hT1 hT2 hL1 hL2 hs1 ht hs2 hb16
    go_upto_region 4 with fail
    try rw [← HW6.out]
    try rw [← HBE6.out]
    clear HW6
    obtain ⟨d0, d1, d2, d3⟩ := four_at a16
    by_cases htf : t = kFrom
    · subst htf
      have hcall := pass_any ⟨#[32]⟩ s2 S v3 hL3
      go_wp2_with fail
      clear d0 d1 d2 d3
      (with_reducible refine hcall.mono ?_)
      clear hcall
      rintro e9 v4 ⟨rfl, ⟨s3, hs3, hL4⟩, hT4⟩
      have hz3 : s3.size ≤ s2.size := by rw [← bl_size s3, ← bl_size s2, hs3]; exact cut_le _ _
      have hcall := word_any s3 S v4 hL4 (by have := HZ2.out; have := HZ.out.2; omega)
      go_wp2_with fail
      (with_reducible refine hcall.mono ?_)
      clear hcall
      rintro e9 v5 ⟨fo, s4, rfl, hfo, hs4, hL5, hT5⟩
      have hz4 : s4.size ≤ s3.size := by rw [← bl_size s4, ← bl_size s3, hs4]; exact (List.dropWhile_suffix wch).length_le
      have h5 := (hT4.step hT5).at a16 (fun e => by have := HN6.out.1; omega)
      obtain ⟨d0, d1, d2, d3⟩ := four_at h5
      have f2 : v5.frozen? ⟨b6, 2, none⟩ = false := by simp [World.frozen?, h5]
      obtain ⟨v6, hv6⟩ : ∃ v, v = v5.setCell ⟨b6, 2, none⟩ (.string fo) := ⟨_, rfl⟩
      have h6 : v6.heap[b6]? = some (.cells #[.string kFrom, .string ⟨#[]⟩, .string fo, .slice none 0 0] 34 (0, 0)) := by rw [hv6]; exact at_set h5 2 _
      have hL6 : RuleWord.Left S s4 v6 := by rw [hv6]; exact left_set hL5 (by have := HN6.out.1; omega) _
      have hT6 : Turn (fun g => g = S) w1 v6 := by rw [hv6]; exact ((hT3.step hT4).step hT5).set _ (Or.inl HN6.out.2.2) _
      have HV6 := Lib.hid hv6
      have hcall := pass_any ⟨#[32]⟩ s4 S v6 hL6
      clear hv6 h5 a16 hL3 hL4 hL5 hT3 hT4 hT5
      go_upto_region 7 with fail
      rw [← HV6.out]
      clear HV6 d0 d1 d2 d3 f2
      go_wp2_with fail
      (with_reducible refine hcall.mono ?_)
      clear hcall
      rintro e9 v7 ⟨rfl, ⟨s5, hs5, hL7⟩, hT7⟩
      have hz5 : s5.size ≤ s4.size := by rw [← bl_size s5, ← bl_size s4, hs5]; exact cut_le _ _
      have hcall := word_any s5 S v7 hL7 (by have := HZ2.out; have := HZ.out.2; omega)
      go_wp2_with fail
      (with_reducible refine hcall.mono ?_)
      clear hcall
      rintro e9 v8 ⟨nm, s6, rfl, hnm, hs6, hL8, hT8⟩
      have h8 := (hT7.step hT8).at h6 (fun e => by have := HN6.out.1; omega)
      obtain ⟨d0, d1, d2, d3⟩ := four_at h8
      have f1 : v8.frozen? ⟨b6, 1, none⟩ = false := by simp [World.frozen?, h8]
      obtain ⟨v9, hv9⟩ : ∃ v, v = v8.setCell ⟨b6, 1, none⟩ (.string nm) := ⟨_, rfl⟩
      have h9 : v9.heap[b6]? = some (.cells #[.string kFrom, .string nm, .string fo, .slice none 0 0] 34 (0, 0)) := by rw [hv9]; exact at_set h8 1 _
      have hL9 : RuleWord.Left S s6 v9 := by rw [hv9]; exact left_set hL8 (by have := HN6.out.1; omega) _
      have hT9 : Turn (fun g => g = S) w1 v9 := by rw [hv9]; exact ((hT6.step hT7).step hT8).set _ (Or.inl HN6.out.2.2) _
      have HFR := Lib.hid (show FromAt (bl s) (bl s2) (bl s3) (bl s4) (bl s5) (bl s6) fo nm from ⟨HE.out.1, HE.out.2.2, hs3, hfo, hs4, hs5, hnm, hs6⟩)
      have HB9 := Lib.hid (fun (w' : World) (hw' : Turn (fun g => g = S) v9 w') => four_at (hw'.at h9 (fun e => by have := HN6.out.1; omega)))
      have HB9b := Lib.hid (fun (w' : World) (hw' : Turn (fun g => g = S) v9 w') => hw'.at h9 (fun e => by have := HN6.out.1; omega))
      have HT9 := Lib.hid hT9
      have HL9 := Lib.hid hL9
      have HV9 := Lib.hid hv9
      clear hv9 h8 h6 h9 hL6 hL7 hL8 hL9 hT6 hT7 hT8 hT9 hz3 hz4 hz5 hs3 hfo hs4 hs5 hnm hs6
      go_upto_region 9 with fail
      rw [← HV9.out]
      clear HV9 d0 d1 d2 d3 f1
      by_cases hf : formC kFrom nm fo 0 = true
      · have HF := Lib.hid hf
        clear hf
        refine wp_region_any (by kernel_rfl) ?_
        change wpAny _ _ _ _ _ _ _ (World.drew _)
        refine Held.any_of_G (S := (fun w' : World => w'.cell? ⟨b6, 0, none⟩ = some (.string kFrom) ∧ w'.cell? ⟨b6, 1, none⟩ = some (.string nm) ∧ w'.cell? ⟨b6, 2, none⟩ = some (.string fo) ∧ w'.cell? ⟨b6, 3, none⟩ = some (.slice none 0 0))) (z := 8) _ _ _ _ ?_
        refine Held.G_take (i := 0) (d := 33) (v := ?_) [0, 7, 8] rfl rfl (by kernel_rfl) (by kernel_rfl) (by kernel_rfl) (by kernel_rfl) (fun _ _ _ h => h) (Or.inl ⟨by rfl, ?_⟩) (HB9.out _ (show Turn (fun g => g = S) v9 v9.drew from (Turn.refl _ _).drew)) ?_
        rotate_left 1
        · intro w hSw; obtain ⟨d0, d1, d2, d3⟩ := hSw; go_simp <;> with_reducible rfl
        simp only [Act.put, List.setIfInBounds_toArray, List.set_cons_zero, List.set_cons_succ]
        refine Held.G_take (i := 1) (d := 34) (v := ?_) [1, 2, 3, 4, 5, 6, 7, 8] rfl rfl (by kernel_rfl) (by kernel_rfl) (by kernel_rfl) (by kernel_rfl) (fun _ _ _ h => h) (Or.inl ⟨by rfl, ?_⟩) (HB9.out _ (show Turn (fun g => g = S) v9 v9.drew from (Turn.refl _ _).drew)) ?_
        rotate_left 1
        · intro w hSw; obtain ⟨d0, d1, d2, d3⟩ := hSw; go_simp <;> with_reducible rfl
        simp only [Act.put, List.setIfInBounds_toArray, List.set_cons_zero, List.set_cons_succ]
        refine Held.G_ready (rs := [2]) (by decide +kernel) (by simp) ?_
        refine Held.G_cons rfl (fun KK hK => ?_) Held.G_nil
        go_simp
        have hcall := hasForm_any kFrom nm fo 0 none 0 _ (HG.out _ HT9.out.drew)
        rw [HF.out] at hcall
        (with_reducible refine hcall.mono ?_)
        clear hcall
        rintro e9 x8 ⟨rfl, bq⟩
        have hq2 : Turn (fun g => g = S) v9 x8 := (Turn.refl _ _).drew.step (Turn.ofBelow bq)
        have hLu : RuleWord.Left S s6 x8 := RuleWord.Left.later (w := v9.drew) HL9.out bq
        clear bq
        go_simp
        refine hK _ _ ?_
        clear hK KK
        refine ⟨(HB9.out _ hq2), ?_⟩
        refine Held.G_take (i := 3) (d := 36) (v := ?_) [3, 4, 5, 6, 7, 8] rfl rfl (by kernel_rfl) (by kernel_rfl) (by kernel_rfl) (by kernel_rfl) (fun _ _ _ h => h) (Or.inl ⟨by rfl, ?_⟩) (HB9.out _ hq2) ?_
        rotate_left 1
        · intro w hSw; clear hSw; go_simp <;> with_reducible rfl
        simp only [Act.put, List.setIfInBounds_toArray, List.set_cons_zero, List.set_cons_succ]
        refine Held.G_take (i := 4) (d := 37) (v := ?_) [4, 5, 6, 7, 8] rfl rfl (by kernel_rfl) (by kernel_rfl) (by kernel_rfl) (by kernel_rfl) (fun _ _ _ h => h) (Or.inl ⟨by rfl, ?_⟩) (HB9.out _ hq2) ?_
        rotate_left 1
        · intro w hSw; clear hSw; go_simp <;> with_reducible rfl
        simp only [Act.put, List.setIfInBounds_toArray, List.set_cons_zero, List.set_cons_succ]
        refine Held.G_ready (rs := [5]) (by decide +kernel) (by simp) ?_
        refine Held.G_cons rfl (fun KK hK => ?_) Held.G_nil
        go_simp
        have hcall := pass_any ⟨#[41]⟩ s6 S x8 hLu
        (with_reducible refine hcall.mono ?_)
        clear hcall
        rintro e9 x9 ⟨rfl, ⟨s7, hs7, hL7⟩, hT7⟩
        have hq5 : Turn (fun g => g = S) v9 x9 := hq2.step hT7
        generalize hp : (bl ⟨#[41]⟩).isPrefixOf (bl s6) = p
        have hbx := HBX.out _ (HT9.out.step hq5)
        obtain ⟨d0, d1, d2, d3⟩ := four_at hbx
        have f0 : x9.frozen? ⟨b, 0, none⟩ = false := by simp [World.frozen?, hbx]
        have f1 : x9.frozen? ⟨b, 1, none⟩ = false := by simp [World.frozen?, hbx]
        have f2 : x9.frozen? ⟨b, 2, none⟩ = false := by simp [World.frozen?, hbx]
        have f3 : x9.frozen? ⟨b, 3, none⟩ = false := by simp [World.frozen?, hbx]
        have HS4 := Lib.hid (set4 hbx (.string kFrom) (.string nm) (.string fo) (.slice none 0 0))
        have HTX := Lib.hid (turn4 (HT0.out _ (HT9.out.step hq5)) (Or.inl HLE.out) (.string kFrom) (.string nm) (.string fo) (.slice none 0 0))
        have HL := Lib.hid (left4 (hL7) HNE.out (.string kFrom) (.string nm) (.string fo) (.slice none 0 0))
        have HX := Lib.hid (from_end HFR.out hs7 hp HF.out (lo := w.heap.size) (v := ((((x9.setCell ⟨b, 0, none⟩ (.string kFrom)).setCell ⟨b, 1, none⟩ (.string nm)).setCell ⟨b, 2, none⟩ (.string fo)).setCell ⟨b, 3, none⟩ (.slice none 0 0))))
        clear hbx
        clear hp hs7 hT7 hL7 hLu
        go_simp
        refine hK _ _ ?_
        clear hK KK
        refine ⟨(HB9.out _ hq5), ?_⟩
        refine Held.G_take (i := 6) (d := 39) (v := ?_) [6, 8] rfl rfl (by kernel_rfl) (by kernel_rfl) (by kernel_rfl) (by kernel_rfl) (fun _ _ _ h => h) (Or.inl ⟨by rfl, ?_⟩) (HB9.out _ hq5) ?_
        rotate_left 1
        · intro w hSw; clear hSw; go_simp <;> with_reducible rfl
        simp only [Act.put, List.setIfInBounds_toArray, List.set_cons_zero, List.set_cons_succ]
        refine Held.G_ready (rs := [7]) (by decide +kernel) (by simp) ?_
        refine Held.G_cons rfl (fun KK hK => ?_) Held.G_nil
        go_simp
        refine hK _ _ ⟨(four_at ((set4_other (show b6 ≠ b from by have := HN6.out.2.1; omega) (.string kFrom) (.string nm) (.string fo) (.slice none 0 0)).trans (HB9b.out _ hq5))), ?_⟩
        clear hK KK
        refine Held.G_ready (rs := [8]) (by decide +kernel) (by simp) ?_
        refine Held.G_last rfl (fun KK hK => ?_) Held.G_nil
        go_simp
        refine hK _ _ ?_
        clear hK KK
        refine Held.G_done (by kernel_rfl) ?_ _
        clear d0 d1 d2 d3 f0 f1 f2 f3 hq2 hq5
        go_wp2_with fail
        refine bodyPost_ret (results_cell_tmp_row rfl _ _ b 34 _ (0, 0) _ rfl HS4.out Tryd.underlying34 rfl (by kernel_rfl)) rfl ?_
        unfold ReadPost
        exact ⟨_, _, _, _, _, _, _, _, rfl, HL.out, HTX.out, HX.out⟩
      · have HF := Lib.hid (show formC kFrom nm fo 0 = false by simpa using hf)
        clear hf
        refine wp_region_any (by kernel_rfl) ?_
        change wpAny _ _ _ _ _ _ _ (World.drew _)
        refine Held.any_of_G (S := (fun w' : World => w'.cell? ⟨b6, 0, none⟩ = some (.string kFrom) ∧ w'.cell? ⟨b6, 1, none⟩ = some (.string nm) ∧ w'.cell? ⟨b6, 2, none⟩ = some (.string fo) ∧ w'.cell? ⟨b6, 3, none⟩ = some (.slice none 0 0))) (z := 8) _ _ _ _ ?_
        refine Held.G_take (i := 0) (d := 33) (v := ?_) [0, 7, 8] rfl rfl (by kernel_rfl) (by kernel_rfl) (by kernel_rfl) (by kernel_rfl) (fun _ _ _ h => h) (Or.inl ⟨by rfl, ?_⟩) (HB9.out _ (show Turn (fun g => g = S) v9 v9.drew from (Turn.refl _ _).drew)) ?_
        rotate_left 1
        · intro w hSw; obtain ⟨d0, d1, d2, d3⟩ := hSw; go_simp <;> with_reducible rfl
        simp only [Act.put, List.setIfInBounds_toArray, List.set_cons_zero, List.set_cons_succ]
        refine Held.G_take (i := 1) (d := 34) (v := ?_) [1, 2, 3, 4, 5, 6, 7, 8] rfl rfl (by kernel_rfl) (by kernel_rfl) (by kernel_rfl) (by kernel_rfl) (fun _ _ _ h => h) (Or.inl ⟨by rfl, ?_⟩) (HB9.out _ (show Turn (fun g => g = S) v9 v9.drew from (Turn.refl _ _).drew)) ?_
        rotate_left 1
        · intro w hSw; obtain ⟨d0, d1, d2, d3⟩ := hSw; go_simp <;> with_reducible rfl
        simp only [Act.put, List.setIfInBounds_toArray, List.set_cons_zero, List.set_cons_succ]
        refine Held.G_ready (rs := [2]) (by decide +kernel) (by simp) ?_
        refine Held.G_cons rfl (fun KK hK => ?_) Held.G_nil
        go_simp
        have hcall := hasForm_any kFrom nm fo 0 none 0 _ (HG.out _ HT9.out.drew)
        rw [HF.out] at hcall
        (with_reducible refine hcall.mono ?_)
        clear hcall
        rintro e9 x8 ⟨rfl, bq⟩
        have hq2 : Turn (fun g => g = S) v9 x8 := (Turn.refl _ _).drew.step (Turn.ofBelow bq)
        have hLu : RuleWord.Left S s6 x8 := RuleWord.Left.later (w := v9.drew) HL9.out bq
        clear bq
        have hbx := HBX.out _ (HT9.out.step hq2)
        obtain ⟨d0, d1, d2, d3⟩ := four_at hbx
        have f0 : x8.frozen? ⟨b, 0, none⟩ = false := by simp [World.frozen?, hbx]
        have f1 : x8.frozen? ⟨b, 1, none⟩ = false := by simp [World.frozen?, hbx]
        have f2 : x8.frozen? ⟨b, 2, none⟩ = false := by simp [World.frozen?, hbx]
        have f3 : x8.frozen? ⟨b, 3, none⟩ = false := by simp [World.frozen?, hbx]
        have HS4 := Lib.hid (set4 hbx (.string kFrom) (.string nm) (.string fo) (.slice none 0 0))
        have HTX := Lib.hid (turn4 (HT0.out _ (HT9.out.step hq2)) (Or.inl HLE.out) (.string kFrom) (.string nm) (.string fo) (.slice none 0 0))
        have HL := Lib.hid (left4 (hLu) HNE.out (.string kFrom) (.string nm) (.string fo) (.slice none 0 0))
        have HX := Lib.hid (from_off HFR.out HF.out (bl s6) (lo := w.heap.size) (v := ((((x8.setCell ⟨b, 0, none⟩ (.string kFrom)).setCell ⟨b, 1, none⟩ (.string nm)).setCell ⟨b, 2, none⟩ (.string fo)).setCell ⟨b, 3, none⟩ (.slice none 0 0))))
        clear hbx
        go_simp
        refine hK _ _ ?_
        clear hK KK
        refine ⟨(HB9.out _ hq2), ?_⟩
        refine Held.G_take (i := 3) (d := 36) (v := ?_) [3, 4, 5, 6, 7, 8] rfl rfl (by kernel_rfl) (by kernel_rfl) (by kernel_rfl) (by kernel_rfl) (fun _ _ _ h => h) (Or.inl ⟨by rfl, ?_⟩) (HB9.out _ hq2) ?_
        rotate_left 1
        · intro w hSw; clear hSw; go_simp <;> with_reducible rfl
        simp only [Act.put, List.setIfInBounds_toArray, List.set_cons_zero, List.set_cons_succ]
        refine Held.G_take (i := 4) (d := 37) (v := undef) [4, 5, 6, 7, 8] rfl rfl (by kernel_rfl) (by kernel_rfl) (by kernel_rfl) (by kernel_rfl) (fun _ _ _ h => h) (Or.inr ⟨by rfl, rfl⟩) (HB9.out _ hq2) ?_
        simp only [Act.put, List.setIfInBounds_toArray, List.set_cons_zero, List.set_cons_succ]
        refine Held.G_take (i := 5) (d := 38) (v := undef) [5, 6, 7, 8] rfl rfl (by kernel_rfl) (by kernel_rfl) (by kernel_rfl) (by kernel_rfl) (fun _ _ _ h => h) (Or.inr ⟨by rfl, rfl⟩) (HB9.out _ hq2) ?_
        simp only [Act.put, List.setIfInBounds_toArray, List.set_cons_zero, List.set_cons_succ]
        refine Held.G_take (i := 6) (d := 39) (v := ?_) [6, 8] rfl rfl (by kernel_rfl) (by kernel_rfl) (by kernel_rfl) (by kernel_rfl) (fun _ _ _ h => h) (Or.inl ⟨by rfl, ?_⟩) (HB9.out _ hq2) ?_
        rotate_left 1
        · intro w hSw; clear hSw; go_simp <;> with_reducible rfl
        simp only [Act.put, List.setIfInBounds_toArray, List.set_cons_zero, List.set_cons_succ]
        refine Held.G_ready (rs := [7]) (by decide +kernel) (by simp) ?_
        refine Held.G_cons rfl (fun KK hK => ?_) Held.G_nil
        go_simp
        refine hK _ _ ⟨(four_at ((set4_other (show b6 ≠ b from by have := HN6.out.2.1; omega) (.string kFrom) (.string nm) (.string fo) (.slice none 0 0)).trans (HB9b.out _ hq2))), ?_⟩
        clear hK KK
        refine Held.G_ready (rs := [8]) (by decide +kernel) (by simp) ?_
        refine Held.G_last rfl (fun KK hK => ?_) Held.G_nil
        go_simp
        refine hK _ _ ?_
        clear hK KK
        refine Held.G_done (by kernel_rfl) ?_ _
        clear d0 d1 d2 d3 f0 f1 f2 f3 hq2
        go_wp2_with fail
        refine bodyPost_ret (results_cell_tmp_row rfl _ _ b 34 _ (0, 0) _ rfl HS4.out Tryd.underlying34 rfl (by kernel_rfl)) rfl ?_
        unfold ReadPost
        exact ⟨_, _, _, _, _, _, _, _, rfl, HL.out, HTX.out, HX.out⟩
    · have HOP := Lib.hid htf
      have hq : (t.toList == [102, 114, 111, 109]) = false := by rw [tl_from]; exact decide_eq_false htf
      clear htf
      have HN0 := Lib.hid (node_nil HE.out.1 HE.out.2.1 HE.out.2.2)
      have HT3 := Lib.hid hT3
      have HL3 := Lib.hid hL3
      have HA6 := Lib.hid a16
      clear hT3 hL3 a16
      go_wp2_with fail
      clear hq d0 d1 d2 d3
      go_loopw [7, 8] (fun y z wr => y = y ∧ z = z ∧ ∃ (sk : ByteArray) (A : Option Addr) (c : Nat) (qf : Nat → List Value) (ps : List Ex), RuleWord.Left S sk wr ∧ NodeAt (bl s) t ps (bl sk) ∧ Parts v3.heap.size wr A ps.length c ps qf ∧ wr.heap[b6]? = some (.cells #[.string t, .string ⟨#[]⟩, .string ⟨#[]⟩, .slice A ps.length c] 34 (0, 0)) ∧ Turn (fun g => g = S) w1 wr ∧ v3.heap.size ≤ wr.heap.size) (fun _ _ wr => leftLen S wr)
      case atStart => exact ⟨rfl, rfl, _, none, 0, fun _ => [], [], HL3.out, HN0.out, Parts.nil _ _ _, HA6.out, HT3.out, Nat.le_refl _⟩
      case round =>
        obtain ⟨_, _, sk, A, c, qf, ps, hLk, hNk, hPk, hk6, hTk, hzk⟩ := hrel
        have hfew := hNk.few
        rw [bl_size, bl_size] at hfew
        have hcall := pass_any ⟨#[32]⟩ sk S wr hLk
        have HLK := Lib.hid (left_len hLk)
        have HNK := Lib.hid hNk
        have HZK := Lib.hid (And.intro hfew hzk)
        clear hNk hfew hzk
        go_upto_region 10 with fail
        go_wp2_with fail
        (with_reducible refine hcall.mono ?_)
        clear hcall
        rintro e9 u1 ⟨rfl, ⟨s3, hs3, hL3⟩, hT3⟩
        have h6 := hT3.at hk6 (fun e => by have := HN6.out.1; omega)
        have hP := Parts.turn hPk hT3 (by have := HN6.out.1; have := HLO.out; omega)
        have hTu := hTk.step hT3
        have HZU := Lib.hid (show v3.heap.size ≤ u1.heap.size from Nat.le_trans HZK.out.2 hT3.size)
        generalize hp : (bl ⟨#[32]⟩).isPrefixOf (bl sk) = p
        have hp : [32].isPrefixOf (bl sk) = p := hp
        have hs3 : bl s3 = cut [32] (bl sk) := hs3
        clear hLk hPk hk6 hTk hT3
        cases p with
        | true =>
          have HS3 := Lib.hid (show bl sk = 32 :: bl s3 from by rw [hs3]; exact cut_hit hp)
          have HZ3 := Lib.hid (show s3.size < sk.size from by rw [← bl_size s3, ← bl_size sk, HS3.out, List.length_cons]; exact Nat.lt_succ_self _)
          have hcall := HI.out S s3 u1 (by have := HZ3.out; have := HZ2.out; have := HZK.out.1; have := HZ.out.1; omega) (by have := HZ3.out; have := HZK.out.1; have := HZ.out.2; omega) HOF.out hL3 (HG.out _ hTu)
          unfold ReadPost at hcall
          have HP := Lib.hid hP
          have HTU := Lib.hid hTu
          have H6 := Lib.hid h6
          clear hp hs3 hL3 hP hTu h6
          go_wp2_with fail
          (with_reducible refine hcall.mono ?_)
          clear hcall
          rintro e9 u2 ⟨q0, q1, q2, Ae, ne, ce, ok, s4, rfl, hL4, hT4, hTe⟩
          obtain ⟨u3, hw17⟩ : ∃ v, v = u2.alloc (.cells #[.string q0, .string q1, .string q2, .slice Ae ne ce] 34) := ⟨_, rfl⟩
          obtain ⟨b7, hbe7⟩ : ∃ v, v = u2.heap.size := ⟨_, rfl⟩
          have hb17 : Below u2.heap.size u2 u3 := by rw [hw17]; exact al _ _
          have a17 : u3.heap[b7]? = some (.cells #[.string q0, .string q1, .string q2, .slice Ae ne ce] 34 (0, 0)) := by rw [hw17, hbe7]; exact heap_alloc_new u2 _
          have HW7 := Lib.hid hw17
          have HBE7 := Lib.hid hbe7
          clear hw17 hbe7
          have hL5 := hL4.later hb17
          have hT5 : Turn (fun g => g = S) u1 u3 := hT4.step (Turn.ofBelow hb17)
          have h6 := hT5.at H6.out (fun e => by have := HN6.out.1; omega)
          have hP5 := Parts.turn HP.out hT5 (by have := HN6.out.1; have := HLO.out; omega)
          have hTA := HTU.out.step hT5
          have HTE := Lib.hid hTe
          have HB7 := Lib.hid hb17
          have HZE := Lib.hid (And.intro hT4.size (Nat.le_trans HZU.out hT5.size))
          clear hL4 hTe hb17 hT4 hT5
          go_upto_region 12 with fail
          try rw [← HW7.out]
          try rw [← HBE7.out]
          clear HW7
          cases ok with
          | false =>
            have hbx := HBX.out _ hTA
            obtain ⟨d0, d1, d2, d3⟩ := four_at hbx
            have f0 : u3.frozen? ⟨b, 0, none⟩ = false := by simp [World.frozen?, hbx]
            have f1 : u3.frozen? ⟨b, 1, none⟩ = false := by simp [World.frozen?, hbx]
            have f2 : u3.frozen? ⟨b, 2, none⟩ = false := by simp [World.frozen?, hbx]
            have f3 : u3.frozen? ⟨b, 3, none⟩ = false := by simp [World.frozen?, hbx]
            have HS4 := Lib.hid (set4 hbx (.string ⟨#[]⟩) (.string ⟨#[]⟩) (.string ⟨#[]⟩) (.slice none 0 0))
            have HTX := Lib.hid (turn4 (HT0.out _ hTA) (Or.inl HLE.out) (.string ⟨#[]⟩) (.string ⟨#[]⟩) (.string ⟨#[]⟩) (.slice none 0 0))
            have HL := Lib.hid (left4 hL5 HNE.out (.string ⟨#[]⟩) (.string ⟨#[]⟩) (.string ⟨#[]⟩) (.slice none 0 0))
            have HX := Lib.hid (node_less (by have h := HNK.out; rw [HS3.out] at h; exact h) HOP.out (HTE.out.2 rfl))
            clear hbx hL5 h6 hP5 hTA a17
            go_wp2_with fail
            refine bodyPost_ret (results_cell_tmp_row rfl _ _ b 34 _ (0, 0) _ rfl HS4.out Tryd.underlying34 rfl (by kernel_rfl)) rfl ?_
            unfold ReadPost
            exact ⟨_, _, _, _, _, _, _, _, rfl, HL.out, HTX.out, fun e => by simp at e, fun _ => HX.out⟩
          | true =>
            obtain ⟨e, hqe, hat, hst⟩ := HTE.out.1 rfl
            have HNM := Lib.hid (node_more (by have h := HNK.out; rw [HS3.out] at h; exact h) hat hst)
            have HZ4 := Lib.hid (show s4.size ≤ s3.size from by rw [← bl_size s4, ← bl_size s3, hat.2, List.length_append]; exact Nat.le_add_left _ _)
            have hb8 := al u3 (.cells #[.string q0, .string q1, .string q2, .slice Ae ne ce] 34)
            have a8 := heap_alloc_new u3 (.cells #[.string q0, .string q1, .string q2, .slice Ae ne ce] 34)
            have hP8 := hP5.later hb8
            have HQ8 := Lib.hid ((hqe.imp fun _ _ s => st_later s HB7.out).imp fun _ _ s => st_later (st_new (lo := v3.heap.size) (g := (Value.slice A ps.length c).ownBlock) s HZU.out fun g h => (HP.out.own.lt g h).2) hb8)
            have hrow := row_of_block a8
            have hkm := HZK.out.1
            have hkz := HZ.out.2
            obtain ⟨A5, c5, u5, hrun, ho5, hg5, hl5⟩ := run_append_n (P := Tryd.prog) (c2 := 1) (m := 1) 32 elem_e (by omega) hP8.own hrow rfl HQ8.out.one (by unfold maxLen; omega) (by omega) (Nat.le_trans HZE.out.2 hb8.size)
            obtain ⟨qf', hPN⟩ := Parts.more hP8 HQ8.out ho5 hg5 hl5
            have hob : ∀ k, (Value.slice A ps.length c).ownBlock = some k → b6 < k := fun k hk => Nat.lt_of_lt_of_le HLO.out (hP8.own.lt k hk).1
            have h65 : u5.heap[b6]? = _ := (hg5.block b6 (Nat.lt_of_lt_of_le (heap_lt h6) hb8.size) (fun e => by have := hob _ e.symm; omega)).trans ((hb8.block b6 (heap_lt h6)).trans h6)
            have hL5' : RuleWord.Left S s4 u5 := (hg5.block S (Nat.lt_of_lt_of_le (heap_lt hL5) hb8.size) (fun e => by have := hob _ e.symm; have := HN6.out.1; omega)).trans ((hb8.block S (heap_lt hL5)).trans hL5)
            have hTB : Turn (fun g => g = S) w1 u5 := (hTA.step (Turn.ofBelow hb8)).trans (Turn.ofGrown (F := fun k => (Value.slice A ps.length c).ownBlock = some k) hg5 fun k h _ => h) fun i hi h => by have := hob _ h; have := HN6.out.2.2; omega
            obtain ⟨y0, y1, y2, y3⟩ := four_at h65
            have z3 : u5.frozen? ⟨b6, 3, none⟩ = false := by simp [World.frozen?, h65]
            have HA5 := Lib.hid (show (u5.setCell ⟨b6, 3, none⟩ (.slice A5 (ps.length + 1) c5)).heap[b6]? = some (.cells #[.string t, .string ⟨#[]⟩, .string ⟨#[]⟩, .slice A5 (ps.length + 1) c5] 34 (0, 0)) from at_set h65 3 _)
            have HL5 := Lib.hid (left_set (b := b6) (i := 3) hL5' (by have := HN6.out.1; omega) (.slice A5 (ps.length + 1) c5))
            have HT5 := Lib.hid (hTB.set ⟨b6, 3, none⟩ (Or.inl HN6.out.2.2) (.slice A5 (ps.length + 1) c5))
            have HPN := Lib.hid (Parts.turn hPN (Turn.set (Turn.refl (fun g => g = b6) u5) ⟨b6, 3, none⟩ (.inr rfl) (.slice A5 (ps.length + 1) c5)) HLO.out)
            have HSZ := Lib.hid (show v3.heap.size ≤ (u5.setCell ⟨b6, 3, none⟩ (.slice A5 (ps.length + 1) c5)).heap.size from by rw [size_set]; exact Nat.le_trans HZE.out.2 (Nat.le_trans hb8.size hg5.size))
            have HLN := Lib.hid (left_len HL5.out)
            obtain ⟨d0, d1, d2, d3⟩ := four_at h6
            obtain ⟨x0, x1, x2, x3⟩ := four_at a17
            clear hqe hat hst hb8 a8 hP8 hrow hkm hkz ho5 hg5 hl5 hPN hob h65 hL5' hTB h6 hP5 hL5 hTA a17
            go_wp2_with (at_builtin; refine wpList_append_run rfl (.tmp 52) (.tmp 54) 32 32 rfl rfl rfl hrun ?_)
            go_roundw
            case rel => exact ⟨trivial, trivial, s4, A5, c5, qf', ps ++ [e], HL5.out, HNM.out, by have h := HPN.out; rw [show (ps ++ [e]).length = ps.length + 1 from by simp] at h ⊢; exact h, by rw [show (ps ++ [e]).length = ps.length + 1 from by simp]; exact HA5.out, HT5.out, HSZ.out⟩
            case measure => have h1 := HLN.out; have h2 := HLK.out; have h3 := HZ3.out; have h4 := HZ4.out; omega
        | false =>
          have hs3 : bl s3 = bl sk := by rw [hs3, cut, hp]; rfl
          have HNB := Lib.hid (fun h => node_bad HNK.out HOP.out hp (by have := HZK.out.1; have := HZ.out.2; omega) h)
          have HS3 := Lib.hid hs3
          clear hs3 hp
          have HB1 := Lib.hid (fun (w' : World) (hw' : Turn (fun g => g = S) u1 w') => four_at (hw'.at h6 (fun e => by have := HN6.out.1; omega)))
          have HB1b := Lib.hid (fun (w' : World) (hw' : Turn (fun g => g = S) u1 w') => hw'.at h6 (fun e => by have := HN6.out.1; omega))
          have HT1 := Lib.hid hTu
          have HL1 := Lib.hid hL3
          have HLAY := Lib.hid (fun (w' : World) (hw' : Turn (fun g => g = S) u1 w') => lay_set4 (b := b) (w := w') (by have := HN6.out.2.1; have := HLO.out; omega) (Parts.all (Parts.turn hP hw' (by have := HN6.out.1; have := HLO.out; omega)) (by have := HZK.out.1; have := HZ.out.2; unfold maxLen; omega) t ⟨#[]⟩ ⟨#[]⟩) (.string t) (.string ⟨#[]⟩) (.string ⟨#[]⟩) (.slice A ps.length c))
          have HVZ := Lib.hid (show w.heap.size ≤ v3.heap.size from by have h1 := HT0.out _ (Turn.refl _ _); have h2 := HN6.out.2.2; have h3 := HLO.out; have h4 := h1.size; omega)
          clear hL3 hP h6 hTu
          go_upto_region 15 with fail
          by_cases h0 : 0 < ps.length
          · have hgt : (0 : Int) < (ps.length : Int) := by omega
            have H0 := Lib.hid h0
            clear h0
            by_cases hf : formC t ⟨#[]⟩ ⟨#[]⟩ ps.length = true
            · have HF := Lib.hid hf
              clear hf
              refine wp_region_any (by kernel_rfl) ?_
              change wpAny _ _ _ _ _ _ _ (World.drew _)
              refine Held.any_of_G (S := (fun w' : World => w'.cell? ⟨b6, 0, none⟩ = some (.string t) ∧ w'.cell? ⟨b6, 1, none⟩ = some (.string ⟨#[]⟩) ∧ w'.cell? ⟨b6, 2, none⟩ = some (.string ⟨#[]⟩) ∧ w'.cell? ⟨b6, 3, none⟩ = some (.slice A ps.length c))) (z := 14) _ _ _ _ ?_
              refine Held.G_take (i := 0) (d := 57) (v := ?_) [0, 13, 14] rfl rfl (by kernel_rfl) (by kernel_rfl) (by kernel_rfl) (by kernel_rfl) (fun _ _ _ h => h) (Or.inl ⟨by rfl, ?_⟩) (HB1.out _ (show Turn (fun g => g = S) u1 u1.drew from (Turn.refl _ _).drew)) ?_
              rotate_left 1
              · intro w hSw; obtain ⟨d0, d1, d2, d3⟩ := hSw; go_simp <;> with_reducible rfl
              simp only [Act.put, List.setIfInBounds_toArray, List.set_cons_zero, List.set_cons_succ]
              refine Held.G_take (i := 1) (d := 58) (v := ?_) [1, 2, 3, 4, 5, 6, 7, 8, 9, 10, 11, 12, 13, 14] rfl rfl (by kernel_rfl) (by kernel_rfl) (by kernel_rfl) (by kernel_rfl) (fun _ _ _ h => h) (Or.inl ⟨by rfl, ?_⟩) (HB1.out _ (show Turn (fun g => g = S) u1 u1.drew from (Turn.refl _ _).drew)) ?_
              rotate_left 1
              · intro w hSw; clear hSw; go_simp <;> with_reducible rfl
              simp only [Act.put, List.setIfInBounds_toArray, List.set_cons_zero, List.set_cons_succ]
              refine Held.G_take (i := 2) (d := 59) (v := ?_) [2, 3, 4, 5, 6, 7, 8, 9, 10, 11, 12, 13, 14] rfl rfl (by kernel_rfl) (by kernel_rfl) (by kernel_rfl) (by kernel_rfl) (fun _ _ _ h => h) (Or.inl ⟨by rfl, ?_⟩) (HB1.out _ (show Turn (fun g => g = S) u1 u1.drew from (Turn.refl _ _).drew)) ?_
              rotate_left 1
              · intro w hSw; obtain ⟨d0, d1, d2, d3⟩ := hSw; go_simp <;> with_reducible rfl
              simp only [Act.put, List.setIfInBounds_toArray, List.set_cons_zero, List.set_cons_succ]
              refine Held.G_take (i := 3) (d := 60) (v := ?_) [3, 4, 5, 6, 7, 8, 9, 10, 11, 12, 13, 14] rfl rfl (by kernel_rfl) (by kernel_rfl) (by kernel_rfl) (by kernel_rfl) (fun _ _ _ h => h) (Or.inl ⟨by rfl, ?_⟩) (HB1.out _ (show Turn (fun g => g = S) u1 u1.drew from (Turn.refl _ _).drew)) ?_
              rotate_left 1
              · intro w hSw; clear hSw; go_simp <;> with_reducible rfl
              simp only [Act.put, List.setIfInBounds_toArray, List.set_cons_zero, List.set_cons_succ]
              refine Held.G_take (i := 4) (d := 61) (v := .bool true) [4, 5, 6, 7, 8, 9, 10, 11, 12, 13, 14] rfl rfl (by kernel_rfl) (by kernel_rfl) (by kernel_rfl) (by kernel_rfl) (fun _ _ _ h => h) (Or.inl ⟨by rfl, ?_⟩) (HB1.out _ (show Turn (fun g => g = S) u1 u1.drew from (Turn.refl _ _).drew)) ?_
              · intro w hSw; clear hSw; go_simp <;> first | with_reducible rfl | omega | exact List.eq_nil_of_length_eq_zero (by omega)
              simp only [Act.put, List.setIfInBounds_toArray, List.set_cons_zero, List.set_cons_succ]
              refine Held.G_take (i := 5) (d := 62) (v := ?_) [5, 6, 7, 8, 9, 10, 11, 12, 13, 14] rfl rfl (by kernel_rfl) (by kernel_rfl) (by kernel_rfl) (by kernel_rfl) (fun _ _ _ h => h) (Or.inl ⟨by rfl, ?_⟩) (HB1.out _ (show Turn (fun g => g = S) u1 u1.drew from (Turn.refl _ _).drew)) ?_
              rotate_left 1
              · intro w hSw; clear hSw; go_simp <;> with_reducible rfl
              simp only [Act.put, List.setIfInBounds_toArray, List.set_cons_zero, List.set_cons_succ]
              refine Held.G_take (i := 6) (d := 63) (v := ?_) [6, 7, 8, 9, 10, 11, 12, 13, 14] rfl rfl (by kernel_rfl) (by kernel_rfl) (by kernel_rfl) (by kernel_rfl) (fun _ _ _ h => h) (Or.inl ⟨by rfl, ?_⟩) (HB1.out _ (show Turn (fun g => g = S) u1 u1.drew from (Turn.refl _ _).drew)) ?_
              rotate_left 1
              · intro w hSw; obtain ⟨d0, d1, d2, d3⟩ := hSw; go_simp <;> with_reducible rfl
              simp only [Act.put, List.setIfInBounds_toArray, List.set_cons_zero, List.set_cons_succ]
              refine Held.G_ready (rs := [7]) (by decide +kernel) (by simp) ?_
              refine Held.G_cons rfl (fun KK hK => ?_) Held.G_nil
              go_simp
              have hcall := hasForm_any t ⟨#[]⟩ ⟨#[]⟩ ps.length A c _ (HG.out _ HT1.out.drew)
              rw [HF.out] at hcall
              (with_reducible refine hcall.mono ?_)
              clear hcall
              rintro e9 x8 ⟨rfl, bq⟩
              have hq2 : Turn (fun g => g = S) u1 x8 := (Turn.refl _ _).drew.step (Turn.ofBelow bq)
              have hLu : RuleWord.Left S s3 x8 := RuleWord.Left.later (w := u1.drew) HL1.out bq
              clear bq
              go_simp
              refine hK _ _ ?_
              clear hK KK
              refine ⟨(HB1.out _ hq2), ?_⟩
              refine Held.G_take (i := 8) (d := 65) (v := ?_) [8, 9, 10, 11, 12, 13, 14] rfl rfl (by kernel_rfl) (by kernel_rfl) (by kernel_rfl) (by kernel_rfl) (fun _ _ _ h => h) (Or.inl ⟨by rfl, ?_⟩) (HB1.out _ hq2) ?_
              rotate_left 1
              · intro w hSw; clear hSw; go_simp <;> with_reducible rfl
              simp only [Act.put, List.setIfInBounds_toArray, List.set_cons_zero, List.set_cons_succ]
              refine Held.G_take (i := 9) (d := 66) (v := ?_) [9, 10, 11, 12, 13, 14] rfl rfl (by kernel_rfl) (by kernel_rfl) (by kernel_rfl) (by kernel_rfl) (fun _ _ _ h => h) (Or.inl ⟨by rfl, ?_⟩) (HB1.out _ hq2) ?_
              rotate_left 1
              · intro w hSw; clear hSw; go_simp <;> with_reducible rfl
              simp only [Act.put, List.setIfInBounds_toArray, List.set_cons_zero, List.set_cons_succ]
              refine Held.G_take (i := 10) (d := 67) (v := ?_) [10, 11, 12, 13, 14] rfl rfl (by kernel_rfl) (by kernel_rfl) (by kernel_rfl) (by kernel_rfl) (fun _ _ _ h => h) (Or.inl ⟨by rfl, ?_⟩) (HB1.out _ hq2) ?_
              rotate_left 1
              · intro w hSw; clear hSw; go_simp <;> with_reducible rfl
              simp only [Act.put, List.setIfInBounds_toArray, List.set_cons_zero, List.set_cons_succ]
              refine Held.G_ready (rs := [11]) (by decide +kernel) (by simp) ?_
              refine Held.G_cons rfl (fun KK hK => ?_) Held.G_nil
              go_simp
              have hcall := pass_any ⟨#[41]⟩ s3 S x8 hLu
              (with_reducible refine hcall.mono ?_)
              clear hcall
              rintro e9 x9 ⟨rfl, ⟨s7, hs7, hL7⟩, hT7⟩
              have hq5 : Turn (fun g => g = S) u1 x9 := hq2.step hT7
              generalize hp : (bl ⟨#[41]⟩).isPrefixOf (bl s3) = p
              have hbx := HBX.out _ (HT1.out.step hq5)
              obtain ⟨d0, d1, d2, d3⟩ := four_at hbx
              have f0 : x9.frozen? ⟨b, 0, none⟩ = false := by simp [World.frozen?, hbx]
              have f1 : x9.frozen? ⟨b, 1, none⟩ = false := by simp [World.frozen?, hbx]
              have f2 : x9.frozen? ⟨b, 2, none⟩ = false := by simp [World.frozen?, hbx]
              have f3 : x9.frozen? ⟨b, 3, none⟩ = false := by simp [World.frozen?, hbx]
              have HS4 := Lib.hid (set4 hbx (.string t) (.string ⟨#[]⟩) (.string ⟨#[]⟩) (.slice A ps.length c))
              have HTX := Lib.hid (turn4 (HT0.out _ (HT1.out.step hq5)) (Or.inl HLE.out) (.string t) (.string ⟨#[]⟩) (.string ⟨#[]⟩) (.slice A ps.length c))
              have HL := Lib.hid (left4 (hL7) HNE.out (.string t) (.string ⟨#[]⟩) (.string ⟨#[]⟩) (.slice A ps.length c))
              have HX := Lib.hid (node_end_ok HNK.out HS3.out HNB.out H0.out HF.out hs7 hp (lay_lo HVZ.out (HLAY.out _ hq5)) (v := ((((x9.setCell ⟨b, 0, none⟩ (.string t)).setCell ⟨b, 1, none⟩ (.string ⟨#[]⟩)).setCell ⟨b, 2, none⟩ (.string ⟨#[]⟩)).setCell ⟨b, 3, none⟩ (.slice A ps.length c))))
              clear hbx
              clear hp hs7 hT7 hL7 hLu
              go_simp
              refine hK _ _ ?_
              clear hK KK
              refine ⟨(HB1.out _ hq5), ?_⟩
              refine Held.G_take (i := 12) (d := 69) (v := ?_) [12, 14] rfl rfl (by kernel_rfl) (by kernel_rfl) (by kernel_rfl) (by kernel_rfl) (fun _ _ _ h => h) (Or.inl ⟨by rfl, ?_⟩) (HB1.out _ hq5) ?_
              rotate_left 1
              · intro w hSw; clear hSw; go_simp <;> with_reducible rfl
              simp only [Act.put, List.setIfInBounds_toArray, List.set_cons_zero, List.set_cons_succ]
              refine Held.G_ready (rs := [13]) (by decide +kernel) (by simp) ?_
              refine Held.G_cons rfl (fun KK hK => ?_) Held.G_nil
              go_simp
              refine hK _ _ ⟨(four_at ((set4_other (show b6 ≠ b from by have := HN6.out.2.1; omega) (.string t) (.string ⟨#[]⟩) (.string ⟨#[]⟩) (.slice A ps.length c)).trans (HB1b.out _ hq5))), ?_⟩
              clear hK KK
              refine Held.G_ready (rs := [14]) (by decide +kernel) (by simp) ?_
              refine Held.G_last rfl (fun KK hK => ?_) Held.G_nil
              go_simp
              refine hK _ _ ?_
              clear hK KK
              refine Held.G_done (by kernel_rfl) ?_ _
              clear d0 d1 d2 d3 f0 f1 f2 f3 hq2 hq5
              go_wp2_with fail
              refine bodyPost_ret (results_cell_tmp_row rfl _ _ b 34 _ (0, 0) _ rfl HS4.out Tryd.underlying34 rfl (by kernel_rfl)) rfl ?_
              unfold ReadPost
              exact ⟨_, _, _, _, _, _, _, _, rfl, HL.out, HTX.out, HX.out⟩
            · have HF := Lib.hid (show formC t ⟨#[]⟩ ⟨#[]⟩ ps.length = false by simpa using hf)
              clear hf
              refine wp_region_any (by kernel_rfl) ?_
              change wpAny _ _ _ _ _ _ _ (World.drew _)
              refine Held.any_of_G (S := (fun w' : World => w'.cell? ⟨b6, 0, none⟩ = some (.string t) ∧ w'.cell? ⟨b6, 1, none⟩ = some (.string ⟨#[]⟩) ∧ w'.cell? ⟨b6, 2, none⟩ = some (.string ⟨#[]⟩) ∧ w'.cell? ⟨b6, 3, none⟩ = some (.slice A ps.length c))) (z := 14) _ _ _ _ ?_
              refine Held.G_take (i := 0) (d := 57) (v := ?_) [0, 13, 14] rfl rfl (by kernel_rfl) (by kernel_rfl) (by kernel_rfl) (by kernel_rfl) (fun _ _ _ h => h) (Or.inl ⟨by rfl, ?_⟩) (HB1.out _ (show Turn (fun g => g = S) u1 u1.drew from (Turn.refl _ _).drew)) ?_
              rotate_left 1
              · intro w hSw; obtain ⟨d0, d1, d2, d3⟩ := hSw; go_simp <;> with_reducible rfl
              simp only [Act.put, List.setIfInBounds_toArray, List.set_cons_zero, List.set_cons_succ]
              refine Held.G_take (i := 1) (d := 58) (v := ?_) [1, 2, 3, 4, 5, 6, 7, 8, 9, 10, 11, 12, 13, 14] rfl rfl (by kernel_rfl) (by kernel_rfl) (by kernel_rfl) (by kernel_rfl) (fun _ _ _ h => h) (Or.inl ⟨by rfl, ?_⟩) (HB1.out _ (show Turn (fun g => g = S) u1 u1.drew from (Turn.refl _ _).drew)) ?_
              rotate_left 1
              · intro w hSw; clear hSw; go_simp <;> with_reducible rfl
              simp only [Act.put, List.setIfInBounds_toArray, List.set_cons_zero, List.set_cons_succ]
              refine Held.G_take (i := 2) (d := 59) (v := ?_) [2, 3, 4, 5, 6, 7, 8, 9, 10, 11, 12, 13, 14] rfl rfl (by kernel_rfl) (by kernel_rfl) (by kernel_rfl) (by kernel_rfl) (fun _ _ _ h => h) (Or.inl ⟨by rfl, ?_⟩) (HB1.out _ (show Turn (fun g => g = S) u1 u1.drew from (Turn.refl _ _).drew)) ?_
              rotate_left 1
              · intro w hSw; obtain ⟨d0, d1, d2, d3⟩ := hSw; go_simp <;> with_reducible rfl
              simp only [Act.put, List.setIfInBounds_toArray, List.set_cons_zero, List.set_cons_succ]
              refine Held.G_take (i := 3) (d := 60) (v := ?_) [3, 4, 5, 6, 7, 8, 9, 10, 11, 12, 13, 14] rfl rfl (by kernel_rfl) (by kernel_rfl) (by kernel_rfl) (by kernel_rfl) (fun _ _ _ h => h) (Or.inl ⟨by rfl, ?_⟩) (HB1.out _ (show Turn (fun g => g = S) u1 u1.drew from (Turn.refl _ _).drew)) ?_
              rotate_left 1
              · intro w hSw; clear hSw; go_simp <;> with_reducible rfl
              simp only [Act.put, List.setIfInBounds_toArray, List.set_cons_zero, List.set_cons_succ]
              refine Held.G_take (i := 4) (d := 61) (v := .bool true) [4, 5, 6, 7, 8, 9, 10, 11, 12, 13, 14] rfl rfl (by kernel_rfl) (by kernel_rfl) (by kernel_rfl) (by kernel_rfl) (fun _ _ _ h => h) (Or.inl ⟨by rfl, ?_⟩) (HB1.out _ (show Turn (fun g => g = S) u1 u1.drew from (Turn.refl _ _).drew)) ?_
              · intro w hSw; clear hSw; go_simp <;> first | with_reducible rfl | omega | exact List.eq_nil_of_length_eq_zero (by omega)
              simp only [Act.put, List.setIfInBounds_toArray, List.set_cons_zero, List.set_cons_succ]
              refine Held.G_take (i := 5) (d := 62) (v := ?_) [5, 6, 7, 8, 9, 10, 11, 12, 13, 14] rfl rfl (by kernel_rfl) (by kernel_rfl) (by kernel_rfl) (by kernel_rfl) (fun _ _ _ h => h) (Or.inl ⟨by rfl, ?_⟩) (HB1.out _ (show Turn (fun g => g = S) u1 u1.drew from (Turn.refl _ _).drew)) ?_
              rotate_left 1
              · intro w hSw; clear hSw; go_simp <;> with_reducible rfl
              simp only [Act.put, List.setIfInBounds_toArray, List.set_cons_zero, List.set_cons_succ]
              refine Held.G_take (i := 6) (d := 63) (v := ?_) [6, 7, 8, 9, 10, 11, 12, 13, 14] rfl rfl (by kernel_rfl) (by kernel_rfl) (by kernel_rfl) (by kernel_rfl) (fun _ _ _ h => h) (Or.inl ⟨by rfl, ?_⟩) (HB1.out _ (show Turn (fun g => g = S) u1 u1.drew from (Turn.refl _ _).drew)) ?_
              rotate_left 1
              · intro w hSw; obtain ⟨d0, d1, d2, d3⟩ := hSw; go_simp <;> with_reducible rfl
              simp only [Act.put, List.setIfInBounds_toArray, List.set_cons_zero, List.set_cons_succ]
              refine Held.G_ready (rs := [7]) (by decide +kernel) (by simp) ?_
              refine Held.G_cons rfl (fun KK hK => ?_) Held.G_nil
              go_simp
              have hcall := hasForm_any t ⟨#[]⟩ ⟨#[]⟩ ps.length A c _ (HG.out _ HT1.out.drew)
              rw [HF.out] at hcall
              (with_reducible refine hcall.mono ?_)
              clear hcall
              rintro e9 x8 ⟨rfl, bq⟩
              have hq2 : Turn (fun g => g = S) u1 x8 := (Turn.refl _ _).drew.step (Turn.ofBelow bq)
              have hLu : RuleWord.Left S s3 x8 := RuleWord.Left.later (w := u1.drew) HL1.out bq
              clear bq
              have hbx := HBX.out _ (HT1.out.step hq2)
              obtain ⟨d0, d1, d2, d3⟩ := four_at hbx
              have f0 : x8.frozen? ⟨b, 0, none⟩ = false := by simp [World.frozen?, hbx]
              have f1 : x8.frozen? ⟨b, 1, none⟩ = false := by simp [World.frozen?, hbx]
              have f2 : x8.frozen? ⟨b, 2, none⟩ = false := by simp [World.frozen?, hbx]
              have f3 : x8.frozen? ⟨b, 3, none⟩ = false := by simp [World.frozen?, hbx]
              have HS4 := Lib.hid (set4 hbx (.string t) (.string ⟨#[]⟩) (.string ⟨#[]⟩) (.slice A ps.length c))
              have HTX := Lib.hid (turn4 (HT0.out _ (HT1.out.step hq2)) (Or.inl HLE.out) (.string t) (.string ⟨#[]⟩) (.string ⟨#[]⟩) (.slice A ps.length c))
              have HL := Lib.hid (left4 (hLu) HNE.out (.string t) (.string ⟨#[]⟩) (.string ⟨#[]⟩) (.slice A ps.length c))
              have HX := Lib.hid (node_end_off (lo := w.heap.size) (q := [.string t, .string ⟨#[]⟩, .string ⟨#[]⟩, .slice A ps.length c]) (bl s3) (HNB.out (Or.inr (Or.inl HF.out))) (v := ((((x8.setCell ⟨b, 0, none⟩ (.string t)).setCell ⟨b, 1, none⟩ (.string ⟨#[]⟩)).setCell ⟨b, 2, none⟩ (.string ⟨#[]⟩)).setCell ⟨b, 3, none⟩ (.slice A ps.length c))))
              clear hbx
              go_simp
              refine hK _ _ ?_
              clear hK KK
              refine ⟨(HB1.out _ hq2), ?_⟩
              refine Held.G_take (i := 8) (d := 65) (v := ?_) [8, 9, 10, 11, 12, 13, 14] rfl rfl (by kernel_rfl) (by kernel_rfl) (by kernel_rfl) (by kernel_rfl) (fun _ _ _ h => h) (Or.inl ⟨by rfl, ?_⟩) (HB1.out _ hq2) ?_
              rotate_left 1
              · intro w hSw; clear hSw; go_simp <;> with_reducible rfl
              simp only [Act.put, List.setIfInBounds_toArray, List.set_cons_zero, List.set_cons_succ]
              refine Held.G_take (i := 9) (d := 66) (v := ?_) [9, 10, 11, 12, 13, 14] rfl rfl (by kernel_rfl) (by kernel_rfl) (by kernel_rfl) (by kernel_rfl) (fun _ _ _ h => h) (Or.inl ⟨by rfl, ?_⟩) (HB1.out _ hq2) ?_
              rotate_left 1
              · intro w hSw; clear hSw; go_simp <;> with_reducible rfl
              simp only [Act.put, List.setIfInBounds_toArray, List.set_cons_zero, List.set_cons_succ]
              refine Held.G_take (i := 10) (d := 67) (v := undef) [10, 11, 12, 13, 14] rfl rfl (by kernel_rfl) (by kernel_rfl) (by kernel_rfl) (by kernel_rfl) (fun _ _ _ h => h) (Or.inr ⟨by rfl, rfl⟩) (HB1.out _ hq2) ?_
              simp only [Act.put, List.setIfInBounds_toArray, List.set_cons_zero, List.set_cons_succ]
              refine Held.G_take (i := 11) (d := 68) (v := undef) [11, 12, 13, 14] rfl rfl (by kernel_rfl) (by kernel_rfl) (by kernel_rfl) (by kernel_rfl) (fun _ _ _ h => h) (Or.inr ⟨by rfl, rfl⟩) (HB1.out _ hq2) ?_
              simp only [Act.put, List.setIfInBounds_toArray, List.set_cons_zero, List.set_cons_succ]
              refine Held.G_take (i := 12) (d := 69) (v := ?_) [12, 14] rfl rfl (by kernel_rfl) (by kernel_rfl) (by kernel_rfl) (by kernel_rfl) (fun _ _ _ h => h) (Or.inl ⟨by rfl, ?_⟩) (HB1.out _ hq2) ?_
              rotate_left 1
              · intro w hSw; clear hSw; go_simp <;> with_reducible rfl
              simp only [Act.put, List.setIfInBounds_toArray, List.set_cons_zero, List.set_cons_succ]
              refine Held.G_ready (rs := [13]) (by decide +kernel) (by simp) ?_
              refine Held.G_cons rfl (fun KK hK => ?_) Held.G_nil
              go_simp
              refine hK _ _ ⟨(four_at ((set4_other (show b6 ≠ b from by have := HN6.out.2.1; omega) (.string t) (.string ⟨#[]⟩) (.string ⟨#[]⟩) (.slice A ps.length c)).trans (HB1b.out _ hq2))), ?_⟩
              clear hK KK
              refine Held.G_ready (rs := [14]) (by decide +kernel) (by simp) ?_
              refine Held.G_last rfl (fun KK hK => ?_) Held.G_nil
              go_simp
              refine hK _ _ ?_
              clear hK KK
              refine Held.G_done (by kernel_rfl) ?_ _
              clear d0 d1 d2 d3 f0 f1 f2 f3 hq2
              go_wp2_with fail
              refine bodyPost_ret (results_cell_tmp_row rfl _ _ b 34 _ (0, 0) _ rfl HS4.out Tryd.underlying34 rfl (by kernel_rfl)) rfl ?_
              unfold ReadPost
              exact ⟨_, _, _, _, _, _, _, _, rfl, HL.out, HTX.out, HX.out⟩
          · have hgt : ¬ (0 : Int) < (ps.length : Int) := by omega
            have H0 := Lib.hid (show ps.length = 0 by omega)
            clear h0
            have hbx := HBX.out _ HT1.out
            obtain ⟨d0, d1, d2, d3⟩ := four_at hbx
            have f0 : u1.frozen? ⟨b, 0, none⟩ = false := by simp [World.frozen?, hbx]
            have f1 : u1.frozen? ⟨b, 1, none⟩ = false := by simp [World.frozen?, hbx]
            have f2 : u1.frozen? ⟨b, 2, none⟩ = false := by simp [World.frozen?, hbx]
            have f3 : u1.frozen? ⟨b, 3, none⟩ = false := by simp [World.frozen?, hbx]
            have HS4 := Lib.hid (set4 hbx (.string t) (.string ⟨#[]⟩) (.string ⟨#[]⟩) (.slice A ps.length c))
            have HTX := Lib.hid (turn4 (HT0.out _ HT1.out) (Or.inl HLE.out) (.string t) (.string ⟨#[]⟩) (.string ⟨#[]⟩) (.slice A ps.length c))
            have HL := Lib.hid (left4 (HL1.out) HNE.out (.string t) (.string ⟨#[]⟩) (.string ⟨#[]⟩) (.slice A ps.length c))
            have HX := Lib.hid (node_end_off (lo := w.heap.size) (q := [.string t, .string ⟨#[]⟩, .string ⟨#[]⟩, .slice A ps.length c]) (bl s3) (HNB.out (Or.inl H0.out)) (v := ((((u1.setCell ⟨b, 0, none⟩ (.string t)).setCell ⟨b, 1, none⟩ (.string ⟨#[]⟩)).setCell ⟨b, 2, none⟩ (.string ⟨#[]⟩)).setCell ⟨b, 3, none⟩ (.slice A ps.length c))))
            clear hbx
            refine wp_region_any (by kernel_rfl) ?_
            change wpAny _ _ _ _ _ _ _ (World.drew _)
            refine Held.any_of_G (S := (fun w' : World => w'.cell? ⟨b6, 0, none⟩ = some (.string t) ∧ w'.cell? ⟨b6, 1, none⟩ = some (.string ⟨#[]⟩) ∧ w'.cell? ⟨b6, 2, none⟩ = some (.string ⟨#[]⟩) ∧ w'.cell? ⟨b6, 3, none⟩ = some (.slice A ps.length c))) (z := 14) _ _ _ _ ?_
            refine Held.G_take (i := 0) (d := 57) (v := ?_) [0, 13, 14] rfl rfl (by kernel_rfl) (by kernel_rfl) (by kernel_rfl) (by kernel_rfl) (fun _ _ _ h => h) (Or.inl ⟨by rfl, ?_⟩) (HB1.out _ (show Turn (fun g => g = S) u1 u1.drew from (Turn.refl _ _).drew)) ?_
            rotate_left 1
            · intro w hSw; obtain ⟨d0, d1, d2, d3⟩ := hSw; go_simp <;> with_reducible rfl
            simp only [Act.put, List.setIfInBounds_toArray, List.set_cons_zero, List.set_cons_succ]
            refine Held.G_take (i := 1) (d := 58) (v := ?_) [1, 2, 3, 4, 5, 6, 7, 8, 9, 10, 11, 12, 13, 14] rfl rfl (by kernel_rfl) (by kernel_rfl) (by kernel_rfl) (by kernel_rfl) (fun _ _ _ h => h) (Or.inl ⟨by rfl, ?_⟩) (HB1.out _ (show Turn (fun g => g = S) u1 u1.drew from (Turn.refl _ _).drew)) ?_
            rotate_left 1
            · intro w hSw; clear hSw; go_simp <;> with_reducible rfl
            simp only [Act.put, List.setIfInBounds_toArray, List.set_cons_zero, List.set_cons_succ]
            refine Held.G_take (i := 2) (d := 59) (v := ?_) [2, 3, 4, 5, 6, 7, 8, 9, 10, 11, 12, 13, 14] rfl rfl (by kernel_rfl) (by kernel_rfl) (by kernel_rfl) (by kernel_rfl) (fun _ _ _ h => h) (Or.inl ⟨by rfl, ?_⟩) (HB1.out _ (show Turn (fun g => g = S) u1 u1.drew from (Turn.refl _ _).drew)) ?_
            rotate_left 1
            · intro w hSw; obtain ⟨d0, d1, d2, d3⟩ := hSw; go_simp <;> with_reducible rfl
            simp only [Act.put, List.setIfInBounds_toArray, List.set_cons_zero, List.set_cons_succ]
            refine Held.G_take (i := 3) (d := 60) (v := ?_) [3, 4, 5, 6, 7, 8, 9, 10, 11, 12, 13, 14] rfl rfl (by kernel_rfl) (by kernel_rfl) (by kernel_rfl) (by kernel_rfl) (fun _ _ _ h => h) (Or.inl ⟨by rfl, ?_⟩) (HB1.out _ (show Turn (fun g => g = S) u1 u1.drew from (Turn.refl _ _).drew)) ?_
            rotate_left 1
            · intro w hSw; clear hSw; go_simp <;> with_reducible rfl
            simp only [Act.put, List.setIfInBounds_toArray, List.set_cons_zero, List.set_cons_succ]
            refine Held.G_take (i := 4) (d := 61) (v := .bool false) [4, 5, 6, 7, 8, 9, 10, 11, 12, 13, 14] rfl rfl (by kernel_rfl) (by kernel_rfl) (by kernel_rfl) (by kernel_rfl) (fun _ _ _ h => h) (Or.inl ⟨by rfl, ?_⟩) (HB1.out _ (show Turn (fun g => g = S) u1 u1.drew from (Turn.refl _ _).drew)) ?_
            · intro w hSw; clear hSw; go_simp <;> first | with_reducible rfl | omega | exact List.eq_nil_of_length_eq_zero (by omega)
            simp only [Act.put, List.setIfInBounds_toArray, List.set_cons_zero, List.set_cons_succ]
            refine Held.G_take (i := 5) (d := 62) (v := ?_) [5, 6, 7, 8, 9, 10, 11, 12, 13, 14] rfl rfl (by kernel_rfl) (by kernel_rfl) (by kernel_rfl) (by kernel_rfl) (fun _ _ _ h => h) (Or.inl ⟨by rfl, ?_⟩) (HB1.out _ (show Turn (fun g => g = S) u1 u1.drew from (Turn.refl _ _).drew)) ?_
            rotate_left 1
            · intro w hSw; clear hSw; go_simp <;> with_reducible rfl
            simp only [Act.put, List.setIfInBounds_toArray, List.set_cons_zero, List.set_cons_succ]
            refine Held.G_take (i := 6) (d := 63) (v := undef) [6, 7, 8, 9, 10, 11, 12, 13, 14] rfl rfl (by kernel_rfl) (by kernel_rfl) (by kernel_rfl) (by kernel_rfl) (fun _ _ _ h => h) (Or.inr ⟨by rfl, rfl⟩) (HB1.out _ (show Turn (fun g => g = S) u1 u1.drew from (Turn.refl _ _).drew)) ?_
            simp only [Act.put, List.setIfInBounds_toArray, List.set_cons_zero, List.set_cons_succ]
            refine Held.G_take (i := 7) (d := 64) (v := undef) [7, 8, 9, 10, 11, 12, 13, 14] rfl rfl (by kernel_rfl) (by kernel_rfl) (by kernel_rfl) (by kernel_rfl) (fun _ _ _ h => h) (Or.inr ⟨by rfl, rfl⟩) (HB1.out _ (show Turn (fun g => g = S) u1 u1.drew from (Turn.refl _ _).drew)) ?_
            simp only [Act.put, List.setIfInBounds_toArray, List.set_cons_zero, List.set_cons_succ]
            refine Held.G_take (i := 8) (d := 65) (v := ?_) [8, 9, 10, 11, 12, 13, 14] rfl rfl (by kernel_rfl) (by kernel_rfl) (by kernel_rfl) (by kernel_rfl) (fun _ _ _ h => h) (Or.inl ⟨by rfl, ?_⟩) (HB1.out _ (show Turn (fun g => g = S) u1 u1.drew from (Turn.refl _ _).drew)) ?_
            rotate_left 1
            · intro w hSw; clear hSw; go_simp <;> with_reducible rfl
            simp only [Act.put, List.setIfInBounds_toArray, List.set_cons_zero, List.set_cons_succ]
            refine Held.G_take (i := 9) (d := 66) (v := ?_) [9, 10, 11, 12, 13, 14] rfl rfl (by kernel_rfl) (by kernel_rfl) (by kernel_rfl) (by kernel_rfl) (fun _ _ _ h => h) (Or.inl ⟨by rfl, ?_⟩) (HB1.out _ (show Turn (fun g => g = S) u1 u1.drew from (Turn.refl _ _).drew)) ?_
            rotate_left 1
            · intro w hSw; clear hSw; go_simp <;> with_reducible rfl
            simp only [Act.put, List.setIfInBounds_toArray, List.set_cons_zero, List.set_cons_succ]
            refine Held.G_take (i := 10) (d := 67) (v := undef) [10, 11, 12, 13, 14] rfl rfl (by kernel_rfl) (by kernel_rfl) (by kernel_rfl) (by kernel_rfl) (fun _ _ _ h => h) (Or.inr ⟨by rfl, rfl⟩) (HB1.out _ (show Turn (fun g => g = S) u1 u1.drew from (Turn.refl _ _).drew)) ?_
            simp only [Act.put, List.setIfInBounds_toArray, List.set_cons_zero, List.set_cons_succ]
            refine Held.G_take (i := 11) (d := 68) (v := undef) [11, 12, 13, 14] rfl rfl (by kernel_rfl) (by kernel_rfl) (by kernel_rfl) (by kernel_rfl) (fun _ _ _ h => h) (Or.inr ⟨by rfl, rfl⟩) (HB1.out _ (show Turn (fun g => g = S) u1 u1.drew from (Turn.refl _ _).drew)) ?_
            simp only [Act.put, List.setIfInBounds_toArray, List.set_cons_zero, List.set_cons_succ]
            refine Held.G_take (i := 12) (d := 69) (v := ?_) [12, 14] rfl rfl (by kernel_rfl) (by kernel_rfl) (by kernel_rfl) (by kernel_rfl) (fun _ _ _ h => h) (Or.inl ⟨by rfl, ?_⟩) (HB1.out _ (show Turn (fun g => g = S) u1 u1.drew from (Turn.refl _ _).drew)) ?_
            rotate_left 1
            · intro w hSw; clear hSw; go_simp <;> with_reducible rfl
            simp only [Act.put, List.setIfInBounds_toArray, List.set_cons_zero, List.set_cons_succ]
            refine Held.G_ready (rs := [13]) (by decide +kernel) (by simp) ?_
            refine Held.G_cons rfl (fun KK hK => ?_) Held.G_nil
            go_simp
            refine hK _ _ ⟨(four_at ((set4_other (show b6 ≠ b from by have := HN6.out.2.1; omega) (.string t) (.string ⟨#[]⟩) (.string ⟨#[]⟩) (.slice A ps.length c)).trans (HB1b.out _ (Turn.refl _ _)))), ?_⟩
            clear hK KK
            refine Held.G_ready (rs := [14]) (by decide +kernel) (by simp) ?_
            refine Held.G_last rfl (fun KK hK => ?_) Held.G_nil
            go_simp
            refine hK _ _ ?_
            clear hK KK
            refine Held.G_done (by kernel_rfl) ?_ _
            clear d0 d1 d2 d3 f0 f1 f2 f3
            go_wp2_with fail
            refine bodyPost_ret (results_cell_tmp_row rfl _ _ b 34 _ (0, 0) _ rfl HS4.out Tryd.underlying34 rfl (by kernel_rfl)) rfl ?_
            unfold ReadPost
            exact ⟨_, _, _, _, _, _, _, _, rfl, (HL.out : RuleWord.Left S _ _), HTX.out.drew, node_end_off _ (HNB.out (Or.inl H0.out))⟩
theorem readExpr_any (S : Nat) (s : ByteArray) (w : World) (hz : s.size ≤ 1000000000) (hO : Off S) (hL : RuleWord.Left S s w) (hG : Gl w) : Calls Tryd.prog 53 #[passV S, wordV S] w (ReadPost S s w) := by
  have H : ∀ (N : Nat) (S : Nat) (s : ByteArray) (w : World), s.size < N → s.size ≤ 1000000000 → Off S → RuleWord.Left S s w → Gl w → Calls Tryd.prog 53 #[passV S, wordV S] w (ReadPost S s w) := by
    intro N
    induction N with
    | zero => intro S s w h; omega
    | succ N ih => exact read_step N ih
  exact H (s.size + 1) S s w (Nat.lt_succ_self _) hz hO hL hG
end Go.Proofs.YtkmnbdomikpakaaDoor.RuleReadE
