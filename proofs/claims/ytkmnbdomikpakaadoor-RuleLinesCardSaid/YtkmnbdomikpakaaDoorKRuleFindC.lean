/- The code's Find. -/
import Derived.Test.YtkmnbdomikpakaaDoorKRuleCopied
import Derived.Test.YtkmnbdomikpakaaDoorKRuleIndex
namespace Go.Proofs.YtkmnbdomikpakaaDoor.RuleFindC
open Go.RowKit Base KeyPlain TuplePlain TupleRef RulePlain RuleMem RuleRec RuleFew RuleFind RuleChk RuleAlike RuleRow RuleIndex RuleCopied TurnB

/-- the captured text -/
def Has (G : Nat) (s : ByteArray) (w : World) : Prop := w.heap[G]? = some (.cells #[.string s] 9 (0, 0))
theorem Has.at0 {G : Nat} {s : ByteArray} {w : World} (h : Has G s w) : w.cell? ⟨G, 0, none⟩ = some (.string s) := by
  unfold Has at h
  simp [World.cell?, h]
theorem Has.later {G : Nat} {s : ByteArray} {w w' : World} (h : Has G s w) (hb : Below w.heap.size w w') : Has G s w' := (hb.block G (Array.getElem?_eq_some_iff.1 h).1).trans h
set_option maxRecDepth 100000 in
set_option maxHeartbeats 3200000 in
theorem kind_test (s : ByteArray) (G : Nat) (k : Kd) (q : List Value) (w : World) (hL : LayK w w.heap.size k q) (hG : Has G s w) : Calls Tryd.prog 34 (#[.agg q.toArray] ++ #[.pointer (some ⟨G, 0, none⟩)]) w fun e w' => e = .returned (.bool (decide (k.name = s))) ∧ Below w.heap.size w w' := by
  obtain ⟨K, c, rfl, _, _⟩ := hL
  show Calls _ _ #[.agg #[.string k.name, .slice K k.rules.length c], .pointer (some ⟨G, 0, none⟩)] w _
  obtain ⟨w1, hw1⟩ : ∃ v, v = w.alloc (.cells #[.string k.name, .slice K k.rules.length c] 42) := ⟨_, rfl⟩
  obtain ⟨b, hbe⟩ : ∃ v, v = w.heap.size := ⟨_, rfl⟩
  have hb1 : Below w.heap.size w w1 := by rw [hw1]; exact al _ _
  have a1 : w1.heap[b]? = some (.cells #[.string k.name, .slice K k.rules.length c] 42 (0, 0)) := by rw [hw1, hbe]; exact heap_alloc_new w _
  have HW := Lib.hid hw1
  have HBE := Lib.hid hbe
  clear hw1 hbe
  have hg := (hG.later hb1).at0
  obtain ⟨d0, d1⟩ := two_at a1
  have HB := Lib.hid hb1
  have hq := Str.ba_beq k.name s
  generalize decide (k.name = s) = bb at *
  clear hb1 a1 hG
  go_enter Tryd.func34, Tryd.ntmps34
  go_upto_region 1 with fail
  try rw [← HW.out]
  try rw [← HBE.out]
  clear HW
  go_wp2_with fail
  go_ret
  exact ⟨ret_bool (by simp), HB.out⟩
set_option maxRecDepth 100000 in
set_option maxHeartbeats 3200000 in
theorem rule_test (s : ByteArray) (G : Nat) (k : Rl) (q : List Value) (w : World) (hL : LayR w w.heap.size k q) (hG : Has G s w) : Calls Tryd.prog 36 (#[.agg q.toArray] ++ #[.pointer (some ⟨G, 0, none⟩)]) w fun e w' => e = .returned (.bool (decide (k.rel = s))) ∧ Below w.heap.size w w' := by
  obtain ⟨qe, hy, rfl⟩ := hL
  obtain ⟨Z, z, rfl, _, _⟩ := hy.open
  clear hy
  show Calls _ _ #[.agg #[.string k.rel, .string k.e.op, .string k.e.nm, .string k.e.fo, .slice Z k.e.ps.length z], .pointer (some ⟨G, 0, none⟩)] w _
  obtain ⟨w1, hw1⟩ : ∃ v, v = w.alloc (.cells #[.string k.rel, .string k.e.op, .string k.e.nm, .string k.e.fo, .slice Z k.e.ps.length z] 47) := ⟨_, rfl⟩
  obtain ⟨b, hbe⟩ : ∃ v, v = w.heap.size := ⟨_, rfl⟩
  have hb1 : Below w.heap.size w w1 := by rw [hw1]; exact al _ _
  have a1 : w1.heap[b]? = some (.cells #[.string k.rel, .string k.e.op, .string k.e.nm, .string k.e.fo, .slice Z k.e.ps.length z] 47 (0, 0)) := by rw [hw1, hbe]; exact heap_alloc_new w _
  have HW := Lib.hid hw1
  have HBE := Lib.hid hbe
  clear hw1 hbe
  have hg := (hG.later hb1).at0
  obtain ⟨d0, d1, d2, d3, d4⟩ := five_at a1
  have HB := Lib.hid hb1
  have hq := Str.ba_beq k.rel s
  generalize decide (k.rel = s) = bb at *
  clear hb1 a1 hG
  go_enter Tryd.func36, Tryd.ntmps36
  go_upto_region 1 with fail
  try rw [← HW.out]
  try rw [← HBE.out]
  clear HW
  go_wp2_with fail
  go_ret
  exact ⟨ret_bool (by simp), HB.out⟩
theorem ix_cases {α : Type} (p : α → Bool) (l : List α) : (fIx p l = -1 ∧ l.find? p = none) ∨ ∃ (k : Nat) (hk : k < l.length), fIx p l = k ∧ l.find? p = some l[k] := by
  unfold fIx
  cases h : l.findIdx? p with
  | none =>
    rw [List.findIdx?_eq_none_iff] at h
    exact .inl ⟨rfl, by rw [List.find?_eq_none]; exact fun x hx => by rw [h x hx]; simp⟩
  | some k =>
    rw [List.findIdx?_eq_some_iff_getElem] at h
    obtain ⟨hk, h1, h2⟩ := h
    exact .inr ⟨k, hk, rfl, find_first hk (fun j hj hl => by simpa using h2 j hj) h1⟩
set_option maxRecDepth 100000 in
set_option maxHeartbeats 12800000 in
theorem cFind_any (A : Option Addr) (c : Nat) (l : List Kd) (kind rel : ByteArray) (w : World) (hL : LayL w w.heap.size A l) (hn : l.length ≤ maxLen) (hs : ∀ k, k ∈ l → ∀ r, r ∈ k.rules → r.e.slim = true) :
    Calls Tryd.prog 14 #[.slice A l.length c, .string kind, .string rel] w (FindPost l kind rel w) := by
  obtain ⟨w1, hw1⟩ : ∃ v, v = w.alloc (.cells #[.string kind] 9) := ⟨_, rfl⟩
  obtain ⟨b, hbe⟩ : ∃ v, v = w.heap.size := ⟨_, rfl⟩
  have hb1 : Below w.heap.size w w1 := by rw [hw1]; exact al _ _
  have a1 : w1.heap[b]? = some (.cells #[.string kind] 9 (0, 0)) := by rw [hw1, hbe]; exact heap_alloc_new w _
  have HW := Lib.hid hw1
  have HBE := Lib.hid hbe
  clear hw1 hbe
  obtain ⟨w2, hw12⟩ : ∃ v, v = w1.alloc (.cells #[.string rel] 9) := ⟨_, rfl⟩
  obtain ⟨b2, hbe2⟩ : ∃ v, v = w1.heap.size := ⟨_, rfl⟩
  have hb12 : Below w1.heap.size w1 w2 := by rw [hw12]; exact al _ _
  have a12 : w2.heap[b2]? = some (.cells #[.string rel] 9 (0, 0)) := by rw [hw12, hbe2]; exact heap_alloc_new w1 _
  have HW2 := Lib.hid hw12
  have HBE2 := Lib.hid hbe2
  clear hw12 hbe2
  obtain ⟨w3, hw13⟩ : ∃ v, v = w2.alloc (.cells #[.string ⟨#[]⟩, .string ⟨#[]⟩, .string ⟨#[]⟩, .slice none 0 0] 34) := ⟨_, rfl⟩
  obtain ⟨b3, hbe3⟩ : ∃ v, v = w2.heap.size := ⟨_, rfl⟩
  have hb13 : Below w2.heap.size w2 w3 := by rw [hw13]; exact al _ _
  have a13 : w3.heap[b3]? = some (.cells #[.string ⟨#[]⟩, .string ⟨#[]⟩, .string ⟨#[]⟩, .slice none 0 0] 34 (0, 0)) := by rw [hw13, hbe3]; exact heap_alloc_new w2 _
  have HW3 := Lib.hid hw13
  have HBE3 := Lib.hid hbe3
  clear hw13 hbe3
  obtain rfl : b2 = b + 1 := by rw [HBE2.out, HW.out, HBE.out]; simp
  obtain rfl : b3 = b + 1 + 1 := by rw [HBE3.out, HW2.out, HW.out, HBE.out]; simp
  have HB3 := Lib.hid (Below.step (Below.step hb1 hb12) hb13)
  have HK := Lib.hid (show Has b kind w3 from (hb13.block b (Nat.lt_of_lt_of_le (heap_lt a1) hb12.size)).trans ((hb12.block b (heap_lt a1)).trans a1))
  have HR := Lib.hid (show Has (b + 1) rel w3 from (hb13.block _ (heap_lt a12)).trans a12)
  have HA := Lib.hid a13
  have HLT3 := Lib.hid (heap_lt a13)
  have HLE := Lib.hid (show w.heap.size ≤ b + 1 + 1 from by rw [HBE.out]; omega)
  have HL := Lib.hid (fun (w' : World) (hw' : Below w3.heap.size w3 w') => hL.later (Below.step HB3.out hw'))
  have hcall := indexK_any (fun k => decide (k.name = kind)) (Has b kind) 34 #[.pointer (some ⟨b, 0, none⟩)] (enters_of Tryd.func34 (by kernel_rfl) rfl) (fun _ _ h hb => h.later hb) A c l w3 (HL.out w3 (Below.refl _ _)) hn
    (fun k q w _ hk hG => kind_test kind b k q w hk hG) HK.out
  have HX := Lib.hid (ix_cases (fun k : Kd => decide (k.name = kind)) l)
  have hmf : ∀ (fn : Fn) (first cap : Array Value) (w : World), (Instr.makeFunc fn first cap).run Tryd.prog w = .ok (.func fn first cap) w := fun _ _ _ _ => rfl
  have HAT := Lib.hid (fun (w' : World) (hw' : Below w3.heap.size w3 w') => (hw'.block _ HLT3.out).trans HA.out)
  unfold maxLen at hn
  generalize fIx (fun k : Kd => decide (k.name = kind)) l = ix at *
  clear hb1 hb12 hb13 a1 a12 a13 hL
  go_enter Tryd.func14, Tryd.ntmps14
  go_upto_region 1 with fail
  try rw [← HW.out]
  try rw [← HW2.out]
  try rw [← HW3.out]
  try rw [← HBE.out]
  clear HW HW2 HW3
  go_wp2_with fail
  (with_reducible refine hcall.mono ?_)
  clear hcall
  rintro e4 w4 ⟨rfl, hb4⟩
  have HB4 := Lib.hid hb4
  clear hb4
  have h4 := HAT.out w4 HB4.out
  have f0 : w4.frozen? ⟨b + 1 + 1, 0, none⟩ = false := by simp [World.frozen?, h4]
  have f1 : w4.frozen? ⟨b + 1 + 1, 1, none⟩ = false := by simp [World.frozen?, h4]
  have f2 : w4.frozen? ⟨b + 1 + 1, 2, none⟩ = false := by simp [World.frozen?, h4]
  have f3 : w4.frozen? ⟨b + 1 + 1, 3, none⟩ = false := by simp [World.frozen?, h4]
  obtain ⟨d0, d1, d2, d3⟩ := four_at h4
  rcases HX.out with ⟨rfl, hfn⟩ | ⟨k, hk, rfl, hfn⟩
  · have HF := Lib.hid (show find l kind rel = none from by unfold find; rw [hfn])
    have HS4 := Lib.hid (set4 h4 (.string ⟨#[]⟩) (.string ⟨#[]⟩) (.string ⟨#[]⟩) (.slice none 0 0))
    clear hfn h4
    go_wp2_with fail
    refine bodyPost_ret (results_cell_tmp_row rfl _ _ (b + 1 + 1) 34 _ (0, 0) _ rfl HS4.out Tryd.underlying34 rfl (by kernel_rfl)) rfl ?_
    exact find_no HF.out (below4 (Below.step HB3.out HB4.out) HLE.out _ _ _ _)
  · obtain ⟨ad, K, c', rfl, hks, hrs, hml⟩ := kind_see (HL.out w4 HB4.out) k hk
    have k0 := hks.at0
    have k1 := hks.at_ 0 rfl
    have HSK := Lib.hid (hs _ (List.getElem_mem hk))
    have HF := Lib.hid (show find l kind rel = ((l[k]).rules.find? fun r => decide (r.rel = rel)).map (·.e) from by unfold find; rw [hfn])
    generalize l[k] = kd at *
    have HRL := Lib.hid (fun (w' : World) (hw' : Below w4.heap.size w4 w') => hrs.imp (see_later hw') fun _ _ _ h => h.imp (see_later hw'))
    have hcall := indexR_any (fun r => decide (r.rel = rel)) (Has (b + 1) rel) 36 #[.pointer (some ⟨b + 1, 0, none⟩)] (enters_of Tryd.func36 (by kernel_rfl) rfl) (fun _ _ h hb => h.later hb) K c' kd.rules w4 hrs hml
      (fun k q w _ hk hG => rule_test rel (b + 1) k q w hk hG) (HR.out.later HB4.out)
    have HX2 := Lib.hid (ix_cases (fun r : Rl => decide (r.rel = rel)) kd.rules)
    generalize fIx (fun r : Rl => decide (r.rel = rel)) kd.rules = ix at *
    unfold maxLen at hml
    have hkn : ¬ (k : Int) < 0 := by omega
    clear hfn h4 hrs hks HX
    go_wp2_with fail
    (with_reducible refine hcall.mono ?_)
    clear hcall k0 k1 f0 f1 f2 f3 d0 d1 d2 d3
    rintro e5 w5 ⟨rfl, hb5⟩
    have HB5 := Lib.hid (Below.step HB4.out hb5)
    have HRL5 := Lib.hid (HRL.out w5 hb5)
    clear hb5
    rcases HX2.out with ⟨rfl, hfr⟩ | ⟨m, hm, rfl, hfr⟩
    · have HF2 := Lib.hid (show find l kind rel = none from by rw [HF.out, hfr]; rfl)
      have h4 := HAT.out w5 HB5.out
      have f0 : w5.frozen? ⟨b + 1 + 1, 0, none⟩ = false := by simp [World.frozen?, h4]
      have f1 : w5.frozen? ⟨b + 1 + 1, 1, none⟩ = false := by simp [World.frozen?, h4]
      have f2 : w5.frozen? ⟨b + 1 + 1, 2, none⟩ = false := by simp [World.frozen?, h4]
      have f3 : w5.frozen? ⟨b + 1 + 1, 3, none⟩ = false := by simp [World.frozen?, h4]
      obtain ⟨d0, d1, d2, d3⟩ := four_at h4
      have HS4 := Lib.hid (set4 h4 (.string ⟨#[]⟩) (.string ⟨#[]⟩) (.string ⟨#[]⟩) (.slice none 0 0))
      clear hfr h4
      go_wp2_with fail
      refine bodyPost_ret (results_cell_tmp_row rfl _ _ (b + 1 + 1) 34 _ (0, 0) _ rfl HS4.out Tryd.underlying34 rfl (by kernel_rfl)) rfl ?_
      exact find_no HF2.out (below4 (Below.step HB3.out HB5.out) HLE.out _ _ _ _)
    · obtain ⟨bd, x1, x2, x3, x4, rfl, hrs, hy⟩ := rule_see HRL5.out m hm
      have r0 := hrs.at0
      have r1 := hrs.at_ 0 rfl
      have r2 := hrs.at_ 1 rfl
      have r3 := hrs.at_ 2 rfl
      have r4 := hrs.at_ 3 rfl
      have hsl := HSK.out _ (List.getElem_mem hm)
      have HF2 := Lib.hid (show find l kind rel = some (kd.rules[m]).e from by rw [HF.out, hfr]; rfl)
      generalize kd.rules[m] = rl at *
      have hcall := copied_any rl.e.size rl.e _ w5 (Nat.le_refl _) hsl hy
      have hmn : ¬ (m : Int) < 0 := by omega
      unfold CopyPost at hcall
      clear hrs hy hfr hsl
      go_wp2_with fail
      (with_reducible refine hcall.mono ?_)
      clear hcall r0 r1 r2 r3 r4
      rintro e6 w6 ⟨q, rfl, hq, hb6⟩
      have HB6 := Lib.hid (Below.step HB5.out hb6)
      obtain ⟨Z, z, rfl⟩ := lay_form hq
      have h4 := HAT.out w6 HB6.out
      have f0 : w6.frozen? ⟨b + 1 + 1, 0, none⟩ = false := by simp [World.frozen?, h4]
      have f1 : w6.frozen? ⟨b + 1 + 1, 1, none⟩ = false := by simp [World.frozen?, h4]
      have f2 : w6.frozen? ⟨b + 1 + 1, 2, none⟩ = false := by simp [World.frozen?, h4]
      have f3 : w6.frozen? ⟨b + 1 + 1, 3, none⟩ = false := by simp [World.frozen?, h4]
      obtain ⟨d0, d1, d2, d3⟩ := four_at h4
      have HS4 := Lib.hid (set4 h4 (.string rl.e.op) (.string rl.e.nm) (.string rl.e.fo) (.slice Z rl.e.ps.length z))
      have hlo : b + 1 + 1 < w5.heap.size := Nat.lt_of_lt_of_le HLT3.out HB5.out.size
      have HQ := Lib.hid ((((((hq.imp fun _ _ s => st_set s (p := ⟨b + 1 + 1, 0, none⟩) (v := .string rl.e.op) hlo).imp fun _ _ s => st_set s (p := ⟨b + 1 + 1, 1, none⟩) (v := .string rl.e.nm) hlo).imp fun _ _ s => st_set s (p := ⟨b + 1 + 1, 2, none⟩) (v := .string rl.e.fo) hlo).imp fun _ _ s => st_set s (p := ⟨b + 1 + 1, 3, none⟩) (v := .slice Z rl.e.ps.length z) hlo).imp fun _ _ s => s.2.2).lay)
      clear hq h4 hb6 hlo
      go_wp2_with fail
      refine bodyPost_ret (results_cell_tmp_row rfl _ _ (b + 1 + 1) 34 _ (0, 0) _ rfl HS4.out Tryd.underlying34 rfl (by kernel_rfl)) rfl ?_
      exact find_yes HF2.out HQ.out (below4 (Below.step HB3.out HB6.out) HLE.out _ _ _ _) (Nat.le_refl _)
end Go.Proofs.YtkmnbdomikpakaaDoor.RuleFindC
