/- The code's isTooMuch; and its But. -/
import Derived.Test.YtkmnbdomikpakaaDoorKRuleIndex
namespace Go.Proofs.YtkmnbdomikpakaaDoor.RuleMuch
open Go.RowKit Base KeyPlain TuplePlain TupleRef RulePlain RuleMem RuleRec RuleFew RuleChk RuleAlike RuleGl TurnB RuleWalk RuleFold RuleAll RuleIndex

/-- no expression is deeper than can be counted -/
def DeepOk (l : List Kd) : Prop := ∀ k, k ∈ l → ∀ r, r ∈ k.rules → r.e.deep ≤ 1000000000 ∧ wide r.e = true
def badR (r : Rl) : Bool := !fitsX r.e
set_option maxRecDepth 100000 in
set_option maxHeartbeats 3200000 in
theorem much11_any (r : Rl) (q : List Value) (w : World) (hL : LayR w w.heap.size r q) (hd : r.e.deep ≤ 1000000000) : Calls Tryd.prog 59 #[.agg q.toArray] w fun e w' => e = .returned (.bool (badR r)) ∧ Below w.heap.size w w' := by
  obtain ⟨qe, hy, rfl⟩ := hL
  obtain ⟨Z, z, rfl, _, _⟩ := hy.open
  obtain ⟨w1, hw1⟩ : ∃ v, v = w.alloc (.cells #[.string r.rel, .string r.e.op, .string r.e.nm, .string r.e.fo, .slice Z r.e.ps.length z] 47) := ⟨_, rfl⟩
  obtain ⟨b, hbe⟩ : ∃ v, v = w.heap.size := ⟨_, rfl⟩
  have hb1 : Below w.heap.size w w1 := by rw [hw1]; exact al _ _
  have a1 : w1.heap[b]? = some (.cells #[.string r.rel, .string r.e.op, .string r.e.nm, .string r.e.fo, .slice Z r.e.ps.length z] 47 (0, 0)) := by rw [hw1, hbe]; exact heap_alloc_new w _
  have HW := Lib.hid hw1
  have HBE := Lib.hid hbe
  clear hw1 hbe
  have hcall := fits_any r.e _ w1 (hy.later hb1) hd
  have HB := Lib.hid hb1
  obtain ⟨d0, d1, d2, d3, d4⟩ := five_at a1
  unfold badR
  generalize fitsX r.e = f at *
  clear hb1 a1 hy hd
  go_enter Tryd.func59, Tryd.ntmps59
  go_upto_region 1 with fail
  try rw [← HW.out]
  try rw [← HBE.out]
  clear HW
  go_wp2_with fail
  (with_reducible refine hcall.mono ?_)
  clear hcall d0 d1 d2 d3 d4
  rintro e w2 ⟨rfl, hb⟩
  have HX := Lib.hid (Below.step HB.out hb)
  clear hb
  go_wp2_with fail
  go_ret
  exact ⟨ret_bool (by simp), HX.out⟩
def muchK (k : Kd) : Bool := decide (64 < k.rules.length) || k.rules.any badR
set_option maxRecDepth 100000 in
set_option maxHeartbeats 6400000 in
theorem much1_any (k : Kd) (q : List Value) (w : World) (hL : LayK w w.heap.size k q) (hd : ∀ r, r ∈ k.rules → r.e.deep ≤ 1000000000 ∧ wide r.e = true) : Calls Tryd.prog 57 #[.agg q.toArray] w fun e w' => e = .returned (.bool (muchK k)) ∧ Below w.heap.size w w' := by
  obtain ⟨K, c, rfl, hs, hl⟩ := hL
  obtain ⟨w1, hw1⟩ : ∃ v, v = w.alloc (.cells #[.string k.name, .slice K k.rules.length c] 42) := ⟨_, rfl⟩
  obtain ⟨b, hbe⟩ : ∃ v, v = w.heap.size := ⟨_, rfl⟩
  have hb1 : Below w.heap.size w w1 := by rw [hw1]; exact al _ _
  have a1 : w1.heap[b]? = some (.cells #[.string k.name, .slice K k.rules.length c] 42 (0, 0)) := by rw [hw1, hbe]; exact heap_alloc_new w _
  have HW := Lib.hid hw1
  have HBE := Lib.hid hbe
  clear hw1 hbe
  have hcall := containsR_any badR (fun _ => True) 59 #[] (enters_of Tryd.func59 (by kernel_rfl) rfl) (fun _ _ _ _ => trivial) K c k.rules w1 (hs.imp (see_later hb1) fun _ _ _ h => h.imp (see_later hb1)) hl
    (fun r q w' hr hy _ => by rw [Array.append_empty]; exact much11_any r q w' hy (hd r hr).1) trivial
  have HB := Lib.hid hb1
  obtain ⟨d0, d1⟩ := two_at a1
  have HM := Lib.hid (show muchK k = (decide (64 < k.rules.length) || k.rules.any badR) from rfl)
  unfold maxLen at hl
  generalize k.rules.any badR = ab at *
  clear hb1 a1 hs hd
  by_cases h64 : 64 < k.rules.length
  · have HV := Lib.hid (show muchK k = true from by rw [HM.out, decide_eq_true h64, Bool.true_or])
    have i64 : (64 : Int) < (k.rules.length : Int) := by omega
    generalize k.rules.length = n at *
    clear h64 hcall
    go_enter Tryd.func57, Tryd.ntmps57
    go_upto_region 1 with fail
    try rw [← HW.out]
    try rw [← HBE.out]
    clear HW
    go_wp2_with fail
    go_ret
    exact ⟨ret_bool HV.out.symm, HB.out⟩
  · have HV := Lib.hid (show muchK k = ab from by rw [HM.out, decide_eq_false h64, Bool.false_or])
    have i64 : ¬ (64 : Int) < (k.rules.length : Int) := by omega
    generalize k.rules.length = n at *
    clear h64
    go_enter Tryd.func57, Tryd.ntmps57
    go_upto_region 1 with fail
    try rw [← HW.out]
    try rw [← HBE.out]
    clear HW
    go_wp2_with fail
    (with_reducible refine hcall.mono ?_)
    clear hcall d0 d1
    rintro e w2 ⟨rfl, hb⟩
    have HX := Lib.hid (Below.step HB.out hb)
    clear hb
    go_wp2_with fail
    go_ret
    exact ⟨ret_bool HV.out.symm, HX.out⟩
theorem deep_is (l : List Kd) : deepK l = (decide (64 < l.length) || l.any muchK) := by
  unfold deepK
  congr 2
  funext k
  unfold muchK
  congr 2
  funext r
  unfold badR fitsX
  rw [Bool.eq_iff_iff]
  simp only [Bool.or_eq_true, decide_eq_true_eq, Bool.not_eq_true', Bool.and_eq_false_iff, decide_eq_false_iff_not]
  omega
set_option maxRecDepth 100000 in
set_option maxHeartbeats 6400000 in
theorem much_any (A : Option Addr) (c : Nat) (l : List Kd) (w : World) (hL : LayL w w.heap.size A l) (hn : l.length ≤ maxLen) (hd : DeepOk l) : Calls Tryd.prog 42 #[.slice A l.length c] w fun e w' => e = .returned (.bool (deepK l)) ∧ Below w.heap.size w w' := by
  have hcall := containsK_any muchK (fun _ => True) 57 #[] (enters_of Tryd.func57 (by kernel_rfl) rfl) (fun _ _ _ _ => trivial) A c l w hL hn
    (fun k q w' hk hy _ => by rw [Array.append_empty]; exact much1_any k q w' hy (hd k hk)) trivial
  have HM := Lib.hid (deep_is l)
  unfold maxLen at hn
  generalize l.any muchK = ab at *
  clear hL hd
  by_cases h64 : 64 < l.length
  · have HV := Lib.hid (show deepK l = true from by rw [HM.out, decide_eq_true h64, Bool.true_or])
    have i64 : (64 : Int) < (l.length : Int) := by omega
    generalize l.length = n at *
    clear h64 hcall
    go_enter Tryd.func42, Tryd.ntmps42
    go_wp2_with fail
    go_ret
    exact ⟨ret_bool HV.out.symm, Below.refl _ _⟩
  · have HV := Lib.hid (show deepK l = ab from by rw [HM.out, decide_eq_false h64, Bool.false_or])
    have i64 : ¬ (64 : Int) < (l.length : Int) := by omega
    generalize l.length = n at *
    clear h64
    go_enter Tryd.func42, Tryd.ntmps42
    go_wp2_with fail
    (with_reducible refine hcall.mono ?_)
    clear hcall
    rintro e w2 ⟨rfl, hb⟩
    go_wp2_with fail
    go_ret
    exact ⟨ret_bool HV.out.symm, hb⟩
/-! But -/
def noBut (e : Ex) : Bool := !decide (e.op = kBut)
set_option maxRecDepth 100000 in
set_option maxHeartbeats 3200000 in
theorem but1_right : Right noBut (fun _ => True) 46 #[] := by
  intro e q w hL _ _
  rw [Array.append_empty]
  obtain ⟨A, c, rfl, _, _⟩ := hL.open
  obtain ⟨w1, hw1⟩ : ∃ v, v = w.alloc (.cells #[.string e.op, .string e.nm, .string e.fo, .slice A e.ps.length c] 34) := ⟨_, rfl⟩
  obtain ⟨b, hbe⟩ : ∃ v, v = w.heap.size := ⟨_, rfl⟩
  have hb1 : Below w.heap.size w w1 := by rw [hw1]; exact al _ _
  have a1 : w1.heap[b]? = some (.cells #[.string e.op, .string e.nm, .string e.fo, .slice A e.ps.length c] 34 (0, 0)) := by rw [hw1, hbe]; exact heap_alloc_new w _
  have HW := Lib.hid hw1
  have HBE := Lib.hid hbe
  clear hw1 hbe
  obtain ⟨d0, d1, d2, d3⟩ := four_at a1
  have HB := Lib.hid hb1
  have hq := tl_but e.op
  unfold noBut
  generalize decide (e.op = kBut) = bb at *
  clear hb1 a1 hL
  go_enter Tryd.func46, Tryd.ntmps46
  go_upto_region 1 with fail
  try rw [← HW.out]
  try rw [← HBE.out]
  clear HW
  go_wp2_with fail
  go_ret
  exact ⟨ret_bool (by simp), HB.out⟩
theorem allE_mk (p : Ex → Bool) (op nm fo : ByteArray) (ps : List Ex) : allE p (.mk op nm fo ps) = (p (.mk op nm fo ps) && allL p ps) := by rw [allE]
mutual
theorem allE_but : ∀ e : Ex, allE noBut e = !e.but
  | .mk op nm fo ps => by
    rw [allE, Ex.but, allL_but ps, noBut, Bool.not_or]
    rfl
theorem allL_but : ∀ l : List Ex, allL noBut l = !butL l
  | [] => by rw [allL, butL]; rfl
  | e :: l => by rw [allL, butL, allE_but e, allL_but l, Bool.not_or]
end
theorem allK_but (l : List Kd) : allK noBut l = !butK l := by
  unfold allK butK
  rw [List.any_eq_not_all_not, Bool.not_not]
  congr 1
  funext k
  unfold allR
  rw [List.any_eq_not_all_not, Bool.not_not]
  congr 1
  funext r
  exact allE_but r.e
set_option maxHeartbeats 3200000 in
theorem cBut_any (A : Option Addr) (c : Nat) (l : List Kd) (w : World) (hL : LayL w w.heap.size A l) (hn : l.length ≤ maxLen) (hd : DeepOk l) : Calls Tryd.prog 22 #[.slice A l.length c] w fun e w' => e = .returned (.bool (butK l)) ∧ Below w.heap.size w w' := by
  have hcall := all_any noBut (fun _ => True) 46 #[] (enters_of Tryd.func46 (by kernel_rfl) rfl) (fun _ _ _ _ => trivial) but1_right A c l w hL hn hd trivial
  rw [allK_but] at hcall
  generalize butK l = bk at *
  clear hL hd
  go_enter Tryd.func22, Tryd.ntmps22
  go_wp2_with fail
  (with_reducible refine hcall.mono ?_)
  clear hcall
  rintro e w2 ⟨rfl, hb⟩
  go_wp2_with fail
  go_ret
  exact ⟨ret_bool (by simp), hb⟩
/-! the form, as the code has it -/
def ownC (e : Ex) : Bool := formC e.op e.nm e.fo e.ps.length
theorem form_right : Right ownC Gl 44 #[] := by
  intro e q w hL _ hG
  rw [Array.append_empty]
  obtain ⟨A, c, rfl, _, _⟩ := hL.open
  exact hasForm_any e.op e.nm e.fo e.ps.length A c w hG
def formKC (l : List Kd) : Bool := allK ownC l
theorem allForm_any (A : Option Addr) (c : Nat) (l : List Kd) (w : World) (hL : LayL w w.heap.size A l) (hn : l.length ≤ maxLen) (hd : DeepOk l) (hG : Gl w) :
    Calls Tryd.prog 43 #[.slice A l.length c, .func (.func 44) #[] #[]] w fun e w' => e = .returned (.bool (formKC l)) ∧ Below w.heap.size w w' :=
  all_any ownC Gl 44 #[] (enters_of Tryd.func44 (by kernel_rfl) rfl) (fun _ _ h hb => h.later hb) form_right A c l w hL hn hd hG
end Go.Proofs.YtkmnbdomikpakaaDoor.RuleMuch
