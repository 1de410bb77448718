/- The document's Find for rules. -/
import Derived.Test.YtkmnbdomikpakaaDoorKRuleFew
namespace Go.Proofs.YtkmnbdomikpakaaDoor.RuleFind
open Go.RowKit Base KeyPlain TuplePlain TupleRef RulePlain RuleMem RuleRec RuleFew

theorem at_set {w : World} {g : Nat} {t : TypeId} {cs : Array Value} (h : w.heap[g]? = some (.cells cs t (0, 0))) (i : Nat) (v : Value) : (w.setCell ⟨g, i, none⟩ v).heap[g]? = some (.cells (cs.setIfInBounds i v) t (0, 0)) := by
  simp [World.setCell, Array.getElem?_modify, h]
theorem set4 {w : World} {g : Nat} {t : TypeId} {x0 x1 x2 x3 : Value} (h : w.heap[g]? = some (.cells #[x0, x1, x2, x3] t (0, 0))) (a b c d : Value) :
    ((((w.setCell ⟨g, 0, none⟩ a).setCell ⟨g, 1, none⟩ b).setCell ⟨g, 2, none⟩ c).setCell ⟨g, 3, none⟩ d).heap[g]? = some (.cells #[a, b, c, d] t (0, 0)) := at_set (at_set (at_set (at_set h 0 a) 1 b) 2 c) 3 d
theorem below4 {W w : World} {B g : Nat} (h : Below B W w) (hg : B ≤ g) (a b c d : Value) : Below B W ((((w.setCell ⟨g, 0, none⟩ a).setCell ⟨g, 1, none⟩ b).setCell ⟨g, 2, none⟩ c).setCell ⟨g, 3, none⟩ d) := (((h.setCell hg _).setCell hg _).setCell hg _).setCell hg _
theorem see4 {w : World} {B g : Nat} (hg : B ≤ g) {p : Addr} {vs : List Value} (h : Sees w B p vs) {a b c d : Value} : Sees ((((w.setCell ⟨g, 0, none⟩ a).setCell ⟨g, 1, none⟩ b).setCell ⟨g, 2, none⟩ c).setCell ⟨g, 3, none⟩ d) B p vs := h.below (below4 (Below.refl B w) hg a b c d)
theorem results_cell_tmp_row {P : Program} {fn : Func} {p u : Tmp} {ty : TypeId} (h : fn.results = #[.cell p ty, .tmp u]) (tmps : Array Value) (w : World) (g : Nat) (t : TypeId) (cs : Array Value) (fr : Nat × Nat) (d : TypeDesc)
    (hp : tmps.getD p undef = .pointer (some ⟨g, 0, none⟩)) (hg : w.heap[g]? = some (.cells cs t fr))
    (hu : P.underlying ty = some d) (hd : (match d with | .struct _ | .array _ _ => true | _ => false) = true) (hi : (P.info? ty).map (·.size) = some cs.size) :
    (results fn tmps).run P w = .ok (.tuple #[.agg cs, tmps.getD u undef]) w := by
  rw [results_cell_tmp h, hp]
  simp [asAddr, run_loadVar_row w g t ty cs fr d hg hu hd hi, Result.andThen]
theorem find_nokind {l : List Kd} {kind rel : ByteArray} (h : ∀ j (h : j < l.length), (l[j]).name ≠ kind) : find l kind rel = none := by
  have : l.find? (fun k => decide (k.name = kind)) = none := by
    rw [List.find?_eq_none]
    intro x hx
    obtain ⟨j, hj, rfl⟩ := List.mem_iff_getElem.1 hx
    simpa using h j hj
  simp only [find, this]
theorem find_first {α : Type} {p : α → Bool} {l : List α} {k : Nat} (hk : k < l.length) (hn : ∀ j (_ : j < k) (h : j < l.length), p l[j] = false) (hp : p l[k] = true) : l.find? p = some l[k] := by
  rw [List.find?_eq_some_iff_append]
  refine ⟨hp, l.take k, l.drop (k + 1), ?_, fun a ha => ?_⟩
  · rw [← List.drop_eq_getElem_cons hk, List.take_append_drop]
  · obtain ⟨j, hj, rfl⟩ := List.mem_iff_getElem.1 ha
    rw [List.length_take] at hj
    rw [List.getElem_take, hn j (by omega) (by omega)]
    rfl
theorem rules_no {rs : List Rl} {rel : ByteArray} (h : ∀ j (h : j < rs.length), (rs[j]).rel ≠ rel) : rs.find? (fun r => decide (r.rel = rel)) = none := by
  rw [List.find?_eq_none]
  intro x hx
  obtain ⟨j, hj, rfl⟩ := List.mem_iff_getElem.1 hx
  simpa using h j hj
theorem rules_hit {rs : List Rl} {rel : ByteArray} {m : Nat} (hm : m < rs.length) (h : ∀ j (_ : j < m) (h : j < rs.length), (rs[j]).rel ≠ rel) (he : (rs[m]).rel = rel) : rs.find? (fun r => decide (r.rel = rel)) = some rs[m] :=
  find_first hm (fun j h1 h2 => decide_eq_false (h j h1 h2)) (decide_eq_true he)
theorem find_at {l : List Kd} {kind rel : ByteArray} {k : Nat} {o : Option Rl} (hk : k < l.length) (h1 : (l[k]).name = kind) (h2 : (l[k]).rules.find? (fun r => decide (r.rel = rel)) = o) (hn : ∀ j (_ : j < k) (h : j < l.length), (l[j]).name ≠ kind) : find l kind rel = o.map (·.e) := by
  have := find_first (p := fun k : Kd => decide (k.name = kind)) hk (fun j h1 h2 => decide_eq_false (hn j h1 h2)) (decide_eq_true h1)
  simp only [find, this, h2]
/-- what Find tells -/
def FindPost (l : List Kd) (kind rel : ByteArray) (w : World) (e : Ending) (w' : World) : Prop := ∃ q, Lay w' w'.heap.size ((find l kind rel).getD zex) q ∧ e = .returned (.tuple #[.agg q.toArray, .bool (find l kind rel).isSome]) ∧ Below w.heap.size w w'
theorem find_no {l : List Kd} {kind rel : ByteArray} {w w' : World} (h : find l kind rel = none) (hb : Below w.heap.size w w') : FindPost l kind rel w (.returned (.tuple #[.agg #[.string ⟨#[]⟩, .string ⟨#[]⟩, .string ⟨#[]⟩, .slice none 0 0], .bool false])) w' := by
  refine ⟨[.string ⟨#[]⟩, .string ⟨#[]⟩, .string ⟨#[]⟩, .slice none 0 0], ?_, ?_, hb⟩
  · rw [h]
    exact Lay.of (ps := []) ⟨fun _ => [], fun i hi => absurd hi (by simp)⟩ (by simp [maxLen])
  · rw [h]; rfl
theorem find_yes {l : List Kd} {kind rel : ByteArray} {w w' : World} {e : Ex} {B : Nat} {x1 x2 x3 x4 : Value} (h : find l kind rel = some e) (hy : Lay w' B e [x1, x2, x3, x4]) (hb : Below w.heap.size w w') (hB : B ≤ w'.heap.size) : FindPost l kind rel w (.returned (.tuple #[.agg #[x1, x2, x3, x4], .bool true])) w' := by
  refine ⟨[x1, x2, x3, x4], ?_, ?_, hb⟩
  · rw [h]
    exact hy.imp fun a vs hs => hs.more hB
  · rw [h]; rfl
set_option maxRecDepth 100000 in
set_option maxHeartbeats 12800000 in
theorem refFind_any (A : Option Addr) (c : Nat) (l : List Kd) (kind rel : ByteArray) (w : World) (hL : LayL w w.heap.size A l) (hn : l.length ≤ maxLen) :
    Calls Tryd.prog 15 #[.slice A l.length c, .string kind, .string rel] w (FindPost l kind rel w) := by
  unfold maxLen at hn
  have hb1 := al w (.cells #[.string ⟨#[]⟩, .string ⟨#[]⟩, .string ⟨#[]⟩, .slice none 0 0] 34)
  have a1 := heap_alloc_new w (.cells #[.string ⟨#[]⟩, .string ⟨#[]⟩, .string ⟨#[]⟩, .slice none 0 0] 34)
  obtain ⟨w1, hw1⟩ : ∃ v, v = w.alloc (.cells #[.string ⟨#[]⟩, .string ⟨#[]⟩, .string ⟨#[]⟩, .slice none 0 0] 34) := ⟨_, rfl⟩
  obtain ⟨b, hbe⟩ : ∃ v, v = w.heap.size := ⟨_, rfl⟩
  rw [← hw1, ← hbe] at a1
  rw [← hw1] at hb1
  have f0 : w1.frozen? ⟨b, 0, none⟩ = false := by simp [World.frozen?, a1]
  have f1 : w1.frozen? ⟨b, 1, none⟩ = false := by simp [World.frozen?, a1]
  have f2 : w1.frozen? ⟨b, 2, none⟩ = false := by simp [World.frozen?, a1]
  have f3 : w1.frozen? ⟨b, 3, none⟩ = false := by simp [World.frozen?, a1]
  obtain ⟨d0, d1, d2, d3⟩ := four_at a1
  have HA := Lib.hid a1
  have HL := Lib.hid (hL.imp (B' := w.heap.size) fun a vs h => h.below hb1)
  have HB1 := Lib.hid hb1
  have HW := Lib.hid hw1
  have HBE := Lib.hid hbe
  have HLE := Lib.hid (show w.heap.size ≤ b from by rw [hbe]; exact Nat.le_refl _)
  clear a1 hb1 hw1 hbe
  have HL0 := Lib.hid (fun (w' : World) (hw' : Below w.heap.size w w') => hL.imp (w' := w') (B' := w.heap.size) fun a vs h => h.below hw')
  clear hL
  go_enter Tryd.func15, Tryd.ntmps15
  go_upto_region 1 with fail
  try rw [← HW.out]
  try rw [← HBE.out]
  clear HW
  go_wp2_with fail
  go_loopw [8, 9] (fun i z wr => z = z ∧ w1 = wr ∧ ∃ k : Nat, k ≤ l.length ∧ i = .int .i64 k ∧ ∀ j (_ : j < k) (h : j < l.length), (l[j]).name ≠ kind) (fun i _ _ => l.length - (intOf i).toNat)
  case atStart => exact ⟨rfl, rfl, 0, by omega, rfl, fun j hj => by omega⟩
  case round =>
    obtain ⟨_, rfl, k, hk, rfl, hpre⟩ := hrel
    have HPRE := Lib.hid hpre
    clear hpre
    by_cases hlt : k < l.length
    rotate_left
    · have HM := Lib.hid (find_nokind (l := l) (rel := rel) fun j h => HPRE.out j (by omega) h)
      have hni : ¬ (k : Int) < (l.length : Int) := by omega
      go_wp2_with fail
      refine bodyPost_ret (results_cell_tmp_row rfl _ _ b 34 _ (0, 0) _ rfl (set4 HA.out _ _ _ _) Tryd.underlying34 rfl (by kernel_rfl)) rfl ?_
      exact find_no HM.out (below4 HB1.out HLE.out _ _ _ _)
    obtain ⟨ad, K, c', rfl, hks, hrs, hml⟩ := kind_see HL.out k hlt
    have k0 := hks.at0
    have k1 := hks.at_ 0 rfl
    have HRL := Lib.hid hrs
    have HFK := Lib.hid (fun (o : Option Rl) (h1 : (l[k]).name = kind) (h2 : (l[k]).rules.find? (fun r => decide (r.rel = rel)) = o) => find_at hlt h1 h2 (fun j h3 h4 => HPRE.out j h3 h4))
    have HLT := Lib.hid (Nat.not_le_of_lt hlt)
    have HNX := Lib.hid (fun (he : (l[k]).name ≠ kind) => show ∀ j (_ : j < k + 1) (h : j < l.length), (l[j]).name ≠ kind from fun j hj h => by
    rcases Nat.lt_or_ge j k with g | g
    · exact HPRE.out j g h
    · obtain rfl : j = k := by omega
      exact he)
    clear hks hrs
    generalize l[k] = kd at *
    obtain ⟨nm, rs⟩ := kd
    simp only at hml HRL k0 k1 HNX HFK
    unfold maxLen at hml
    have hq := Str.ba_beq nm kind
    by_cases he : nm = kind
    rotate_left
    · rw [decide_eq_false he] at hq
      have HM := Lib.hid (HNX.out he)
      clear he
      go_wp2_with fail
      go_roundw
      case rel => exact ⟨trivial, trivial, k + 1, by have := HLT.out; omega, by go_num, HM.out⟩
      case measure => have := HLT.out; simp [intOf]; omega
    rw [decide_eq_true he] at hq
    have HFK2 := Lib.hid (fun o h2 => HFK.out o he h2)
    clear he HNX HFK
    go_wp2_with fail
    clear hq
    go_loopw [9] (fun i wr => w1 = wr ∧ ∃ m : Nat, m ≤ rs.length ∧ i = .int .i64 m ∧ ∀ j (_ : j < m) (h : j < rs.length), (rs[j]).rel ≠ rel) (fun i _ => rs.length - (intOf i).toNat)
    case atStart => exact ⟨rfl, 0, by omega, rfl, fun j hj => by omega⟩
    case round =>
      obtain ⟨rfl, m, hm, rfl, hpre⟩ := hrel
      have HPR := Lib.hid hpre
      clear hpre
      by_cases hlm : m < rs.length
      rotate_left
      · have HM := Lib.hid (HFK2.out _ (rules_no fun j h => HPR.out j (by omega) h))
        have hni : ¬ (m : Int) < (rs.length : Int) := by omega
        go_wp2_with fail
        refine bodyPost_ret (results_cell_tmp_row rfl _ _ b 34 _ (0, 0) _ rfl (set4 HA.out _ _ _ _) Tryd.underlying34 rfl (by kernel_rfl)) rfl ?_
        exact find_no HM.out (below4 HB1.out HLE.out _ _ _ _)
      obtain ⟨bd, x1, x2, x3, x4, rfl, hrs, hy⟩ := rule_see HRL.out m hlm
      have r0 := hrs.at0
      have r1 := hrs.at_ 0 rfl
      have r2 := hrs.at_ 1 rfl
      have r3 := hrs.at_ 2 rfl
      have r4 := hrs.at_ 3 rfl
      have HY := Lib.hid hy
      have HLM := Lib.hid (Nat.not_le_of_lt hlm)
      have HNX := Lib.hid (fun (he : (rs[m]).rel ≠ rel) => show ∀ j (_ : j < m + 1) (h : j < rs.length), (rs[j]).rel ≠ rel from fun j hj h => by
    rcases Nat.lt_or_ge j m with g | g
    · exact HPR.out j g h
    · obtain rfl : j = m := by omega
      exact he)
      have HHIT := Lib.hid (fun (he : (rs[m]).rel = rel) => rules_hit hlm (fun j h1 h2 => HPR.out j h1 h2) he)
      clear hrs hy
      generalize rs[m] = rl at *
      obtain ⟨rrel, e⟩ := rl
      simp only at HY r0 HNX HHIT
      have lmI : (m : Int) < (rs.length : Int) := by omega
      have hq := Str.ba_beq rrel rel
      by_cases he : rrel = rel
      rotate_left
      · rw [decide_eq_false he] at hq
        have HM := Lib.hid (HNX.out he)
        clear he
        go_wp2_with fail
        go_roundw
        case rel => exact ⟨trivial, m + 1, by have := HLM.out; omega, by go_num, HM.out⟩
        case measure => have := HLM.out; simp [intOf]; omega
      rw [decide_eq_true he] at hq
      have HM := Lib.hid (HFK2.out _ (HHIT.out he))
      clear he
      obtain ⟨A9, c9, hxe, _⟩ := HY.out.open
      simp only [List.cons.injEq, and_true] at hxe
      obtain ⟨rfl, rfl, rfl, rfl⟩ := hxe
      go_wp2_with fail
      refine bodyPost_ret (results_cell_tmp_row rfl _ _ b 34 _ (0, 0) _ rfl (set4 HA.out _ _ _ _) Tryd.underlying34 rfl (by kernel_rfl)) rfl ?_
      exact find_yes HM.out (HY.out.imp fun a vs h => see4 HLE.out h) (below4 HB1.out HLE.out _ _ _ _) (below4 HB1.out HLE.out _ _ _ _).size
end Go.Proofs.YtkmnbdomikpakaaDoor.RuleFind
