/- The program's two tables: what they hold; which text is a word, which a name; what has a form. -/
import Derived.Test.YtkmnbdomikpakaaDoorKRuleAlike
import Derived.Test.YtkmnbdomikpakaaDoorKRuleChk
import Derived.Test.YtkmnbdomikpakaaDoorKRuleMem
import Derived.Test.YtkmnbdomikpakaaDoorKRuleRec
import Derived.Test.YtkmnbdomikpakaaDoorKTupleName
namespace Go.Proofs.YtkmnbdomikpakaaDoor.RuleGl
open Go.RowKit Base KeyPlain TuplePlain TupleRef RulePlain RuleMem RuleRec RuleChk RuleAlike TupleName

def words : List ByteArray := [kThis, kOr, kAnd, kBut, kFrom, kKind]
structure Fm where
  op : ByteArray
  nm : Bool
  fo : Bool
  le : Int
  mo : Int
/-- no more parts than ever are -/
def anyMo : Int := 2147483647
def forms : List Fm := [⟨kThis, false, false, 0, 0⟩, ⟨kRel, true, false, 0, 0⟩, ⟨kFrom, true, true, 0, 0⟩, ⟨kOr, false, false, 2, anyMo⟩, ⟨kAnd, false, false, 2, anyMo⟩, ⟨kBut, false, false, 2, 2⟩]
def Fm.cells (f : Fm) : List Value := [.string f.op, .bool f.nm, .bool f.fo, .int .i64 f.le, .int .i64 f.mo]
def formV : List Value := forms.flatMap Fm.cells
def wordV : List Value := words.map .string
/-- the tables lie there -/
def Gl (w : World) : Prop := Sees w w.heap.size ⟨0, 0, none⟩ formV ∧ Sees w w.heap.size ⟨1, 0, none⟩ wordV
theorem Gl.later {w w' : World} (h : Gl w) (hb : Below w.heap.size w w') : Gl w' := ⟨see_later hb _ _ h.1, see_later hb _ _ h.2⟩
theorem glob_at {w : World} {B g : Nat} {vs : List Value} (h : Sees w B ⟨g, 0, none⟩ vs) (j : Nat) (v : Value) (hv : vs[j]? = some v) : w.cell? ⟨g, j, none⟩ = some v := by
  have := h.2 j v hv
  rwa [add_zero_block] at this
theorem load_row {w : World} {t : TypeId} {vs : List Value} {a : Addr} (ha : (isAgg t).run Tryd.prog w = .ok true w) (hz : (sizeOf t).run Tryd.prog w = .ok vs.length w) (h : ∀ j v, vs[j]? = some v → w.cell? (a.add j) = some v) :
    (Instr.loadAt t (.pointer (some a))).run Tryd.prog w = .ok (.agg vs.toArray) w := by
  have hc := run_loadCells_list (P := Tryd.prog) (w := w) a vs h
  simp [Instr.loadAt, loadVar, Instr.sureAddr, Sem.run_bind, ha, hz, hc]
theorem load_words {w : World} (h : Gl w) : (Instr.loadAt 98 (.pointer (some ⟨1, 0, none⟩))).run Tryd.prog w = .ok (.agg wordV.toArray) w :=
  load_row (by kernel_rfl) (by kernel_rfl) h.2.2
theorem load_forms {w : World} (h : Gl w) : (Instr.loadAt 84 (.pointer (some ⟨0, 0, none⟩))).run Tryd.prog w = .ok (.agg formV.toArray) w :=
  load_row (by kernel_rfl) (by kernel_rfl) h.1.2
theorem wpList_load_eq {P : Program} {w : World} {ops : Array Oper} {rest : List Oper} {o : Oper} {a : Act} {Q : Exit → Act → World → Prop} (hgd : o.guard = none) (t : TypeId) (x : Operand) (ho : o.op = .load t x) {v r : Value} (hx : a.eval x = v)
    (hrun : (Instr.loadAt t v).run P w = .ok r w) (h : wpList P ops Q rest (a.put o.dst r) w) : wpList P ops Q (o :: rest) a w := by
  refine wpList_plain hgd fun K hK => ?_
  unfold Oper.wp execOp
  simp only [ho, Sem.run_bind, Sem.run_pure, Result.andThen_ok, hx, hrun]
  exact hK _ _ h
theorem index_word (k : Nat) (hk : k < 6) : ∀ w : World, (Instr.index 98 (.agg wordV.toArray) (.int .i64 (k : Int))).run Tryd.prog w = .ok (.string (words[k]'hk)) w :=
  match k, hk with
  | 0, _ => fun w => by kernel_rfl
  | 1, _ => fun w => by kernel_rfl
  | 2, _ => fun w => by kernel_rfl
  | 3, _ => fun w => by kernel_rfl
  | 4, _ => fun w => by kernel_rfl
  | 5, _ => fun w => by kernel_rfl
theorem index_form (k : Nat) (hk : k < 6) : ∀ w : World, (Instr.index 84 (.agg formV.toArray) (.int .i64 (k : Int))).run Tryd.prog w = .ok (.agg (forms[k]'hk).cells.toArray) w :=
  match k, hk with
  | 0, _ => fun w => by kernel_rfl
  | 1, _ => fun w => by kernel_rfl
  | 2, _ => fun w => by kernel_rfl
  | 3, _ => fun w => by kernel_rfl
  | 4, _ => fun w => by kernel_rfl
  | 5, _ => fun w => by kernel_rfl
def isWord (s : ByteArray) : Bool := words.any fun x => decide (x = s)
theorem word_lit : (Value.agg #[.string kThis, .string kOr, .string kAnd, .string kBut, .string kFrom, .string kKind]) = .agg wordV.toArray := rfl
set_option maxRecDepth 100000 in
set_option maxHeartbeats 3200000 in
theorem isWord_any (s : ByteArray) (w : World) (hG : Gl w) : Calls Tryd.prog 74 #[.string s] w fun e w' => e = .returned (.bool (isWord s)) ∧ w' = w := by
  have h0 := glob_at hG.2 0 _ rfl
  have h1 := glob_at hG.2 1 _ rfl
  have h2 := glob_at hG.2 2 _ rfl
  have h3 := glob_at hG.2 3 _ rfl
  have h4 := glob_at hG.2 4 _ rfl
  have h5 := glob_at hG.2 5 _ rfl
  have hix := index_word
  have HW := Lib.hid (show isWord s = words.any fun x => decide (x = s) from rfl)
  go_enter Tryd.func74, Tryd.ntmps74
  go_wp2_with fail
  clear h0 h1 h2 h3 h4 h5
  rw [word_lit]
  generalize wordV.toArray = V at *
  go_loopw [4, 6] (fun z i wr => z = z ∧ ∃ k : Nat, k ≤ 6 ∧ i = .int .i64 k ∧ (words.take k).any (fun x => decide (x = s)) = false ∧ wr = w) (fun _ i _ => 6 - (intOf i).toNat)
  case atStart => exact ⟨rfl, 0, by omega, rfl, rfl, rfl⟩
  case round =>
    obtain ⟨_, k, hk, rfl, hpre, rfl⟩ := hrel
    by_cases hlt : k < 6
    · have hi := hix k hlt wr
      have hx := any_take (fun x => decide (x = s)) words k (show k < words.length from hlt)
      rw [hpre, Bool.false_or] at hx
      have hcut : decide (words[k]'hlt = s) = true → isWord s = true := fun h => List.any_eq_true.2 ⟨_, List.getElem_mem _, h⟩
      have HX := Lib.hid hx
      have HC := Lib.hid hcut
      clear hx hcut hpre hix
      generalize words[k]'hlt = x at *
      have hlt' : (k : Int) < 6 := by omega
      have HLT := Lib.hid hlt
      clear hlt
      by_cases hxs : x = s
      · have HR := Lib.hid (HC.out (by simpa using hxs))
        have hq : (x.toList == s.toList) = true := by rw [Str.ba_beq]; exact decide_eq_true hxs
        clear hxs
        go_wp2_with fail
        go_ret
        exact ⟨ret_bool HR.out.symm, rfl⟩
      · have HR := Lib.hid (show (words.take (k + 1)).any (fun x => decide (x = s)) = false from by rw [HX.out]; simpa using hxs)
        have hq : (x.toList == s.toList) = false := by rw [Str.ba_beq]; exact decide_eq_false hxs
        clear hxs
        go_wp2_with fail
        go_roundw
        case rel => exact ⟨trivial, k + 1, by have := HLT.out; omega, by go_num, HR.out, trivial⟩
        case measure => have := HLT.out; simp [intOf]; omega
    · have HR := Lib.hid (show isWord s = false from by rw [HW.out, ← hpre, List.take_of_length_le (show words.length ≤ k by show 6 ≤ k; omega)])
      have hlt' : ¬ (k : Int) < 6 := by omega
      clear hpre
      go_wp2_with fail
      go_ret
      exact ⟨ret_bool HR.out.symm, rfl⟩
theorem nameR_is (s : ByteArray) : nameR s = (nameL (bl s) && !isWord s) := by
  simp only [nameR, isWord, words, List.any_cons, List.any_nil, Bool.or_false, eq_comm (a := s)]
  simp only [Bool.or_assoc]
set_option maxHeartbeats 3200000 in
theorem isName_any (s : ByteArray) (w : World) (hG : Gl w) (hs : s.size ≤ 1000000000) : Calls Tryd.prog 62 #[.string s] w fun e w' => e = .returned (.bool (nameR s)) ∧ Below w.heap.size w w' := by
  have hc1 := name_wide s w hs
  have hc2 := fun (w' : World) (hb : Below w.heap.size w w') => isWord_any s w' (hG.later hb)
  rw [nameR_is]
  generalize nameL (bl s) = b1 at *
  generalize isWord s = b2 at *
  go_enter Tryd.func62, Tryd.ntmps62
  go_wp2_with fail
  (with_reducible refine hc1.mono ?_)
  rintro e w' ⟨rfl, hb⟩
  have hc3 := hc2 w' hb
  clear hc2 hc1
  cases b1
  · go_wp2_with fail
    go_ret
    exact ⟨ret_bool (by simp), hb⟩
  · go_wp2_with fail
    (with_reducible refine hc3.mono ?_)
    rintro e w'' ⟨rfl, rfl⟩
    go_wp2_with fail
    go_ret
    exact ⟨ret_bool (by simp), hb⟩
def okF (f : Fm) (nm fo : ByteArray) (n : Nat) : Bool := (f.nm == !nm.toList.isEmpty) && ((f.fo == !fo.toList.isEmpty) && (decide (f.le ≤ (n : Int)) && decide ((n : Int) ≤ f.mo)))
/-- an expression's own form, as the table says it -/
def formC (op nm fo : ByteArray) (n : Nat) : Bool := match forms.find? (fun f => decide (f.op = op)) with
  | some f => okF f nm fo n
  | none => false
theorem form_hit (op nm fo : ByteArray) (n k : Nat) (hk : k < 6) (hp : (forms.take k).any (fun f => decide (f.op = op)) = false) (h : (forms[k]'hk).op = op) : formC op nm fo n = okF (forms[k]'hk) nm fo n := by
  have e : forms.find? (fun f => decide (f.op = op)) = some (forms[k]'hk) := by
    rw [List.find?_eq_some_iff_getElem]
    refine ⟨by simpa using h, k, hk, rfl, fun j hj => ?_⟩
    have h6 : forms.length = 6 := rfl
    have := List.any_eq_false.1 hp (forms[j]'(by omega)) (by rw [List.mem_take_iff_getElem]; exact ⟨j, by omega, rfl⟩)
    simpa using this
  unfold formC
  rw [e]
theorem form_none (op nm fo : ByteArray) (n : Nat) (hp : forms.any (fun f => decide (f.op = op)) = false) : formC op nm fo n = false := by
  have e : forms.find? (fun f => decide (f.op = op)) = none := by
    rw [List.find?_eq_none]
    intro f hf
    have := List.any_eq_false.1 hp f hf
    simpa using this
  unfold formC
  rw [e]
set_option maxRecDepth 100000 in
set_option maxHeartbeats 6400000 in
theorem hasForm_any (op nm fo : ByteArray) (n : Nat) (A : Option Addr) (c : Nat) (w : World) (hG : Gl w) :
    Calls Tryd.prog 44 #[.agg #[.string op, .string nm, .string fo, .slice A n c]] w fun e w' => e = .returned (.bool (formC op nm fo n)) ∧ Below w.heap.size w w' := by
  have hix := index_form
  obtain ⟨w1, hw1⟩ : ∃ v, v = w.alloc (.cells #[.string op, .string nm, .string fo, .slice A n c] 34) := ⟨_, rfl⟩
  obtain ⟨b, hbe⟩ : ∃ v, v = w.heap.size := ⟨_, rfl⟩
  have hb1 : Below w.heap.size w w1 := by rw [hw1]; exact al _ _
  have a1 : w1.heap[b]? = some (.cells #[.string op, .string nm, .string fo, .slice A n c] 34 (0, 0)) := by rw [hw1, hbe]; exact heap_alloc_new w _
  have hl1 : b < w1.heap.size := by rw [hw1, hbe]; simp
  have HC := Lib.hid (fun (w' : World) (hw' : Below w1.heap.size w1 w') => four_at ((hw'.block b hl1).trans a1))
  have hG1 := hG.later hb1
  have HB1 := Lib.hid hb1
  have HW := Lib.hid hw1
  have HBE := Lib.hid hbe
  clear hw1 a1 hl1 hbe hb1 hG
  have hld := load_forms hG1
  generalize formV.toArray = V at *
  go_enter Tryd.func44, Tryd.ntmps44
  go_upto_region 1 with fail
  try rw [← HW.out]
  try rw [← HBE.out]
  clear HW
  go_wp2_with (refine wpList_load_eq rfl 84 (.global 0) rfl rfl hld ?_)
  clear hld
  go_loopw [4, 5, 7] (fun y z i wr => y = y ∧ z = z ∧ ∃ k : Nat, k ≤ 6 ∧ i = .int .i64 k ∧ (forms.take k).any (fun f => decide (f.op = op)) = false ∧ Below w1.heap.size w1 wr) (fun _ _ i _ => 6 - (intOf i).toNat)
  case atStart => exact ⟨rfl, rfl, 0, by omega, rfl, rfl, Below.refl _ _⟩
  case round =>
    obtain ⟨_, _, k, hk, rfl, hpre, hB⟩ := hrel
    have HB := Lib.hid hB
    by_cases hlt : k < 6
    · have hi := hix k hlt wr
      have hit := form_hit op nm fo n k hlt hpre
      have hx := any_take (fun f : Fm => decide (f.op = op)) forms k (show k < forms.length from hlt)
      rw [hpre, Bool.false_or] at hx
      have HX := Lib.hid hx
      have HI := Lib.hid hit
      clear hx hit hpre hix
      generalize forms[k]'hlt = f at *
      obtain ⟨fop, fnm, ffo, fle, fmo⟩ := f
      simp only [Fm.cells] at hi
      have hlt' : (k : Int) < 6 := by omega
      have HLT := Lib.hid hlt
      clear hlt
      obtain ⟨w3, hw3⟩ : ∃ v, v = wr.alloc (.cells #[.string fop, .bool fnm, .bool ffo, .int .i64 fle, .int .i64 fmo] 83) := ⟨_, rfl⟩
      obtain ⟨b3, hb3e⟩ : ∃ v, v = wr.heap.size := ⟨_, rfl⟩
      have hb3 : Below wr.heap.size wr w3 := by rw [hw3]; exact al _ _
      have a3 : w3.heap[b3]? = some (.cells #[.string fop, .bool fnm, .bool ffo, .int .i64 fle, .int .i64 fmo] 83 (0, 0)) := by rw [hw3, hb3e]; exact heap_alloc_new wr _
      have HB3 := Lib.hid (Below.step hB hb3)
      obtain ⟨d0, d1, d2, d3⟩ := HC.out w3 HB3.out
      have HW3 := Lib.hid hw3
      have HB3E := Lib.hid hb3e
      obtain ⟨p0, p1, p2, p3, p4⟩ := five_at a3
      clear hB hb3 a3 hw3 hb3e
      by_cases hxs : fop = op
      · have HR := Lib.hid (HI.out hxs)
        have hq : (fop.toList == op.toList) = true := by rw [Str.ba_beq]; exact decide_eq_true hxs
        clear hxs
        go_upto_region 4 with fail
        try rw [← HW3.out]
        try rw [← HB3E.out]
        clear HW3
        go_wp2_with fail
        all_goals go_ret
        all_goals refine ⟨ret_bool ?_, HB1.out.trans (HB3.out.mono HB1.out.size)⟩
        all_goals rw [HR.out]
        all_goals simp_all [okF]
        all_goals omega
      · have HR := Lib.hid (show (forms.take (k + 1)).any (fun f => decide (f.op = op)) = false from by rw [HX.out]; simpa using hxs)
        have hq : (fop.toList == op.toList) = false := by rw [Str.ba_beq]; exact decide_eq_false hxs
        clear hxs
        go_upto_region 4 with fail
        try rw [← HW3.out]
        try rw [← HB3E.out]
        clear HW3
        go_wp2_with fail
        go_roundw
        case rel => exact ⟨trivial, trivial, k + 1, by have := HLT.out; omega, by go_num, HR.out, HB3.out⟩
        case measure => have := HLT.out; simp [intOf]; omega
    · have HR := Lib.hid (form_none op nm fo n (by rw [← hpre, List.take_of_length_le (show forms.length ≤ k by show 6 ≤ k; omega)]))
      have hlt' : ¬ (k : Int) < 6 := by omega
      clear hpre
      go_wp2_with fail
      go_ret
      exact ⟨ret_bool HR.out.symm, HB1.out.trans (HB.out.mono HB1.out.size)⟩
end Go.Proofs.YtkmnbdomikpakaaDoor.RuleGl
