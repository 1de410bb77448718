/- The tables of rule, out of the rows' condition. -/
import Derived.Test.YtkmnbdomikpakaaDoorKRuleReal
import Derived.Test.YtkmnbdomikpakaaDoorRows
import Derived.LaidMore
import Derived.OpenShut
import Derived.ProofKit
import Derived.Stop.Joined
namespace Go.Proofs.YtkmnbdomikpakaaDoor.RuleTables
open Go.ChangeShapes Go.WideShapes Go.ChangeAt Go.WideMaps Go.WideElems Go.RowKit Base KeyPlain RuleMem RuleGl

def laid2 {H : Type} : List (String × DataW H) := [("lunette/rule.words", Rows.laid_lunette_rule_words), ("lunette/rule.forms", Rows.laid_lunette_rule_forms)]
set_option maxRecDepth 100000 in
theorem door_met (os : Os) (args : Array Value) : laidMetH Tryd.prog laid2 ((World.doorLaid Tryd.prog 4000 os).forCall (fun _ _ => 0) ⟨#[], args, []⟩).memory :=
  laidMetH_of_parts3 (fuel := 8) (laidMet_of_run' 8 (by kernel_rfl) (by kernel_rfl)) (by kernel_rfl) (by kernel_rfl)
section
variable {H : Type} {enc : TypeId × Value → H} {W : World} {base fuel : Nat} {spare : Nat → Bool} {held : Bool}
theorem str_cell {c : List Value} {b : List UInt8} {p : List MemPlace} (h : DataW.trod enc Tryd.prog W base spare held fuel 9 c = some (.lit (.string b), p)) : c = [.string ⟨b.toArray⟩] := by
  obtain ⟨s, e1, e2, _⟩ := DataW.trod_string Tryd.underlying9 h
  injection e2 with e2 _
  injection e2 with e2
  injection e2 with e2
  rw [e1, e2]
theorem words_cells {cs : List Value} {p : List MemPlace} (h : DataW.trod enc Tryd.prog W base spare held fuel 98 cs = some (Rows.laid_lunette_rule_words, p)) : cs = wordV := by
  obtain ⟨xs, m, rfl, hx, hlen, hn, hel⟩ := DataW.trod_array Tryd.underlying98 h
  have c9 : Tryd.prog.cellsOf 9 = 1 := by kernel_rfl
  have c6 : Tryd.prog.cellsOf 98 = 6 := by kernel_rfl
  rw [c6] at hlen
  simp only [c9, Nat.mul_one] at hel
  match cs, hlen, xs, hn with
  | [a0, a1, a2, a3, a4, a5], _, [x0, x1, x2, x3, x4, x5], _ =>
    simp only [Rows.laid_lunette_rule_words, Prod.mk.injEq, DataW.agg.injEq, List.map_cons, List.map_nil, List.cons.injEq, and_true] at hx
    obtain ⟨⟨e0, e1, e2, e3, e4, e5⟩, _⟩ := hx
    have k : ∀ (i : Nat) (hi : i < 6) (a : Value) (x : DataW H × List MemPlace) (b : List UInt8), (([a0, a1, a2, a3, a4, a5] : List Value).drop i).take 1 = [a] → ([x0, x1, x2, x3, x4, x5] : List (DataW H × List MemPlace))[i]? = some x → DataW.lit (.string b) = x.1 → a = .string ⟨b.toArray⟩ := fun i hi a x b h1 h2 h3 => by
      have h4 := hel i hi
      rw [h1, h2] at h4
      obtain ⟨x, q⟩ := x
      simp only at h3
      subst h3
      have := str_cell h4
      injection this
    rw [k 0 (by omega) a0 x0 _ rfl rfl e0, k 1 (by omega) a1 x1 _ rfl rfl e1, k 2 (by omega) a2 x2 _ rfl rfl e2, k 3 (by omega) a3 x3 _ rfl rfl e3, k 4 (by omega) a4 x4 _ rfl rfl e4, k 5 (by omega) a5 x5 _ rfl rfl e5]
    rfl
theorem bool_cell {c : List Value} {b : Bool} {p : List MemPlace} (h : DataW.trod enc Tryd.prog W base spare held fuel 4 c = some (.lit (.bool b), p)) : c = [.bool b] := by
  obtain ⟨s, e1, e2⟩ := DataW.trod_bool Tryd.underlying4 h
  injection e2 with e2 _
  injection e2 with e2
  injection e2 with e2
  rw [e1, e2]
theorem int_cell {c : List Value} {b : Int} {p : List MemPlace} (h : DataW.trod enc Tryd.prog W base spare held fuel 3 c = some (.lit (.int .i64 b), p)) : c = [.int .i64 b] := by
  obtain ⟨s, e1, e2, _⟩ := DataW.trod_int Tryd.underlying3 h
  injection e2 with e2 _
  injection e2 with e2
  injection e2 with _ e2
  rw [e1, e2]
theorem form_cell {c : List Value} {b : List UInt8} {nm fo : Bool} {le mo : Int} {p : List MemPlace} (h : DataW.trod enc Tryd.prog W base spare held fuel 83 c = some (.agg [.lit (.string b), .lit (.bool nm), .lit (.bool fo), .lit (.int .i64 le), .lit (.int .i64 mo)], p)) :
    c = [.string ⟨b.toArray⟩, .bool nm, .bool fo, .int .i64 le, .int .i64 mo] := by
  obtain ⟨xs, m, rfl, hx, hlen, hn, hel⟩ := DataW.trod_struct Tryd.underlying83 h
  have c9 : Tryd.prog.cellsOf 9 = 1 := by kernel_rfl
  have c4 : Tryd.prog.cellsOf 4 = 1 := by kernel_rfl
  have c3 : Tryd.prog.cellsOf 3 = 1 := by kernel_rfl
  have c6 : Tryd.prog.cellsOf 83 = 5 := by kernel_rfl
  rw [c6] at hlen
  match c, hlen, xs, hn with
  | [a0, a1, a2, a3, a4], _, [x0, x1, x2, x3, x4], _ =>
    simp only [Prod.mk.injEq, DataW.agg.injEq, List.map_cons, List.map_nil, List.cons.injEq, and_true] at hx
    obtain ⟨⟨e0, e1, e2, e3, e4⟩, _⟩ := hx
    obtain ⟨x0, y0⟩ := x0
    obtain ⟨x1, y1⟩ := x1
    obtain ⟨x2, y2⟩ := x2
    obtain ⟨x3, y3⟩ := x3
    obtain ⟨x4, y4⟩ := x4
    simp only at e0 e1 e2 e3 e4
    subst e0 e1 e2 e3 e4
    have h0 := str_cell (hel 0 _ rfl)
    have h1 := bool_cell (hel 1 _ rfl)
    have h2 := bool_cell (hel 2 _ rfl)
    have h3 := int_cell (hel 3 _ rfl)
    have h4 := int_cell (hel 4 _ rfl)
    change (([a0, a1, a2, a3, a4] : List Value).drop 0).take (Tryd.prog.cellsOf 9) = _ at h0
    change (([a0, a1, a2, a3, a4] : List Value).drop 1).take (Tryd.prog.cellsOf 4) = _ at h1
    change (([a0, a1, a2, a3, a4] : List Value).drop 2).take (Tryd.prog.cellsOf 4) = _ at h2
    change (([a0, a1, a2, a3, a4] : List Value).drop 3).take (Tryd.prog.cellsOf 3) = _ at h3
    change (([a0, a1, a2, a3, a4] : List Value).drop 4).take (Tryd.prog.cellsOf 3) = _ at h4
    rw [c9] at h0
    rw [c4] at h1 h2
    rw [c3] at h3 h4
    injection h0 with h0
    injection h1 with h1
    injection h2 with h2
    injection h3 with h3
    injection h4 with h4
    rw [h0, h1, h2, h3, h4]
theorem forms_cells {cs : List Value} {p : List MemPlace} (h : DataW.trod enc Tryd.prog W base spare held fuel 84 cs = some (Rows.laid_lunette_rule_forms, p)) : cs = formV := by
  obtain ⟨xs, m, rfl, hx, hlen, hn, hel⟩ := DataW.trod_array Tryd.underlying84 h
  have c9 : Tryd.prog.cellsOf 83 = 5 := by kernel_rfl
  have c6 : Tryd.prog.cellsOf 84 = 30 := by kernel_rfl
  rw [c6] at hlen
  simp only [c9] at hel
  match xs, hn with
  | [x0, x1, x2, x3, x4, x5], _ =>
    simp only [Rows.laid_lunette_rule_forms, Prod.mk.injEq, DataW.agg.injEq, List.map_cons, List.map_nil, List.cons.injEq, and_true] at hx
    obtain ⟨⟨e0, e1, e2, e3, e4, e5⟩, _⟩ := hx
    obtain ⟨x0, y0⟩ := x0
    obtain ⟨x1, y1⟩ := x1
    obtain ⟨x2, y2⟩ := x2
    obtain ⟨x3, y3⟩ := x3
    obtain ⟨x4, y4⟩ := x4
    obtain ⟨x5, y5⟩ := x5
    simp only at e0 e1 e2 e3 e4 e5
    subst e0 e1 e2 e3 e4 e5
    have h0 := form_cell (hel 0 (by omega))
    have h1 := form_cell (hel 1 (by omega))
    have h2 := form_cell (hel 2 (by omega))
    have h3 := form_cell (hel 3 (by omega))
    have h4 := form_cell (hel 4 (by omega))
    have h5 := form_cell (hel 5 (by omega))
    have hcut : cs = (cs.drop (0 * 5)).take 5 ++ ((cs.drop (1 * 5)).take 5 ++ ((cs.drop (2 * 5)).take 5 ++ ((cs.drop (3 * 5)).take 5 ++ ((cs.drop (4 * 5)).take 5 ++ (cs.drop (5 * 5)).take 5)))) := by
      have k : ∀ n, (cs.drop n).take 5 ++ cs.drop (n + 5) = cs.drop n := fun n => by rw [← List.drop_drop, List.take_append_drop]
      have e := k 25
      rw [List.drop_eq_nil_of_le (show cs.length ≤ 25 + 5 by omega), List.append_nil] at e
      rw [show 5 * 5 = 25 from rfl, e, show 4 * 5 = 20 from rfl, k 20, show 3 * 5 = 15 from rfl, k 15, show 2 * 5 = 10 from rfl, k 10, show 1 * 5 = 5 from rfl, k 5, show 0 * 5 = 0 from rfl, k 0]
      rfl
    rw [hcut, h0, h1, h2, h3, h4, h5]
    rfl
end
theorem sees_all {W : World} {g : Nat} {n : String} {cs : Array Value} {vs : List Value} (hg : Tryd.prog.globalNamed n = some g) (hv : W.var? Tryd.prog n = some cs) (hc : cs.toList = vs) (hn : 0 < vs.length) : Sees W W.heap.size ⟨g, 0, none⟩ vs := by
  have hat : ∀ j v, vs[j]? = some v → W.cell? ⟨g, j, none⟩ = some v := fun j v h => by
    rw [World.var?_cell hg hv j, ← Array.getElem?_toList, hc]
    exact h
  refine ⟨?_, fun j v h => by rw [show (⟨g, 0, none⟩ : Addr).add j = ⟨g, j, none⟩ from by simp [Addr.add]; exact fun h => h.symm]; exact hat j v h⟩
  obtain ⟨v, hv0⟩ : ∃ v, vs[0]? = some v := ⟨vs[0], List.getElem?_eq_getElem hn⟩
  have h := hat 0 v hv0
  simp only [World.cell?] at h
  cases ho : W.heap[g]? with
  | none => rw [ho] at h; cases h
  | some o => exact (Array.getElem?_eq_some_iff.1 ho).1
theorem gl_of_laid {W : World} (h : laidMetH Tryd.prog laid2 W) : Gl W := by
  rw [MakeChecks.laidMetH_plain _ _ _ (by kernel_rfl)] at h
  obtain ⟨ps, ⟨g0, t0, cs0, f0, p0, q0, hg0, ht0, hv0, hd0, ⟨g1, t1, cs1, f1, p1, q1, hg1, ht1, hv1, hd1, _, _⟩, _⟩, _, _⟩ := h
  obtain rfl := Option.some.inj ((show Tryd.prog.globalNamed "lunette/rule.words" = some 1 by kernel_rfl).symm.trans hg0)
  obtain rfl := Option.some.inj ((show Tryd.prog.globalNamed "lunette/rule.forms" = some 0 by kernel_rfl).symm.trans hg1)
  obtain rfl := Option.some.inj ((show (Tryd.prog.globals[1]?).map (·.type) = some 98 by kernel_rfl).symm.trans ht0)
  obtain rfl := Option.some.inj ((show (Tryd.prog.globals[0]?).map (·.type) = some 84 by kernel_rfl).symm.trans ht1)
  exact ⟨sees_all hg1 hv1 (forms_cells hd1) (by decide), sees_all hg0 hv0 (words_cells hd0) (by decide)⟩
end Go.Proofs.YtkmnbdomikpakaaDoor.RuleTables
