/- TupleCut, TupleKeyC. -/
import Derived.Test.YtilcnhdfdgmekaaGreatKTupleEq
import Derived.Test.YtilcnhdfdgmekaaGreatKTupleName
import Derived.Lib.Bytealg
import Derived.WalkLawsBesides
namespace Go.Proofs.YtilcnhdfdgmekaaGreat.TupleCut
open Go.RowKit Base KeyPlain TuplePlain TupleRef TupleSpec TupleName

/-! plain: cut at a byte -/
def CutP (c : UInt8) (l a b : List UInt8) : Prop := c ∉ a ∧ (l = a ++ c :: b ∨ (l = a ∧ b = []))
theorem CutP.has {c : UInt8} {x y a b : List UInt8} (h : CutP c (x ++ c :: y) a b) (hx : c ∉ x) : a = x ∧ b = y := by
  obtain ⟨ha, h | ⟨h, rfl⟩⟩ := h
  · obtain ⟨e1, e2⟩ := split_at hx ha h
    exact ⟨e1.symm, e2.symm⟩
  · exact absurd (by rw [← h]; simp) ha
theorem CutP.hasnt {c : UInt8} {x a b : List UInt8} (h : CutP c x a b) (hx : c ∉ x) : a = x ∧ b = [] := by
  obtain ⟨ha, h | ⟨h, rfl⟩⟩ := h
  · exact absurd (by rw [h]; simp) hx
  · exact ⟨h.symm, rfl⟩
theorem CutP.len {c : UInt8} {x a b : List UInt8} (h : CutP c x a b) : a.length ≤ x.length ∧ b.length ≤ x.length := by
  obtain ⟨_, h | ⟨h, rfl⟩⟩ := h
  · rw [h]; simp only [List.length_append, List.length_cons]; omega
  · rw [h]; simp
theorem index_at (l : List UInt8) (c : UInt8) : (Lib.indexByte l c = -1 ∧ c ∉ l) ∨ ∃ i : Nat, Lib.indexByte l c = (i : Int) ∧ i < l.length ∧ c ∉ l.take i ∧ l = l.take i ++ c :: l.drop (i + 1) := by
  induction l with
  | nil => exact Or.inl ⟨rfl, by simp⟩
  | cons d l ih =>
    unfold Lib.indexByte
    by_cases hd : d = c
    · subst hd
      rw [if_pos (by simp)]
      exact Or.inr ⟨0, rfl, by simp, by simp, by simp⟩
    · rw [if_neg (by simpa using hd)]
      rcases ih with ⟨h1, h2⟩ | ⟨i, h1, h2, h3, h4⟩
      · rw [h1, if_pos (by simp)]
        exact Or.inl ⟨rfl, by simp only [List.mem_cons, not_or]; exact ⟨fun e => hd e.symm, h2⟩⟩
      · rw [h1, if_neg (by simp)]
        refine Or.inr ⟨i + 1, by omega, by simp only [List.length_cons]; omega, ?_, ?_⟩
        · rw [List.take_succ_cons]
          simp only [List.mem_cons, not_or]
          exact ⟨fun e => hd e.symm, h3⟩
        · rw [List.take_succ_cons, List.drop_succ_cons]
          simp only [List.cons_append, List.cons.injEq, true_and]
          exact h4
theorem bl_extract (s : ByteArray) (a b : Nat) : bl (s.extract a b) = ((bl s).drop a).take (b - a) := by
  show (s.extract a b).data.toList = _
  rw [Lib.extract_data]

/-! the library's Index and Cut, of one byte -/
def CutPost (c : UInt8) (s : ByteArray) (w : World) (e : Ending) (w' : World) : Prop := ∃ a b f, CutP c (bl s) (bl a) (bl b) ∧ e = .returned (.tuple #[.string a, .string b, .bool f]) ∧ Below w.heap.size w w'
/-! users and texts -/
theorem three_at {w : World} {g : Nat} {t : TypeId} {a b c : Value} (q : w.heap[g]? = some (.cells #[a, b, c] t (0, 0))) : w.cell? ⟨g, 0, none⟩ = some a ∧ w.cell? ⟨g, 1, none⟩ = some b ∧ w.cell? ⟨g, 2, none⟩ = some c := by
  refine ⟨?_, ?_, ?_⟩ <;> (simp only [World.cell?, q]; rfl)
theorem results_cell_tmp_row {P : Program} {fn : Func} {p u : Tmp} {ty : TypeId} (h : fn.results = #[.cell p ty, .tmp u]) (tmps : Array Value) (w : World) (g : Nat) (t : TypeId) (cs : Array Value) (fr : Nat × Nat) (d : TypeDesc)
    (hp : tmps.getD p undef = .pointer (some ⟨g, 0, none⟩)) (hg : w.heap[g]? = some (.cells cs t fr))
    (hu : P.underlying ty = some d) (hd : (match d with | .struct _ | .array _ _ => true | _ => false) = true) (hi : (P.info? ty).map (·.size) = some cs.size) :
    (results fn tmps).run P w = .ok (.tuple #[.agg cs, tmps.getD u undef]) w := by
  rw [results_cell_tmp h, hp]
  simp [asAddr, run_loadVar_row w g t ty cs fr d hg hu hd hi, Result.andThen]
theorem al2 (w : World) (o p : Obj) : Below w.heap.size w ((w.alloc o).alloc p) := Below.step (al w o) (al _ p)
theorem new2 (w : World) (o p : Obj) : ((w.alloc o).alloc p).heap[w.heap.size + 1]? = some p := by
  have h := heap_alloc_new (w.alloc o) p
  simpa using h
theorem new3 (w : World) (o p q : Obj) : (((w.alloc o).alloc p).alloc q).heap[w.heap.size + 1 + 1]? = some q := by
  have h := heap_alloc_new ((w.alloc o).alloc p) q
  simpa using h
theorem at_set {w : World} {g : Nat} {t : TypeId} {cs : Array Value} (h : w.heap[g]? = some (.cells cs t (0, 0))) (i : Nat) (v : Value) : (w.setCell ⟨g, i, none⟩ v).heap[g]? = some (.cells (cs.setIfInBounds i v) t (0, 0)) := by
  simp [World.setCell, Array.getElem?_modify, h]
theorem set3 {w : World} {g : Nat} {t : TypeId} {x0 x1 x2 : Value} (h : w.heap[g]? = some (.cells #[x0, x1, x2] t (0, 0))) (a b c : Value) :
    (((w.setCell ⟨g, 0, none⟩ a).setCell ⟨g, 1, none⟩ b).setCell ⟨g, 2, none⟩ c).heap[g]? = some (.cells #[a, b, c] t (0, 0)) := at_set (at_set (at_set h 0 a) 1 b) 2 c
theorem set6 {w : World} {g : Nat} {t : TypeId} {x0 x1 x2 x3 x4 x5 : Value} (h : w.heap[g]? = some (.cells #[x0, x1, x2, x3, x4, x5] t (0, 0))) (a b c d e f : Value) :
    ((((((w.setCell ⟨g, 0, none⟩ a).setCell ⟨g, 1, none⟩ b).setCell ⟨g, 2, none⟩ c).setCell ⟨g, 3, none⟩ d).setCell ⟨g, 4, none⟩ e).setCell ⟨g, 5, none⟩ f).heap[g]? = some (.cells #[a, b, c, d, e, f] t (0, 0)) := at_set (at_set (at_set (at_set (at_set (at_set h 0 a) 1 b) 2 c) 3 d) 4 e) 5 f
theorem below3 {W w : World} {B g : Nat} (h : Below B W w) (hg : B ≤ g) (a b c : Value) : Below B W (((w.setCell ⟨g, 0, none⟩ a).setCell ⟨g, 1, none⟩ b).setCell ⟨g, 2, none⟩ c) := ((h.setCell hg _).setCell hg _).setCell hg _
theorem below6 {W w : World} {B g : Nat} (h : Below B W w) (hg : B ≤ g) (a b c d e f : Value) : Below B W ((((((w.setCell ⟨g, 0, none⟩ a).setCell ⟨g, 1, none⟩ b).setCell ⟨g, 2, none⟩ c).setCell ⟨g, 3, none⟩ d).setCell ⟨g, 4, none⟩ e).setCell ⟨g, 5, none⟩ f) := (((((h.setCell hg _).setCell hg _).setCell hg _).setCell hg _).setCell hg _).setCell hg _
set_option maxHeartbeats 3200000 in
theorem object_any (t : Tp) (w : World) :
    Calls Tryz.prog 55 #[.agg (tc t)] w fun e w' => e = .returned (.agg (uc t.obj)) ∧ Below w.heap.size w w' := by
  unfold tc uc Tp.obj
  go_enter Tryz.func55, Tryz.ntmps55
  go_wp2_with fail
  refine bodyPost_ret (results_cell_row rfl _ _ (w.heap.size + 1) 30 _ (0, 0) _ rfl (new2 w _ _) Tryz.underlying30 rfl (by kernel_rfl)) rfl ?_
  exact ⟨rfl, al2 _ _ _⟩
def ParsePost (s : ByteArray) (w : World) (e : Ending) (w' : World) : Prop := ∃ (u : Us) (x : ByteArray), CutP 58 (bl s) (bl u.k) (bl x) ∧ CutP 35 (bl x) (bl u.i) (bl u.r) ∧ e = .returned (.agg (uc u)) ∧ Below w.heap.size w w'
set_option maxHeartbeats 6400000 in
theorem isUser_any (u : Us) (w : World) (hu : UsF u) :
    Calls Tryz.prog 54 #[.agg (uc u)] w fun e w' => e = .returned (.bool u.ok) ∧ Below w.heap.size w w' := by
  obtain ⟨h1, h2, h3⟩ := hu
  have H1 := Lib.hid (fun w => name_any u.k w h1)
  have H2 := Lib.hid (fun w => id_any u.i w h2)
  have H3 := Lib.hid (fun w => name_any u.r w h3)
  have e0 : (u.r.toList == (⟨#[]⟩ : ByteArray).toList) = decide (u.r.size = 0) := by rw [Str.ba_beq, decide_eq_decide]; exact ⟨fun h => by rw [h]; rfl, size_zero⟩
  have e1 := empty_eq u.r
  have HOK := Lib.hid (show u.ok = (nameL (bl u.k) && idL (bl u.i) && (decide (u.r.size = 0) || nameL (bl u.r))) from rfl)
  generalize nameL (bl u.k) = b1 at *
  generalize idL (bl u.i) = b2 at *
  generalize nameL (bl u.r) = b3 at *
  unfold uc
  obtain ⟨w1, hw1⟩ : ∃ v, v = w.alloc (.cells #[.string u.k, .string u.i, .string u.r] 30) := ⟨_, rfl⟩
  obtain ⟨b, hbe⟩ : ∃ v, v = w.heap.size := ⟨_, rfl⟩
  have HB1 := Lib.hid (show Below w.heap.size w w1 from by rw [hw1]; exact al _ _)
  have a1 : w1.heap[b]? = some (.cells #[.string u.k, .string u.i, .string u.r] 30 (0, 0)) := by rw [hw1, hbe]; exact heap_alloc_new w _
  have hl1 : b < w1.heap.size := by rw [hw1, hbe]; simp
  have HC := Lib.hid (fun (w' : World) (hw' : Below w1.heap.size w1 w') => three_at ((hw'.block b hl1).trans a1))
  have HD1 := Lib.hid (Below.refl w1.heap.size w1)
  have HW := Lib.hid hw1
  have HBE := Lib.hid hbe
  clear hw1 a1 hl1 hbe
  go_enter Tryz.func54, Tryz.ntmps54
  go_upto_region 1 with fail
  try rw [← HW.out]
  try rw [← HBE.out]
  clear HW
  cases b1 with
  | false =>
    have hh := H1.out w1
    obtain ⟨d0, d1, d2⟩ := HC.out w1 HD1.out
    go_wp2_with fail
    (with_reducible refine hh.mono ?_)
    clear hh d0 d1 d2
    rintro e w2 ⟨rfl, hb⟩
    have HD2 := Lib.hid (Below.step HD1.out hb)
    clear hb
    obtain ⟨d0, d1, d2⟩ := HC.out w2 HD2.out
    go_wp2_with fail
    go_ret
    exact ⟨ret_bool (by rw [HOK.out]; rfl), HB1.out.trans (HD2.out.mono HB1.out.size)⟩
  | true =>
    cases b2 with
    | false =>
      have hh := H1.out w1
      obtain ⟨d0, d1, d2⟩ := HC.out w1 HD1.out
      go_wp2_with fail
      (with_reducible refine hh.mono ?_)
      clear hh d0 d1 d2
      rintro e w2 ⟨rfl, hb⟩
      have HD2 := Lib.hid (Below.step HD1.out hb)
      clear hb
      have hh := H2.out w2
      obtain ⟨d0, d1, d2⟩ := HC.out w2 HD2.out
      go_wp2_with fail
      (with_reducible refine hh.mono ?_)
      clear hh d0 d1 d2
      rintro e w3 ⟨rfl, hb⟩
      have HD3 := Lib.hid (Below.step HD2.out hb)
      clear hb
      obtain ⟨d0, d1, d2⟩ := HC.out w3 HD3.out
      go_wp2_with fail
      go_ret
      exact ⟨ret_bool (by rw [HOK.out]; rfl), HB1.out.trans (HD3.out.mono HB1.out.size)⟩
    | true =>
      by_cases hz : u.r.size = 0
      · rw [decide_eq_true hz] at e0 e1
        have HO := Lib.hid (show u.ok = true from by rw [HOK.out, decide_eq_true hz]; rfl)
        clear hz
        have hh := H1.out w1
        obtain ⟨d0, d1, d2⟩ := HC.out w1 HD1.out
        go_wp2_with fail
        (with_reducible refine hh.mono ?_)
        clear hh d0 d1 d2
        rintro e w2 ⟨rfl, hb⟩
        have HD2 := Lib.hid (Below.step HD1.out hb)
        clear hb
        have hh := H2.out w2
        obtain ⟨d0, d1, d2⟩ := HC.out w2 HD2.out
        go_wp2_with fail
        (with_reducible refine hh.mono ?_)
        clear hh d0 d1 d2
        rintro e w3 ⟨rfl, hb⟩
        have HD3 := Lib.hid (Below.step HD2.out hb)
        clear hb
        obtain ⟨d0, d1, d2⟩ := HC.out w3 HD3.out
        go_wp2_with fail
        go_ret
        exact ⟨ret_bool HO.out.symm, HB1.out.trans (HD3.out.mono HB1.out.size)⟩
      · rw [decide_eq_false hz] at e0 e1
        have HO := Lib.hid (show u.ok = b3 from by rw [HOK.out, decide_eq_false hz]; rfl)
        clear hz
        have hh := H1.out w1
        obtain ⟨d0, d1, d2⟩ := HC.out w1 HD1.out
        go_wp2_with fail
        (with_reducible refine hh.mono ?_)
        clear hh d0 d1 d2
        rintro e w2 ⟨rfl, hb⟩
        have HD2 := Lib.hid (Below.step HD1.out hb)
        clear hb
        have hh := H2.out w2
        obtain ⟨d0, d1, d2⟩ := HC.out w2 HD2.out
        go_wp2_with fail
        (with_reducible refine hh.mono ?_)
        clear hh d0 d1 d2
        rintro e w3 ⟨rfl, hb⟩
        have HD3 := Lib.hid (Below.step HD2.out hb)
        clear hb
        have hh := H3.out w3
        obtain ⟨d0, d1, d2⟩ := HC.out w3 HD3.out
        go_wp2_with fail
        (with_reducible refine hh.mono ?_)
        clear hh d0 d1 d2
        rintro e w4 ⟨rfl, hb⟩
        have HD4 := Lib.hid (Below.step HD3.out hb)
        clear hb
        cases b3 with
        | false =>
          obtain ⟨d0, d1, d2⟩ := HC.out w4 HD4.out
          go_wp2_with fail
          go_ret
          exact ⟨ret_bool HO.out.symm, HB1.out.trans (HD4.out.mono HB1.out.size)⟩
        | true =>
          obtain ⟨d0, d1, d2⟩ := HC.out w4 HD4.out
          go_wp2_with fail
          go_ret
          exact ⟨ret_bool HO.out.symm, HB1.out.trans (HD4.out.mono HB1.out.size)⟩
theorem obj_told (t : Tp) : t.ok = (nameL (bl t.r) && t.obj.ok && t.u.ok) := by
  rw [Bool.eq_iff_iff]
  simp only [Tp.ok, Us.ok, Tp.obj, Bool.and_eq_true]
  constructor
  · rintro ⟨⟨⟨a, b⟩, c⟩, d⟩; exact ⟨⟨c, ⟨a, b⟩, rel_of_name c⟩, d⟩
  · rintro ⟨⟨c, ⟨a, b⟩, _⟩, d⟩; exact ⟨⟨⟨a, b⟩, c⟩, d⟩
set_option maxHeartbeats 6400000 in
theorem check_any (t : Tp) (w : World) (ht : TpF t) :
    Calls Tryz.prog 35 #[.agg (tc t)] w fun e w' => e = .returned (okE t.ok 111) ∧ Below w.heap.size w w' := by
  obtain ⟨h1, h2, h3, h4⟩ := ht
  have H1 := Lib.hid (fun w => name_any t.r w h3)
  have HO := Lib.hid (fun w => object_any t w)
  have H2 := Lib.hid (fun w => isUser_any t.obj w ⟨h1, h2, h3⟩)
  have H3 := Lib.hid (fun w => isUser_any t.u w h4)
  rw [obj_told t]
  unfold okE
  generalize nameL (bl t.r) = b1 at *
  generalize t.obj.ok = b2 at *
  generalize t.u.ok = b3 at *
  unfold tc at HO ⊢
  unfold uc at HO H2 H3
  obtain ⟨w1, hw1⟩ : ∃ v, v = w.alloc (.cells #[.string t.k, .string t.i, .string t.r, .string t.u.k, .string t.u.i, .string t.u.r] 32) := ⟨_, rfl⟩
  obtain ⟨b, hbe⟩ : ∃ v, v = w.heap.size := ⟨_, rfl⟩
  have HB1 := Lib.hid (show Below w.heap.size w w1 from by rw [hw1]; exact al _ _)
  have a1 : w1.heap[b]? = some (.cells #[.string t.k, .string t.i, .string t.r, .string t.u.k, .string t.u.i, .string t.u.r] 32 (0, 0)) := by rw [hw1, hbe]; exact heap_alloc_new w _
  have hl1 : b < w1.heap.size := by rw [hw1, hbe]; simp
  have HC := Lib.hid (fun (w' : World) (hw' : Below w1.heap.size w1 w') => six_at ((hw'.block b hl1).trans a1))
  have HD1 := Lib.hid (Below.refl w1.heap.size w1)
  have HW := Lib.hid hw1
  have HBE := Lib.hid hbe
  clear hw1 a1 hl1 hbe
  go_enter Tryz.func35, Tryz.ntmps35
  go_upto_region 1 with fail
  try rw [← HW.out]
  try rw [← HBE.out]
  clear HW
  cases b1 with
  | false =>
    have hh := H1.out w1
    obtain ⟨d0, d1, d2, d3, d4, d5⟩ := HC.out w1 HD1.out
    go_wp2_with fail
    (with_reducible refine hh.mono ?_)
    clear hh d0 d1 d2 d3 d4 d5
    rintro e w2 ⟨rfl, hb⟩
    have HD2 := Lib.hid (Below.step HD1.out hb)
    clear hb
    obtain ⟨d0, d1, d2, d3, d4, d5⟩ := HC.out w2 HD2.out
    go_wp2_with fail
    go_ret
    exact ⟨rfl, HB1.out.trans (HD2.out.mono HB1.out.size)⟩
  | true =>
    have hh := H1.out w1
    obtain ⟨d0, d1, d2, d3, d4, d5⟩ := HC.out w1 HD1.out
    go_wp2_with fail
    (with_reducible refine hh.mono ?_)
    clear hh d0 d1 d2 d3 d4 d5
    rintro e w2 ⟨rfl, hb⟩
    have HD2 := Lib.hid (Below.step HD1.out hb)
    clear hb
    have hh := HO.out w2
    obtain ⟨d0, d1, d2, d3, d4, d5⟩ := HC.out w2 HD2.out
    go_wp2_with fail
    (with_reducible refine hh.mono ?_)
    clear hh d0 d1 d2 d3 d4 d5
    rintro e w3 ⟨rfl, hb⟩
    have HD3 := Lib.hid (Below.step HD2.out hb)
    clear hb
    have hh := H2.out w3
    go_wp2_with fail
    (with_reducible refine hh.mono ?_)
    clear hh
    rintro e w4 ⟨rfl, hb⟩
    have HD4 := Lib.hid (Below.step HD3.out hb)
    clear hb
    cases b2 with
    | false =>
      obtain ⟨d0, d1, d2, d3, d4, d5⟩ := HC.out w4 HD4.out
      go_wp2_with fail
      go_ret
      exact ⟨rfl, HB1.out.trans (HD4.out.mono HB1.out.size)⟩
    | true =>
      have hh := H3.out w4
      obtain ⟨d0, d1, d2, d3, d4, d5⟩ := HC.out w4 HD4.out
      go_wp2_with fail
      (with_reducible refine hh.mono ?_)
      clear hh d0 d1 d2 d3 d4 d5
      rintro e w5 ⟨rfl, hb⟩
      have HD5 := Lib.hid (Below.step HD4.out hb)
      clear hb
      cases b3 with
      | false =>
        obtain ⟨d0, d1, d2, d3, d4, d5⟩ := HC.out w5 HD5.out
        go_wp2_with fail
        go_ret
        exact ⟨rfl, HB1.out.trans (HD5.out.mono HB1.out.size)⟩
      | true =>
        obtain ⟨d0, d1, d2, d3, d4, d5⟩ := HC.out w5 HD5.out
        go_wp2_with fail
        go_ret
        exact ⟨rfl, HB1.out.trans (HD5.out.mono HB1.out.size)⟩
end Go.Proofs.YtilcnhdfdgmekaaGreat.TupleCut
namespace Go.Proofs.YtilcnhdfdgmekaaGreat.TupleKeyC
open Go.RowKit Base KeyPlain TuplePlain TupleRef TupleSpec TupleName TupleCut

abbrev seven (f : ByteArray) (a c : Us) : List ByteArray := [f, a.k, a.i, a.r, c.k, c.i, c.r]
set_option maxHeartbeats 3200000 in
theorem parts_any (t : Tp) (w : World) :
    Calls Tryz.prog 83 #[.agg (tc t)] w (PartsPost w t) := by
  obtain ⟨k, i, r, ⟨uk, ui, ur⟩⟩ := t
  have hb := (al w (.cells #[.string k, .string i, .string r, .string uk, .string ui, .string ur] 32))
  have hb2 := Below.step hb (al _ (.cells #[.string k, .string i, .string r, .string uk, .string ui, .string ur] 9))
  have hr := (row_of_block (heap_alloc_new (w.alloc (.cells #[.string k, .string i, .string r, .string uk, .string ui, .string ur] 32)) (.cells #[.string k, .string i, .string r, .string uk, .string ui, .string ur] 9))).more (B' := ((w.alloc (.cells #[.string k, .string i, .string r, .string uk, .string ui, .string ur] 32)).alloc (.cells #[.string k, .string i, .string r, .string uk, .string ui, .string ur] 9)).heap.size) (by simp)
  have HF := Lib.hid (show PartsPost w ⟨k, i, r, ⟨uk, ui, ur⟩⟩ (.returned (.slice (some ⟨(w.alloc (.cells #[.string k, .string i, .string r, .string uk, .string ui, .string ur] 32)).heap.size, 0, none⟩) 6 6)) ((w.alloc (.cells #[.string k, .string i, .string r, .string uk, .string ui, .string ur] 32)).alloc (.cells #[.string k, .string i, .string r, .string uk, .string ui, .string ur] 9)) from ⟨_, _, rfl, hr, hb2⟩)
  clear hb hb2 hr
  unfold tc
  go_enter Tryz.func83, Tryz.ntmps83
  go_wp2_with fail
  go_ret
  exact (by simpa using HF.out)
set_option maxRecDepth 100000 in
set_option maxHeartbeats 12800000 in
theorem less_any (t s : Tp) (w : World) :
    Calls Tryz.prog 59 #[.agg (tc t), .agg (tc s)] w fun e w' => e = .returned (.bool (less (lst t.parts) (lst s.parts))) ∧ Below w.heap.size w w' := by
  have HPA := Lib.hid (fun w => parts_any t w)
  have HPB := Lib.hid (fun w => parts_any s w)
  have hq := fun w => TupleEq.tp_eq t s w
  obtain ⟨w1, hw1⟩ : ∃ v, v = w.alloc (.cells (tc t) 32) := ⟨_, rfl⟩
  obtain ⟨w2, hw2⟩ : ∃ v, v = w1.alloc (.cells (tc s) 32) := ⟨_, rfl⟩
  obtain ⟨b, hbe⟩ : ∃ v, v = w.heap.size := ⟨_, rfl⟩
  have b1 : Below w.heap.size w w1 := by rw [hw1]; exact al _ _
  have b12 : Below w1.heap.size w1 w2 := by rw [hw2]; exact al _ _
  have hs1 : w1.heap.size = b + 1 := by rw [hw1, hbe]; simp
  have a1 : w1.heap[b]? = some (.cells (tc t) 32 (0, 0)) := by rw [hw1, hbe]; exact heap_alloc_new w _
  have a2 : w2.heap[b]? = some (.cells (tc t) 32 (0, 0)) := (b12.block b (by omega)).trans a1
  have c2 : w2.heap[b + 1]? = some (.cells (tc s) 32 (0, 0)) := by rw [hw2, ← hs1]; exact heap_alloc_new w1 _
  have hl2 : b + 1 < w2.heap.size := by have : w2.heap.size = w1.heap.size + 1 := (by rw [hw2]; simp); omega
  have HB1 := Lib.hid (Below.step b1 b12)
  have HC := Lib.hid (fun (w' : World) (hw' : Below w2.heap.size w2 w') => six_at ((hw'.block b (by omega)).trans a2))
  have HD := Lib.hid (fun (w' : World) (hw' : Below w2.heap.size w2 w') => six_at ((hw'.block (b + 1) hl2).trans c2))
  have HW1 := Lib.hid hw1
  have HW2 := Lib.hid hw2
  have HBE := Lib.hid hbe
  have HS1 := Lib.hid hs1
  clear hw1 hw2 hbe b1 b12 hs1 a1 a2 c2 hl2
  unfold tc at HW1 HW2 HPA HPB hq ⊢
  go_enter Tryz.func59, Tryz.ntmps59
  go_upto_region 1 with fail
  try rw [← HW1.out]
  try rw [← HW2.out]
  try rw [← HBE.out]
  try rw [HS1.out]
  clear HW1 HW2
  obtain ⟨d0, d1, d2, d3, d4, d5⟩ := HC.out _ (Below.refl _ _)
  obtain ⟨c0, c1, c2, c3, c4, c5⟩ := HD.out _ (Below.refl _ _)
  by_cases he : t = s
  · rw [decide_eq_true he] at hq
    have HL := Lib.hid (show less (lst t.parts) (lst s.parts) = false from by rw [he, less_key]; exact bl_irrefl _)
    clear he HPA HPB
    go_wp2_with fail
    go_ret
    exact ⟨ret_bool HL.out.symm, HB1.out⟩
  · rw [decide_eq_false he] at hq
    clear he
    go_upto_region 3 with fail
    clear d0 d1 d2 d3 d4 d5 c0 c1 c2 c3 c4 c5 hq
    have hJ0 : Below w2.heap.size w2 (World.drew w2) := (Below.refl _ _).drew
    refine wp_region_any (by kernel_rfl) ?_
    change wpAny _ _ _ _ _ _ _ (World.drew _)
    refine Inv.inv_any (fun (i : Nat) (v : Value) (w : World) => match i with | 0 => v = .agg #[.string t.k, .string t.i, .string t.r, .string t.u.k, .string t.u.i, .string t.u.r] | 1 => PtV t v w | 2 => v = .agg #[.string s.k, .string s.i, .string s.r, .string s.u.k, .string s.u.i, .string s.u.r] | 3 => PtV s v w | 4 => v = .bool (less (lst t.parts) (lst s.parts)) | 5 => v = .bool (less (lst t.parts) (lst s.parts)) | _ => True) (fun w' : World => Below w2.heap.size w2 w') _ 6 13 rfl rfl rfl (by kernel_rfl) (by kernel_rfl) hJ0 ?_ ?_ ?_ ?_
    · intro j v w w' h hb
      match j, h with
      | 0, h => exact h
      | 1, h => exact PtV.below h hb
      | 2, h => exact h
      | 3, h => exact PtV.below h hb
      | 4, h => exact h
      | 5, h => exact h
      | (_ + 6), _ => exact trivial
    · skip
      refine Inv.from_cons _ _ _ _ rfl (fun _ a w hJ hF F K hK => ?_) ?_
      · have hz : a.tmps.size = 13 := hF.size
        have e2 : a.tmps[2]? = some (.pointer (some ⟨b, 0, none⟩)) := Inv2.some_slot (by rw [hz]; exact Nat.le_of_ble_eq_true rfl) (hF.slot 2 (by kernel_rfl))
        clear F hF hz
        obtain ⟨d0, d1, d2, d3, d4, d5⟩ := HC.out _ hJ
        go_simp
        exact hK (.agg #[.string t.k, .string t.i, .string t.r, .string t.u.k, .string t.u.i, .string t.u.r]) _ hJ (Below.refl _ _) rfl
      refine Inv.from_cons _ _ _ _ rfl (fun _ a w hJ hF F K hK => ?_) ?_
      · have hz : a.tmps.size = 13 := hF.size
        have e8 : a.tmps[8]? = some (.agg #[.string t.k, .string t.i, .string t.r, .string t.u.k, .string t.u.i, .string t.u.r]) := Inv2.some_slot (by rw [hz]; exact Nat.le_of_ble_eq_true rfl) (F 0 (by kernel_rfl) 8 rfl)
        clear F hF hz
        have hh := HPA.out w
        go_simp
        (with_reducible refine hh.mono ?_)
        rintro e' w' hq
        unfold PartsPost at hq
        obtain ⟨A9, c9, rfl, hr, hb⟩ := hq
        go_simp
        exact hK _ _ (Below.step hJ hb) hb ⟨A9, c9, rfl, hr⟩
      refine Inv.from_cons _ _ _ _ rfl (fun _ a w hJ hF F K hK => ?_) ?_
      · have hz : a.tmps.size = 13 := hF.size
        have e3 : a.tmps[3]? = some (.pointer (some ⟨b + 1, 0, none⟩)) := Inv2.some_slot (by rw [hz]; exact Nat.le_of_ble_eq_true rfl) (hF.slot 3 (by kernel_rfl))
        clear F hF hz
        obtain ⟨d0, d1, d2, d3, d4, d5⟩ := HD.out _ hJ
        go_simp
        exact hK (.agg #[.string s.k, .string s.i, .string s.r, .string s.u.k, .string s.u.i, .string s.u.r]) _ hJ (Below.refl _ _) rfl
      refine Inv.from_cons _ _ _ _ rfl (fun _ a w hJ hF F K hK => ?_) ?_
      · have hz : a.tmps.size = 13 := hF.size
        obtain ⟨x9, e9, f1⟩ : ∃ xv, a.tmps[9]? = some xv ∧ PtV t xv w := ⟨_, Inv2.some_slot (by rw [hz]; exact Nat.le_of_ble_eq_true rfl) rfl, F 1 (by kernel_rfl) 9 rfl⟩
        have e10 : a.tmps[10]? = some (.agg #[.string s.k, .string s.i, .string s.r, .string s.u.k, .string s.u.i, .string s.u.r]) := Inv2.some_slot (by rw [hz]; exact Nat.le_of_ble_eq_true rfl) (F 2 (by kernel_rfl) 10 rfl)
        clear F hF hz
        have hh := HPB.out w
        go_simp
        (with_reducible refine hh.mono ?_)
        rintro e' w' hq
        unfold PartsPost at hq
        obtain ⟨A9, c9, rfl, hr, hb⟩ := hq
        go_simp
        exact hK _ _ (Below.step hJ hb) hb ⟨A9, c9, rfl, hr⟩
      refine Inv.from_cons _ _ _ _ rfl (fun _ a w hJ hF F K hK => ?_) ?_
      · have hz : a.tmps.size = 13 := hF.size
        obtain ⟨x9, e9, f1⟩ : ∃ xv, a.tmps[9]? = some xv ∧ PtV t xv w := ⟨_, Inv2.some_slot (by rw [hz]; exact Nat.le_of_ble_eq_true rfl) rfl, F 1 (by kernel_rfl) 9 rfl⟩
        obtain ⟨x11, e11, f3⟩ : ∃ xv, a.tmps[11]? = some xv ∧ PtV s xv w := ⟨_, Inv2.some_slot (by rw [hz]; exact Nat.le_of_ble_eq_true rfl) rfl, F 3 (by kernel_rfl) 11 rfl⟩
        clear F hF hz
        obtain ⟨A8, c8, hx8, hr8⟩ := f1
        obtain ⟨A9, c9, hx9, hr9⟩ := f3
        subst hx8 hx9
        have hh := KeyRead.Less_q A8 A9 c8 c9 t.parts s.parts w hr8 hr9 (by simp [Tp.parts, maxLen]) (by simp [Tp.parts, maxLen])
        simp only [Tp.parts, List.length_cons, List.length_nil, Nat.zero_add, Nat.reduceAdd] at hh
        go_simp
        (with_reducible refine hh.mono ?_)
        rintro e' w' ⟨rfl, rfl⟩
        go_simp
        exact hK _ _ hJ (Below.refl _ _) rfl
      refine Inv.from_cons _ _ _ _ rfl (fun _ a w hJ hF F K hK => ?_) ?_
      · have hz : a.tmps.size = 13 := hF.size
        have e8 : a.tmps[8]? = some (.agg #[.string t.k, .string t.i, .string t.r, .string t.u.k, .string t.u.i, .string t.u.r]) := Inv2.some_slot (by rw [hz]; exact Nat.le_of_ble_eq_true rfl) (F 0 (by kernel_rfl) 8 rfl)
        obtain ⟨x9, e9, f1⟩ : ∃ xv, a.tmps[9]? = some xv ∧ PtV t xv w := ⟨_, Inv2.some_slot (by rw [hz]; exact Nat.le_of_ble_eq_true rfl) rfl, F 1 (by kernel_rfl) 9 rfl⟩
        have e10 : a.tmps[10]? = some (.agg #[.string s.k, .string s.i, .string s.r, .string s.u.k, .string s.u.i, .string s.u.r]) := Inv2.some_slot (by rw [hz]; exact Nat.le_of_ble_eq_true rfl) (F 2 (by kernel_rfl) 10 rfl)
        obtain ⟨x11, e11, f3⟩ : ∃ xv, a.tmps[11]? = some xv ∧ PtV s xv w := ⟨_, Inv2.some_slot (by rw [hz]; exact Nat.le_of_ble_eq_true rfl) rfl, F 3 (by kernel_rfl) 11 rfl⟩
        have e12 : a.tmps[12]? = some (.bool (less (lst t.parts) (lst s.parts))) := Inv2.some_slot (by rw [hz]; exact Nat.le_of_ble_eq_true rfl) (F 4 (by kernel_rfl) 12 rfl)
        clear F hF hz
        go_simp
        exact hK (.bool (less (lst t.parts) (lst s.parts))) _ hJ (Below.refl _ _) rfl
      exact Inv.from_end _ _ _ _ (by decide +kernel)
    · intro o ho; exact absurd ho (by simp)
    · intro _ a w hJ hF F
      obtain ⟨f, hf⟩ : ∃ f : Nat → Value, ∀ i, a.tmps.getD i undef = f i := ⟨_, fun _ => rfl⟩
      have g2 : f 2 = (.pointer (some ⟨b, 0, none⟩)) := (hf 2).symm.trans (hF.slot 2 (by kernel_rfl))
      have g3 : f 3 = (.pointer (some ⟨b + 1, 0, none⟩)) := (hf 3).symm.trans (hF.slot 3 (by kernel_rfl))
      have g8 : f 8 = (.agg #[.string t.k, .string t.i, .string t.r, .string t.u.k, .string t.u.i, .string t.u.r]) := (hf 8).symm.trans (F 0 8 rfl)
      obtain ⟨x9, g9⟩ : ∃ x, f 9 = x := ⟨_, rfl⟩
      have f1 : PtV t x9 w := by rw [← g9, ← hf 9]; exact F 1 9 rfl
      have g10 : f 10 = (.agg #[.string s.k, .string s.i, .string s.r, .string s.u.k, .string s.u.i, .string s.u.r]) := (hf 10).symm.trans (F 2 10 rfl)
      obtain ⟨x11, g11⟩ : ∃ x, f 11 = x := ⟨_, rfl⟩
      have f3 : PtV s x11 w := by rw [← g11, ← hf 11]; exact F 3 11 rfl
      have g12 : f 12 = (.bool (less (lst t.parts) (lst s.parts))) := (hf 12).symm.trans (F 4 12 rfl)
      have g4 : f 4 = (.bool (less (lst t.parts) (lst s.parts))) := (hf 4).symm.trans (F 5 4 rfl)
      have ha := Frames.frame (show a.tmps.size = 13 from hF.size) hF.defers hf (l := [f 0, f 1, f 2, f 3, f 4, f 5, f 6, f 7, f 8, f 9, f 10, f 11, f 12]) rfl
      simp only [g2, g3, g8, g9, g10, g11, g12, g4] at ha
      clear F hF hf g2 g3 g8 g9 g10 g11 g12 g4
      subst ha
      have HB := Lib.hid (HB1.out.trans (hJ.mono HB1.out.size))
      clear hJ
      go_wp2_with fail
      go_ret
      exact ⟨rfl, HB.out⟩
theorem row_at {w : World} {B g o : Nat} {vs : List Value} {v : Value} (h : Row w B (some ⟨g, o, none⟩) vs) (k : Nat) (hk : vs[k]? = some v) : w.cell? ⟨g, o + k, none⟩ = some v := by
  rw [show (⟨g, o + k, none⟩ : Addr) = (⟨g, o, none⟩ : Addr).add k from by unfold Addr.add; split <;> simp_all]
  obtain ⟨ad', e, _, hc⟩ := h k v hk
  injection e with e
  subst e
  exact hc
end Go.Proofs.YtilcnhdfdgmekaaGreat.TupleKeyC
