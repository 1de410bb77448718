/- Contracts of the generic lay and cut, of texts and of numbers. -/
import Derived.Test.YtpcpfcllgadghaaNodeRead
namespace Go.Proofs.Ytpcpfcllgadghaa.NodeSlice
open Go.RowKit Base Str NodePlain NodeRead

theorem add_add (a : Addr) (i k : Nat) : (a.add i).add k = a.add (i + k) := by
  by_cases h1 : i = 0
  · subst h1; simp [Addr.add]
  · by_cases h2 : k = 0
    · subst h2; simp [Addr.add]
    · simp [Addr.add, h1, h2, Nat.add_assoc]
theorem size_s (w : World) : (sizeOf (Try.prog.elem 22)).run Try.prog w = .ok 1 w := by kernel_rfl
theorem under_s : Try.prog.underlying 22 = some (.slice (Try.prog.elem 22)) := by kernel_rfl
theorem size_i (w : World) : (sizeOf (Try.prog.elem 23)).run Try.prog w = .ok 1 w := by kernel_rfl
theorem under_i : Try.prog.underlying 23 = some (.slice (Try.prog.elem 23)) := by kernel_rfl
theorem el_s : Elem Try.prog 22 9 16 := el_strs
theorem el_i : Elem Try.prog 23 3 8 := el_ints
/-- a slice handed on: its value, and what it reads -/
def Sl (w : World) (p : Value × List Value) : Prop := ∃ A n c, p.1 = .slice A n c ∧ n = p.2.length ∧ Row w w.heap.size A p.2 ∧ (∀ u ∈ p.2, u.oneCell' = true) ∧ p.1.oneCell' = true
theorem Sl.below {w w' : World} {p : Value × List Value} (h : Sl w p) (hb : Below w.heap.size w w') : Sl w' p := by
  obtain ⟨A, n, c, h1, h2, h3, h4, h5⟩ := h
  exact ⟨A, n, c, h1, h2, h3.belowSize hb, h4, h5⟩
theorem cut_run_s (A : Option Addr) (n c f t : Nat) (hf : f ≤ t) (ht : t ≤ c) (w : World) : (Instr.sliceAt 22 (.slice A n c) (some (.int .i64 (f : Int))) (some (.int .i64 (t : Int))) (some (.int .i64 (t : Int)))).run Try.prog w = .ok (.slice (if t = f then A else A.map (·.add f)) (t - f) (t - f)) w := by
  rw [run_sliceAt_slice _ _ _ _ _ _ under_s, run_slice_lhm _ _ _ _ _ under_s _ _ _ _ _ _ (by omega) (by omega) (by omega) (by omega), size_s]
  simp [sliced, Result.andThen]
theorem cut_fin_s (w : World) (A : Option Addr) (c f t F T : Nat) (vs : List Value) (hr : Row w w.heap.size A vs) (hc : vs.length ≤ c) (hT : T = min t vs.length) (hF : F = min f T) :
    ∃ A' m, (∀ w, (Instr.sliceAt 22 (.slice A vs.length c) (some (.int .i64 (F : Int))) (some (.int .i64 (T : Int))) (some (.int .i64 (T : Int)))).run Try.prog w = .ok (.slice A' m m) w) ∧ m = ((vs.take t).drop f).length ∧ Row w w.heap.size A' ((vs.take t).drop f) := by
  have hlen : T - F = ((vs.take t).drop f).length := by simp only [List.length_drop, List.length_take]; omega
  refine ⟨_, _, cut_run_s A vs.length c F T (by omega) (by omega), hlen, fun j v hv => ?_⟩
  have hj : j < ((vs.take t).drop f).length := (List.getElem?_eq_some_iff.1 hv).1
  rw [List.getElem?_drop, List.getElem?_take] at hv
  have hFf : F = f := by omega
  rw [if_pos (by omega)] at hv
  obtain ⟨ad, rfl, hb, hcell⟩ := hr (f + j) v hv
  rw [if_neg (by omega)]
  exact ⟨_, rfl, by rw [blk_add]; exact hb, by rw [hFf, add_add]; exact hcell⟩
set_option maxHeartbeats 800000 in
theorem cut_any_s (w : World) (A : Option Addr) (n c f t : Nat) (x y : Int) (vs : List Value) (hn : n = vs.length) (hr : Row w w.heap.size A vs) (hc : vs.length ≤ c) (hx : x = (f : Int)) (hy : y = (t : Int)) :
    Calls Try.prog 37 #[.slice A n c, .int .i64 x, .int .i64 y] w fun e w' => ∃ A' m c', e = .returned (.slice A' m c') ∧ m = ((vs.take t).drop f).length ∧ m ≤ c' ∧ Row w w.heap.size A' ((vs.take t).drop f) ∧ w = w' := by
  subst hn hx hy
  by_cases h1 : vs.length < t
  · by_cases h2 : vs.length < f
    · obtain ⟨A', m, hrun, hm, hrw⟩ := cut_fin_s w A c f t vs.length vs.length vs hr hc (by omega) (by omega)
      have HM := Lib.hid hm
      have HR := Lib.hid hrw
      clear hm hrw hr
      go_enter Try.func37, Try.ntmps37
      go_wp2_with fail
      go_ret
      exact ⟨_, _, _, rfl, HM.out, Nat.le_refl _, HR.out, rfl⟩
    · obtain ⟨A', m, hrun, hm, hrw⟩ := cut_fin_s w A c f t f vs.length vs hr hc (by omega) (by omega)
      have HM := Lib.hid hm
      have HR := Lib.hid hrw
      clear hm hrw hr
      go_enter Try.func37, Try.ntmps37
      go_wp2_with fail
      go_ret
      exact ⟨_, _, _, rfl, HM.out, Nat.le_refl _, HR.out, rfl⟩
  · by_cases h2 : t < f
    · obtain ⟨A', m, hrun, hm, hrw⟩ := cut_fin_s w A c f t t t vs hr hc (by omega) (by omega)
      have HM := Lib.hid hm
      have HR := Lib.hid hrw
      clear hm hrw hr
      go_enter Try.func37, Try.ntmps37
      go_wp2_with fail
      go_ret
      exact ⟨_, _, _, rfl, HM.out, Nat.le_refl _, HR.out, rfl⟩
    · obtain ⟨A', m, hrun, hm, hrw⟩ := cut_fin_s w A c f t f t vs hr hc (by omega) (by omega)
      have HM := Lib.hid hm
      have HR := Lib.hid hrw
      clear hm hrw hr
      go_enter Try.func37, Try.ntmps37
      go_wp2_with fail
      go_ret
      exact ⟨_, _, _, rfl, HM.out, Nat.le_refl _, HR.out, rfl⟩
set_option maxHeartbeats 1600000 in
theorem lay_any_s (w : World) (P : Option Addr) (m c : Nat) (ps : List (Value × List Value)) (hm : m = ps.length) (hr : Row w w.heap.size P (ps.map (·.1))) (hs : ∀ p ∈ ps, Sl w p) (hl : (ps.flatMap (·.2)).length ≤ 100000) (hp : ps.length ≤ 100) :
    Calls Try.prog 36 #[.slice P m c] w fun e w' => ∃ A n c', e = .returned (.slice A n c') ∧ n = (ps.flatMap (·.2)).length ∧ n ≤ c' ∧ Own w' w.heap.size 9 A c' (ps.flatMap (·.2)) ∧ Below w.heap.size w w' := by
  subst hm
  go_enter Try.func36, Try.ntmps36
  go_wp2_with fail
  go_loopw [3, 8] (fun v i wr => ∃ (k : Nat) (A : Option Addr) (c' : Nat), k ≤ ps.length ∧ i = .int .i64 k ∧ v = .slice A ((ps.take k).flatMap (·.2)).length c' ∧ Own wr w.heap.size 9 A c' ((ps.take k).flatMap (·.2)) ∧ Below w.heap.size w wr) (fun _ i _ => ps.length - (intOf i).toNat)
  case atStart => exact ⟨0, none, 0, by omega, rfl, rfl, Own.nil _ _ _, Below.refl _ _⟩
  case round =>
    obtain ⟨k, A, c', hk, rfl, rfl, hown, hb⟩ := hrel
    have hbs := hb.size
    by_cases hlt : k < ps.length
    · obtain ⟨ad, rfl, hb1, hc1⟩ := (hr.belowSize hb).get k (by simpa using hlt)
      obtain ⟨A2, n2, c2, e1, e2, e3, e4, e5⟩ := (hs ps[k] (List.getElem_mem hlt)).below hb
      simp only [List.getElem_map] at hc1
      rw [e1] at hc1
      have htk : (ps.take (k + 1)).flatMap (·.2) = (ps.take k).flatMap (·.2) ++ ps[k].2 := by rw [List.take_succ_eq_append_getElem hlt, List.flatMap_append]; simp
      have hle : ((ps.take k).flatMap (·.2)).length + ps[k].2.length ≤ 100000 := by
        have h1 : ps = ps.take (k + 1) ++ ps.drop (k + 1) := (List.take_append_drop _ _).symm
        have h2 := congrArg (fun l => (l.flatMap (·.2)).length) h1
        simp only [List.flatMap_append, List.length_append] at h2
        rw [htk, List.length_append] at h2
        omega
      have HK := Lib.hid htk
      have HE := Lib.hid e2
      clear hl htk e1 e2 e5
      generalize ps[k].2 = vs at *
      generalize (ps.take k).flatMap (·.2) = L at *
      go_wp2_with (at_builtin; refine wpList_append_row rfl (.tmp 12) (.tmp 13) 22 rfl el_s (A := A) (c := c') (n := L.length) (m := n2) (xs := L) (news := vs) rfl rfl hown rfl HE.out e3 e4 (by simp [maxLen]; omega) (by omega) (by omega) ?_; intro A3 c3 w2 hown' hg; have hb2 : Below w.heap.size w w2 := hown.below hb hg (Nat.le_refl _) (by omega); clear hg)
      go_roundw
      case rel => exact ⟨k + 1, A3, c3, by omega, by go_num, by rw [HK.out, List.length_append, HE.out], by rw [HK.out]; exact hown', hb2⟩
      case measure => simp [intOf]; omega
    · obtain rfl : k = ps.length := by omega
      rw [List.take_of_length_le (Nat.le_refl _)] at *
      have hcap := hown.cap
      go_wp2_with fail
      go_ret
      exact ⟨_, _, _, rfl, rfl, hcap.1, hown, hb⟩
theorem cut_run_i (A : Option Addr) (n c f t : Nat) (hf : f ≤ t) (ht : t ≤ c) (w : World) : (Instr.sliceAt 23 (.slice A n c) (some (.int .i64 (f : Int))) (some (.int .i64 (t : Int))) (some (.int .i64 (t : Int)))).run Try.prog w = .ok (.slice (if t = f then A else A.map (·.add f)) (t - f) (t - f)) w := by
  rw [run_sliceAt_slice _ _ _ _ _ _ under_i, run_slice_lhm _ _ _ _ _ under_i _ _ _ _ _ _ (by omega) (by omega) (by omega) (by omega), size_i]
  simp [sliced, Result.andThen]
theorem cut_fin_i (w : World) (A : Option Addr) (c f t F T : Nat) (vs : List Value) (hr : Row w w.heap.size A vs) (hc : vs.length ≤ c) (hT : T = min t vs.length) (hF : F = min f T) :
    ∃ A' m, (∀ w, (Instr.sliceAt 23 (.slice A vs.length c) (some (.int .i64 (F : Int))) (some (.int .i64 (T : Int))) (some (.int .i64 (T : Int)))).run Try.prog w = .ok (.slice A' m m) w) ∧ m = ((vs.take t).drop f).length ∧ Row w w.heap.size A' ((vs.take t).drop f) := by
  have hlen : T - F = ((vs.take t).drop f).length := by simp only [List.length_drop, List.length_take]; omega
  refine ⟨_, _, cut_run_i A vs.length c F T (by omega) (by omega), hlen, fun j v hv => ?_⟩
  have hj : j < ((vs.take t).drop f).length := (List.getElem?_eq_some_iff.1 hv).1
  rw [List.getElem?_drop, List.getElem?_take] at hv
  have hFf : F = f := by omega
  rw [if_pos (by omega)] at hv
  obtain ⟨ad, rfl, hb, hcell⟩ := hr (f + j) v hv
  rw [if_neg (by omega)]
  exact ⟨_, rfl, by rw [blk_add]; exact hb, by rw [hFf, add_add]; exact hcell⟩
set_option maxHeartbeats 800000 in
theorem cut_any_i (w : World) (A : Option Addr) (n c f t : Nat) (x y : Int) (vs : List Value) (hn : n = vs.length) (hr : Row w w.heap.size A vs) (hc : vs.length ≤ c) (hx : x = (f : Int)) (hy : y = (t : Int)) :
    Calls Try.prog 60 #[.slice A n c, .int .i64 x, .int .i64 y] w fun e w' => ∃ A' m c', e = .returned (.slice A' m c') ∧ m = ((vs.take t).drop f).length ∧ m ≤ c' ∧ Row w w.heap.size A' ((vs.take t).drop f) ∧ w = w' := by
  subst hn hx hy
  by_cases h1 : vs.length < t
  · by_cases h2 : vs.length < f
    · obtain ⟨A', m, hrun, hm, hrw⟩ := cut_fin_i w A c f t vs.length vs.length vs hr hc (by omega) (by omega)
      have HM := Lib.hid hm
      have HR := Lib.hid hrw
      clear hm hrw hr
      go_enter Try.func60, Try.ntmps60
      go_wp2_with fail
      go_ret
      exact ⟨_, _, _, rfl, HM.out, Nat.le_refl _, HR.out, rfl⟩
    · obtain ⟨A', m, hrun, hm, hrw⟩ := cut_fin_i w A c f t f vs.length vs hr hc (by omega) (by omega)
      have HM := Lib.hid hm
      have HR := Lib.hid hrw
      clear hm hrw hr
      go_enter Try.func60, Try.ntmps60
      go_wp2_with fail
      go_ret
      exact ⟨_, _, _, rfl, HM.out, Nat.le_refl _, HR.out, rfl⟩
  · by_cases h2 : t < f
    · obtain ⟨A', m, hrun, hm, hrw⟩ := cut_fin_i w A c f t t t vs hr hc (by omega) (by omega)
      have HM := Lib.hid hm
      have HR := Lib.hid hrw
      clear hm hrw hr
      go_enter Try.func60, Try.ntmps60
      go_wp2_with fail
      go_ret
      exact ⟨_, _, _, rfl, HM.out, Nat.le_refl _, HR.out, rfl⟩
    · obtain ⟨A', m, hrun, hm, hrw⟩ := cut_fin_i w A c f t f t vs hr hc (by omega) (by omega)
      have HM := Lib.hid hm
      have HR := Lib.hid hrw
      clear hm hrw hr
      go_enter Try.func60, Try.ntmps60
      go_wp2_with fail
      go_ret
      exact ⟨_, _, _, rfl, HM.out, Nat.le_refl _, HR.out, rfl⟩
set_option maxHeartbeats 1600000 in
theorem lay_any_i (w : World) (P : Option Addr) (m c : Nat) (ps : List (Value × List Value)) (hm : m = ps.length) (hr : Row w w.heap.size P (ps.map (·.1))) (hs : ∀ p ∈ ps, Sl w p) (hl : (ps.flatMap (·.2)).length ≤ 100000) (hp : ps.length ≤ 100) :
    Calls Try.prog 52 #[.slice P m c] w fun e w' => ∃ A n c', e = .returned (.slice A n c') ∧ n = (ps.flatMap (·.2)).length ∧ n ≤ c' ∧ Own w' w.heap.size 3 A c' (ps.flatMap (·.2)) ∧ Below w.heap.size w w' := by
  subst hm
  go_enter Try.func52, Try.ntmps52
  go_wp2_with fail
  go_loopw [3, 8] (fun v i wr => ∃ (k : Nat) (A : Option Addr) (c' : Nat), k ≤ ps.length ∧ i = .int .i64 k ∧ v = .slice A ((ps.take k).flatMap (·.2)).length c' ∧ Own wr w.heap.size 3 A c' ((ps.take k).flatMap (·.2)) ∧ Below w.heap.size w wr) (fun _ i _ => ps.length - (intOf i).toNat)
  case atStart => exact ⟨0, none, 0, by omega, rfl, rfl, Own.nil _ _ _, Below.refl _ _⟩
  case round =>
    obtain ⟨k, A, c', hk, rfl, rfl, hown, hb⟩ := hrel
    have hbs := hb.size
    by_cases hlt : k < ps.length
    · obtain ⟨ad, rfl, hb1, hc1⟩ := (hr.belowSize hb).get k (by simpa using hlt)
      obtain ⟨A2, n2, c2, e1, e2, e3, e4, e5⟩ := (hs ps[k] (List.getElem_mem hlt)).below hb
      simp only [List.getElem_map] at hc1
      rw [e1] at hc1
      have htk : (ps.take (k + 1)).flatMap (·.2) = (ps.take k).flatMap (·.2) ++ ps[k].2 := by rw [List.take_succ_eq_append_getElem hlt, List.flatMap_append]; simp
      have hle : ((ps.take k).flatMap (·.2)).length + ps[k].2.length ≤ 100000 := by
        have h1 : ps = ps.take (k + 1) ++ ps.drop (k + 1) := (List.take_append_drop _ _).symm
        have h2 := congrArg (fun l => (l.flatMap (·.2)).length) h1
        simp only [List.flatMap_append, List.length_append] at h2
        rw [htk, List.length_append] at h2
        omega
      have HK := Lib.hid htk
      have HE := Lib.hid e2
      clear hl htk e1 e2 e5
      generalize ps[k].2 = vs at *
      generalize (ps.take k).flatMap (·.2) = L at *
      go_wp2_with (at_builtin; refine wpList_append_row rfl (.tmp 12) (.tmp 13) 23 rfl el_i (A := A) (c := c') (n := L.length) (m := n2) (xs := L) (news := vs) rfl rfl hown rfl HE.out e3 e4 (by simp [maxLen]; omega) (by omega) (by omega) ?_; intro A3 c3 w2 hown' hg; have hb2 : Below w.heap.size w w2 := hown.below hb hg (Nat.le_refl _) (by omega); clear hg)
      go_roundw
      case rel => exact ⟨k + 1, A3, c3, by omega, by go_num, by rw [HK.out, List.length_append, HE.out], by rw [HK.out]; exact hown', hb2⟩
      case measure => simp [intOf]; omega
    · obtain rfl : k = ps.length := by omega
      rw [List.take_of_length_le (Nat.le_refl _)] at *
      have hcap := hown.cap
      go_wp2_with fail
      go_ret
      exact ⟨_, _, _, rfl, rfl, hcap.1, hown, hb⟩

/-- a slice's value, by what it reads -/
def SlA (vs : List Value) (v : Value) (w : World) : Prop := ∃ A m c, v = .slice A m c ∧ m = vs.length ∧ m ≤ c ∧ Row w w.heap.size A vs
theorem SlA.below {vs : List Value} {v : Value} {w w' : World} (h : SlA vs v w) (hb : Below w.heap.size w w') : SlA vs v w' := by
  obtain ⟨A, m, c, h1, h2, h3, h4⟩ := h
  exact ⟨A, m, c, h1, h2, h3, h4.belowSize hb⟩
/-- a slice of slices, by what each reads -/
def Pcs (ps : List (List Value)) (v : Value) (w : World) : Prop := ∃ P m c, v = .slice P m c ∧ m = (ps).length ∧ ∃ qs : List (Value × List Value), ps = qs.map (·.2) ∧ Row w w.heap.size P (qs.map (·.1)) ∧ ∀ q ∈ qs, Sl w q
theorem Pcs.below {ps : List (List Value)} {v : Value} {w w' : World} (h : Pcs ps v w) (hb : Below w.heap.size w w') : Pcs ps v w' := by
  obtain ⟨P, m, c, h1, h2, qs, h3, h4, h5⟩ := h
  exact ⟨P, m, c, h1, h2, qs, h3, h4.belowSize hb, fun q hq => (h5 q hq).below hb⟩
theorem SlA.form {vs : List Value} {v : Value} {w : World} (h : SlA vs v w) : ∃ A m c, v = .slice A m c := by
  obtain ⟨A, m, c, h, _⟩ := h
  exact ⟨A, m, c, h⟩
theorem Pcs.form {ps : List (List Value)} {v : Value} {w : World} (h : Pcs ps v w) : ∃ A m c, v = .slice A m c := by
  obtain ⟨A, m, c, h, _⟩ := h
  exact ⟨A, m, c, h⟩
def Ones (vs : List Value) : Prop := ∀ u ∈ vs, u.oneCell' = true
theorem SlA.sl {vs : List Value} {v : Value} {w : World} (h : SlA vs v w) (h1 : Ones vs) : Sl w (v, vs) := by
  obtain ⟨A, m, c, rfl, h2, h3, h4⟩ := h
  exact ⟨A, m, c, rfl, h2, h4, h1, rfl⟩
theorem pcs_mk (w : World) (qs : List (Value × List Value)) (t : TypeId) (cs : Array Value) (hc : cs.toList = qs.map (·.1)) (n : Nat) (hn : n = qs.length) (h : ∀ q ∈ qs, SlA q.2 q.1 w ∧ Ones q.2) : Pcs (qs.map (·.2)) (.slice (some ⟨w.heap.size, 0, none⟩) n n) (w.alloc (.cells cs t)) := by
  refine ⟨_, _, _, rfl, by rw [List.length_map]; exact hn, qs, rfl, ?_, fun q hq => ((h q hq).1.sl (h q hq).2).below ((Below.refl _ _).alloc (Nat.le_refl _) _)⟩
  have hr := row_of_block (heap_alloc_new w (.cells cs t))
  rw [hc] at hr
  exact hr.more (by simp)
theorem al (w : World) (o : Obj) : Below w.heap.size w (w.alloc o) := (Below.refl _ _).alloc (Nat.le_refl _) _
theorem pcs1 {w : World} {t : TypeId} {a : Value} {x : List Value} (ha : SlA x a w) (h1 : Ones x) : Pcs [x] (.slice (some ⟨w.heap.size, 0, none⟩) 1 1) (w.alloc (.cells #[a] t)) :=
  pcs_mk w [(a, x)] t #[a] rfl 1 rfl (by intro q hq; simp at hq; subst hq; exact ⟨ha, h1⟩)
theorem pcs2 {w : World} {t : TypeId} {a b : Value} {x y : List Value} (ha : SlA x a w) (h1 : Ones x) (hb : SlA y b w) (h2 : Ones y) : Pcs [x, y] (.slice (some ⟨w.heap.size, 0, none⟩) 2 2) (w.alloc (.cells #[a, b] t)) :=
  pcs_mk w [(a, x), (b, y)] t #[a, b] rfl 2 rfl (by intro q hq; simp at hq; rcases hq with rfl | rfl <;> first | exact ⟨ha, h1⟩ | exact ⟨hb, h2⟩)
theorem pcs3 {w : World} {t : TypeId} {a b c : Value} {x y z : List Value} (ha : SlA x a w) (h1 : Ones x) (hb : SlA y b w) (h2 : Ones y) (hc : SlA z c w) (h3 : Ones z) : Pcs [x, y, z] (.slice (some ⟨w.heap.size, 0, none⟩) 3 3) (w.alloc (.cells #[a, b, c] t)) :=
  pcs_mk w [(a, x), (b, y), (c, z)] t #[a, b, c] rfl 3 rfl (by intro q hq; simp at hq; rcases hq with rfl | rfl | rfl <;> first | exact ⟨ha, h1⟩ | exact ⟨hb, h2⟩ | exact ⟨hc, h3⟩)
theorem sl_new {w : World} {t : TypeId} (a : Value) : SlA [a] (.slice (some ⟨w.heap.size, 0, none⟩) 1 1) (w.alloc (.cells #[a] t)) := ⟨_, _, _, rfl, rfl, Nat.le_refl _, by
  have hr := row_of_block (heap_alloc_new w (.cells #[a] t))
  exact hr.more (by simp)⟩
theorem sl_none {w : World} : SlA [] (.slice none 0 0) w := ⟨_, _, _, rfl, rfl, Nat.le_refl _, Row.nil⟩
theorem _root_.Go.Proofs.Ytpcpfcllgadghaa.NodeRead.Lay.ks {w : World} {n : Nd} {h : Hd} (l : Lay w n h) : SlA (strs n.keys) (.slice h.K n.keys.length h.kc) w := ⟨_, _, _, rfl, (strs_len _).symm, l.kc, l.k⟩
theorem _root_.Go.Proofs.Ytpcpfcllgadghaa.NodeRead.Lay.vs {w : World} {n : Nd} {h : Hd} (l : Lay w n h) : SlA (strs n.vals) (.slice h.V n.vals.length h.vc) w := ⟨_, _, _, rfl, (strs_len _).symm, l.vc, l.v⟩
theorem _root_.Go.Proofs.Ytpcpfcllgadghaa.NodeRead.Lay.ds {w : World} {n : Nd} {h : Hd} (l : Lay w n h) : SlA (ints n.kids) (.slice h.D n.kids.length h.dc) w := ⟨_, _, _, rfl, (ints_len _).symm, l.dc, l.d⟩

theorem layP_s (w : World) (v : Value) (ps : List (List Value)) (hv : Pcs ps v w) (hl : ps.flatten.length ≤ 100000) (hp : ps.length ≤ 100) :
    Calls Try.prog 36 #[v] w fun e w' => ∃ A m c', e = .returned (.slice A m c') ∧ SlA ps.flatten (.slice A m c') w' ∧ Below w.heap.size w w' := by
  obtain ⟨P, m, c, rfl, hm, qs, rfl, hr, hs⟩ := hv
  rw [List.length_map] at hm hp
  rw [← List.flatMap_def] at hl ⊢
  refine (lay_any_s w P m c qs hm hr hs hl hp).mono ?_
  rintro e w' ⟨A, n, c', rfl, hn, hc, ho, hb⟩
  exact ⟨A, n, c', rfl, ⟨A, n, c', rfl, hn, hc, ho.row⟩, hb⟩
theorem cutP_s (w : World) (v : Value) (vs : List Value) (f t : Nat) (x y : Int) (hv : SlA vs v w) (hx : x = (f : Int)) (hy : y = (t : Int)) :
    Calls Try.prog 37 #[v, .int .i64 x, .int .i64 y] w fun e w' => ∃ A m c', e = .returned (.slice A m c') ∧ SlA ((vs.take t).drop f) (.slice A m c') w ∧ w = w' := by
  obtain ⟨A, n, c, rfl, hn, hc, hr⟩ := hv
  refine (cut_any_s w A n c f t x y vs hn hr (by omega) hx hy).mono ?_
  rintro e w' ⟨A', m, c', rfl, hm, hc', hr', hw⟩
  exact ⟨A', m, c', rfl, ⟨A', m, c', rfl, hm, hc', hr'⟩, hw⟩

theorem layP_i (w : World) (v : Value) (ps : List (List Value)) (hv : Pcs ps v w) (hl : ps.flatten.length ≤ 100000) (hp : ps.length ≤ 100) :
    Calls Try.prog 52 #[v] w fun e w' => ∃ A m c', e = .returned (.slice A m c') ∧ SlA ps.flatten (.slice A m c') w' ∧ Below w.heap.size w w' := by
  obtain ⟨P, m, c, rfl, hm, qs, rfl, hr, hs⟩ := hv
  rw [List.length_map] at hm hp
  rw [← List.flatMap_def] at hl ⊢
  refine (lay_any_i w P m c qs hm hr hs hl hp).mono ?_
  rintro e w' ⟨A, n, c', rfl, hn, hc, ho, hb⟩
  exact ⟨A, n, c', rfl, ⟨A, n, c', rfl, hn, hc, ho.row⟩, hb⟩
theorem cutP_i (w : World) (v : Value) (vs : List Value) (f t : Nat) (x y : Int) (hv : SlA vs v w) (hx : x = (f : Int)) (hy : y = (t : Int)) :
    Calls Try.prog 60 #[v, .int .i64 x, .int .i64 y] w fun e w' => ∃ A m c', e = .returned (.slice A m c') ∧ SlA ((vs.take t).drop f) (.slice A m c') w ∧ w = w' := by
  obtain ⟨A, n, c, rfl, hn, hc, hr⟩ := hv
  refine (cut_any_i w A n c f t x y vs hn hr (by omega) hx hy).mono ?_
  rintro e w' ⟨A', m, c', rfl, hm, hc', hr', hw⟩
  exact ⟨A', m, c', rfl, ⟨A', m, c', rfl, hm, hc', hr'⟩, hw⟩
end Go.Proofs.Ytpcpfcllgadghaa.NodeSlice
