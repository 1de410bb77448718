/- A text cut at its first sign (strings.Cut with one byte), users of texts and texts of users: the code's parse, text, object, of. -/
import Derived.Test.YtpiojnphbanggaaTupleName
import Derived.Lib.Bytealg
import Derived.WalkLawsBesides
namespace Go.Proofs.Ytpiojnphbanggaa.TupleCut
open Go.RowKit Base KeyPlain TuplePlain TupleRef TupleSpec TupleName

/-! plain: cut at a byte -/
def CutP (c : UInt8) (l a b : List UInt8) : Prop := c ∉ a ∧ (l = a ++ c :: b ∨ (l = a ∧ b = []))
theorem CutP.has {c : UInt8} {x y a b : List UInt8} (h : CutP c (x ++ c :: y) a b) (hx : c ∉ x) : a = x ∧ b = y := by
  obtain ⟨ha, h | ⟨h, rfl⟩⟩ := h
  · obtain ⟨e1, e2⟩ := split_at hx ha h
    exact ⟨e1.symm, e2.symm⟩
  · exact absurd (by rw [← h]; simp) ha
theorem CutP.hasnt {c : UInt8} {x a b : List UInt8} (h : CutP c x a b) (hx : c ∉ x) : a = x ∧ b = [] := by
  obtain ⟨ha, h | ⟨h, rfl⟩⟩ := h
  · exact absurd (by rw [h]; simp) hx
  · exact ⟨h.symm, rfl⟩
theorem CutP.len {c : UInt8} {x a b : List UInt8} (h : CutP c x a b) : a.length ≤ x.length ∧ b.length ≤ x.length := by
  obtain ⟨_, h | ⟨h, rfl⟩⟩ := h
  · rw [h]; simp only [List.length_append, List.length_cons]; omega
  · rw [h]; simp
theorem index_at (l : List UInt8) (c : UInt8) : (Lib.indexByte l c = -1 ∧ c ∉ l) ∨ ∃ i : Nat, Lib.indexByte l c = (i : Int) ∧ i < l.length ∧ c ∉ l.take i ∧ l = l.take i ++ c :: l.drop (i + 1) := by
  induction l with
  | nil => exact Or.inl ⟨rfl, by simp⟩
  | cons d l ih =>
    unfold Lib.indexByte
    by_cases hd : d = c
    · subst hd
      rw [if_pos (by simp)]
      exact Or.inr ⟨0, rfl, by simp, by simp, by simp⟩
    · rw [if_neg (by simpa using hd)]
      rcases ih with ⟨h1, h2⟩ | ⟨i, h1, h2, h3, h4⟩
      · rw [h1, if_pos (by simp)]
        exact Or.inl ⟨rfl, by simp only [List.mem_cons, not_or]; exact ⟨fun e => hd e.symm, h2⟩⟩
      · rw [h1, if_neg (by simp)]
        refine Or.inr ⟨i + 1, by omega, by simp only [List.length_cons]; omega, ?_, ?_⟩
        · rw [List.take_succ_cons]
          simp only [List.mem_cons, not_or]
          exact ⟨fun e => hd e.symm, h3⟩
        · rw [List.take_succ_cons, List.drop_succ_cons]
          simp only [List.cons_append, List.cons.injEq, true_and]
          exact h4
theorem bl_extract (s : ByteArray) (a b : Nat) : bl (s.extract a b) = ((bl s).drop a).take (b - a) := by
  show (s.extract a b).data.toList = _
  rw [Lib.extract_data]

/-! the library's Index and Cut, of one byte -/
set_option maxHeartbeats 3200000 in
theorem indexByte_any (s : ByteArray) (c : UInt8) (w : World) :
    Calls Try.prog 62 #[.string s, .int .u8 (c.toNat : Int)] w fun e w' => e = .returned (.int .i64 (Lib.indexByte (bl s) c)) ∧ w = w' := by
  have hc : ((c.toNat : Int)).toNat.toUInt8 = c := by simp
  have hx : ∀ w, (callFunc 67 #[.string s, .int .u8 (c.toNat : Int)]).run Try.prog w = .ok (.value (.int .i64 (Lib.indexByte (bl s) c))) w := fun w => by
    rw [run_callFunc_extern Try.func67 (by kernel_rfl) (by kernel_rfl) (by kernel_rfl) (e := Extern.BytealgIndexByte.indexByte) (by kernel_rfl), Lib.run_indexByteString, hc]
    rfl
  clear hc
  go_enter Try.func62, Try.ntmps62
  go_wp2_with fail
  go_ret
  exact ⟨rfl, rfl⟩
set_option maxRecDepth 100000 in
set_option maxHeartbeats 3200000 in
theorem index_any (s t : ByteArray) (c : UInt8) (w : World) (ht : t = ⟨#[c]⟩) :
    Calls Try.prog 58 #[.string s, .string t] w fun e w' => e = .returned (.int .i64 (Lib.indexByte (bl s) c)) ∧ w = w' := by
  have hx := fun w => indexByte_any s c w
  have hz : t.size = 1 := by rw [ht]; rfl
  have h0 : 0 < t.size := by omega
  have hc : (t[0]'h0) = c := by subst ht; rfl
  have hq : (t.toList == s.toList) = decide (t = s) := Str.ba_beq t s
  have i0 : ((t.size : Int) == 0) = false := by rw [beq_eq_false_iff_ne]; omega
  have i1 : ((t.size : Int) == 1) = true := by rw [beq_iff_eq]; omega
  have HS := Lib.hid (show t = s → Lib.indexByte (bl s) c = 0 from fun e => by rw [← e, ht]; show Lib.indexByte [c] c = 0; unfold Lib.indexByte; rw [if_pos (by simp)])
  have HC := Lib.hid hc
  clear ht hz hc
  generalize Lib.indexByte (bl s) c = r at *
  go_enter Try.func58, Try.ntmps58
  by_cases h : t = s
  · rw [decide_eq_true h] at hq
    have HR := Lib.hid (HS.out h)
    clear h
    go_wp2_with fail
    go_ret
    exact ⟨ret_int HR.out.symm, rfl⟩
  · rw [decide_eq_false h] at hq
    clear h
    go_wp2_with fail
    rw [HC.out]
    (with_reducible refine (hx _).mono ?_)
    rintro e w' ⟨rfl, rfl⟩
    go_wp2_with fail
    go_ret
    exact ⟨rfl, rfl⟩
def CutPost (c : UInt8) (s : ByteArray) (w : World) (e : Ending) (w' : World) : Prop := ∃ a b f, CutP c (bl s) (bl a) (bl b) ∧ e = .returned (.tuple #[.string a, .string b, .bool f]) ∧ Below w.heap.size w w'
set_option maxRecDepth 100000 in
set_option maxHeartbeats 3200000 in
theorem cut_lite (s t : ByteArray) (c : UInt8) (w : World) (hs : s.size ≤ 1000000) (ht : t = ⟨#[c]⟩) :
    Calls Try.prog 54 #[.string s, .string t] w (CutPost c s w) := by
  have hx := fun w => index_any s t c w ht
  have hz : t.size = 1 := by rw [ht]; rfl
  clear ht
  rcases index_at (bl s) c with ⟨h1, h2⟩ | ⟨i, h1, h2, h3, h4⟩
  · rw [h1] at hx
    have HP := Lib.hid (show CutPost c s w (.returned (.tuple #[.string s, .string ⟨#[]⟩, .bool false])) w from ⟨s, ⟨#[]⟩, false, ⟨h2, Or.inr ⟨rfl, rfl⟩⟩, rfl, Below.refl _ _⟩)
    clear h1 h2 hz
    go_enter Try.func54, Try.ntmps54
    go_wp2_with fail
    (with_reducible refine (hx _).mono ?_)
    rintro e w' ⟨rfl, rfl⟩
    go_wp2_with fail
    go_ret3
    exact HP.out
  · rw [h1] at hx
    rw [bl_size] at h2
    have HP := Lib.hid (show ∀ w', Below w.heap.size w w' → CutPost c s w (.returned (.tuple #[.string (s.extract 0 i), .string (s.extract (i + 1) s.size), .bool true])) w' from fun w' hb => by
      refine ⟨_, _, true, ⟨?_, Or.inl ?_⟩, rfl, hb⟩
      · rw [bl_extract]; simpa using h3
      · rw [bl_extract, bl_extract, List.take_of_length_le (l := List.drop (i + 1) (bl s)) (by rw [List.length_drop, bl_size]; omega)]; simpa using h4)
    clear h1 h3 h4
    have c1 : (0 : Int) ≤ (i : Int) := by omega
    have c2 : (i : Int) ≤ (s.size : Int) := by omega
    have zI : (t.size : Int) = 1 := by omega
    clear hz
    have c3 : (0 : Int) ≤ (i : Int) + 1 := by omega
    have c4 : (i : Int) + 1 ≤ (s.size : Int) := by omega
    go_enter Try.func54, Try.ntmps54
    go_wp2_with fail
    (with_reducible refine (hx _).mono ?_)
    rintro e w' ⟨rfl, rfl⟩
    go_wp2_with fail
    go_region
    go_wp2_with fail
    go_ret3
    exact HP.out _ (Base.below_drewN _ _ _)
set_option maxHeartbeats 3200000 in
theorem cut_any (s t : ByteArray) (c : UInt8) (w : World) (hs : s.size ≤ 1000000) (ht : t = ⟨#[c]⟩) :
    Calls Try.prog 40 #[.string s, .string t] w (CutPost c s w) := by
  have hx := cut_lite s t c w hs ht
  clear hs ht
  go_enter Try.func40, Try.ntmps40
  go_wp2_with fail
  (with_reducible refine hx.mono ?_)
  rintro e w' ⟨a, b, f, hp, rfl, hb⟩
  have HP := Lib.hid (show CutPost c s w (.returned (.tuple #[.string a, .string b, .bool f])) w' from ⟨a, b, f, hp, rfl, hb⟩)
  clear hp hb
  go_wp2_with fail
  go_ret3
  exact HP.out

/-! users and texts -/
theorem three_at {w : World} {g : Nat} {t : TypeId} {a b c : Value} (q : w.heap[g]? = some (.cells #[a, b, c] t (0, 0))) : w.cell? ⟨g, 0, none⟩ = some a ∧ w.cell? ⟨g, 1, none⟩ = some b ∧ w.cell? ⟨g, 2, none⟩ = some c := by
  refine ⟨?_, ?_, ?_⟩ <;> (simp only [World.cell?, q]; rfl)
theorem results_cell_tmp_row {P : Program} {fn : Func} {p u : Tmp} {ty : TypeId} (h : fn.results = #[.cell p ty, .tmp u]) (tmps : Array Value) (w : World) (g : Nat) (t : TypeId) (cs : Array Value) (fr : Nat × Nat) (d : TypeDesc)
    (hp : tmps.getD p undef = .pointer (some ⟨g, 0, none⟩)) (hg : w.heap[g]? = some (.cells cs t fr))
    (hu : P.underlying ty = some d) (hd : (match d with | .struct _ | .array _ _ => true | _ => false) = true) (hi : (P.info? ty).map (·.size) = some cs.size) :
    (results fn tmps).run P w = .ok (.tuple #[.agg cs, tmps.getD u undef]) w := by
  rw [results_cell_tmp h, hp]
  simp [asAddr, run_loadVar_row w g t ty cs fr d hg hu hd hi, Result.andThen]
theorem al2 (w : World) (o p : Obj) : Below w.heap.size w ((w.alloc o).alloc p) := Below.step (al w o) (al _ p)
theorem new2 (w : World) (o p : Obj) : ((w.alloc o).alloc p).heap[w.heap.size + 1]? = some p := by
  have h := heap_alloc_new (w.alloc o) p
  simpa using h
theorem new3 (w : World) (o p q : Obj) : (((w.alloc o).alloc p).alloc q).heap[w.heap.size + 1 + 1]? = some q := by
  have h := heap_alloc_new ((w.alloc o).alloc p) q
  simpa using h
theorem at_set {w : World} {g : Nat} {t : TypeId} {cs : Array Value} (h : w.heap[g]? = some (.cells cs t (0, 0))) (i : Nat) (v : Value) : (w.setCell ⟨g, i, none⟩ v).heap[g]? = some (.cells (cs.setIfInBounds i v) t (0, 0)) := by
  simp [World.setCell, Array.getElem?_modify, h]
theorem set3 {w : World} {g : Nat} {t : TypeId} {x0 x1 x2 : Value} (h : w.heap[g]? = some (.cells #[x0, x1, x2] t (0, 0))) (a b c : Value) :
    (((w.setCell ⟨g, 0, none⟩ a).setCell ⟨g, 1, none⟩ b).setCell ⟨g, 2, none⟩ c).heap[g]? = some (.cells #[a, b, c] t (0, 0)) := at_set (at_set (at_set h 0 a) 1 b) 2 c
theorem set6 {w : World} {g : Nat} {t : TypeId} {x0 x1 x2 x3 x4 x5 : Value} (h : w.heap[g]? = some (.cells #[x0, x1, x2, x3, x4, x5] t (0, 0))) (a b c d e f : Value) :
    ((((((w.setCell ⟨g, 0, none⟩ a).setCell ⟨g, 1, none⟩ b).setCell ⟨g, 2, none⟩ c).setCell ⟨g, 3, none⟩ d).setCell ⟨g, 4, none⟩ e).setCell ⟨g, 5, none⟩ f).heap[g]? = some (.cells #[a, b, c, d, e, f] t (0, 0)) := at_set (at_set (at_set (at_set (at_set (at_set h 0 a) 1 b) 2 c) 3 d) 4 e) 5 f
theorem below3 {W w : World} {B g : Nat} (h : Below B W w) (hg : B ≤ g) (a b c : Value) : Below B W (((w.setCell ⟨g, 0, none⟩ a).setCell ⟨g, 1, none⟩ b).setCell ⟨g, 2, none⟩ c) := ((h.setCell hg _).setCell hg _).setCell hg _
theorem below6 {W w : World} {B g : Nat} (h : Below B W w) (hg : B ≤ g) (a b c d e f : Value) : Below B W ((((((w.setCell ⟨g, 0, none⟩ a).setCell ⟨g, 1, none⟩ b).setCell ⟨g, 2, none⟩ c).setCell ⟨g, 3, none⟩ d).setCell ⟨g, 4, none⟩ e).setCell ⟨g, 5, none⟩ f) := (((((h.setCell hg _).setCell hg _).setCell hg _).setCell hg _).setCell hg _).setCell hg _
set_option maxHeartbeats 3200000 in
theorem object_any (t : Tp) (w : World) :
    Calls Try.prog 37 #[.agg (tc t)] w fun e w' => e = .returned (.agg (uc t.obj)) ∧ Below w.heap.size w w' := by
  unfold tc uc Tp.obj
  go_enter Try.func37, Try.ntmps37
  go_wp2_with fail
  refine bodyPost_ret (results_cell_row rfl _ _ (w.heap.size + 1) 23 _ (0, 0) _ rfl (new2 w _ _) Try.underlying23 rfl (by kernel_rfl)) rfl ?_
  exact ⟨rfl, al2 _ _ _⟩
set_option maxHeartbeats 3200000 in
theorem of_any (o u : Us) (w : World) :
    Calls Try.prog 41 #[.agg (uc o), .agg (uc u)] w fun e w' => e = .returned (.agg (tc ⟨o.k, o.i, o.r, u⟩)) ∧ Below w.heap.size w w' := by
  unfold tc uc
  go_enter Try.func41, Try.ntmps41
  go_wp2_with fail
  refine bodyPost_ret (results_cell_row rfl _ _ (w.heap.size + 1 + 1) 25 _ (0, 0) _ rfl (new3 w _ _ _) Try.underlying25 rfl (by kernel_rfl)) rfl ?_
  exact ⟨rfl, Below.step (al2 _ _ _) (al _ _)⟩
set_option maxHeartbeats 3200000 in
theorem text_any (u : Us) (w : World) (hu : UsF u) :
    Calls Try.prog 36 #[.agg (uc u)] w fun e w' => e = .returned (.string ⟨u.show.toArray⟩) ∧ Below w.heap.size w w' := by
  obtain ⟨h1, h2, h3⟩ := hu
  have e0 := empty_eq u.r
  have hb := al w (.cells #[.string u.k, .string u.i, .string u.r] 23)
  have HB := Lib.hid hb
  clear hb
  unfold uc
  go_enter Try.func36, Try.ntmps36
  by_cases hz : u.r.size = 0
  · rw [decide_eq_true hz] at e0
    have HS := Lib.hid (show u.k ++ ⟨#[58]⟩ ++ u.i = ⟨u.show.toArray⟩ from ba_of (by unfold Us.show; rw [if_pos hz]; simp [bl]))
    clear hz
    go_wp2_with fail
    go_ret
    exact ⟨ret_str HS.out, HB.out⟩
  · rw [decide_eq_false hz] at e0
    have HS := Lib.hid (show u.k ++ ⟨#[58]⟩ ++ u.i ++ (⟨#[35]⟩ ++ u.r) = ⟨u.show.toArray⟩ from ba_of (by unfold Us.show; rw [if_neg hz]; simp [bl]))
    clear hz
    go_wp2_with fail
    go_ret
    exact ⟨ret_str HS.out, HB.out⟩
def ParsePost (s : ByteArray) (w : World) (e : Ending) (w' : World) : Prop := ∃ (u : Us) (x : ByteArray), CutP 58 (bl s) (bl u.k) (bl x) ∧ CutP 35 (bl x) (bl u.i) (bl u.r) ∧ e = .returned (.agg (uc u)) ∧ Below w.heap.size w w'
set_option maxHeartbeats 3200000 in
theorem parse_any (s : ByteArray) (w : World) (hs : s.size ≤ 1000000) :
    Calls Try.prog 39 #[.string s] w (ParsePost s w) := by
  have hx := fun w => cut_any s ⟨#[58]⟩ 58 w hs rfl
  have HY := Lib.hid (fun x hz w => cut_any x ⟨#[35]⟩ 35 w hz rfl)
  obtain ⟨w1, hw1⟩ : ∃ v, v = w.alloc (.cells #[.string ⟨#[]⟩, .string ⟨#[]⟩, .string ⟨#[]⟩] 23) := ⟨_, rfl⟩
  obtain ⟨b, hbe⟩ : ∃ v, v = w.heap.size := ⟨_, rfl⟩
  have HB1 := Lib.hid (show Below w.heap.size w w1 from by rw [hw1]; exact al _ _)
  have a1 : w1.heap[b]? = some (.cells #[.string ⟨#[]⟩, .string ⟨#[]⟩, .string ⟨#[]⟩] 23 (0, 0)) := by rw [hw1, hbe]; exact heap_alloc_new w _
  have hl1 : b < w1.heap.size := by rw [hw1, hbe]; simp
  have HC := Lib.hid (fun (w' : World) (hw' : Below w1.heap.size w1 w') => (hw'.block b hl1).trans a1)
  have HW := Lib.hid hw1
  have HLE := Lib.hid (show w.heap.size ≤ b from by rw [hbe]; exact Nat.le_refl _)
  have HBE := Lib.hid hbe
  have HS := Lib.hid hs
  clear hw1 a1 hl1 hbe hs
  go_enter Try.func39, Try.ntmps39
  go_upto_region 1 with fail
  try rw [← HW.out]
  try rw [← HBE.out]
  clear HW
  go_wp2_with fail
  (with_reducible refine (hx _).mono ?_)
  rintro e w2 ⟨k, x, f, hp, rfl, b12⟩
  have hl := hp.len
  simp only [bl_size] at hl
  have hy := HY.out x (Nat.le_trans hl.2 HS.out)
  have HP := Lib.hid hp
  have HB2 := Lib.hid b12
  clear hp hl b12 hx
  go_wp2_with fail
  (with_reducible refine (hy _).mono ?_)
  rintro e w3 ⟨i, r, f', hp, rfl, b23⟩
  have b13 := Below.step HB2.out b23
  have a3 := HC.out w3 b13
  have hl3 : b < w3.heap.size := (Array.getElem?_eq_some_iff.1 a3).1
  have hc := three_at a3
  obtain ⟨d0, d1, d2⟩ := hc
  have HQ := Lib.hid hp
  have HB3 := Lib.hid (HB1.out.trans (b13.mono HB1.out.size))
  have f0 : w3.frozen? ⟨b, 0, none⟩ = false := by simp [World.frozen?, a3]
  have f1 : w3.frozen? ⟨b, 1, none⟩ = false := by simp [World.frozen?, a3]
  have f2 : w3.frozen? ⟨b, 2, none⟩ = false := by simp [World.frozen?, a3]
  have HA := Lib.hid a3
  clear hp b13 b23 a3 hl3 hy
  go_wp2_with fail
  refine bodyPost_ret (results_cell_row rfl _ _ b 23 _ (0, 0) _ rfl (set3 HA.out _ _ _) Try.underlying23 rfl (by kernel_rfl)) rfl ?_
  exact ⟨⟨k, i, r⟩, x, HP.out, HQ.out, rfl, below3 HB3.out HLE.out _ _ _⟩
set_option maxHeartbeats 6400000 in
theorem isUser_any (u : Us) (w : World) (hu : UsF u) :
    Calls Try.prog 38 #[.agg (uc u)] w fun e w' => e = .returned (.bool u.ok) ∧ Below w.heap.size w w' := by
  obtain ⟨h1, h2, h3⟩ := hu
  have H1 := Lib.hid (fun w => name_any u.k w h1)
  have H2 := Lib.hid (fun w => id_any u.i w h2)
  have H3 := Lib.hid (fun w => name_any u.r w h3)
  have e0 : (u.r.toList == (⟨#[]⟩ : ByteArray).toList) = decide (u.r.size = 0) := by rw [Str.ba_beq, decide_eq_decide]; exact ⟨fun h => by rw [h]; rfl, size_zero⟩
  have e1 := empty_eq u.r
  have HOK := Lib.hid (show u.ok = (nameL (bl u.k) && idL (bl u.i) && (decide (u.r.size = 0) || nameL (bl u.r))) from rfl)
  generalize nameL (bl u.k) = b1 at *
  generalize idL (bl u.i) = b2 at *
  generalize nameL (bl u.r) = b3 at *
  unfold uc
  obtain ⟨w1, hw1⟩ : ∃ v, v = w.alloc (.cells #[.string u.k, .string u.i, .string u.r] 23) := ⟨_, rfl⟩
  obtain ⟨b, hbe⟩ : ∃ v, v = w.heap.size := ⟨_, rfl⟩
  have HB1 := Lib.hid (show Below w.heap.size w w1 from by rw [hw1]; exact al _ _)
  have a1 : w1.heap[b]? = some (.cells #[.string u.k, .string u.i, .string u.r] 23 (0, 0)) := by rw [hw1, hbe]; exact heap_alloc_new w _
  have hl1 : b < w1.heap.size := by rw [hw1, hbe]; simp
  have HC := Lib.hid (fun (w' : World) (hw' : Below w1.heap.size w1 w') => three_at ((hw'.block b hl1).trans a1))
  have HD1 := Lib.hid (Below.refl w1.heap.size w1)
  have HW := Lib.hid hw1
  have HBE := Lib.hid hbe
  clear hw1 a1 hl1 hbe
  go_enter Try.func38, Try.ntmps38
  go_upto_region 1 with fail
  try rw [← HW.out]
  try rw [← HBE.out]
  clear HW
  cases b1 with
  | false =>
    have hh := H1.out w1
    obtain ⟨d0, d1, d2⟩ := HC.out w1 HD1.out
    go_wp2_with fail
    (with_reducible refine hh.mono ?_)
    clear hh d0 d1 d2
    rintro e w2 ⟨rfl, hb⟩
    have HD2 := Lib.hid (Below.step HD1.out hb)
    clear hb
    obtain ⟨d0, d1, d2⟩ := HC.out w2 HD2.out
    go_wp2_with fail
    go_ret
    exact ⟨ret_bool (by rw [HOK.out]; rfl), HB1.out.trans (HD2.out.mono HB1.out.size)⟩
  | true =>
    cases b2 with
    | false =>
      have hh := H1.out w1
      obtain ⟨d0, d1, d2⟩ := HC.out w1 HD1.out
      go_wp2_with fail
      (with_reducible refine hh.mono ?_)
      clear hh d0 d1 d2
      rintro e w2 ⟨rfl, hb⟩
      have HD2 := Lib.hid (Below.step HD1.out hb)
      clear hb
      have hh := H2.out w2
      obtain ⟨d0, d1, d2⟩ := HC.out w2 HD2.out
      go_wp2_with fail
      (with_reducible refine hh.mono ?_)
      clear hh d0 d1 d2
      rintro e w3 ⟨rfl, hb⟩
      have HD3 := Lib.hid (Below.step HD2.out hb)
      clear hb
      obtain ⟨d0, d1, d2⟩ := HC.out w3 HD3.out
      go_wp2_with fail
      go_ret
      exact ⟨ret_bool (by rw [HOK.out]; rfl), HB1.out.trans (HD3.out.mono HB1.out.size)⟩
    | true =>
      by_cases hz : u.r.size = 0
      · rw [decide_eq_true hz] at e0 e1
        have HO := Lib.hid (show u.ok = true from by rw [HOK.out, decide_eq_true hz]; rfl)
        clear hz
        have hh := H1.out w1
        obtain ⟨d0, d1, d2⟩ := HC.out w1 HD1.out
        go_wp2_with fail
        (with_reducible refine hh.mono ?_)
        clear hh d0 d1 d2
        rintro e w2 ⟨rfl, hb⟩
        have HD2 := Lib.hid (Below.step HD1.out hb)
        clear hb
        have hh := H2.out w2
        obtain ⟨d0, d1, d2⟩ := HC.out w2 HD2.out
        go_wp2_with fail
        (with_reducible refine hh.mono ?_)
        clear hh d0 d1 d2
        rintro e w3 ⟨rfl, hb⟩
        have HD3 := Lib.hid (Below.step HD2.out hb)
        clear hb
        obtain ⟨d0, d1, d2⟩ := HC.out w3 HD3.out
        go_wp2_with fail
        go_ret
        exact ⟨ret_bool HO.out.symm, HB1.out.trans (HD3.out.mono HB1.out.size)⟩
      · rw [decide_eq_false hz] at e0 e1
        have HO := Lib.hid (show u.ok = b3 from by rw [HOK.out, decide_eq_false hz]; rfl)
        clear hz
        have hh := H1.out w1
        obtain ⟨d0, d1, d2⟩ := HC.out w1 HD1.out
        go_wp2_with fail
        (with_reducible refine hh.mono ?_)
        clear hh d0 d1 d2
        rintro e w2 ⟨rfl, hb⟩
        have HD2 := Lib.hid (Below.step HD1.out hb)
        clear hb
        have hh := H2.out w2
        obtain ⟨d0, d1, d2⟩ := HC.out w2 HD2.out
        go_wp2_with fail
        (with_reducible refine hh.mono ?_)
        clear hh d0 d1 d2
        rintro e w3 ⟨rfl, hb⟩
        have HD3 := Lib.hid (Below.step HD2.out hb)
        clear hb
        have hh := H3.out w3
        obtain ⟨d0, d1, d2⟩ := HC.out w3 HD3.out
        go_wp2_with fail
        (with_reducible refine hh.mono ?_)
        clear hh d0 d1 d2
        rintro e w4 ⟨rfl, hb⟩
        have HD4 := Lib.hid (Below.step HD3.out hb)
        clear hb
        cases b3 with
        | false =>
          obtain ⟨d0, d1, d2⟩ := HC.out w4 HD4.out
          go_wp2_with fail
          go_ret
          exact ⟨ret_bool HO.out.symm, HB1.out.trans (HD4.out.mono HB1.out.size)⟩
        | true =>
          obtain ⟨d0, d1, d2⟩ := HC.out w4 HD4.out
          go_wp2_with fail
          go_ret
          exact ⟨ret_bool HO.out.symm, HB1.out.trans (HD4.out.mono HB1.out.size)⟩
theorem obj_told (t : Tp) : t.ok = (nameL (bl t.r) && t.obj.ok && t.u.ok) := by
  rw [Bool.eq_iff_iff]
  simp only [Tp.ok, Us.ok, Tp.obj, Bool.and_eq_true]
  constructor
  · rintro ⟨⟨⟨a, b⟩, c⟩, d⟩; exact ⟨⟨c, ⟨a, b⟩, rel_of_name c⟩, d⟩
  · rintro ⟨⟨c, ⟨a, b⟩, _⟩, d⟩; exact ⟨⟨⟨a, b⟩, c⟩, d⟩
set_option maxHeartbeats 6400000 in
theorem check_any (t : Tp) (w : World) (ht : TpF t) :
    Calls Try.prog 15 #[.agg (tc t)] w fun e w' => e = .returned (okE t.ok 111) ∧ Below w.heap.size w w' := by
  obtain ⟨h1, h2, h3, h4⟩ := ht
  have H1 := Lib.hid (fun w => name_any t.r w h3)
  have HO := Lib.hid (fun w => object_any t w)
  have H2 := Lib.hid (fun w => isUser_any t.obj w ⟨h1, h2, h3⟩)
  have H3 := Lib.hid (fun w => isUser_any t.u w h4)
  rw [obj_told t]
  unfold okE
  generalize nameL (bl t.r) = b1 at *
  generalize t.obj.ok = b2 at *
  generalize t.u.ok = b3 at *
  unfold tc at HO ⊢
  unfold uc at HO H2 H3
  obtain ⟨w1, hw1⟩ : ∃ v, v = w.alloc (.cells #[.string t.k, .string t.i, .string t.r, .string t.u.k, .string t.u.i, .string t.u.r] 25) := ⟨_, rfl⟩
  obtain ⟨b, hbe⟩ : ∃ v, v = w.heap.size := ⟨_, rfl⟩
  have HB1 := Lib.hid (show Below w.heap.size w w1 from by rw [hw1]; exact al _ _)
  have a1 : w1.heap[b]? = some (.cells #[.string t.k, .string t.i, .string t.r, .string t.u.k, .string t.u.i, .string t.u.r] 25 (0, 0)) := by rw [hw1, hbe]; exact heap_alloc_new w _
  have hl1 : b < w1.heap.size := by rw [hw1, hbe]; simp
  have HC := Lib.hid (fun (w' : World) (hw' : Below w1.heap.size w1 w') => six_at ((hw'.block b hl1).trans a1))
  have HD1 := Lib.hid (Below.refl w1.heap.size w1)
  have HW := Lib.hid hw1
  have HBE := Lib.hid hbe
  clear hw1 a1 hl1 hbe
  go_enter Try.func15, Try.ntmps15
  go_upto_region 1 with fail
  try rw [← HW.out]
  try rw [← HBE.out]
  clear HW
  cases b1 with
  | false =>
    have hh := H1.out w1
    obtain ⟨d0, d1, d2, d3, d4, d5⟩ := HC.out w1 HD1.out
    go_wp2_with fail
    (with_reducible refine hh.mono ?_)
    clear hh d0 d1 d2 d3 d4 d5
    rintro e w2 ⟨rfl, hb⟩
    have HD2 := Lib.hid (Below.step HD1.out hb)
    clear hb
    obtain ⟨d0, d1, d2, d3, d4, d5⟩ := HC.out w2 HD2.out
    go_wp2_with fail
    go_ret
    exact ⟨rfl, HB1.out.trans (HD2.out.mono HB1.out.size)⟩
  | true =>
    have hh := H1.out w1
    obtain ⟨d0, d1, d2, d3, d4, d5⟩ := HC.out w1 HD1.out
    go_wp2_with fail
    (with_reducible refine hh.mono ?_)
    clear hh d0 d1 d2 d3 d4 d5
    rintro e w2 ⟨rfl, hb⟩
    have HD2 := Lib.hid (Below.step HD1.out hb)
    clear hb
    have hh := HO.out w2
    obtain ⟨d0, d1, d2, d3, d4, d5⟩ := HC.out w2 HD2.out
    go_wp2_with fail
    (with_reducible refine hh.mono ?_)
    clear hh d0 d1 d2 d3 d4 d5
    rintro e w3 ⟨rfl, hb⟩
    have HD3 := Lib.hid (Below.step HD2.out hb)
    clear hb
    have hh := H2.out w3
    go_wp2_with fail
    (with_reducible refine hh.mono ?_)
    clear hh
    rintro e w4 ⟨rfl, hb⟩
    have HD4 := Lib.hid (Below.step HD3.out hb)
    clear hb
    cases b2 with
    | false =>
      obtain ⟨d0, d1, d2, d3, d4, d5⟩ := HC.out w4 HD4.out
      go_wp2_with fail
      go_ret
      exact ⟨rfl, HB1.out.trans (HD4.out.mono HB1.out.size)⟩
    | true =>
      have hh := H3.out w4
      obtain ⟨d0, d1, d2, d3, d4, d5⟩ := HC.out w4 HD4.out
      go_wp2_with fail
      (with_reducible refine hh.mono ?_)
      clear hh d0 d1 d2 d3 d4 d5
      rintro e w5 ⟨rfl, hb⟩
      have HD5 := Lib.hid (Below.step HD4.out hb)
      clear hb
      cases b3 with
      | false =>
        obtain ⟨d0, d1, d2, d3, d4, d5⟩ := HC.out w5 HD5.out
        go_wp2_with fail
        go_ret
        exact ⟨rfl, HB1.out.trans (HD5.out.mono HB1.out.size)⟩
      | true =>
        obtain ⟨d0, d1, d2, d3, d4, d5⟩ := HC.out w5 HD5.out
        go_wp2_with fail
        go_ret
        exact ⟨rfl, HB1.out.trans (HD5.out.mono HB1.out.size)⟩
set_option maxHeartbeats 6400000 in
theorem showUser_any (u : Us) (w : World) (hu : UsF u) :
    Calls Try.prog 14 #[.agg (uc u)] w fun e w' => e = .returned (.tuple #[okS u.ok u.show, okE u.ok 111]) ∧ Below w.heap.size w w' := by
  have H1 := Lib.hid (fun w => isUser_any u w hu)
  have H2 := Lib.hid (fun w => text_any u w hu)
  unfold okS okE
  generalize u.show = sh at *
  generalize u.ok = ok at *
  clear hu
  unfold uc at H1 H2 ⊢
  obtain ⟨w1, hw1⟩ : ∃ v, v = w.alloc (.cells #[.string u.k, .string u.i, .string u.r] 23) := ⟨_, rfl⟩
  obtain ⟨b, hbe⟩ : ∃ v, v = w.heap.size := ⟨_, rfl⟩
  have HB1 := Lib.hid (show Below w.heap.size w w1 from by rw [hw1]; exact al _ _)
  have a1 : w1.heap[b]? = some (.cells #[.string u.k, .string u.i, .string u.r] 23 (0, 0)) := by rw [hw1, hbe]; exact heap_alloc_new w _
  have hl1 : b < w1.heap.size := by rw [hw1, hbe]; simp
  have HC := Lib.hid (fun (w' : World) (hw' : Below w1.heap.size w1 w') => three_at ((hw'.block b hl1).trans a1))
  have HD1 := Lib.hid (Below.refl w1.heap.size w1)
  have HW := Lib.hid hw1
  have HBE := Lib.hid hbe
  clear hw1 a1 hl1 hbe
  go_enter Try.func14, Try.ntmps14
  go_upto_region 1 with fail
  try rw [← HW.out]
  try rw [← HBE.out]
  clear HW
  have hh := H1.out w1
  obtain ⟨d0, d1, d2⟩ := HC.out w1 HD1.out
  go_wp2_with fail
  (with_reducible refine hh.mono ?_)
  clear hh d0 d1 d2
  rintro e w2 ⟨rfl, hb⟩
  have HD2 := Lib.hid (Below.step HD1.out hb)
  clear hb
  cases ok with
  | false =>
    obtain ⟨d0, d1, d2⟩ := HC.out w2 HD2.out
    go_wp2_with fail
    go_ret2
    exact ⟨rfl, HB1.out.trans (HD2.out.mono HB1.out.size)⟩
  | true =>
    have hh := H2.out w2
    obtain ⟨d0, d1, d2⟩ := HC.out w2 HD2.out
    go_wp2_with fail
    (with_reducible refine hh.mono ?_)
    clear hh d0 d1 d2
    rintro e w3 ⟨rfl, hb⟩
    have HD3 := Lib.hid (Below.step HD2.out hb)
    clear hb
    go_wp2_with fail
    go_ret2
    exact ⟨rfl, HB1.out.trans (HD3.out.mono HB1.out.size)⟩
end Go.Proofs.Ytpiojnphbanggaa.TupleCut
