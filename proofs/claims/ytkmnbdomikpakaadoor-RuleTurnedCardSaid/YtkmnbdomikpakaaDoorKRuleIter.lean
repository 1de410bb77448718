/- strings.Lines ranged over: the iterator keeps what is left in a cell of its own. -/
import Derived.Test.YtkmnbdomikpakaaDoorKRuleReadE
import Derived.Test.YtkmnbdomikpakaaDoorKShelf
import Derived.Lib.IndexLaws
import Derived.LoopIn
import Derived.LoopNIn
import Derived.OwnWalkIn
import Derived.RangeFuncBound
import Derived.RangeFuncCalls
import Derived.RangeFuncLeaves
import Derived.RangeFuncNested
import Derived.Shelf.Abstract
import Derived.Shelf.RegionOpen
import Derived.TacticsInMore
import Derived.WalkKit
namespace Go.Proofs.YtkmnbdomikpakaaDoor.RuleIter
open Go.RowKit Go.Shelf Base KeyPlain TuplePlain TupleRef RulePlain RuleMem RuleRec RuleCan RuleLex RuleAlike RuleWord RuleReadE TurnB
attribute [local go_sem] Oper.semAt_some

/-- a line and what is behind it -/
def LineAt (line rest : List UInt8) : Prop := (∃ b, (10 : UInt8) ∉ b ∧ line = b ++ [10]) ∨ ((10 : UInt8) ∉ line ∧ line ≠ [] ∧ rest = [])
theorem bl_extract (t : ByteArray) (a b : Nat) : bl (t.extract a b) = ((bl t).drop a).take (b - a) := by
  unfold bl
  rw [Lib.extract_data]
theorem idx_cases (t : ByteArray) : (Lib.indexByte t.data.toList 10 = -1 ∧ (10 : UInt8) ∉ bl t) ∨ ∃ k : Nat, Lib.indexByte t.data.toList 10 = (k : Int) ∧ k < t.size ∧ ∃ b x, (10 : UInt8) ∉ b ∧ bl t = b ++ 10 :: x ∧ b.length = k := by
  by_cases h : Lib.indexByte t.data.toList 10 < 0
  · have := Lib.indexByte_ge t.data.toList 10
    have e : Lib.indexByte t.data.toList 10 = -1 := by omega
    refine Or.inl ⟨e, fun hm => ?_⟩
    obtain ⟨k, hk, hv⟩ := List.getElem_of_mem hm
    exact Lib.indexByte_none e k (by rw [List.getElem?_eq_getElem hk, hv])
  · obtain ⟨k, hk⟩ := Int.eq_ofNat_of_zero_le (Int.not_lt.1 h)
    obtain ⟨h1, h2⟩ := Lib.indexByte_some hk
    obtain ⟨hlt, hv⟩ := List.getElem?_eq_some_iff.1 h1
    have hlt' : k < t.size := by rw [← bl_size]; exact hlt
    refine Or.inr ⟨k, hk, hlt', (bl t).take k, (bl t).drop (k + 1), fun hm => ?_, ?_, ?_⟩
    · obtain ⟨j, hj, hjv⟩ := List.getElem_of_mem hm
      rw [List.length_take] at hj
      refine h2 j (by omega) ?_
      rw [List.getElem_take] at hjv
      rw [List.getElem?_eq_getElem (by omega)]
      exact congrArg some hjv
    · have e := (List.take_append_drop k (bl t)).symm
      rw [List.drop_eq_getElem_cons (h := hlt), hv] at e
      exact e
    · rw [List.length_take]
      have : k < (bl t).length := hlt
      omega
def LinesPost (s : ByteArray) (J : List UInt8 → ByteArray → World → Prop) (Jx : World → Prop) (e : Ending) (W' : World) : Prop := (∃ v, e = .returned v) ∧ ((∃ t, bl t = [] ∧ J (bl s) t W') ∨ Jx W')
theorem line_last {t : ByteArray} (h : (10 : UInt8) ∉ bl t) (h0 : ¬ t.size = 0) : LineAt (bl t) (bl ⟨#[]⟩) := Or.inr ⟨h, fun e => h0 (by rw [← bl_size, e]; rfl), rfl⟩
theorem line_cut {t : ByteArray} {k : Nat} {b x : List UInt8} (e : bl t = b ++ 10 :: x) (hk : b.length = k) : bl (t.extract 0 (k + 1)) = b ++ [10] ∧ bl (t.extract (k + 1) t.size) = x := by
  subst hk
  have e2 : bl t = (b ++ [10]) ++ x := by rw [e]; simp
  have hl : (b ++ [10]).length = b.length + 1 := by simp
  rw [bl_extract, bl_extract, e2, List.drop_zero, Nat.sub_zero]
  refine ⟨by rw [← hl, List.take_left], ?_⟩
  rw [← hl, List.drop_left]
  refine List.take_of_length_le ?_
  rw [← bl_size, e2, List.length_append]
  omega
set_option maxRecDepth 100000 in
set_option maxHeartbeats 3200000 in
theorem lines_in (n : Nat) (hn : 2 ≤ n) (l B : Nat) (s : ByteArray) (hz : s.size ≤ 1000000000) (J : List UInt8 → ByteArray → World → Prop) (Jx : World → Prop)
    (hBox : ∀ d t W, J d t W → RuleWord.Left B t W) (hSet : ∀ d t t' W, J d t W → J d t' (W.setCell ⟨B, 0, none⟩ (.string t')))
    (hDr : ∀ d t W, J d t W → J d t W.drew)
    (hY : ∀ d (line rest : ByteArray) W, bl s = d ++ (bl line ++ bl rest) → LineAt (bl line) (bl rest) → J d rest W → YieldAt Fence.wide (n - 1) Tryd.prog l #[.string line] W fun e W' =>
      (e = .returned (.bool true) ∧ J (d ++ bl line) rest W') ∨ (e = .returned (.bool false) ∧ Jx W'))
    (W : World) (h0 : J [] s W) : CallsIn Fence.wide n Tryd.prog 50 #[.func (.yield l) #[] #[], .pointer (some ⟨B, 0, none⟩)] W (LinesPost s J Jx) := by
  have h1 : 1 ≤ n - 1 := by omega
  refine callsIn_of_wp Tryd.func50 rfl trivial ?_ rfl
  simp only [Tryd.ntmps50, List.size_toArray, List.length_cons, List.length_nil, Nat.reduceAdd, Nat.reduceSub, Array.replicate_succ, Array.replicate_zero, List.push_toArray, List.append_toArray, List.nil_append, List.cons_append]
  gi_wp2
  gi_loopw [3, 4] (fun y z wr => y = y ∧ z = z ∧ ∃ (d : List UInt8) (t : ByteArray), bl s = d ++ bl t ∧ J d t wr) (fun _ _ wr => leftLen B wr)
  case atStart => exact ⟨rfl, rfl, [], s, rfl, h0⟩
  case round =>
    obtain ⟨_, _, d, t, hd, hJ⟩ := hrel
    have hb := hBox d t wr hJ
    have hc := hb.at0.1
    have hf := hb.at0.2
    have HD := Lib.hid hd
    have HJ := Lib.hid hJ
    have HLB := Lib.hid (left_len hb)
    have HBOX := Lib.hid hBox
    clear hd hb hJ
    by_cases ht : t.size = 0
    · have hgt : ¬ (0 : Int) < (t.size : Int) := by omega
      have HT := Lib.hid (show bl t = [] from List.eq_nil_of_length_eq_zero (by rw [bl_size]; exact ht))
      clear ht
      gi_wp2
      go_end0
      exact ⟨⟨_, rfl⟩, Or.inl ⟨t, HT.out, by rw [HD.out, HT.out, List.append_nil]; exact HJ.out⟩⟩
    · have hgt : (0 : Int) < (t.size : Int) := by omega
      have hcall := (callsIn_wide (n := n - 1)).2 (Tryd.strings_IndexByte t 10 wr)
      have hix := idx_cases t
      rw [show ((10 : Int).toNat.toUInt8) = 10 from rfl] at hcall
      generalize Lib.indexByte t.data.toList 10 = o at *
      rcases hix with ⟨rfl, h10⟩ | ⟨k, rfl, hk, b, x, hb10, hbx, hbk⟩
      · have HL := Lib.hid (line_last h10 ht)
        clear h10 ht
        obtain ⟨fn, tmps, assign, body, hy, hR⟩ := hY d t ⟨#[]⟩ (wr.setCell ⟨B, 0, none⟩ (.string ⟨#[]⟩)) (by rw [HD.out]; simp [bl]) HL.out (hSet _ _ _ _ HJ.out)
        gi_wp2
        refine ⟨trivial, fun _ => (by omega), ?_⟩
        (with_reducible refine hcall.mono ?_)
        clear hcall
        rintro e W1 ⟨rfl, rfl⟩
        gi_wp2
        refine ⟨fun _ => (by omega), ?_⟩
        refine hR.mono ?_
        rintro e W3 (⟨rfl, hJ3⟩ | ⟨rfl, hJx3⟩)
        · have hb3 := HBOX.out _ _ _ hJ3
          have HLN := Lib.hid (left_len hb3)
          have HSZ := Lib.hid hgt
          gi_wp2
          go_roundw
          case rel => exact ⟨trivial, trivial, d ++ bl t, ⟨#[]⟩, by rw [HD.out]; simp [bl], hJ3⟩
          case measure => have h1 := HLN.out; have h2 := HLB.out; have h3 := HSZ.out; have h4 : (⟨#[]⟩ : ByteArray).size = 0 := rfl; rw [h1, h2, h4]; omega
        · gi_wp2
          refine bodyPost_ret (results_none rfl _ _ _) rfl ?_
          exact ⟨⟨_, rfl⟩, .inr hJx3⟩
      · have HL := Lib.hid (line_cut hbx hbk)
        have HBX := Lib.hid hbx
        have H10 := Lib.hid hb10
        have hle : t.size ≤ s.size := by rw [← bl_size t, ← bl_size s, HD.out, List.length_append]; omega
        have hk1 : wrap64 ((k : Int) + 1) = ((k + 1 : Nat) : Int) := by simp only [wrap64]; omega
        clear hb10 hbx hbk ht
        obtain ⟨fn, tmps, assign, body, hy, hR⟩ := hY d (t.extract 0 (k + 1)) (t.extract (k + 1) t.size) (wr.setCell ⟨B, 0, none⟩ (.string (t.extract (k + 1) t.size))).drew (by rw [HD.out, HL.out.1, HL.out.2, HBX.out]; simp) (Or.inl ⟨b, H10.out, HL.out.1⟩) (hDr _ _ _ (hSet _ _ _ _ HJ.out))
        gi_wp2
        refine ⟨trivial, fun _ => (by omega), ?_⟩
        (with_reducible refine hcall.mono ?_)
        clear hcall
        rintro e W1 ⟨rfl, rfl⟩
        gi_wp2
        gi_region
        all_goals gi_wp2
        all_goals refine ⟨fun _ => (by omega), ?_⟩
        all_goals refine hR.mono ?_
        all_goals rintro e W3 (⟨rfl, hJ3⟩ | ⟨rfl, hJx3⟩)
        · have hb3 := HBOX.out _ _ _ hJ3
          have HLN := Lib.hid (left_len hb3)
          have HSZ := Lib.hid hk
          gi_wp2
          go_roundw
          case rel => exact ⟨trivial, trivial, _, _, by rw [HD.out, HL.out.1, HL.out.2, HBX.out]; simp, hJ3⟩
          case measure =>
            have h1 := HLN.out; have h2 := HLB.out; have h3 := HSZ.out
            have h4 := congrArg List.length HL.out.2
            have h5 := congrArg List.length HBX.out
            rw [bl_size] at h4 h5
            rw [List.length_append, List.length_cons] at h5
            rw [h1, h2]
            omega
        · gi_wp2
          refine bodyPost_ret (results_none rfl _ _ _) rfl ?_
          exact ⟨⟨_, rfl⟩, .inr hJx3⟩
theorem turn_put {F : Nat → Prop} (W : World) (l : Nat) (o : Obj) (h : F l) : Turn F W (W.putObj l o) :=
  ⟨rfl, rfl, rfl, by simp, fun k _ hn => World.putObj_heap_other (fun e => hn (by rw [e]; exact h))⟩
/-- how a round's body may be left -/
def RoundEnd (B D : Nat) (I : List UInt8 → World → Prop) (Ix : World → Prop) (d : List UInt8) (W : World) : Exit → Act → World → Prop
  | .normal, _, W' => (∀ k, k = B ∨ k = D ∨ k = D + 1 → W'.heap[k]? = W.heap[k]?) ∧ I d W'
  | .ret, _, W' => (∀ k, k = B ∨ k = D ∨ k = D + 1 → W'.heap[k]? = W.heap[k]?) ∧ Ix W'
  | _, _, _ => False
set_option maxHeartbeats 1600000 in
theorem range_lines {g : Operand} {ps : Array Tmp} {assign body : Code} {Q : Exit → Act → World → Prop} {a : Act} {w : World} {n : Nat} (hn : 3 ≤ n) {B : Nat} {s : ByteArray} (hz : s.size ≤ 1000000000)
    (hg : a.eval g = .func (.func 50) #[] #[.pointer (some ⟨B, 0, none⟩)]) (hps : ps.size = 1) (hL : RuleWord.Left B s w) (I : List UInt8 → World → Prop) (Ix : World → Prop)
    (hI : ∀ d W W', I d W → Turn (fun k => k = B ∨ k = w.heap.size ∨ k = w.heap.size + 1) W W' → I d W') (hIx : ∀ W W', Ix W → Turn (fun k => k = B ∨ k = w.heap.size ∨ k = w.heap.size + 1) W W' → Ix W')
    (h0 : I [] w) (a₁ : ByteArray → Act)
    (hassign : ∀ (l : Nat) (line : ByteArray) (W : World) (K : Act → World → Prop), K (a₁ line) W →
      assign.wpIn (Fence.wide.inRound l) (n - 1 - 1) Tryd.prog (Exit.then K (fun _ _ _ => False)) { tmps := (ps.zip #[Value.string line]).foldl (fun t (p, v) => t.setIfInBounds p v) a.tmps, defers := [] } W)
    (hbody : ∀ (d : List UInt8) (line rest : ByteArray) (W : World), bl s = d ++ (bl line ++ bl rest) → LineAt (bl line) (bl rest) → I d W → w.heap.size + 1 < W.heap.size →
      body.wpIn (Fence.wide.inRound (w.heap.size + 1)) (n - 1 - 1) Tryd.prog (RoundEnd B w.heap.size I Ix (d ++ bl line) W) (a₁ line) W)
    (hdone : ∀ (W : World), I (bl s) W → W.heap[w.heap.size]? = some (.deferred (some [])) → Q .normal { a with defers := { target := .collected w.heap.size, args := #[] } :: a.defers } W)
    (hstop : ∀ (W : World), Ix W → W.heap[w.heap.size]? = some (.deferred (some [])) → Code.ret.wpIn Fence.wide n Tryd.prog Q { a with defers := { target := .collected w.heap.size, args := #[] } :: a.defers } W) :
    (Code.rangeFunc g ps assign body).wpIn Fence.wide n Tryd.prog Q a w := by
  have hB := heap_lt hL
  refine wpIn_rangeFunc ?_
  intro fn hfn
  rw [show Fence.wide.round = none from rfl]
  obtain ⟨rec, hrec⟩ : ∃ rec : LoopState → Option Code → Loop, rec = fun st pe => { state := st, pending := pe, fn, tmps := a.tmps, params := ps, assign, body, defers := w.heap.size } := ⟨_, rfl⟩
  obtain ⟨W1, hW1⟩ : ∃ W1, (w.alloc (.deferred (some []))).alloc (.loop (rec .ready none)) = W1 := ⟨_, rfl⟩
  have hL1 : W1.heap[w.heap.size + 1]? = some (.loop (rec .ready none)) := by
    rw [← hW1]; have := World.alloc_heap_new (w.alloc (.deferred (some []))) (.loop (rec .ready none)); rwa [World.size_alloc] at this
  have hK1 : W1.heap[w.heap.size]? = some (.deferred (some [])) := by
    rw [← hW1]; exact (Below.heap_alloc _ _ _ (by simp)).trans (World.alloc_heap_new w _)
  have hT1 : Below w.heap.size w W1 := by rw [← hW1]; exact Below.step (al _ _) (al _ _)
  have hI1 : I [] W1 := hI _ _ _ h0 (Turn.ofBelow hT1)
  refine ⟨w.heap.size + 1, [{ target := .collected w.heap.size, args := #[] }], W1, { target := .fn (.func 50) #[.pointer (some ⟨B, 0, none⟩)], args := #[.func (.yield (w.heap.size + 1)) #[] #[]] }, W1, 50,
    #[.func (.yield (w.heap.size + 1)) #[] #[]] ++ #[.pointer (some ⟨B, 0, none⟩)], W1, ?_, ?_, ?_, ?_, fun _ => (by omega), ?_⟩
  · rw [← hW1, hrec]; exact run_enterLoop_outer _ _ _ _ _
  · simp only [resolve, hg]
    simp [go_sem]
  · intro f' _; trivial
  · simp [invoke, go_sem]
  · refine (lines_in (n - 1) (by omega) (w.heap.size + 1) B s hz
      (fun d t W => I d W ∧ RuleWord.Left B t W ∧ W.heap[w.heap.size + 1]? = some (.loop (rec .ready none)) ∧ W.heap[w.heap.size]? = some (.deferred (some [])))
      (fun W => Ix W ∧ W.heap[w.heap.size + 1]? = some (.loop (rec .done (some .ret))) ∧ W.heap[w.heap.size]? = some (.deferred (some [])))
      (fun d t W h => h.2.1)
      (fun d t t' W h => ⟨hI _ _ _ h.1 (Turn.set (Turn.refl _ W) ⟨B, 0, none⟩ (.inr (.inl rfl)) _), h.2.1.set t', (Below.heap_setCell _ _ _ _ (show w.heap.size + 1 ≠ B by omega)).trans h.2.2.1, (Below.heap_setCell _ _ _ _ (show w.heap.size ≠ B by omega)).trans h.2.2.2⟩)
      (fun d t W h => ⟨hI _ _ _ h.1 (Turn.refl _ W).drew, h.2⟩)
      ?_ W1 ⟨hI1, hL.later hT1, hL1, hK1⟩).mono ?_
    · rintro d line rest W hd hl ⟨hi, hb, hl0, hk⟩
      have hlt : w.heap.size + 1 < W.heap.size := heap_lt hl0
      have hy := run_yield (P := Tryd.prog) (args := #[Value.string line]) hl0 (by rw [hrec]; simp [hps])
      rw [hrec] at hy
      refine ⟨fn, _, assign, body, hy, roundIn_of_wpIn hfn (hassign _ line W _ ⟨_, run_beginRound hl0 (by rw [hrec]), ?_⟩)⟩
      obtain ⟨W2, hW2⟩ : ∃ W2, W2 = W.putObj (w.heap.size + 1) (.loop { rec .ready none with state := .busy }) := ⟨_, rfl⟩
      have hl2 : W2.heap[w.heap.size + 1]? = some (.loop { rec .ready none with state := .busy }) := by rw [hW2]; exact World.putObj_heap_same hlt
      have hk2 : W2.heap[w.heap.size]? = some (.deferred (some [])) := by rw [hW2]; exact (World.putObj_heap_other (by omega)).trans hk
      have hb2 : RuleWord.Left B rest W2 := by rw [hW2]; exact (World.putObj_heap_other (by omega)).trans hb
      have hi2 : I d W2 := by rw [hW2]; exact hI _ _ _ hi (turn_put _ _ _ (.inr (.inr rfl)))
      rw [← hW2]
      refine wpIn_mono (hbody d line rest W2 hd hl hi2 (by rw [hW2]; simpa using hlt)) ?_
      rintro e a3 W3 hp
      cases e with
      | normal =>
        obtain ⟨hkp, hi3⟩ := hp
        have hl3 := (hkp _ (.inr (.inr rfl))).trans hl2
        have hr := run_endRound (P := Tryd.prog) none hl3
        rw [hrec] at hr
        refine ⟨_, _, hr, .inl ⟨rfl, hI _ _ _ hi3 (turn_put _ _ _ (.inr (.inr rfl))), (World.putObj_heap_other (by omega)).trans ((hkp _ (.inl rfl)).trans hb2), ?_, (World.putObj_heap_other (by omega)).trans ((hkp _ (.inr (.inl rfl))).trans hk2)⟩⟩
        rw [hrec]
        exact World.putObj_heap_same (heap_lt hl3)
      | ret =>
        obtain ⟨hkp, hi3⟩ := hp
        have hl3 := (hkp _ (.inr (.inr rfl))).trans hl2
        have hr := run_endRound (P := Tryd.prog) (some .ret) hl3
        rw [hrec] at hr
        refine ⟨_, _, hr, .inr ⟨rfl, hIx _ _ hi3 (turn_put _ _ _ (.inr (.inr rfl))), ?_, (World.putObj_heap_other (by omega)).trans ((hkp _ (.inr (.inl rfl))).trans hk2)⟩⟩
        rw [hrec]
        exact World.putObj_heap_same (heap_lt hl3)
      | exit id => exact hp.elim
      | goto t => exact hp.elim
      | panic ch => exact hp.elim
      | outgrown => exact hp.elim
    · rintro e W2 ⟨⟨v, rfl⟩, (⟨t, _, hi, _, hl, hk⟩ | ⟨hi, hl, hk⟩)⟩
      · exact ⟨none, _, by have := run_endLoop (P := Tryd.prog) hl (by rw [hrec]; simp); rw [hrec] at this; exact this, hdone _ (hI _ _ _ hi (turn_put _ _ _ (.inr (.inr rfl)))) ((World.putObj_heap_other (by omega)).trans hk)⟩
      · exact ⟨some .ret, _, by have := run_endLoop (P := Tryd.prog) hl (by rw [hrec]; simp); rw [hrec] at this; exact this, hstop _ (hIx _ _ hi (turn_put _ _ _ (.inr (.inr rfl)))) ((World.putObj_heap_other (by omega)).trans hk)⟩
end Go.Proofs.YtkmnbdomikpakaaDoor.RuleIter
