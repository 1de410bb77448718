/- Inv, Frames. -/
import Derived.Test.YtilcnhdfdgmekaaGreatKReg
import Derived.RegionTactic
namespace Go.Proofs.YtilcnhdfdgmekaaGreat.Inv
open Go.RowKit Base

section
variable {P : Program} {md : Region.Mode} {ops : Array Oper} {Q : Exit → Act → World → Prop}
def dstOf (ops : Array Oper) (i : Nat) : Option Tmp := (ops[i]?).bind (·.dst)
/-- i waits for j -/
def dep (md : Region.Mode) (ops : Array Oper) (i j : Nat) : Bool := match ops[i]? with
  | none => false
  | some o => o.after.any fun e => Region.binds md e && e.on == j
def good (md : Region.Mode) (ops : Array Oper) (n : Nat) : Bool := (List.range ops.size).all fun i => match ops[i]? with
  | none => true
  | some o => (o.after.all fun e => !Region.binds md e || decide (e.on < i)) && match o.dst with
    | none => true
    | some d => decide (d < n) && (List.range ops.size).all fun j => j == i || (dstOf ops j != some d)
/-- z comes last -/
def lastly (md : Region.Mode) (ops : Array Oper) (z : Nat) : Bool := decide (ops.size ≤ z) || (List.range ops.size).all fun j => j == z || dep md ops z j
/-- no operation names slot t -/
def fixed (ops : Array Oper) (t : Tmp) : Bool := (List.range ops.size).all fun j => dstOf ops j != some t
/-- the frame, but for the slots that the region names -/
structure Fr (ops : Array Oper) (a0 a : Act) : Prop where
  size : a.tmps.size = a0.tmps.size
  defers : a.defers = a0.defers
  slot : ∀ t, fixed ops t = true → a.tmps.getD t undef = a0.tmps.getD t undef
theorem Fr.put {a0 a : Act} (h : Fr ops a0 a) {i : Nat} {o : Oper} (ho : ops[i]? = some o) (v : Value) : Fr ops a0 (a.put o.dst v) := by
  cases hd : o.dst with
  | none => exact h
  | some d =>
    refine ⟨by simp [Act.put, h.size], h.defers, fun t ht => ?_⟩
    have hne : d ≠ t := by
      rintro rfl
      simp only [fixed, List.all_eq_true, List.mem_range, bne_iff_ne] at ht
      have hi : i < ops.size := by
        rcases Nat.lt_or_ge i ops.size with q | q
        · exact q
        · rw [Array.getElem?_eq_none q] at ho; cases ho
      exact ht i hi (by simp [dstOf, ho, hd])
    rw [← h.slot t ht]
    simp only [Act.put]
    rw [Array.getD_eq_getD_getElem?, Array.getD_eq_getD_getElem?, Array.getElem?_setIfInBounds_ne hne]
theorem slot_put {a : Act} {d : Tmp} {v : Value} (h : d < a.tmps.size) : (a.put (some d) v).tmps.getD d undef = v := by
  simp only [Act.put]
  rw [Array.getD_eq_getD_getElem?, Array.getElem?_setIfInBounds_self_of_lt h]
  rfl
theorem slot_put_ne {a : Act} {d t : Tmp} {v : Value} (h : d ≠ t) : (a.put (some d) v).tmps.getD t undef = a.tmps.getD t undef := by
  simp only [Act.put]
  rw [Array.getD_eq_getD_getElem?, Array.getD_eq_getD_getElem?, Array.getElem?_setIfInBounds_ne h]

variable (Φ : Nat → Value → World → Prop) (J : World → Prop) (a0 : Act) (z : Nat)
/-- what holds between two operations -/
def Mid (_md : Region.Mode) (ops : Array Oper) (Q : Exit → Act → World → Prop) (listed : Array Bool) (a : Act) (w : World) : Prop :=
  if listed.getD z false = true then (∀ i < ops.size, listed.getD i false = true) ∧ Q .normal a w
  else J w ∧ Fr ops a0 a ∧ ∀ i, listed.getD i false = true → ∀ d, dstOf ops i = some d → Φ i (a.tmps.getD d undef) w
theorem inv_go (hg : good md ops a0.tmps.size = true) (hz : lastly md ops z = true)
    (mono : ∀ j v w w', Φ j v w → Below w.heap.size w w' → Φ j v w')
    (step : ∀ i o, ops[i]? = some o → i ≠ z → ∀ a w, J w → Fr ops a0 a → (∀ j, dep md ops i j = true → ∀ d, dstOf ops j = some d → Φ j (a.tmps.getD d undef) w) →
      ∀ K : Act → World → Prop, (∀ v w', J w' → Below w.heap.size w w' → Φ i v w' → K (a.put o.dst v) w') → if Region.wanted o (yielded ops a.tmps) = true then Oper.wp P o a w K Q else K (a.put o.dst undef) w)
    (last : ∀ o, ops[z]? = some o → ∀ a w, J w → Fr ops a0 a → (∀ j, j ≠ z → ∀ d, dstOf ops j = some d → Φ j (a.tmps.getD d undef) w) →
      ∀ K : Act → World → Prop, (∀ a' w', Q .normal a' w' → K a' w') → if Region.wanted o (yielded ops a.tmps) = true then Oper.wp P o a w K Q else K (a.put o.dst undef) w)
    (fin : ops.size ≤ z → ∀ a w, J w → Fr ops a0 a → (∀ j d, dstOf ops j = some d → Φ j (a.tmps.getD d undef) w) → Q .normal a w) :
    ∀ (f : Nat) (listed : Array Bool) (a : Act) (w : World), listed.size = ops.size → listed.toList.count false ≤ f → Mid Φ J a0 z md ops Q listed a w → wpAny P md ops Q f listed a w := by
  have hall : ∀ (listed : Array Bool) (a : Act) (w : World), listed.size = ops.size → (∀ i < ops.size, listed.getD i false = true) → Mid Φ J a0 z md ops Q listed a w → Region.ready md ops listed = [] ∧ Q .normal a w := by
    intro listed a w hsz hl h
    constructor
    · rw [Region.ready, List.filter_eq_nil_iff]
      intro i hi
      have := hl i (by simpa using hi)
      rw [Array.getD_eq_getD_getElem?] at this
      rw [Array.getD_eq_getD_getElem?]
      cases e : listed[i]? with
      | none => rw [e] at this; cases this
      | some b => rw [e] at this; simp at this; simp [this]
    · unfold Mid at h
      split at h
      · exact h.2
      · rename_i hn
        refine fin ?_ a w h.1 h.2.1 fun j d hd => h.2.2 j (hl j ?_) d hd
        · rcases Nat.lt_or_ge z ops.size with q | q
          · exact absurd (hl z q) hn
          · exact q
        · rcases Nat.lt_or_ge j ops.size with q | q
          · exact q
          · simp [dstOf, Array.getElem?_eq_none q] at hd
  have hdown : ∀ (listed : Array Bool), Region.ready md ops listed = [] → ∀ i, i < ops.size → listed.size = ops.size → listed.getD i false = true := by
    intro listed hr i
    induction i using Nat.strongRecOn with
    | _ i ih =>
      intro hi hsz
      rcases hb : listed.getD i false with _ | _
      · exfalso
        have hm : i ∈ Region.ready md ops listed := by
          rw [mem_ready]
          have h1 : listed.getD i true = false := by
            rw [Array.getD_eq_getD_getElem?] at hb ⊢
            rw [Array.getElem?_eq_getElem (by omega)] at hb ⊢
            exact hb
          refine ⟨h1, ops[i], Array.getElem?_eq_getElem hi, fun e he hbi => ?_⟩
          simp only [good, List.all_eq_true, List.mem_range] at hg
          have h2 := hg i hi
          rw [Array.getElem?_eq_getElem hi] at h2
          simp only [Bool.and_eq_true, Array.all_eq_true'] at h2
          have h3 := h2.1 e he
          rw [hbi] at h3
          have h4 : e.on < i := by simpa using h3
          exact ih e.on h4 (by omega) hsz
        rw [hr] at hm
        cases hm
      · rfl
  intro f
  induction f with
  | zero =>
    intro listed a w hsz hc h
    refine hall listed a w hsz (fun i hi => ?_) h
    rcases hb : listed.getD i false with _ | _
    · exfalso
      rw [Array.getD_eq_getD_getElem?, Array.getElem?_eq_getElem (by omega)] at hb
      have : false ∈ listed.toList := by
        rw [List.mem_iff_getElem]
        exact ⟨i, by simpa using (show i < listed.size by omega), by simpa using hb⟩
      have := List.count_pos_iff.2 this
      omega
    · rfl
  | succ f ih =>
    intro listed a w hsz hc h
    refine ⟨fun hr => (hall listed a w hsz (fun i hi => hdown listed hr i hi hsz) h).2, fun i hi => ?_⟩
    obtain ⟨hun, o, ho, hdeps⟩ := mem_ready.1 hi
    have hil : i < listed.size := by
      rcases Nat.lt_or_ge i listed.size with q | q
      · exact q
      · rw [Array.getD_eq_getD_getElem?, Array.getElem?_eq_none q] at hun; cases hun
    have hli : listed[i] = false := by
      rw [Array.getD_eq_getD_getElem?, Array.getElem?_eq_getElem hil] at hun; exact hun
    have hfalse : listed.getD i false = false := by
      rw [Array.getD_eq_getD_getElem?, Array.getElem?_eq_getElem hil]; exact hli
    have hcount : (listed.setIfInBounds i true).toList.count false ≤ f := by
      rw [Array.toList_setIfInBounds, List.count_set (by simpa using hil)]
      have : (listed.toList[i]'(by simpa using hil)) = false := by simpa using hli
      rw [this]
      have hp : 0 < listed.toList.count false := List.count_pos_iff.2 (List.mem_iff_getElem.2 ⟨i, by simpa using hil, this⟩)
      show listed.toList.count false - 1 + 0 ≤ f
      omega
    have hnz : ¬ listed.getD z false = true := by
      intro q
      unfold Mid at h
      rw [if_pos q] at h
      have := h.1 i (by omega)
      rw [hfalse] at this
      cases this
    unfold Mid at h
    rw [if_neg hnz] at h
    obtain ⟨hJ, hF, hΦ⟩ := h
    have hset : ∀ j, (listed.setIfInBounds i true).getD j false = if j = i then true else listed.getD j false := by
      intro j
      rw [Array.getD_eq_getD_getElem?, Array.getD_eq_getD_getElem?]
      by_cases e : j = i
      · subst e; rw [if_pos rfl, Array.getElem?_setIfInBounds_self_of_lt hil]; rfl
      · rw [if_neg e, Array.getElem?_setIfInBounds_ne (Ne.symm e)]
    by_cases hzi : i = z
    · subst hzi
      have hothers : ∀ j, j < ops.size → j ≠ i → listed.getD j false = true := by
        intro j hj hji
        simp only [lastly, Bool.or_eq_true, decide_eq_true_eq, List.all_eq_true, List.mem_range] at hz
        rcases hz with q | q
        · omega
        · have h1 := q j hj
          simp only [beq_iff_eq, hji, false_or, dep, ho, Array.any_eq_true', Bool.and_eq_true] at h1
          obtain ⟨e, he, hb, rfl⟩ := h1
          exact hdeps e he hb
      refine wpOp_step ho fun K hK => ?_
      refine last o ho a w hJ hF (fun j hj d hd => hΦ j (hothers j ?_ hj) d hd) K fun a' w' hq => hK _ _ (ih _ a' w' (by simpa using hsz) hcount ?_)
      · rcases Nat.lt_or_ge j ops.size with q | q
        · exact q
        · simp [dstOf, Array.getElem?_eq_none q] at hd
      · unfold Mid
        rw [if_pos (by rw [hset, if_pos rfl])]
        refine ⟨fun j hj => ?_, hq⟩
        rw [hset]
        by_cases e : j = i
        · rw [if_pos e]
        · rw [if_neg e]; exact hothers j hj e
    · refine wpOp_step ho fun K hK => ?_
      refine step i o ho hzi a w hJ hF (fun j hj d hd => hΦ j ?_ d hd) K fun v w' hJ' hb hv => hK _ _ (ih _ _ w' (by simpa using hsz) hcount ?_)
      · simp only [dep, ho, Array.any_eq_true', Bool.and_eq_true, beq_iff_eq] at hj
        obtain ⟨e, he, hbi, rfl⟩ := hj
        exact hdeps e he hbi
      · unfold Mid
        rw [if_neg (by rw [hset, if_neg (fun q => hzi q.symm)]; exact hnz)]
        refine ⟨hJ', hF.put ho v, fun j hj d hd => ?_⟩
        rw [hset] at hj
        have hgi := hg
        simp only [good, List.all_eq_true, List.mem_range] at hgi
        have hio : i < ops.size := by omega
        have h2 := hgi i hio
        rw [ho] at h2
        simp only [Bool.and_eq_true] at h2
        by_cases e : j = i
        · subst e
          have hod : o.dst = some d := by simpa [dstOf, ho] using hd
          rw [hod] at h2 ⊢
          simp only [Bool.and_eq_true, decide_eq_true_eq] at h2
          rw [slot_put (by rw [hF.size]; exact h2.2.1)]
          exact hv
        · rw [if_neg e] at hj
          have hold := mono j _ w w' (hΦ j hj d hd) hb
          cases hod : o.dst with
          | none => exact hold
          | some d' =>
            rw [hod] at h2
            simp only [Bool.and_eq_true, decide_eq_true_eq, List.all_eq_true, List.mem_range, Bool.or_eq_true, beq_iff_eq, bne_iff_ne] at h2
            have hjs : j < ops.size := by
              rcases Nat.lt_or_ge j ops.size with q | q
              · exact q
              · simp [dstOf, Array.getElem?_eq_none q] at hd
            have h3 := (h2.2.2 j hjs).resolve_left e
            rw [slot_put_ne (fun q => h3 (by rw [hd, q]))]
            exact hold
/-- one operation's step -/
def StepP (P : Program) (md : Region.Mode) (ops : Array Oper) (Q : Exit → Act → World → Prop) (i : Nat) (o : Oper) : Prop :=
  i ≠ z → ∀ a w, J w → Fr ops a0 a → (∀ j, dep md ops i j = true → ∀ d, dstOf ops j = some d → Φ j (a.tmps.getD d undef) w) →
      ∀ K : Act → World → Prop, (∀ v w', J w' → Below w.heap.size w w' → Φ i v w' → K (a.put o.dst v) w') → if Region.wanted o (yielded ops a.tmps) = true then Oper.wp P o a w K Q else K (a.put o.dst undef) w
def From (P : Program) (md : Region.Mode) (ops : Array Oper) (Q : Exit → Act → World → Prop) (k : Nat) : Prop := ∀ i, k ≤ i → ∀ o, ops[i]? = some o → StepP Φ J a0 z P md ops Q i o
theorem from_cons {k : Nat} {o : Oper} (ho : ops[k]? = some o) (h : StepP Φ J a0 z P md ops Q k o) (hs : From Φ J a0 z P md ops Q (k + 1)) : From Φ J a0 z P md ops Q k := fun i hi o' ho' => by
  by_cases e : i = k
  · subst e; rw [ho] at ho'; injection ho' with ho'; subst ho'; exact h
  · exact hs i (by omega) o' ho'
theorem from_skip {k : Nat} (hz : k = z) (hs : From Φ J a0 z P md ops Q (k + 1)) : From Φ J a0 z P md ops Q k := fun i hi o' ho' => by
  by_cases e : i = k
  · exact fun q => absurd (e.trans hz) q
  · exact hs i (by omega) o' ho'
theorem from_end {k : Nat} (h : ops.size ≤ k) : From Φ J a0 z P md ops Q k := fun i hi o' ho' => by
  rw [Array.getElem?_eq_none (by omega)] at ho'; cases ho'
theorem inv_any {f : Nat} {listed : Array Bool} {w : World} (n : Nat) (hn : a0.tmps.size = n) (hf : listed = Array.replicate ops.size false) (hf2 : f = ops.size) (hg : good md ops n = true) (hz : lastly md ops z = true) (hJ : J w)
    (mono : ∀ j v w w', Φ j v w → Below w.heap.size w w' → Φ j v w')
    (step : From Φ J a0 z P md ops Q 0)
    (last : ∀ o, ops[z]? = some o → ∀ a w, J w → Fr ops a0 a → (∀ j, j ≠ z → ∀ d, dstOf ops j = some d → Φ j (a.tmps.getD d undef) w) →
      ∀ K : Act → World → Prop, (∀ a' w', Q .normal a' w' → K a' w') → if Region.wanted o (yielded ops a.tmps) = true then Oper.wp P o a w K Q else K (a.put o.dst undef) w)
    (fin : ops.size ≤ z → ∀ a w, J w → Fr ops a0 a → (∀ j d, dstOf ops j = some d → Φ j (a.tmps.getD d undef) w) → Q .normal a w) : wpAny P md ops Q f listed a0 w := by
  subst hf hf2 hn
  have hnone : ∀ i, (Array.replicate ops.size false).getD i false = false := by
    intro i
    rw [Array.getD_eq_getD_getElem?]
    rcases Nat.lt_or_ge i ops.size with q | q
    · rw [Array.getElem?_eq_getElem (by simpa using q)]; simp
    · rw [Array.getElem?_eq_none (by simpa using q)]; rfl
  refine inv_go Φ J a0 z hg hz mono (fun i o ho hi a w => step i (Nat.zero_le _) o ho hi a w) last fin ops.size _ a0 w (by simp) (Nat.le_trans List.count_le_length (by simp)) ?_
  unfold Mid
  rw [if_neg (by rw [hnone]; simp)]
  exact ⟨hJ, ⟨rfl, rfl, fun _ _ => rfl⟩, fun i hi => by rw [hnone] at hi; cases hi⟩
end
end Go.Proofs.YtilcnhdfdgmekaaGreat.Inv
namespace Go.Proofs.YtilcnhdfdgmekaaGreat.Frames
open Go.RowKit

theorem frame {a : Act} {n : Nat} {f : Nat → Value} (h : a.tmps.size = n) (hd : a.defers = []) (hf : ∀ i, a.tmps.getD i undef = f i) {l : List Value} (hl : (List.range n).map f = l) : a = ⟨l.toArray, []⟩ := by
  obtain ⟨t, ds⟩ := a
  dsimp only at h hd hf
  subst hd hl h
  have e : t = ((List.range t.size).map f).toArray := by
    refine Array.ext (by simp) fun i h1 h2 => ?_
    have h3 := hf i
    rw [Array.getD_eq_getD_getElem?, Array.getElem?_eq_getElem h1] at h3
    simpa using h3
  rw [← e]
end Go.Proofs.YtilcnhdfdgmekaaGreat.Frames
