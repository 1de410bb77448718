/- Inv2, InvT. -/
import Derived.Test.YtilcnhdfdgmekaaGreatKFrames
namespace Go.Proofs.YtilcnhdfdgmekaaGreat.Inv2
open Go.RowKit Base
open _root_.Go.Proofs.YtilcnhdfdgmekaaGreat.Inv

theorem some_slot {a : Act} {t : Tmp} {v : Value} (h : t < a.tmps.size) (e : a.tmps.getD t undef = v) : a.tmps[t]? = some v := by
  rw [Array.getElem?_eq_getElem h, ← e, Array.getD_eq_getD_getElem?, Array.getElem?_eq_getElem h]
  rfl
section
variable {P : Program} {md : Region.Mode} {ops : Array Oper} {Q : Exit → Act → World → Prop}
/-- i is done, too -/
def upd (l : Nat → Bool) (i : Nat) : Nat → Bool := fun j => Nat.beq j i || l j
/-- what is done was done behind what it waits for -/
def Down (md : Region.Mode) (ops : Array Oper) (l : Nat → Bool) : Prop := ∀ j k, l j = true → dep md ops j k = true → l k = true
theorem Down.no {l : Nat → Bool} (h : Down md ops l) {j k : Nat} (hk : l k = false) (hd : dep md ops j k = true) : l j = false := by
  cases e : l j with
  | false => rfl
  | true => rw [h j k e hd] at hk; cases hk
variable (Φ : Nat → Value → Prop) (J : (Nat → Bool) → Act → World → Prop) (a0 : Act)
structure Mid (md : Region.Mode) (ops : Array Oper) (listed : Array Bool) (a : Act) (w : World) : Prop where
  j : J (fun i => listed.getD i false) a w
  fr : Fr ops a0 a
  ph : ∀ i, listed.getD i false = true → ∀ d, dstOf ops i = some d → Φ i (a.tmps.getD d undef)
  down : Down md ops (fun i => listed.getD i false)
def StepP (P : Program) (md : Region.Mode) (ops : Array Oper) (Q : Exit → Act → World → Prop) (i : Nat) (o : Oper) : Prop :=
  ∀ (l : Nat → Bool) a w, l i = false → Down md ops l → J l a w → Fr ops a0 a → (∀ j, dep md ops i j = true → l j = true ∧ ∀ d, dstOf ops j = some d → Φ j (a.tmps.getD d undef)) →
      ∀ K : Act → World → Prop, (∀ v w', Φ i v → J (upd l i) (a.put o.dst v) w' → K (a.put o.dst v) w') → if Region.wanted o (yielded ops a.tmps) = true then Oper.wp P o a w K Q else K (a.put o.dst undef) w
theorem inv_go (hg : good md ops a0.tmps.size = true)
    (step : ∀ i o, ops[i]? = some o → StepP Φ J a0 P md ops Q i o)
    (fin : ∀ a w, J (fun i => decide (i < ops.size)) a w → Fr ops a0 a → (∀ j d, dstOf ops j = some d → Φ j (a.tmps.getD d undef)) → Q .normal a w) :
    ∀ (f : Nat) (listed : Array Bool) (a : Act) (w : World), listed.size = ops.size → listed.toList.count false ≤ f → Mid Φ J a0 md ops listed a w → wpAny P md ops Q f listed a w := by
  have hall : ∀ (listed : Array Bool) (a : Act) (w : World), listed.size = ops.size → (∀ i < ops.size, listed.getD i false = true) → Mid Φ J a0 md ops listed a w → Q .normal a w := by
    intro listed a w hsz hl h
    have e : (fun i => listed.getD i false) = fun i => decide (i < ops.size) := by
      funext i
      by_cases q : i < ops.size
      · rw [hl i q, decide_eq_true q]
      · rw [decide_eq_false q, Array.getD_eq_getD_getElem?, Array.getElem?_eq_none (by omega)]; rfl
    have hj := h.j
    rw [e] at hj
    refine fin a w hj h.fr fun j d hd => h.ph j (hl j ?_) d hd
    rcases Nat.lt_or_ge j ops.size with q | q
    · exact q
    · simp [dstOf, Array.getElem?_eq_none q] at hd
  have hdown : ∀ (listed : Array Bool), Region.ready md ops listed = [] → ∀ i, i < ops.size → listed.size = ops.size → listed.getD i false = true := by
    intro listed hr i
    induction i using Nat.strongRecOn with
    | _ i ih =>
      intro hi hsz
      rcases hb : listed.getD i false with _ | _
      · exfalso
        have hm : i ∈ Region.ready md ops listed := by
          rw [mem_ready]
          have h1 : listed.getD i true = false := by
            rw [Array.getD_eq_getD_getElem?] at hb ⊢
            rw [Array.getElem?_eq_getElem (by omega)] at hb ⊢
            exact hb
          refine ⟨h1, ops[i], Array.getElem?_eq_getElem hi, fun e he hbi => ?_⟩
          simp only [good, List.all_eq_true, List.mem_range] at hg
          have h2 := hg i hi
          rw [Array.getElem?_eq_getElem hi] at h2
          simp only [Bool.and_eq_true, Array.all_eq_true'] at h2
          have h3 := h2.1 e he
          rw [hbi] at h3
          have h4 : e.on < i := by simpa using h3
          exact ih e.on h4 (by omega) hsz
        rw [hr] at hm
        cases hm
      · rfl
  have hnil : ∀ (listed : Array Bool), listed.size = ops.size → (∀ i < ops.size, listed.getD i false = true) → Region.ready md ops listed = [] := by
    intro listed hsz hl
    rw [Region.ready, List.filter_eq_nil_iff]
    intro i hi
    have := hl i (by simpa using hi)
    rw [Array.getD_eq_getD_getElem?] at this
    rw [Array.getD_eq_getD_getElem?]
    cases e : listed[i]? with
    | none => rw [e] at this; cases this
    | some b => rw [e] at this; simp at this; simp [this]
  intro f
  induction f with
  | zero =>
    intro listed a w hsz hc h
    have hl : ∀ i < ops.size, listed.getD i false = true := by
      intro i hi
      rcases hb : listed.getD i false with _ | _
      · exfalso
        rw [Array.getD_eq_getD_getElem?, Array.getElem?_eq_getElem (by omega)] at hb
        have : false ∈ listed.toList := by
          rw [List.mem_iff_getElem]
          exact ⟨i, by simpa using (show i < listed.size by omega), by simpa using hb⟩
        have := List.count_pos_iff.2 this
        omega
      · rfl
    exact ⟨hnil listed hsz hl, hall listed a w hsz hl h⟩
  | succ f ih =>
    intro listed a w hsz hc h
    refine ⟨fun hr => hall listed a w hsz (fun i hi => hdown listed hr i hi hsz) h, fun i hi => ?_⟩
    obtain ⟨hun, o, ho, hdeps⟩ := mem_ready.1 hi
    have hil : i < listed.size := by
      rcases Nat.lt_or_ge i listed.size with q | q
      · exact q
      · rw [Array.getD_eq_getD_getElem?, Array.getElem?_eq_none q] at hun; cases hun
    have hli : listed[i] = false := by
      rw [Array.getD_eq_getD_getElem?, Array.getElem?_eq_getElem hil] at hun; exact hun
    have hfalse : listed.getD i false = false := by
      rw [Array.getD_eq_getD_getElem?, Array.getElem?_eq_getElem hil]; exact hli
    have hcount : (listed.setIfInBounds i true).toList.count false ≤ f := by
      rw [Array.toList_setIfInBounds, List.count_set (by simpa using hil)]
      have : (listed.toList[i]'(by simpa using hil)) = false := by simpa using hli
      rw [this]
      have hp : 0 < listed.toList.count false := List.count_pos_iff.2 (List.mem_iff_getElem.2 ⟨i, by simpa using hil, this⟩)
      show listed.toList.count false - 1 + 0 ≤ f
      omega
    have hset : ∀ j, (listed.setIfInBounds i true).getD j false = upd (fun j => listed.getD j false) i j := by
      intro j
      unfold upd
      rw [Array.getD_eq_getD_getElem?]
      by_cases e : j = i
      · subst e
        rw [Array.getElem?_setIfInBounds_self_of_lt hil, Nat.beq_refl]
        rfl
      · have hb : Nat.beq j i = false := by cases q : Nat.beq j i with | false => rfl | true => exact absurd (Nat.eq_of_beq_eq_true q) e
        rw [hb, Bool.false_or]
        simp only [Array.getD_eq_getD_getElem?]
        rw [Array.getElem?_setIfInBounds_ne (Ne.symm e)]
    have hdep : ∀ j, dep md ops i j = true → listed.getD j false = true := by
      intro j hj
      simp only [dep, ho, Array.any_eq_true', Bool.and_eq_true, beq_iff_eq] at hj
      obtain ⟨e, he, hbi, rfl⟩ := hj
      exact hdeps e he hbi
    refine wpOp_step ho fun K hK => ?_
    refine step i o ho _ a w hfalse h.down h.j h.fr (fun j hj => ⟨hdep j hj, h.ph j (hdep j hj)⟩) K fun v w' hv hJ' => hK _ _ (ih _ _ w' (by simpa using hsz) hcount ?_)
    have hl' : (fun j => (listed.setIfInBounds i true).getD j false) = upd (fun j => listed.getD j false) i := funext hset
    refine ⟨?_, h.fr.put ho v, fun j hj d hd => ?_, ?_⟩
    · rw [hl']; exact hJ'
    · rw [hset] at hj
      have hgi := hg
      simp only [good, List.all_eq_true, List.mem_range] at hgi
      have hio : i < ops.size := by omega
      have h2 := hgi i hio
      rw [ho] at h2
      simp only [Bool.and_eq_true] at h2
      by_cases e : j = i
      · subst e
        have hod : o.dst = some d := by simpa [dstOf, ho] using hd
        rw [hod] at h2 ⊢
        simp only [Bool.and_eq_true, decide_eq_true_eq] at h2
        rw [slot_put (by rw [h.fr.size]; exact h2.2.1)]
        exact hv
      · have hj' : listed.getD j false = true := by
          have hb : Nat.beq j i = false := by cases q : Nat.beq j i with | false => rfl | true => exact absurd (Nat.eq_of_beq_eq_true q) e
          unfold upd at hj
          rw [hb, Bool.false_or] at hj
          exact hj
        have hold := h.ph j hj' d hd
        cases hod : o.dst with
        | none => exact hold
        | some d' =>
          rw [hod] at h2
          simp only [Bool.and_eq_true, decide_eq_true_eq, List.all_eq_true, List.mem_range, Bool.or_eq_true, beq_iff_eq, bne_iff_ne] at h2
          have hjs : j < ops.size := by
            rcases Nat.lt_or_ge j ops.size with q | q
            · exact q
            · simp [dstOf, Array.getElem?_eq_none q] at hd
          have h3 := (h2.2.2 j hjs).resolve_left e
          rw [slot_put_ne (fun q => h3 (by rw [hd, q]))]
          exact hold
    · rw [hl']
      intro j k hj hd
      unfold upd at hj ⊢
      by_cases e : j = i
      · subst e
        show (Nat.beq k j || listed.getD k false) = true
        rw [hdep k hd, Bool.or_true]
      · have hb : Nat.beq j i = false := by cases q : Nat.beq j i with | false => rfl | true => exact absurd (Nat.eq_of_beq_eq_true q) e
        rw [hb, Bool.false_or] at hj
        show (Nat.beq k i || listed.getD k false) = true
        have := h.down j k hj hd
        dsimp only at this
        rw [this, Bool.or_true]
def From (P : Program) (md : Region.Mode) (ops : Array Oper) (Q : Exit → Act → World → Prop) (k : Nat) : Prop := ∀ i, k ≤ i → ∀ o, ops[i]? = some o → StepP Φ J a0 P md ops Q i o
theorem from_cons {k : Nat} {o : Oper} (ho : ops[k]? = some o) (h : StepP Φ J a0 P md ops Q k o) (hs : From Φ J a0 P md ops Q (k + 1)) : From Φ J a0 P md ops Q k := fun i hi o' ho' => by
  by_cases e : i = k
  · subst e; rw [ho] at ho'; injection ho' with ho'; subst ho'; exact h
  · exact hs i (by omega) o' ho'
theorem from_end {k : Nat} (h : ops.size ≤ k) : From Φ J a0 P md ops Q k := fun i hi o' ho' => by
  rw [Array.getElem?_eq_none (by omega)] at ho'; cases ho'
theorem inv_any {f : Nat} {listed : Array Bool} {w : World} (n : Nat) (hn : a0.tmps.size = n) (hf : listed = Array.replicate ops.size false) (hf2 : f = ops.size) (hg : good md ops n = true) (hJ : J (fun _ => false) a0 w)
    (step : From Φ J a0 P md ops Q 0)
    (fin : ∀ a w, J (fun i => decide (i < ops.size)) a w → Fr ops a0 a → (∀ j d, dstOf ops j = some d → Φ j (a.tmps.getD d undef)) → Q .normal a w) : wpAny P md ops Q f listed a0 w := by
  subst hf hf2 hn
  have hnone : ∀ i, (Array.replicate ops.size false).getD i false = false := by
    intro i
    rw [Array.getD_eq_getD_getElem?]
    rcases Nat.lt_or_ge i ops.size with q | q
    · rw [Array.getElem?_eq_getElem (by simpa using q)]; simp
    · rw [Array.getElem?_eq_none (by simpa using q)]; rfl
  have e : (fun i => (Array.replicate ops.size false).getD i false) = fun _ => false := funext hnone
  refine inv_go Φ J a0 hg (fun i o ho => step i (Nat.zero_le _) o ho) fin ops.size _ a0 w (by simp) (Nat.le_trans List.count_le_length (by simp)) ⟨?_, ⟨rfl, rfl, fun _ _ => rfl⟩, (fun i hi => by rw [hnone] at hi; cases hi), ?_⟩
  · rw [e]; exact hJ
  · rw [e]; intro j k hj; cases hj
end
end Go.Proofs.YtilcnhdfdgmekaaGreat.Inv2
namespace Go.Proofs.YtilcnhdfdgmekaaGreat.InvT
open Go.RowKit Base
open _root_.Go.Proofs.YtilcnhdfdgmekaaGreat.Inv

section
variable {P : Program} {md : Region.Mode} {ops : Array Oper} {Q : Exit → Act → World → Prop}
/-- i waits for j, by way of n others at most -/
def reach (md : Region.Mode) (ops : Array Oper) : Nat → Nat → Nat → Bool
  | 0, i, j => dep md ops i j
  | n + 1, i, j => dep md ops i j || (List.range ops.size).any fun k => dep md ops i k && reach md ops n k j
def lastT (md : Region.Mode) (ops : Array Oper) (z : Nat) : Bool := decide (ops.size ≤ z) || (List.range ops.size).all fun j => j == z || reach md ops 6 z j
/-- what is done was done behind what it waits for -/
def Dn (md : Region.Mode) (ops : Array Oper) (listed : Array Bool) : Prop := ∀ i j, listed.getD i false = true → dep md ops i j = true → listed.getD j false = true
theorem reach_dn {listed : Array Bool} (hD : Dn md ops listed) : ∀ {n i j : Nat}, (∀ k, dep md ops i k = true → listed.getD k false = true) → reach md ops n i j = true → listed.getD j false = true
  | 0, i, j, h, hr => h j hr
  | n + 1, i, j, h, hr => by
    rw [reach, Bool.or_eq_true, List.any_eq_true] at hr
    rcases hr with hr | ⟨k, _, hk⟩
    · exact h j hr
    · rw [Bool.and_eq_true] at hk
      exact reach_dn hD (fun y hy => hD k y (h k hk.1) hy) hk.2
variable (Φ : Nat → Value → World → Prop) (J : World → Prop) (a0 : Act) (z : Nat)
theorem inv_go (hg : good md ops a0.tmps.size = true) (hz : lastT md ops z = true)
    (mono : ∀ j v w w', Φ j v w → Below w.heap.size w w' → Φ j v w')
    (step : ∀ i o, ops[i]? = some o → i ≠ z → ∀ a w, J w → Fr ops a0 a → (∀ j, dep md ops i j = true → ∀ d, dstOf ops j = some d → Φ j (a.tmps.getD d undef) w) →
      ∀ K : Act → World → Prop, (∀ v w', J w' → Below w.heap.size w w' → Φ i v w' → K (a.put o.dst v) w') → if Region.wanted o (yielded ops a.tmps) = true then Oper.wp P o a w K Q else K (a.put o.dst undef) w)
    (last : ∀ o, ops[z]? = some o → ∀ a w, J w → Fr ops a0 a → (∀ j, j ≠ z → ∀ d, dstOf ops j = some d → Φ j (a.tmps.getD d undef) w) →
      ∀ K : Act → World → Prop, (∀ a' w', Q .normal a' w' → K a' w') → if Region.wanted o (yielded ops a.tmps) = true then Oper.wp P o a w K Q else K (a.put o.dst undef) w)
    (fin : ops.size ≤ z → ∀ a w, J w → Fr ops a0 a → (∀ j d, dstOf ops j = some d → Φ j (a.tmps.getD d undef) w) → Q .normal a w) :
    ∀ (f : Nat) (listed : Array Bool) (a : Act) (w : World), listed.size = ops.size → listed.toList.count false ≤ f → Mid Φ J a0 z md ops Q listed a w → Dn md ops listed → wpAny P md ops Q f listed a w := by
  have hall : ∀ (listed : Array Bool) (a : Act) (w : World), listed.size = ops.size → (∀ i < ops.size, listed.getD i false = true) → Mid Φ J a0 z md ops Q listed a w → Region.ready md ops listed = [] ∧ Q .normal a w := by
    intro listed a w hsz hl h
    constructor
    · rw [Region.ready, List.filter_eq_nil_iff]
      intro i hi
      have := hl i (by simpa using hi)
      rw [Array.getD_eq_getD_getElem?] at this
      rw [Array.getD_eq_getD_getElem?]
      cases e : listed[i]? with
      | none => rw [e] at this; cases this
      | some b => rw [e] at this; simp at this; simp [this]
    · unfold Mid at h
      split at h
      · exact h.2
      · rename_i hn
        refine fin ?_ a w h.1 h.2.1 fun j d hd => h.2.2 j (hl j ?_) d hd
        · rcases Nat.lt_or_ge z ops.size with q | q
          · exact absurd (hl z q) hn
          · exact q
        · rcases Nat.lt_or_ge j ops.size with q | q
          · exact q
          · simp [dstOf, Array.getElem?_eq_none q] at hd
  have hdown : ∀ (listed : Array Bool), Region.ready md ops listed = [] → ∀ i, i < ops.size → listed.size = ops.size → listed.getD i false = true := by
    intro listed hr i
    induction i using Nat.strongRecOn with
    | _ i ih =>
      intro hi hsz
      rcases hb : listed.getD i false with _ | _
      · exfalso
        have hm : i ∈ Region.ready md ops listed := by
          rw [mem_ready]
          have h1 : listed.getD i true = false := by
            rw [Array.getD_eq_getD_getElem?] at hb ⊢
            rw [Array.getElem?_eq_getElem (by omega)] at hb ⊢
            exact hb
          refine ⟨h1, ops[i], Array.getElem?_eq_getElem hi, fun e he hbi => ?_⟩
          simp only [good, List.all_eq_true, List.mem_range] at hg
          have h2 := hg i hi
          rw [Array.getElem?_eq_getElem hi] at h2
          simp only [Bool.and_eq_true, Array.all_eq_true'] at h2
          have h3 := h2.1 e he
          rw [hbi] at h3
          have h4 : e.on < i := by simpa using h3
          exact ih e.on h4 (by omega) hsz
        rw [hr] at hm
        cases hm
      · rfl
  intro f
  induction f with
  | zero =>
    intro listed a w hsz hc h _
    refine hall listed a w hsz (fun i hi => ?_) h
    rcases hb : listed.getD i false with _ | _
    · exfalso
      rw [Array.getD_eq_getD_getElem?, Array.getElem?_eq_getElem (by omega)] at hb
      have : false ∈ listed.toList := by
        rw [List.mem_iff_getElem]
        exact ⟨i, by simpa using (show i < listed.size by omega), by simpa using hb⟩
      have := List.count_pos_iff.2 this
      omega
    · rfl
  | succ f ih =>
    intro listed a w hsz hc h hD
    refine ⟨fun hr => (hall listed a w hsz (fun i hi => hdown listed hr i hi hsz) h).2, fun i hi => ?_⟩
    obtain ⟨hun, o, ho, hdeps⟩ := mem_ready.1 hi
    have hil : i < listed.size := by
      rcases Nat.lt_or_ge i listed.size with q | q
      · exact q
      · rw [Array.getD_eq_getD_getElem?, Array.getElem?_eq_none q] at hun; cases hun
    have hli : listed[i] = false := by
      rw [Array.getD_eq_getD_getElem?, Array.getElem?_eq_getElem hil] at hun; exact hun
    have hfalse : listed.getD i false = false := by
      rw [Array.getD_eq_getD_getElem?, Array.getElem?_eq_getElem hil]; exact hli
    have hcount : (listed.setIfInBounds i true).toList.count false ≤ f := by
      rw [Array.toList_setIfInBounds, List.count_set (by simpa using hil)]
      have : (listed.toList[i]'(by simpa using hil)) = false := by simpa using hli
      rw [this]
      have hp : 0 < listed.toList.count false := List.count_pos_iff.2 (List.mem_iff_getElem.2 ⟨i, by simpa using hil, this⟩)
      show listed.toList.count false - 1 + 0 ≤ f
      omega
    have hnz : ¬ listed.getD z false = true := by
      intro q
      unfold Mid at h
      rw [if_pos q] at h
      have := h.1 i (by omega)
      rw [hfalse] at this
      cases this
    unfold Mid at h
    rw [if_neg hnz] at h
    obtain ⟨hJ, hF, hΦ⟩ := h
    have hset : ∀ j, (listed.setIfInBounds i true).getD j false = if j = i then true else listed.getD j false := by
      intro j
      rw [Array.getD_eq_getD_getElem?, Array.getD_eq_getD_getElem?]
      by_cases e : j = i
      · subst e; rw [if_pos rfl, Array.getElem?_setIfInBounds_self_of_lt hil]; rfl
      · rw [if_neg e, Array.getElem?_setIfInBounds_ne (Ne.symm e)]
    have hDs : Dn md ops (listed.setIfInBounds i true) := fun x y hx hxy => by
      rw [hset] at hx ⊢
      by_cases e : y = i
      · rw [if_pos e]
      · rw [if_neg e]
        by_cases e2 : x = i
        · subst e2
          simp only [dep, ho, Array.any_eq_true', Bool.and_eq_true, beq_iff_eq] at hxy
          obtain ⟨e3, he, hbi, rfl⟩ := hxy
          exact hdeps e3 he hbi
        · rw [if_neg e2] at hx
          exact hD x y hx hxy
    by_cases hzi : i = z
    · subst hzi
      have hothers : ∀ j, j < ops.size → j ≠ i → listed.getD j false = true := by
        intro j hj hji
        simp only [lastT, Bool.or_eq_true, decide_eq_true_eq, List.all_eq_true, List.mem_range] at hz
        rcases hz with q | q
        · omega
        · have h1 := q j hj
          simp only [beq_iff_eq, hji, false_or] at h1
          refine reach_dn hD (fun y hy => ?_) h1
          simp only [dep, ho, Array.any_eq_true', Bool.and_eq_true, beq_iff_eq] at hy
          obtain ⟨e, he, hb, rfl⟩ := hy
          exact hdeps e he hb
      refine wpOp_step ho fun K hK => ?_
      refine last o ho a w hJ hF (fun j hj d hd => hΦ j (hothers j ?_ hj) d hd) K fun a' w' hq => hK _ _ (ih _ a' w' (by simpa using hsz) hcount ?_ hDs)
      · rcases Nat.lt_or_ge j ops.size with q | q
        · exact q
        · simp [dstOf, Array.getElem?_eq_none q] at hd
      · unfold Mid
        rw [if_pos (by rw [hset, if_pos rfl])]
        refine ⟨fun j hj => ?_, hq⟩
        rw [hset]
        by_cases e : j = i
        · rw [if_pos e]
        · rw [if_neg e]; exact hothers j hj e
    · refine wpOp_step ho fun K hK => ?_
      refine step i o ho hzi a w hJ hF (fun j hj d hd => hΦ j ?_ d hd) K fun v w' hJ' hb hv => hK _ _ (ih _ _ w' (by simpa using hsz) hcount ?_ hDs)
      · simp only [dep, ho, Array.any_eq_true', Bool.and_eq_true, beq_iff_eq] at hj
        obtain ⟨e, he, hbi, rfl⟩ := hj
        exact hdeps e he hbi
      · unfold Mid
        rw [if_neg (by rw [hset, if_neg (fun q => hzi q.symm)]; exact hnz)]
        refine ⟨hJ', hF.put ho v, fun j hj d hd => ?_⟩
        rw [hset] at hj
        have hgi := hg
        simp only [good, List.all_eq_true, List.mem_range] at hgi
        have hio : i < ops.size := by omega
        have h2 := hgi i hio
        rw [ho] at h2
        simp only [Bool.and_eq_true] at h2
        by_cases e : j = i
        · subst e
          have hod : o.dst = some d := by simpa [dstOf, ho] using hd
          rw [hod] at h2 ⊢
          simp only [Bool.and_eq_true, decide_eq_true_eq] at h2
          rw [slot_put (by rw [hF.size]; exact h2.2.1)]
          exact hv
        · rw [if_neg e] at hj
          have hold := mono j _ w w' (hΦ j hj d hd) hb
          cases hod : o.dst with
          | none => exact hold
          | some d' =>
            rw [hod] at h2
            simp only [Bool.and_eq_true, decide_eq_true_eq, List.all_eq_true, List.mem_range, Bool.or_eq_true, beq_iff_eq, bne_iff_ne] at h2
            have hjs : j < ops.size := by
              rcases Nat.lt_or_ge j ops.size with q | q
              · exact q
              · simp [dstOf, Array.getElem?_eq_none q] at hd
            have h3 := (h2.2.2 j hjs).resolve_left e
            rw [slot_put_ne (fun q => h3 (by rw [hd, q]))]
            exact hold
theorem inv_any {f : Nat} {listed : Array Bool} {w : World} (n : Nat) (hn : a0.tmps.size = n) (hf : listed = Array.replicate ops.size false) (hf2 : f = ops.size) (hg : good md ops n = true) (hz : lastT md ops z = true) (hJ : J w)
    (mono : ∀ j v w w', Φ j v w → Below w.heap.size w w' → Φ j v w')
    (step : From Φ J a0 z P md ops Q 0)
    (last : ∀ o, ops[z]? = some o → ∀ a w, J w → Fr ops a0 a → (∀ j, j ≠ z → ∀ d, dstOf ops j = some d → Φ j (a.tmps.getD d undef) w) →
      ∀ K : Act → World → Prop, (∀ a' w', Q .normal a' w' → K a' w') → if Region.wanted o (yielded ops a.tmps) = true then Oper.wp P o a w K Q else K (a.put o.dst undef) w)
    (fin : ops.size ≤ z → ∀ a w, J w → Fr ops a0 a → (∀ j d, dstOf ops j = some d → Φ j (a.tmps.getD d undef) w) → Q .normal a w) : wpAny P md ops Q f listed a0 w := by
  subst hf hf2 hn
  have hnone : ∀ i, (Array.replicate ops.size false).getD i false = false := by
    intro i
    rw [Array.getD_eq_getD_getElem?]
    rcases Nat.lt_or_ge i ops.size with q | q
    · rw [Array.getElem?_eq_getElem (by simpa using q)]; simp
    · rw [Array.getElem?_eq_none (by simpa using q)]; rfl
  refine inv_go Φ J a0 z hg hz mono (fun i o ho hi a w => step i (Nat.zero_le _) o ho hi a w) last fin ops.size _ a0 w (by simp) (Nat.le_trans List.count_le_length (by simp)) ?_ (fun x y hx _ => by rw [hnone] at hx; cases hx)
  unfold Mid
  rw [if_neg (by rw [hnone]; simp)]
  exact ⟨hJ, ⟨rfl, rfl, fun _ _ => rfl⟩, fun i hi => by rw [hnone] at hi; cases hi⟩
end
end Go.Proofs.YtilcnhdfdgmekaaGreat.InvT
