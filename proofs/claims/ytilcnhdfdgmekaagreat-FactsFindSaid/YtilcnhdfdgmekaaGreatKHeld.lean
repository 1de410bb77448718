/- A region that draws its order: wpAnyG: a condition S on the world is kept till operation z comes up; what yields wherever S holds (a load) is taken first, where z waits for it. -/
import Derived.Test.YtilcnhdfdgmekaaGreatKReg
import Derived.OrdersHeld
import Derived.RegionTactic
namespace Go.Proofs.YtilcnhdfdgmekaaGreat.Held
open Go.RowKit

section
variable {P : Program} {md : Region.Mode} {ops : Array Oper} {Q : Exit → Act → World → Prop} {S : World → Prop} {z : Nat}
/-- whatever comes up next, S holds behind it, but behind z -/
def wpAnyG (P : Program) (md : Region.Mode) (ops : Array Oper) (Q : Exit → Act → World → Prop) (S : World → Prop) (z : Nat) : Nat → Array Bool → Act → World → Prop
  | 0, listed, a, w => Region.ready md ops listed = [] ∧ Q .normal a w
  | f + 1, listed, a, w => (Region.ready md ops listed = [] → Q .normal a w) ∧ ∀ i ∈ Region.ready md ops listed, wpOp P ops Q i (fun a' w' => (i = z ∨ S w') ∧ wpAnyG P md ops Q S z f (listed.setIfInBounds i true) a' w') a w
theorem any_of_G : ∀ (f : Nat) (listed : Array Bool) (a : Act) (w : World), wpAnyG P md ops Q S z f listed a w → wpAny P md ops Q f listed a w
  | 0, _, _, _, h => h
  | f + 1, _, _, _, h => ⟨h.1, fun i hi => wpOp_mono (fun a' w' k => any_of_G f _ a' w' k.2) (h.2 i hi)⟩
/-- D: i and operations that wait for one of D; none is listed; z is one -/
def deps (md : Region.Mode) (ops : Array Oper) (listed : Array Bool) (i z : Nat) (D : List Nat) : Bool :=
  D.contains z && !(z == i) && D.all fun j => (listed.getD j true == false) && (j == i || match ops[j]? with
    | some o => o.after.any fun e => Region.binds md e && D.contains e.on
    | none => false)
theorem deps_z {listed : Array Bool} {i : Nat} {D : List Nat} (h : deps md ops listed i z D = true) : z ∈ D ∧ z ≠ i := by
  simp only [deps, Bool.and_eq_true, List.contains_iff_mem, Bool.not_eq_true', beq_eq_false_iff_ne] at h
  exact h.1
theorem deps_un {listed : Array Bool} {i : Nat} {D : List Nat} (h : deps md ops listed i z D = true) {j : Nat} (hj : j ∈ D) : listed.getD j true = false := by
  simp only [deps, Bool.and_eq_true, List.all_eq_true, beq_iff_eq] at h
  exact (h.2 j hj).1
/-- what may come up is none of D, but i itself -/
theorem deps_ready {listed : Array Bool} {i : Nat} {D : List Nat} (h : deps md ops listed i z D = true) {j : Nat} (hj : j ∈ Region.ready md ops listed) (hne : j ≠ i) : j ∉ D := by
  intro hD
  have h0 := h
  simp only [deps, Bool.and_eq_true, List.all_eq_true, Bool.or_eq_true, beq_iff_eq] at h0
  have h1 := (h0.2 j hD).2
  simp only [hne, false_or] at h1
  obtain ⟨_, o, ho, hall⟩ := mem_ready.1 hj
  rw [ho] at h1
  obtain ⟨e, he, hb⟩ := Array.any_eq_true'.1 h1
  simp only [Bool.and_eq_true, List.contains_iff_mem] at hb
  have h2 := hall e he hb.1
  have h3 := deps_un h hb.2
  rcases Nat.lt_or_ge e.on listed.size with q | q
  · simp [q] at h2 h3
    rw [h3] at h2
    cases h2
  · simp [Array.getElem?_eq_none q] at h3
theorem deps_set {listed : Array Bool} {i : Nat} {D : List Nat} (h : deps md ops listed i z D = true) {j : Nat} (hj : j ∉ D) : deps md ops (listed.setIfInBounds j true) i z D = true := by
  simp only [deps, Bool.and_eq_true, List.all_eq_true, beq_iff_eq] at h ⊢
  refine ⟨h.1, fun k hk => ⟨?_, (h.2 k hk).2⟩⟩
  rw [getD_set_ne true (show j ≠ k by rintro rfl; exact hj hk)]
  exact (h.2 k hk).1
theorem G_first {i : Nat} {oi : Oper} {v : Value} {D : List Nat} (hi : ops[i]? = some oi) (hsel : ∀ (j : Nat) (o : Oper) cs b, ops[j]? = some o → o.op ≠ .select cs b) (hQ : ∀ c a w, Q (.panic c) (a.put oi.dst v) w → Q (.panic c) a w) :
    ∀ (f : Nat) (listed : Array Bool) (a : Act) (w : World), deps md ops listed i z D = true →
      (∀ j oj, ops[j]? = some oj → j ≠ i → listed.getD j true = false → (∀ e ∈ oj.after, Region.binds md e = true → e.on ≠ i) → oi.apart ops oj = true) →
      i ∈ Region.ready md ops listed → YieldsIf P ops S oi v a → S w → wpAnyG P md ops Q S z f (listed.setIfInBounds i true) (a.put oi.dst v) w → wpAnyG P md ops Q S z (f + 1) listed a w
  | f, listed, a, w, hD, hfree, hr, hy, hS, H => by
    refine ⟨fun e => absurd hr (by rw [e]; exact List.not_mem_nil), fun j hj => ?_⟩
    by_cases hji : j = i
    · subst hji
      exact hy.wpOp hi hS ⟨.inr hS, H⟩
    · have hjD := deps_ready hD hj hji
      match f, H with
      | 0, H =>
        have q := ready_mono hj hji
        rw [H.1] at q
        cases q
      | f + 1, H =>
        have k1 := H.2 j (ready_mono hj hji)
        obtain ⟨hun, oj, hoj, hall⟩ := mem_ready.1 hj
        have hiun := (mem_ready.1 hr).1
        have hno : ∀ e ∈ oj.after, Region.binds md e = true → e.on ≠ i := fun e he hb q => by
          have q1 := hall e he hb
          rw [q] at q1
          rcases Nat.lt_or_ge i listed.size with q2 | q2
          · simp [q2] at hiun q1
            rw [hiun] at q1
            cases q1
          · simp [Array.getElem?_eq_none q2] at hiun
        have k2 := wpOp_putIf hoj (hfree j oj hoj hji hun hno) (fun cs b => hsel i oi cs b hi) (fun cs b => hsel j oj cs b hoj) hQ hy k1
        refine wpOp_mono (fun a' w' k3 => ?_) k2
        have hS' : S w' := k3.2.1.resolve_left (fun e => hjD (e ▸ (deps_z hD).1))
        refine ⟨.inr hS', G_first hi hsel hQ f (listed.setIfInBounds j true) a' w' (deps_set hD hjD) (fun k ok hk hki hku hkn => ?_) (ready_mono hr (Ne.symm hji)) k3.1 hS' ?_⟩
        · refine hfree k ok hk hki ?_ hkn
          by_cases q : j = k
          · exact q ▸ hun
          · rwa [getD_set_ne true q] at hku
        · rw [Array.setIfInBounds_comm _ _ hji]
          exact k3.2.2
/-- an operation taken first: it yields wherever S holds, and z waits for it -/
theorem G_take {i : Nat} {oi : Oper} {d : Tmp} {v : Value} {fuel : Nat} {listed : Array Bool} {a : Act} {w : World} (D : List Nat) (hi : ops[i]? = some oi) (hd : oi.dst = some d)
    (hs : Region.noSelect ops = true) (hf : Region.free md ops listed i = true) (hr : (Region.ready md ops listed).contains i = true) (hD : deps md ops listed i z D = true)
    (hQ : ∀ c a w, Q (.panic c) (a.put (some d) v) w → Q (.panic c) a w) (hy : YieldsIf P ops S oi v a) (hS : S w)
    (h : wpAnyG P md ops Q S z fuel (listed.setIfInBounds i true) (a.put (some d) v) w) : wpAnyG P md ops Q S z (fuel + 1) listed a w := by
  rw [← hd] at hQ h
  exact G_first hi (Region.noSelect_spec hs) hQ fuel listed a w hD (Region.free_spec hi hf) (by simpa using hr) hy hS h
/-- what may come up, one by one -/
def ReadyG (P : Program) (md : Region.Mode) (ops : Array Oper) (Q : Exit → Act → World → Prop) (S : World → Prop) (z : Nat) (fuel : Nat) (listed : Array Bool) (a : Act) (w : World) (rs : List Nat) : Prop :=
  ∀ i ∈ rs, wpOp P ops Q i (fun a' w' => (i = z ∨ S w') ∧ wpAnyG P md ops Q S z fuel (listed.setIfInBounds i true) a' w') a w
section
variable {fuel : Nat} {listed : Array Bool} {a : Act} {w : World} {rs : List Nat}
theorem G_ready (hr : Region.ready md ops listed = rs) (hne : rs ≠ []) (h : ReadyG P md ops Q S z fuel listed a w rs) : wpAnyG P md ops Q S z (fuel + 1) listed a w :=
  ⟨fun e => absurd (hr ▸ e) hne, fun i hi => h i (hr ▸ hi)⟩
theorem G_done (hr : Region.ready md ops listed = []) (h : Q .normal a w) : ∀ fuel, wpAnyG P md ops Q S z fuel listed a w
  | 0 => ⟨hr, h⟩
  | _ + 1 => ⟨fun _ => h, fun i hi => by rw [hr] at hi; cases hi⟩
theorem G_nil : ReadyG P md ops Q S z fuel listed a w [] := fun _ h => by cases h
theorem G_cons {i : Nat} {o : Oper} (ho : ops[i]? = some o)
    (h : ∀ K' : Act → World → Prop, (∀ a w, S w ∧ wpAnyG P md ops Q S z fuel (listed.setIfInBounds i true) a w → K' a w) → if Region.wanted o (yielded ops a.tmps) = true then Oper.wp P o a w K' Q else K' (a.put o.dst undef) w)
    (hs : ReadyG P md ops Q S z fuel listed a w rs) : ReadyG P md ops Q S z fuel listed a w (i :: rs) := fun j hj => by
  rcases List.mem_cons.1 hj with rfl | hj
  · exact wpOp_mono (fun _ _ k => ⟨.inr k.1, k.2⟩) (wpOp_step ho h)
  · exact hs j hj
/-- z itself: S is wanted no more -/
theorem G_last {o : Oper} (ho : ops[z]? = some o)
    (h : ∀ K' : Act → World → Prop, (∀ a w, wpAnyG P md ops Q S z fuel (listed.setIfInBounds z true) a w → K' a w) → if Region.wanted o (yielded ops a.tmps) = true then Oper.wp P o a w K' Q else K' (a.put o.dst undef) w)
    (hs : ReadyG P md ops Q S z fuel listed a w rs) : ReadyG P md ops Q S z fuel listed a w (z :: rs) := fun j hj => by
  rcases List.mem_cons.1 hj with rfl | hj
  · exact wpOp_mono (fun _ _ k => ⟨.inl rfl, k⟩) (wpOp_step ho h)
  · exact hs j hj
end
end
end Go.Proofs.YtilcnhdfdgmekaaGreat.Held
