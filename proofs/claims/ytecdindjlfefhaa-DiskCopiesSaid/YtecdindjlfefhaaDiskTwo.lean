/- Two disks beside each other; what acts leave of a disk. -/
import Derived.Test.YtecdindjlfefhaaDiskPlumb
namespace Go.Proofs.Ytecdindjlfefhaa.DiskTwo
open Go.RowKit Base DiskPlain DiskMem DiskSmall DiskRead DiskGrow DiskWrite DiskSync DiskCrash DiskSpoil DiskCopy DiskLaw DiskDo DiskPlumb Go.Maps

/-- blocks that were made since W -/
def Since (W w : World) (F : Nat → Prop) : Prop := ∀ i, F i → W.heap.size ≤ i ∧ i < w.heap.size
def Apart (F G : Nat → Prop) : Prop := ∀ i, F i → ¬ G i
/-- two disks that were made since W, in blocks apart -/
def Two (W w : World) (g : Nat) (S : DS) (h : Nat) (T : DS) : Prop := ∃ F G, Dk w g S F ∧ Dk w h T G ∧ Since W w F ∧ Since W w G ∧ Apart F G ∧ Below W.heap.size W w
section
variable {W w w' wa : World} {g h : Nat} {S S' T T' : DS} {F G : Nat → Prop}
theorem Since.step (hF : Since W w F) (hb : w.heap.size ≤ w'.heap.size) : Since W w' F := fun i hi => ⟨(hF i hi).1, Nat.lt_of_lt_of_le (hF i hi).2 hb⟩
theorem Two.swap (t : Two W w g S h T) : Two W w h T g S := by
  obtain ⟨F, G, h1, h2, h3, h4, h5, h6⟩ := t
  exact ⟨G, F, h2, h1, h4, h3, fun i hi hf => h5 i hf hi, h6⟩
theorem Two.fst (t : Two W w g S h T) : Mine W w g S := by
  obtain ⟨F, G, h1, h2, h3, h4, h5, h6⟩ := t
  exact ⟨F, h1, h3, h6⟩
theorem Two.snd (t : Two W w g S h T) : Mine W w h T := t.swap.fst
theorem Two.below (t : Two W w g S h T) : Below W.heap.size W w := t.fst.below
theorem Two.step (t : Two W w g S h T) (hb : Below w.heap.size w w') : Two W w' g S h T := by
  obtain ⟨F, G, h1, h2, h3, h4, h5, h6⟩ := t
  exact ⟨F, G, h1.below hb, h2.below hb, h3.step hb.size, h4.step hb.size, h5, h6.trans (hb.mono h6.size)⟩
theorem Two.alloc (t : Two W w g S h T) (o : Obj) : Two W (w.alloc o) g S h T := t.step ((Below.refl _ w).alloc (Nat.le_refl _) _)
theorem Two.drewN (t : Two W w g S h T) (n : Nat) : Two W (w.drewN n) g S h T := t.step (below_drewN w _ n)
theorem Two.went (h1 : Dk w h T G) (hF : Since W w F) (hG : Since W w G) (ha : Apart F G) (hb : Below W.heap.size W w) (hw : Went F g w S' w') : Two W w' g S' h T := by
  obtain ⟨F', q1, q2, q3⟩ := hw
  have hs := hb.size
  refine ⟨F', G, q2, h1.kept q3 (fun i _ hg hf => ha i hf hg), fun i hi => ⟨(q1 i hi).1.elim (fun q => (hF i q).1) (fun q => by omega), (q1 i hi).2⟩, hG.step q3.size, fun i hi hg => ?_, q3.belowOf hb hs (fun k hk => (hF k hk).1)⟩
  rcases (q1 i hi).1 with q | q
  · exact ha i q hg
  · have := (hG i hg).2; omega
theorem t_grow (t : Two W w g S h T) (x : Int) : Calls Try.prog 23 #[.pointer (some ⟨g, 0, none⟩), .int .i64 x] w fun e w' => e = .returned (.int .i64 (S.growE x)) ∧ Two W w' g (S.grow x) h T := by
  obtain ⟨F, G, h1, h2, h3, h4, h5, h6⟩ := t
  exact (grow_dk h1 x).mono fun _ _ ⟨he, hw⟩ => ⟨he, Two.went h2 h3 h4 h5 h6 hw⟩
theorem t_sync (t : Two W w g S h T) (hll : S.loose.length ≤ 100000000) : Calls Try.prog 17 #[.pointer (some ⟨g, 0, none⟩)] w fun e w' => e = .returned (.tuple #[]) ∧ Two W w' g S.sync h T := by
  obtain ⟨F, G, h1, h2, h3, h4, h5, h6⟩ := t
  exact (sync_dk h1 hll).mono fun _ _ ⟨he, hw⟩ => ⟨he, Two.went h2 h3 h4 h5 h6 hw⟩
theorem t_do (t : Two W w g S h T) (x : Ac) (K : Option Addr) (ck : Nat) (hx : AcOk x) (hf : few x = true) (hll : S.loose.length ≤ 100000000) (hrow : Row w w.heap.size K (keptCells x.kept)) :
    Calls Try.prog 14 #[.pointer (some ⟨g, 0, none⟩), .agg #[.int .i64 x.kind, .int .i64 x.n, .int .i64 x.page, .int .i64 x.at_, .string x.s, .slice K x.kept.length ck]] w fun e w' => e = .returned (.int .i64 (actE S x)) ∧ Two W w' g (act S x) h T := by
  obtain ⟨F, G, h1, h2, h3, h4, h5, h6⟩ := t
  exact (do_dk h1 (fun i hi => (h3 i hi).2) x K ck hx hf hll hrow).mono fun _ _ ⟨he, hw⟩ => ⟨he, Two.went h2 h3 h4 h5 h6 hw⟩
theorem m_do (t : Mine W w g S) (x : Ac) (K : Option Addr) (ck : Nat) (hx : AcOk x) (hf : few x = true) (hll : S.loose.length ≤ 100000000) (hrow : Row w w.heap.size K (keptCells x.kept)) :
    Calls Try.prog 14 #[.pointer (some ⟨g, 0, none⟩), .agg #[.int .i64 x.kind, .int .i64 x.n, .int .i64 x.page, .int .i64 x.at_, .string x.s, .slice K x.kept.length ck]] w fun e w' => e = .returned (.int .i64 (actE S x)) ∧ Mine W w' g (act S x) := by
  obtain ⟨F, h1, h2, h3⟩ := t
  exact (do_dk h1 (fun i hi => (h2 i hi).2) x K ck hx hf hll hrow).mono fun _ _ ⟨he, hw⟩ => ⟨he, Mine.went h2 h3 hw⟩
theorem t_copy (t : Mine W w g S) (hll : S.loose.length ≤ 100000000) : Calls Try.prog 16 #[.pointer (some ⟨g, 0, none⟩)] w fun e w' => e = .returned (.pointer (some ⟨w.heap.size, 0, none⟩)) ∧ Two W w' g S w.heap.size S := by
  obtain ⟨F, h1, h2, h3⟩ := t
  refine (copy_dk h1 hll).mono fun _ w' ⟨he, hd, hb⟩ => ⟨he, F, _, h1.below hb, hd, Since.step h2 hb.size, fun i hi => ⟨Nat.le_trans h3.size hi.1, hi.2⟩, fun i hi hg => ?_, h3.trans (hb.mono h3.size)⟩
  have := (h2 i hi).2
  omega
theorem t_new (t : Mine W w g S) (x : Int) (h1 : 1 ≤ x) (h2 : x ≤ 4096) : Calls Try.prog 10 #[.int .i64 x] w fun e w' => e = .returned (.tuple #[.pointer (some ⟨w.heap.size + 1, 0, none⟩), .int .i64 0]) ∧ Two W w' g S (w.heap.size + 1) (new x) := by
  obtain ⟨F, q1, q2, q3⟩ := t
  refine (new_dk w x h1 h2).mono fun _ w' ⟨he, hd, hb⟩ => ⟨he, F, _, q1.below hb, hd, Since.step q2 hb.size, fun i hi => ⟨Nat.le_trans q3.size hi.1, hi.2⟩, fun i hi hg => ?_, q3.trans (hb.mono q3.size)⟩
  have := (q2 i hi).2
  omega
end
/-! what acts leave -/
theorem burn_most (S : DS) : S.burn.most = S.most := by unfold DS.burn; split <;> rfl
theorem burn_fused (S : DS) : S.burn.fused = S.fused := by unfold DS.burn; split <;> rfl
theorem burn_last (S : DS) : S.burn.last = S.last := by unfold DS.burn; split <;> rfl
theorem burn_loose (S : DS) : S.burn.loose = S.loose := by unfold DS.burn; split <;> rfl
theorem act_most (S : DS) (x : Ac) : (act S x).most = S.most := by
  unfold act
  split
  · unfold DS.grow; split; · rfl
    split <;> rfl
  split
  · unfold DS.write; split; · rfl
    split; · rfl
    split; · rfl
    rw [burn_most]; rfl
  split
  · unfold DS.sync; split; · rfl
    rw [burn_most]; rfl
  split
  · rfl
  split
  · unfold DS.spoil; split; · rfl
    split <;> rfl
  split
  · unfold DS.fuse; split <;> rfl
  · rfl
theorem act_fused (S : DS) (x : Ac) (h : S.fused = false) (hx : x.kind ≠ 6) : (act S x).fused = false := by
  unfold act
  split
  · unfold DS.grow; split; · exact h
    split <;> exact h
  split
  · unfold DS.write; split; · exact h
    split; · exact h
    split; · exact h
    rw [burn_fused]; exact h
  split
  · unfold DS.sync; split; · exact h
    rw [burn_fused]; exact h
  split
  · rfl
  split
  · unfold DS.spoil; split; · exact h
    split <;> exact h
  · exact h
theorem act_loose (S : DS) (x : Ac) : (act S x).loose.length ≤ S.loose.length + 1 := by
  unfold act
  split
  · unfold DS.grow; split; · omega
    split
    · omega
    · simp [DS.grown]
  split
  · unfold DS.write; split; · omega
    split; · omega
    split; · omega
    rw [burn_loose]; simp [DS.written]
  split
  · unfold DS.sync; split; · omega
    rw [burn_loose]; simp [DS.synced]
  split
  · simp [DS.crash]
  split
  · unfold DS.spoil; split; · omega
    split
    · omega
    · simp [DS.spoilt]
  split
  · unfold DS.fuse; split <;> simp
  · omega
/-- behind the acts that are let be done -/
def runs (ok : Ac → Bool) (S : DS) (xs : List Ac) : DS := xs.foldl (fun S x => if ok x then act S x else S) S
theorem runs_snoc (ok : Ac → Bool) (S : DS) (xs : List Ac) (x : Ac) : runs ok S (xs ++ [x]) = if ok x then act (runs ok S xs) x else runs ok S xs := by simp [runs]
theorem runs_take (ok : Ac → Bool) (S : DS) (xs : List Ac) (j : Nat) (x : Ac) (hx : xs[j]? = some x) : runs ok S (xs.take (j + 1)) = if ok x then act (runs ok S (xs.take j)) x else runs ok S (xs.take j) := by
  have hj : j < xs.length := (List.getElem?_eq_some_iff.1 hx).1
  rw [List.take_succ_eq_append_getElem hj, (List.getElem?_eq_some_iff.1 hx).2, runs_snoc]
theorem runs_loose (ok : Ac → Bool) : ∀ (xs : List Ac) (S : DS), (runs ok S xs).loose.length ≤ S.loose.length + xs.length := by
  intro xs
  induction xs with
  | nil => intro S; simp [runs]
  | cons x xs ih =>
    intro S
    simp only [runs, List.foldl_cons, List.length_cons] at ih ⊢
    split
    · have := ih (act S x); have := act_loose S x; omega
    · have := ih S; omega
theorem runs_most (ok : Ac → Bool) : ∀ (xs : List Ac) (S : DS), (runs ok S xs).most = S.most := by
  intro xs
  induction xs with
  | nil => intro S; rfl
  | cons x xs ih =>
    intro S
    simp only [runs, List.foldl_cons] at ih ⊢
    split
    · rw [ih, act_most]
    · exact ih S
theorem runs_fused (ok : Ac → Bool) (hok : ∀ x, ok x = true → x.kind ≠ 6) : ∀ (xs : List Ac) (S : DS), S.fused = false → (runs ok S xs).fused = false := by
  intro xs
  induction xs with
  | nil => intro S h; exact h
  | cons x xs ih =>
    intro S h
    simp only [runs, List.foldl_cons] at ih ⊢
    split
    · rename_i q; exact ih _ (act_fused S x h (hok x q))
    · exact ih S h
end Go.Proofs.Ytecdindjlfefhaa.DiskTwo
