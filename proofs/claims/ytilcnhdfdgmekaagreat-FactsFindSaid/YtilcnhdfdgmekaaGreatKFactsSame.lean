/- FactsPeo, FactsSame. -/
import Derived.Test.YtilcnhdfdgmekaaGreatKFactsUsersOf
namespace Go.Proofs.YtilcnhdfdgmekaaGreat.FactsPeo
open Go.RowKit Base KeyPlain TuplePlain TupleRef TupleSpec TupleCut FMap FactsPlain FactsMem FactsHas FactsEach TurnB RowN
open Go.ChangeMaps (setBlock)

def usL (us : List Us) : List (Value × Value) := us.map fun u => (.agg (uc u), .agg #[])
theorem mem_usL {us : List Us} {u : Us} : (Value.agg (uc u)) ∈ (usL us).map (·.1) ↔ u ∈ us := by
  unfold usL
  rw [List.map_map]
  constructor
  · intro h
    obtain ⟨s, hs, e⟩ := List.mem_map.1 h
    rw [← uc_inj (by injection e : uc s = uc u)]
    exact hs
  · exact fun h => List.mem_map.2 ⟨u, h, rfl⟩
theorem under_ps : Tryz.prog.underlying 85 = some (.map 30 66) := Tryz.underlying85
/-- the map, behind tuples -/
def PeoQ (lo bx mb : Nat) (done : List Tp) (X : Nat → Prop) (w : World) : Prop :=
  lo ≤ w.heap.size ∧ w.heap[bx]? = some (.cells #[.map (some mb)] 85 (0, 0)) ∧ (∀ k, X k ↔ k = mb) ∧ ∃ us, Mp Tryz.prog 30 w mb (usL us) ∧ ∀ u, u ∈ us ↔ u ∈ done.map (·.u)
set_option maxRecDepth 100000 in
set_option maxHeartbeats 6400000 in
theorem peo_any {w : World} {bx mb : Nat} {us : List Us} (hx : w.heap[bx]? = some (.cells #[.map (some mb)] 85 (0, 0))) (h : Mp Tryz.prog 30 w mb (usL us)) (t : Tp) (hu : UsF t.u) :
    Calls Tryz.prog 45 #[.agg (tc t), .pointer (some ⟨bx, 0, none⟩)] w fun e w' => e = .returned (.tuple #[]) ∧ (∃ us', Mp Tryz.prog 30 w' mb (usL us') ∧ ∀ u, u ∈ us' ↔ u ∈ us ∨ u = t.u) ∧ Turn (fun k => k = mb) w w' := by
  obtain ⟨w1, hw1⟩ : ∃ v, v = w.alloc (.cells (tc t) 32) := ⟨_, rfl⟩
  obtain ⟨b, hbe⟩ : ∃ v, v = w.heap.size := ⟨_, rfl⟩
  have b1 : Below w.heap.size w w1 := by rw [hw1]; exact al _ _
  have a1 : w1.heap[b]? = some (.cells (tc t) 32 (0, 0)) := by rw [hw1, hbe]; exact heap_alloc_new w _
  have h1 := h.below b1 h.lt
  have hc : w1.cell? ⟨bx, 0, none⟩ = some (.map (some mb)) := by simp [World.cell?, (b1.block bx (heap_lt hx)).trans hx]
  obtain ⟨o, hrun, us', hmp, hus⟩ : ∃ o, (Instr.mapUpdate 85 (.map (some mb)) (.agg (uc t.u)) (.agg #[])).run Tryz.prog w1 = .ok () (setBlock w1 mb o) ∧ ∃ us', Mp Tryz.prog 30 (setBlock w1 mb o) mb (usL us') ∧ ∀ u, u ∈ us' ↔ u ∈ us ∨ u = t.u := by
    by_cases hm : t.u ∈ us
    · obtain ⟨o, hrun, hmp⟩ := h1.again key_us under_ps (x := .agg (uc t.u)) (v := .agg #[]) (List.mem_map.2 ⟨_, hm, rfl⟩)
      exact ⟨o, hrun, us, hmp, fun u => ⟨.inl, fun q => q.elim id (fun e => by rw [e]; exact hm)⟩⟩
    · obtain ⟨o, hrun, hmp⟩ := h1.add key_us under_ps (x := .agg (uc t.u)) (v := .agg #[]) (isKey_us _ hu) (fun q => hm (mem_usL.1 q))
      exact ⟨o, hrun, us ++ [t.u], by simpa [usL] using hmp, fun u => by simp⟩
  have HF := Lib.hid (show (∃ us', Mp Tryz.prog 30 (setBlock w1 mb o) mb (usL us') ∧ ∀ u, u ∈ us' ↔ u ∈ us ∨ u = t.u) ∧ Turn (fun k => k = mb) w (setBlock w1 mb o) from
    ⟨⟨us', hmp, hus⟩, (Turn.ofBelow b1).step (Turn.ofGrown (set_only w1 mb o) fun k hk _ => (Option.some.inj hk).symm)⟩)
  unfold tc at a1 hw1 ⊢
  unfold uc at hrun
  obtain ⟨d0, d1, d2, d3, d4, d5⟩ := six_at a1
  have HW1 := Lib.hid hw1
  have HBE := Lib.hid hbe
  clear hw1 hbe a1 b1 h h1 hx hu hmp hus
  go_enter Tryz.func45, Tryz.ntmps45
  go_upto_region 1 with fail
  rw [← HW1.out, ← HBE.out]
  go_wp2_with fail
  go_end0
  exact ⟨rfl, HF.out⟩
theorem peo_tells {fb gm : Nat} {G : List Grp} {lo bx mb : Nat} (hT : ∀ t ∈ alls G, UsF t.u) (hF : ∀ k, Fb fb gm G k → k < lo ∧ k ≠ mb) (hbx : bx < lo) (hmb : mb < lo) (hne : bx ≠ mb) :
    Tells fb gm G lo 45 #[.pointer (some ⟨bx, 0, none⟩)] (PeoQ lo bx mb) where
  enter := enters_of Tryz.func45 (by kernel_rfl) rfl
  stay := fun done X w w' h hs hb => by
    obtain ⟨h1, h2, h3, us, h4, h5⟩ := h
    exact ⟨Nat.le_trans h1 hs, (hb _ (heap_lt h2) (.inl hbx)).trans h2, h3, us, h4.same (hb _ h4.lt (.inl hmb)), h5⟩
  inb := fun done X w h k hk => by
    obtain ⟨h1, h2, h3, us, h4, h5⟩ := h
    rw [(h3 k).1 hk]
    exact ⟨h4.lt, fun e => (hF _ e).2 rfl⟩
  step := fun done X w t h ht hl => by
    obtain ⟨h1, h2, h3, us, h4, h5⟩ := h
    refine (peo_any h2 h4 t (hT t ht)).mono ?_
    rintro e w' ⟨rfl, ⟨us', g1, g2⟩, g3⟩
    refine ⟨rfl, fun k => k = mb, ⟨Nat.le_trans h1 g3.size, (g3.block _ (heap_lt h2) hne).trans h2, fun k => Iff.rfl, us', g1, fun u => ?_⟩, fun k hk => .inl ((h3 k).2 hk), g3.mono fun k _ hk => (h3 k).2 hk⟩
    rw [g2, h5]
    simp [or_comm, eq_comm]
end Go.Proofs.YtilcnhdfdgmekaaGreat.FactsPeo
namespace Go.Proofs.YtilcnhdfdgmekaaGreat.FactsSame
open Go.RowKit Base KeyPlain TuplePlain TupleRef TupleSpec FMap FactsPlain FactsMem FactsUsersOf

theorem up_users {m : List Tp} (h : Up ltT m) (k i r : ByteArray) : Up ltU (users m k i r) := by
  unfold Up users at *
  rw [List.pairwise_map]
  refine (h.filter _).imp_of_mem ?_
  intro a b ha hb hab
  have h1 := (List.mem_filter.1 ha).2
  have h2 := (List.mem_filter.1 hb).2
  simp only [Bool.and_eq_true, decide_eq_true_eq] at h1 h2
  obtain ⟨⟨rfl, rfl⟩, rfl⟩ := h1
  obtain ⟨⟨e1, e2⟩, e3⟩ := h2
  unfold ltT Tp.parts at hab
  rw [e1, e2, e3] at hab
  unfold lst at hab
  simp only [List.map_cons, List.map_nil] at hab
  rw [less_eq, less_eq, less_eq] at hab
  exact hab
theorem users_is (G : List Grp) (o : Us) : mk ltU (usersOf G o) = users (mk ltT (alls G)) o.k o.i o.r :=
  up_ext ordU (mk_up ordU _) (up_users (mk_up ordT _) _ _ _) fun x => by
    rw [mk_mem]
    unfold usersOf users
    rw [List.mem_map, List.mem_map]
    have e : ∀ t : Tp, t.obj = o ↔ (t.k = o.k ∧ t.i = o.i) ∧ t.r = o.r := fun t => by
      cases o
      simp [Tp.obj, and_assoc]
    constructor
    · rintro ⟨t, ht, rfl⟩
      obtain ⟨h1, h2⟩ := List.mem_filter.1 ht
      exact ⟨t, List.mem_filter.2 ⟨mk_mem.2 h1, by simpa using (e t).1 (by simpa using h2)⟩, rfl⟩
    · rintro ⟨t, ht, rfl⟩
      obtain ⟨h1, h2⟩ := List.mem_filter.1 ht
      exact ⟨t, List.mem_filter.2 ⟨mk_mem.1 h1, by simpa using (e t).2 (by simpa using h2)⟩, rfl⟩
/-- a set that was made of tuples -/
theorem alls_new {G : List Grp} {l : List Tp} (h : ∀ x, x ∈ alls G ↔ x ∈ l ∧ x.ok = true) : mk ltT (alls G) = new l :=
  mk_ext ordT fun x => by rw [h, List.mem_filter]
end Go.Proofs.YtilcnhdfdgmekaaGreat.FactsSame
