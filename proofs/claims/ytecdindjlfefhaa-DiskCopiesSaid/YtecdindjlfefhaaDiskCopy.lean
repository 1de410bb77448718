/- Contracts of Copy, and of the clones that it makes. -/
import Derived.Test.YtecdindjlfefhaaDiskSpoil
import Derived.Shelf.SlMaps.Clone
import Derived.Lib.SliceRun
namespace Go.Proofs.Ytecdindjlfefhaa.DiskCopy
open Go.RowKit Base DiskPlain DiskMem DiskSmall DiskRead DiskGrow DiskWrite DiskSync DiskCrash DiskSpoil Go.Maps

section
variable {w : World} {g : Nat} {S : DS} {F : Nat → Prop} {A B : Option Addr} {c k m n : Nat} {D : DataW Unit}
theorem mapClone (h : w.ownsMap Try.prog 3 (plainElem Try.prog 3) m n D) : Calls Try.prog 35 #[.map (some m)] w fun e w' => e = .returned (.map (some w.heap.size)) ∧ w'.ownsMap Try.prog 3 (plainElem Try.prog 3) w.heap.size n D ∧ Below w.heap.size w w' := by
  obtain ⟨es, clock, hb, Ft, hs, hD⟩ := h
  have hq := fun w => run_eql_map_nil_sl (P := Try.prog) w 61 _ _ (some m) Try.underlying61
  go_enter Try.func35, Try.ntmps35
  go_wp2
  rw [run_callFunc_extern Try.func40 (by kernel_rfl) (by kernel_rfl) (by kernel_rfl) (e := Extern.MapsClone.clone) (by kernel_rfl), run_maps_clone_sl w 61 hb]
  simp only [Result.andThen]
  rw [Oper.upon_value]
  go_wp2
  rw [run_typeAssert_map_sl _ 61 20 _ _ _ Try.underlying61]
  simp only [Result.andThen]
  rw [Oper.upon_value]
  go_wp2
  go_ret
  exact ⟨rfl, ⟨es, clock, (MapKept.heap_alloc w _).1, Ft, hs, hD⟩, (Below.refl _ w).alloc (Nat.le_refl _) _⟩
theorem cloneA_some {gA : Nat} {xs : List Value} (h : Wd w 77 256 (some ⟨gA, 0, none⟩) n c xs) (h1 : ∀ u ∈ xs, u.oneCell' = true) (hn : n ≤ 100000000) : Calls Try.prog 33 #[.slice (some ⟨gA, 0, none⟩) n c] w fun e w' => ∃ A' c', e = .returned (.slice A' n c') ∧ Wd w' 77 256 A' n c' xs ∧ Below w.heap.size w w' ∧ ∀ i, A'.map (·.block) = some i → w.heap.size ≤ i := by
  have hq := fun w => Lib.run_eql_slice_nil (P := Try.prog) w 62 77 (some ⟨gA, 0, none⟩) n c 0 0 Try.underlying62
  obtain ⟨i, i1, i2, i3, i4⟩ := info_parts sheet_info
  have hown : Wd (w.alloc (.cells #[] 77)) 77 256 (some ⟨w.heap.size, 0, none⟩) 0 0 [] := World.ownsRow_made w #[] 0 (Nat.zero_le _) (by simp [maxLen]) (by simp)
  obtain ⟨A', c', w2, hrun, hw2, hgr, hpl⟩ := append_wide (t := 62) (ty := 62) 256 256 Try.underlying62 i1 i2 i3 i4 (by simp [Value.cells]) (by omega) hown ⟨gA, 0, none⟩ n c xs h.len (fun j u hu => by
    have hc := h.cell rfl hu
    rw [add_blk, Nat.zero_add, World.cell?_alloc_lt _ _ _ (World.block_lt_of_cell? w _ hc)]
    exact hc) h1 (by omega) (by omega)
  rw [Nat.zero_add] at hrun hw2
  rw [List.nil_append] at hw2
  have HE := Lib.hid (show Wd w2 77 256 A' n c' xs ∧ Below w.heap.size w w2 ∧ ∀ i, A'.map (·.block) = some i → w.heap.size ≤ i from ⟨hw2, by
    refine ((Below.refl _ w).alloc (Nat.le_refl _) (.cells #[] 77)).trans ⟨hgr.os, hgr.tape, hgr.output, hgr.size, fun i hi => hgr.block i (by simp; omega) (fun e => ?_)⟩
    simp at e
    omega, fun i hi => by
    rcases hpl with e | e
    · rw [e] at hi; simp at hi; omega
    · rw [e] at hi; simp at hi; omega⟩)
  clear hw2 hgr hpl hown i1 i2 i3 i4 h h1
  go_enter Try.func33, Try.ntmps33
  go_wp2_with (at_builtin; refine wpList_append_run rfl (.tmp 5) (.tmp 6) 62 62 rfl rfl rfl hrun ?_)
  go_ret
  exact ⟨A', c', rfl, HE.out⟩
theorem cloneA_none : Calls Try.prog 33 #[.slice none 0 0] w fun e w' => e = .returned (.slice none 0 0) ∧ w = w' := by
  have hq := fun w => Lib.run_eql_slice_nil (P := Try.prog) w 62 77 none 0 0 0 0 Try.underlying62
  go_enter Try.func33, Try.ntmps33
  go_wp2_with fail
  go_ret
  exact ⟨rfl, rfl⟩
theorem cloneA {xs : List Value} (h : Wd w 77 256 A n c xs) (h1 : ∀ u ∈ xs, u.oneCell' = true) (hn : n ≤ 100000000) : Calls Try.prog 33 #[.slice A n c] w fun e w' => ∃ A' c', e = .returned (.slice A' n c') ∧ Wd w' 77 256 A' n c' xs ∧ Below w.heap.size w w' ∧ ∀ i, A'.map (·.block) = some i → w.heap.size ≤ i := by
  rcases h.2 with ⟨h2, h3⟩ | ⟨gA, cap, cur, h2, _⟩
  · injection h2 with h4 h5 h6
    subst h3 h4 h6
    exact cloneA_none.mono fun e w' ⟨he, hw⟩ => ⟨none, 0, he, hw ▸ h, hw ▸ Below.refl _ _, fun i hi => by cases hi⟩
  · injection h2 with h4 h5 h6
    subst h4
    exact cloneA_some h h1 hn
theorem cloneB_some {gA : Nat} {xs : List Value} (h : Wd w 80 257 (some ⟨gA, 0, none⟩) n c xs) (h1 : ∀ u ∈ xs, u.oneCell' = true) (hn : n ≤ 100000000) : Calls Try.prog 34 #[.slice (some ⟨gA, 0, none⟩) n c] w fun e w' => ∃ A' c', e = .returned (.slice A' n c') ∧ Wd w' 80 257 A' n c' xs ∧ Below w.heap.size w w' ∧ ∀ i, A'.map (·.block) = some i → w.heap.size ≤ i := by
  have hq := fun w => Lib.run_eql_slice_nil (P := Try.prog) w 63 80 (some ⟨gA, 0, none⟩) n c 0 0 Try.underlying63
  obtain ⟨i, i1, i2, i3, i4⟩ := info_parts write_info
  have hown : Wd (w.alloc (.cells #[] 80)) 80 257 (some ⟨w.heap.size, 0, none⟩) 0 0 [] := World.ownsRow_made w #[] 0 (Nat.zero_le _) (by simp [maxLen]) (by simp)
  obtain ⟨A', c', w2, hrun, hw2, hgr, hpl⟩ := append_wide (t := 63) (ty := 63) 257 264 Try.underlying63 i1 i2 i3 i4 (by simp [Value.cells, wcell_size 0 zeros_len]) (by omega) hown ⟨gA, 0, none⟩ n c xs h.len (fun j u hu => by
    have hc := h.cell rfl hu
    rw [add_blk, Nat.zero_add, World.cell?_alloc_lt _ _ _ (World.block_lt_of_cell? w _ hc)]
    exact hc) h1 (by omega) (by omega)
  rw [Nat.zero_add] at hrun hw2
  rw [List.nil_append] at hw2
  have HE := Lib.hid (show Wd w2 80 257 A' n c' xs ∧ Below w.heap.size w w2 ∧ ∀ i, A'.map (·.block) = some i → w.heap.size ≤ i from ⟨hw2, by
    refine ((Below.refl _ w).alloc (Nat.le_refl _) (.cells #[] 80)).trans ⟨hgr.os, hgr.tape, hgr.output, hgr.size, fun i hi => hgr.block i (by simp; omega) (fun e => ?_)⟩
    simp at e
    omega, fun i hi => by
    rcases hpl with e | e
    · rw [e] at hi; simp at hi; omega
    · rw [e] at hi; simp at hi; omega⟩)
  clear hw2 hgr hpl hown i1 i2 i3 i4 h h1
  go_enter Try.func34, Try.ntmps34
  go_wp2_with (at_builtin; refine wpList_append_run rfl (.tmp 5) (.tmp 6) 63 63 rfl rfl rfl hrun ?_)
  go_ret
  exact ⟨A', c', rfl, HE.out⟩
theorem cloneB_none : Calls Try.prog 34 #[.slice none 0 0] w fun e w' => e = .returned (.slice none 0 0) ∧ w = w' := by
  have hq := fun w => Lib.run_eql_slice_nil (P := Try.prog) w 63 80 none 0 0 0 0 Try.underlying63
  go_enter Try.func34, Try.ntmps34
  go_wp2_with fail
  go_ret
  exact ⟨rfl, rfl⟩
theorem cloneB {xs : List Value} (h : Wd w 80 257 A n c xs) (h1 : ∀ u ∈ xs, u.oneCell' = true) (hn : n ≤ 100000000) : Calls Try.prog 34 #[.slice A n c] w fun e w' => ∃ A' c', e = .returned (.slice A' n c') ∧ Wd w' 80 257 A' n c' xs ∧ Below w.heap.size w w' ∧ ∀ i, A'.map (·.block) = some i → w.heap.size ≤ i := by
  rcases h.2 with ⟨h2, h3⟩ | ⟨gA, cap, cur, h2, _⟩
  · injection h2 with h4 h5 h6
    subst h3 h4 h6
    exact cloneB_none.mono fun e w' ⟨he, hw⟩ => ⟨none, 0, he, hw ▸ h, hw ▸ Below.refl _ _, fun i hi => by cases hi⟩
  · injection h2 with h4 h5 h6
    subst h4
    exact cloneB_some h h1 hn
set_option maxRecDepth 100000 in
set_option maxHeartbeats 800000 in
theorem copy_lay (h : Lay w g S A c B k m n D) (hll : S.loose.length ≤ 100000000) : Calls Try.prog 16 #[.pointer (some ⟨g, 0, none⟩)] w fun e w' => e = .returned (.pointer (some ⟨w.heap.size, 0, none⟩)) ∧
    (∃ A' c' B' k' m', Lay w' w.heap.size S A' c' B' k' m' n D ∧ ∀ i, Parts w.heap.size A' B' m' i → w.heap.size ≤ i) ∧ Below w.heap.size w w' := by
  have hlen := h.ok.len4096
  have c0 := lay0 h
  have c1 := lay1 h
  have c2 := lay2 h
  have c3 := lay3 h
  have c4 := lay4 h
  have c5 := lay5 h
  have hglt := h.st.lt
  go_enter Try.func16, Try.ntmps16
  go_wp2_with fail
  generalize hW1 : w.alloc (.cells #[.int .i64 S.most, .slice A S.last.length c, .slice B S.loose.length k, .map (some m), .bool S.fused, .int .i64 S.left] 65) = w1
  have hst1 : At w1 w.heap.size 65 #[.int .i64 S.most, .slice A S.last.length c, .slice B S.loose.length k, .map (some m), .bool S.fused, .int .i64 S.left] := by subst hW1; exact heap_alloc_new w _
  have hb1 : Below w.heap.size w w1 := by subst hW1; exact (Below.refl _ w).alloc (Nat.le_refl _) _
  have hs1 : w1.heap.size = w.heap.size + 1 := by subst hW1; simp
  have HS1 := Lib.hid hs1
  have h1 : Lay w1 g S A c B k m n D := h.same fun i hi => hb1.block i (h.lt i hi)
  clear hW1 c0 c1 c2 c3 c4 c5 hs1
  refine (cloneA h1.la (lastCells_one _) (by omega)).mono ?_
  rintro e w2 ⟨A', c', rfl, hA2, hb2, hn2⟩
  have hsz2 := hb2.size
  have hst2 := hst1.same (hb2.block w.heap.size hst1.lt)
  have h2 : Lay w2 g S A c B k m n D := h1.same fun i hi => hb2.block i (h1.lt i hi)
  have d1 : w2.cell? ⟨w.heap.size, 1, none⟩ = some (.slice A S.last.length c) := by rw [hst2.cell]; rfl
  have f1 := hst2.frozen 1
  have c2 := lay2 h2
  go_wp2_with fail
  have hst3 := hst2.set 1 (.slice A' S.last.length c')
  have ho3 : ∀ i, i ≠ w.heap.size → (w2.setCell ⟨w.heap.size, 1, none⟩ (.slice A' S.last.length c')).heap[i]? = w2.heap[i]? := fun i hi => Below.heap_setCell w2 _ _ i hi
  have hs3 : (w2.setCell ⟨w.heap.size, 1, none⟩ (.slice A' S.last.length c')).heap.size = w2.heap.size := by simp
  have hb3 : Below w.heap.size w (w2.setCell ⟨w.heap.size, 1, none⟩ (.slice A' S.last.length c')) := (hb1.trans (hb2.mono (by have := HS1.out; omega))).setCell (Nat.le_refl _) _
  generalize w2.setCell ⟨w.heap.size, 1, none⟩ (.slice A' S.last.length c') = w3 at *
  have h3 : Lay w3 g S A c B k m n D := h2.same fun i hi => ho3 i (by have := h.lt i hi; omega)
  have hA3 : Wd w3 77 256 A' S.last.length c' (lastCells S.last) := hA2.same fun i hi => ho3 i (by have := hn2 i (own_blk hi); have := HS1.out; omega)
  clear d1 f1 c2
  refine (cloneB h3.lo (looseCells_one _) hll).mono ?_
  rintro e w4 ⟨B', k', rfl, hB4, hb4, hn4⟩
  have hsz4 := hb4.size
  have hst4 := hst3.same (hb4.block w.heap.size hst3.lt)
  have h4 : Lay w4 g S A c B k m n D := h3.same fun i hi => hb4.block i (h3.lt i hi)
  have hA4 : Wd w4 77 256 A' S.last.length c' (lastCells S.last) := hA3.same fun i hi => hb4.block i (hA3.blk i hi)
  have d2 : w4.cell? ⟨w.heap.size, 2, none⟩ = some (.slice B S.loose.length k) := by rw [hst4.cell]; rfl
  have f2 := hst4.frozen 2
  have c3 := lay3 h4
  go_wp2_with fail
  have hst5 := hst4.set 2 (.slice B' S.loose.length k')
  have ho5 : ∀ i, i ≠ w.heap.size → (w4.setCell ⟨w.heap.size, 2, none⟩ (.slice B' S.loose.length k')).heap[i]? = w4.heap[i]? := fun i hi => Below.heap_setCell w4 _ _ i hi
  have hs5 : (w4.setCell ⟨w.heap.size, 2, none⟩ (.slice B' S.loose.length k')).heap.size = w4.heap.size := by simp
  have hb5 : Below w.heap.size w (w4.setCell ⟨w.heap.size, 2, none⟩ (.slice B' S.loose.length k')) := (hb3.trans (hb4.mono (by have := HS1.out; omega))).setCell (Nat.le_refl _) _
  generalize w4.setCell ⟨w.heap.size, 2, none⟩ (.slice B' S.loose.length k') = w5 at *
  have h5 : Lay w5 g S A c B k m n D := h4.same fun i hi => ho5 i (by have := h.lt i hi; omega)
  have hA5 : Wd w5 77 256 A' S.last.length c' (lastCells S.last) := hA4.same fun i hi => ho5 i (by have := hn2 i (own_blk hi); have := HS1.out; omega)
  have hB5 : Wd w5 80 257 B' S.loose.length k' (looseCells S.loose) := hB4.same fun i hi => ho5 i (by have := hn4 i (own_blk hi); have := HS1.out; omega)
  clear d2 f2 c3
  refine (mapClone h5.mp).mono ?_
  rintro e w6 ⟨rfl, hm6, hb6⟩
  have hsz6 := hb6.size
  have hst6 := hst5.same (hb6.block w.heap.size hst5.lt)
  have hA6 : Wd w6 77 256 A' S.last.length c' (lastCells S.last) := hA5.same fun i hi => hb6.block i (hA5.blk i hi)
  have hB6 : Wd w6 80 257 B' S.loose.length k' (looseCells S.loose) := hB5.same fun i hi => hb6.block i (hB5.blk i hi)
  have d3 : w6.cell? ⟨w.heap.size, 3, none⟩ = some (.map (some m)) := by rw [hst6.cell]; rfl
  have f3 := hst6.frozen 3
  have HL := Lib.hid (show Lay (w6.setCell ⟨w.heap.size, 3, none⟩ (.map (some w5.heap.size))) w.heap.size S A' c' B' k' w5.heap.size n D from by
    have ho7 : ∀ i, i ≠ w.heap.size → (w6.setCell ⟨w.heap.size, 3, none⟩ (.map (some w5.heap.size))).heap[i]? = w6.heap[i]? := fun i hi => Below.heap_setCell w6 _ _ i hi
    refine ⟨?_, hA6.same fun i hi => ho7 i (by have := hn2 i (own_blk hi); have := HS1.out; omega), hB6.same fun i hi => ho7 i (by have := hn4 i (own_blk hi); have := HS1.out; omega), map_same hm6 (ho7 _ (by have := HS1.out; omega)), h.nw, h.nn, h.ok⟩
    have := hst6.set 3 (.map (some w5.heap.size))
    simpa using this)
  have HB := Lib.hid (show Below w.heap.size w (w6.setCell ⟨w.heap.size, 3, none⟩ (.map (some w5.heap.size))) from (hb5.trans (hb6.mono (by have := HS1.out; omega))).setCell (Nat.le_refl _) _)
  have HP := Lib.hid (show ∀ i, Parts w.heap.size A' B' w5.heap.size i → w.heap.size ≤ i from by
    rintro i (rfl | hi | hi | rfl)
    · exact Nat.le_refl _
    · have := hn2 i hi; have := HS1.out; omega
    · have := hn4 i hi; have := HS1.out; omega
    · have := HS1.out; omega)
  clear hst6 hA6 hB6 hm6 hb6 hst5 hA5 hB5 h5 hb5 ho5 hs5 h4 hA4 hB4 hb4 hn4 hsz4 hst4 h3 hA3 hb3 hst3 ho3 hs3 h2 hA2 hb2 hn2 hsz2 hst2 h1 hst1 hb1 h hsz6
  go_wp2_with fail
  go_ret
  exact ⟨rfl, ⟨A', c', B', k', w5.heap.size, HL.out, HP.out⟩, HB.out⟩
/-- Copy: another disk, in new blocks -/
theorem copy_dk (h : Dk w g S F) (hll : S.loose.length ≤ 100000000) : Calls Try.prog 16 #[.pointer (some ⟨g, 0, none⟩)] w fun e w' => e = .returned (.pointer (some ⟨w.heap.size, 0, none⟩)) ∧
    Dk w' w.heap.size S (fun i => w.heap.size ≤ i ∧ i < w'.heap.size) ∧ Below w.heap.size w w' := by
  obtain ⟨A, c, B, k, m, n, D, h, hp⟩ := h
  exact (copy_lay h hll).mono fun e w' ⟨he, ⟨A', c', B', k', m', hl, hq⟩, hb⟩ => ⟨he, ⟨A', c', B', k', m', n, D, hl, fun i hi => ⟨hq i hi, hl.lt i hi⟩⟩, hb⟩
end
end Go.Proofs.Ytecdindjlfefhaa.DiskCopy
