/- Contracts of a disk's small calls: has, Dead, Pages, Loose, burn, forget, New, Fuse. -/
import Derived.Test.YtecdindjlfefhaaDiskMem
import Derived.IntWalk
namespace Go.Proofs.Ytecdindjlfefhaa.DiskSmall
open Go.RowKit Base DiskPlain DiskMem Go.Maps

section
variable {w : World} {g : Nat} {S : DS} {F : Nat → Prop} {A B : Option Addr} {c k m n : Nat} {D : DataW Unit}
theorem lay0 (h : Lay w g S A c B k m n D) : w.cell? ⟨g, 0, none⟩ = some (.int .i64 S.most) := by rw [h.st.cell]; rfl
theorem lay1 (h : Lay w g S A c B k m n D) : w.cell? ⟨g, 1, none⟩ = some (.slice A S.last.length c) := by rw [h.st.cell]; rfl
theorem lay2 (h : Lay w g S A c B k m n D) : w.cell? ⟨g, 2, none⟩ = some (.slice B S.loose.length k) := by rw [h.st.cell]; rfl
theorem lay3 (h : Lay w g S A c B k m n D) : w.cell? ⟨g, 3, none⟩ = some (.map (some m)) := by rw [h.st.cell]; rfl
theorem lay4 (h : Lay w g S A c B k m n D) : w.cell? ⟨g, 4, none⟩ = some (.bool S.fused) := by rw [h.st.cell]; rfl
theorem lay5 (h : Lay w g S A c B k m n D) : w.cell? ⟨g, 5, none⟩ = some (.int .i64 S.left) := by rw [h.st.cell]; rfl
theorem layF (h : Lay w g S A c B k m n D) (i : Nat) : w.frozen? ⟨g, i, none⟩ = false := h.st.frozen i

theorem dead_lay (h : Lay w g S A c B k m n D) : Calls Try.prog 26 #[.pointer (some ⟨g, 0, none⟩)] w fun e w' => e = .returned (.bool S.dead) ∧ w = w' := by
  have c4 := lay4 h
  have c5 := lay5 h
  unfold DS.dead
  generalize S.left = z at *
  cases hf : S.fused with
  | false =>
    rw [hf] at c4
    clear h hf
    go_enter Try.func26, Try.ntmps26
    go_wp2_with fail
    go_ret
    exact ⟨rfl, rfl⟩
  | true =>
    rw [hf] at c4
    clear h hf
    by_cases hz : z = 0
    · subst hz
      go_enter Try.func26, Try.ntmps26
      go_wp2_with fail
      go_ret
      exact ⟨rfl, rfl⟩
    · have hb : (z == 0) = false := beq_eq_false_iff_ne.2 hz
      clear hz
      go_enter Try.func26, Try.ntmps26
      go_wp2_with fail
      go_ret
      exact ⟨ret_bool (by rw [hb]; rfl), rfl⟩
theorem has_lay (h : Lay w g S A c B k m n D) (p : Int) : Calls Try.prog 38 #[.pointer (some ⟨g, 0, none⟩), .int .i64 p] w fun e w' => e = .returned (.bool (S.has p)) ∧ w = w' := by
  have c1 := lay1 h
  have hlen := h.ok.len4096
  unfold DS.has
  generalize S.last.length = z at *
  clear h
  by_cases h0 : 0 ≤ p
  · by_cases h1 : p < z
    · go_enter Try.func38, Try.ntmps38
      go_wp2_with fail
      go_ret
      exact ⟨ret_bool (by simp [h0, h1]), rfl⟩
    · go_enter Try.func38, Try.ntmps38
      go_wp2_with fail
      go_ret
      exact ⟨ret_bool (by simp [h1]), rfl⟩
  · go_enter Try.func38, Try.ntmps38
    go_wp2_with fail
    go_ret
    exact ⟨ret_bool (by simp; intro; omega), rfl⟩
theorem pages_lay (h : Lay w g S A c B k m n D) : Calls Try.prog 18 #[.pointer (some ⟨g, 0, none⟩)] w fun e w' => e = .returned (.int .i64 (S.last.length : Int)) ∧ w = w' := by
  have c1 := lay1 h
  clear h
  go_enter Try.func18, Try.ntmps18
  go_wp2_with fail
  go_ret
  exact ⟨rfl, rfl⟩
theorem loose_lay (h : Lay w g S A c B k m n D) : Calls Try.prog 22 #[.pointer (some ⟨g, 0, none⟩)] w fun e w' => e = .returned (.int .i64 (S.loose.length : Int)) ∧ w = w' := by
  have c1 := lay2 h
  clear h
  go_enter Try.func22, Try.ntmps22
  go_wp2_with fail
  go_ret
  exact ⟨rfl, rfl⟩

theorem burn_lay (h : Lay w g S A c B k m n D) (hd : S.fused = true → 1 ≤ S.left) : Calls Try.prog 37 #[.pointer (some ⟨g, 0, none⟩)] w fun e w' => e = .returned (.tuple #[]) ∧ Lay w' g S.burn A c B k m n D ∧ Turn (fun i => i = g) w w' := by
  have c4 := lay4 h
  have c5 := lay5 h
  have f5 := layF h 5
  have hok := h.ok.burn hd
  cases hf : S.fused with
  | false =>
    rw [hf] at c4
    have HL := Lib.hid (show Lay w g S.burn A c B k m n D by have e : S.burn = S := by simp [DS.burn, hf]
                                                             rw [e]; exact h)
    clear h hok hf
    go_enter Try.func37, Try.ntmps37
    go_wp2_with fail
    go_end0
    exact ⟨rfl, HL.out, Turn.refl _ _⟩
  | true =>
    rw [hf] at c4
    have h1 := hd hf
    have h2 := h.ok.l2
    have HL := Lib.hid (show Lay (w.setCell ⟨g, 5, none⟩ (.int .i64 (S.left - 1))) g S.burn A c B k m n D from
      h.struct (fun i hi => Below.heap_setCell w _ _ i hi) (by simp [DS.burn, hf]) (by simp [DS.burn, hf]) hok (by
        have := h.st.set 5 (.int .i64 (S.left - 1))
        simpa [DS.burn, hf] using this))
    clear h hok hf hd
    generalize S.left = z at *
    go_enter Try.func37, Try.ntmps37
    go_wp2_with fail
    go_end0
    exact ⟨rfl, HL.out, (Turn.refl (fun i => i = g) _).set ⟨g, 5, none⟩ (.inr rfl) _⟩

/-- clear of a map -/
theorem run_clear {t kt e ty : TypeId} (ht : Try.prog.underlying t = some (.map kt e)) {R : Value → Option (DataW Unit × List MemPlace)} (h : w.ownsMap Try.prog kt R m n D) :
    ∃ w', (Builtin.clear_ #[t] ty #[.map (some m)]).run Try.prog w = .ok (.tuple #[]) w' ∧ w'.ownsMap Try.prog kt R m 0 (.map []) ∧ Turn (fun i => i = m) w w' ∧ w'.heap.size = w.heap.size ∧ ∀ i, i ≠ m → w'.heap[i]? = w.heap[i]? := by
  obtain ⟨es, clock, hb, F, hs, rfl⟩ := h
  refine ⟨ChangeMaps.setBlock w m (.map #[] clock), ?_, ⟨#[], clock, ChangeMaps.heap_setBlock_same hb _, ⟨by simp, MapKept.stamped_empty clock, by simp⟩, Nat.le_refl _, rfl⟩, ⟨rfl, rfl, rfl, by simp [ChangeMaps.setBlock], fun i _ hi => ChangeMaps.heap_setBlock_other hb _ hi⟩, by simp [ChangeMaps.setBlock], fun i hi => ChangeMaps.heap_setBlock_other hb _ hi⟩
  simp [Builtin.clear_, run_underlying ht, MapKept.run_getObj_map hb, MapKept.run_setObj_map _ hb, Result.andThen, ChangeMaps.setBlock]
theorem forget_lay (h : Lay w g S A c B k m n D) : Calls Try.prog 36 #[.pointer (some ⟨g, 0, none⟩)] w fun e w' => e = .returned (.tuple #[]) ∧ Lay w' g S.forget A c none 0 m 0 (.map []) ∧ Turn (fun i => i = g ∨ i = m) w w' := by
  have c3 := lay3 h
  obtain ⟨w1, hrun, hm, ht, hsz, hot⟩ := run_clear (t := 61) (ty := 0) Try.underlying61 h.mp
  have hst : At w1 g 65 #[.int .i64 S.most, .slice A S.last.length c, .slice B S.loose.length k, .map (some m), .bool S.fused, .int .i64 S.left] := h.st.same (hot g (fun e => h.neM e.symm))
  have c2 : w1.cell? ⟨g, 2, none⟩ = some (.slice B S.loose.length k) := by rw [hst.cell]; rfl
  have f2 := hst.frozen 2
  have HL := Lib.hid (show Lay (w1.setCell ⟨g, 2, none⟩ (.slice none 0 0)) g S.forget A c none 0 m 0 (.map []) from by
    have ho : ∀ i, i ≠ g → (w1.setCell ⟨g, 2, none⟩ (.slice none 0 0)).heap[i]? = w1.heap[i]? := fun i hi => Below.heap_setCell w1 _ _ i hi
    refine ⟨by have := hst.set 2 (.slice none 0 0); simpa [DS.forget] using this, ?_, Wd.nil _ _ _, map_same hm (ho m h.neM), newest_empty, Nat.le_refl _, h.ok.forget⟩
    exact h.la.same fun i hi => (ho i (h.neA hi).1).trans (hot i (h.neA hi).2.1))
  have HT := Lib.hid (show Turn (fun i => i = g ∨ i = m) w (w1.setCell ⟨g, 2, none⟩ (.slice none 0 0)) from (ht.mono fun i _ e => .inr e).set ⟨g, 2, none⟩ (.inr (.inl rfl)) _)
  clear h hm ht hsz hot hst
  go_enter Try.func36, Try.ntmps36
  go_wp2_with fail
  go_end0
  exact ⟨rfl, HL.out, HT.out⟩
theorem fuse_lay (h : Lay w g S A c B k m n D) (x : Int) (hx : x ≤ 9223372036854775807) : Calls Try.prog 25 #[.pointer (some ⟨g, 0, none⟩), .int .i64 x] w fun e w' => e = .returned (.tuple #[]) ∧ Lay w' g (S.fuse x) A c B k m n D ∧ Turn (fun i => i = g) w w' := by
  have hd := dead_lay h
  have hok := h.ok.fuse hx
  cases hdd : S.dead with
  | true =>
    rw [hdd] at hd
    have HL := Lib.hid (show Lay w g (S.fuse x) A c B k m n D by have e : S.fuse x = S := by simp [DS.fuse, hdd]
                                                                 rw [e]; exact h)
    clear h hok hdd
    go_enter Try.func25, Try.ntmps25
    go_wp2_with fail
    refine hd.mono ?_
    rintro e w' ⟨rfl, rfl⟩
    go_wp2_with fail
    refine bodyPost_ret (results_none rfl _ _ _) rfl ?_
    exact ⟨rfl, HL.out, Turn.refl _ _⟩
  | false =>
    rw [hdd] at hd
    have c4 := lay4 h
    have c5 := lay5 h
    have f4 := layF h 4
    have f5 := layF h 5
    have HL := Lib.hid (show Lay ((w.setCell ⟨g, 4, none⟩ (.bool true)).setCell ⟨g, 5, none⟩ (.int .i64 (max x 0))) g (S.fuse x) A c B k m n D from
      h.struct (fun i hi => (Below.heap_setCell _ _ _ i hi).trans (Below.heap_setCell w _ _ i hi)) (by simp [DS.fuse, hdd]) (by simp [DS.fuse, hdd]) hok (by
        have := (h.st.set 4 (.bool true)).set 5 (.int .i64 (max x 0))
        simpa [DS.fuse, hdd] using this))
    have HT := Lib.hid (show Turn (fun i => i = g) w ((w.setCell ⟨g, 4, none⟩ (.bool true)).setCell ⟨g, 5, none⟩ (.int .i64 (max x 0))) from ((Turn.refl (fun i => i = g) _).set ⟨g, 4, none⟩ (.inr rfl) _).set ⟨g, 5, none⟩ (.inr rfl) _)
    clear h hok hdd
    go_enter Try.func25, Try.ntmps25
    go_wp2_with fail
    refine hd.mono ?_
    rintro e w' ⟨rfl, rfl⟩
    clear hd
    go_wp2_with fail
    · rw [show max x 0 = 0 by omega] at HL HT
      go_end0
      exact ⟨rfl, HL.out, HT.out⟩
    · rw [show max x 0 = x by omega] at HL HT
      go_end0
      exact ⟨rfl, HL.out, HT.out⟩
theorem new_bad (w : World) (x : Int) (h : x < 1 ∨ 4096 < x) : Calls Try.prog 10 #[.int .i64 x] w fun e w' => e = .returned (.tuple #[.pointer none, .int .i64 32]) ∧ w = w' := by
  by_cases h1 : x < 1
  · go_enter Try.func10, Try.ntmps10
    go_wp2_with fail
    go_ret2
    exact ⟨rfl, rfl⟩
  · have h2 : 4096 < x := by omega
    clear h
    go_enter Try.func10, Try.ntmps10
    go_wp2_with fail
    go_ret2
    exact ⟨rfl, rfl⟩
theorem new_good (w : World) (x : Int) (h1 : 1 ≤ x) (h2 : x ≤ 4096) : Calls Try.prog 10 #[.int .i64 x] w fun e w' => e = .returned (.tuple #[.pointer (some ⟨w.heap.size + 1, 0, none⟩), .int .i64 0]) ∧
    Lay w' (w.heap.size + 1) (new x) none 0 none 0 w.heap.size 0 (.map []) ∧ Below w.heap.size w w' := by
  have hmm := @run_makeMap Try.prog
  have HL := Lib.hid (show Lay ((w.alloc (.map #[] 0)).alloc (.cells #[.int .i64 x, .slice none 0 0, .slice none 0 0, .map (some w.heap.size), .bool false, .int .i64 0] 65)) (w.heap.size + 1) (new x) none 0 none 0 w.heap.size 0 (.map []) from
    ⟨heap_alloc2_new w _ _, Wd.nil _ _ _, Wd.nil _ _ _, (World.ownsMap_made w Try.prog 3 _).alloc _, newest_empty, Nat.le_refl _, new_ok h1 h2⟩)
  go_enter Try.func10, Try.ntmps10
  go_wp2_with fail
  go_ret2
  exact ⟨rfl, HL.out, ((Below.refl _ _).alloc (Nat.le_refl _) _).alloc (by simp) _⟩
end
end Go.Proofs.Ytecdindjlfefhaa.DiskSmall
