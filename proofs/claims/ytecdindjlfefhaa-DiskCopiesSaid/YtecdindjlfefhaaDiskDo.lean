/- Contracts of few and do: an act, done to a disk. -/
import Derived.Test.YtecdindjlfefhaaDiskLaw
namespace Go.Proofs.Ytecdindjlfefhaa.DiskDo
open Go.RowKit Base DiskPlain DiskMem DiskSmall DiskRead DiskGrow DiskWrite DiskSync DiskCrash DiskSpoil DiskCopy DiskLaw Go.Maps

theorem few_any (x : Ac) (K : Option Addr) (ck : Nat) (w : World) (hs : x.s.size ≤ maxLen) (hk : x.kept.length ≤ maxLen) :
    Calls Try.prog 12 #[.agg #[.int .i64 x.kind, .int .i64 x.n, .int .i64 x.page, .int .i64 x.at_, .string x.s, .slice K x.kept.length ck]] w fun e w' => e = .returned (.bool (few x)) ∧ w' = w.alloc (.cells #[.int .i64 x.kind, .int .i64 x.n, .int .i64 x.page, .int .i64 x.at_, .string x.s, .slice K x.kept.length ck] 35) := by
  unfold few
  unfold maxLen at hs hk
  generalize x.kept.length = q at *
  by_cases h1 : x.s.size ≤ 300
  · by_cases h2 : q ≤ 20
    · by_cases h3 : x.n ≤ 50
      · go_enter Try.func12, Try.ntmps12
        go_wp2_with fail
        go_ret
        exact ⟨ret_bool (by simp [h1, h2, h3]), rfl⟩
      · go_enter Try.func12, Try.ntmps12
        go_wp2_with fail
        go_ret
        exact ⟨ret_bool (by simp [h3]), rfl⟩
    · go_enter Try.func12, Try.ntmps12
      go_wp2_with fail
      go_ret
      exact ⟨ret_bool (by simp), rfl⟩
  · go_enter Try.func12, Try.ntmps12
    go_wp2_with fail
    go_ret
    exact ⟨ret_bool (by simp), rfl⟩
theorem torn_info : (Try.prog.info? 52).map (fun i => (i.zero, i.size, i.bytes)) = some (some (.agg #[.int .i64 0, .int .u8 0]), 2, 16) := by kernel_rfl
theorem kept_len (ks : List (Int × Nat)) : (keptCells ks).length = ks.length * 2 := by rw [keptCells, flat_len 2 _ (kept_each ks)]; simp
theorem kept_one (ks : List (Int × Nat)) : ∀ u ∈ keptCells ks, u.oneCell' = true := by
  intro u hu
  obtain ⟨c, hc, hu⟩ := List.mem_flatten.1 hu
  obtain ⟨x, _, rfl⟩ := List.mem_map.1 hc
  rcases List.mem_cons.1 hu with rfl | hu
  · rfl
  · rcases List.mem_cons.1 hu with rfl | hu
    · rfl
    · cases hu
/-- append([]api.Torn{}, kept...) -/
theorem kept_append (w : World) (K : Option Addr) (ck : Nat) (ks : List (Int × Nat)) (hks : ks.length ≤ 1000000) (hrow : Row w w.heap.size K (keptCells ks)) :
    ∃ A' c' w', (Builtin.append_ #[33, 33] 33 #[.slice (some ⟨w.heap.size, 0, none⟩) 0 0, .slice K ks.length ck]).run Try.prog (w.alloc (.cells #[] 52)) = .ok (.slice A' ks.length c') w' ∧ Below w.heap.size w w' ∧
      ∀ j v, (keptCells ks)[j]? = some v → ∃ ad, A' = some ad ∧ ad.block < w'.heap.size ∧ w.heap.size ≤ ad.block ∧ w'.cell? (ad.add j) = some v := by
  have hb0 : Below w.heap.size w (w.alloc (.cells #[] 52)) := (Below.refl _ w).alloc (Nat.le_refl _) _
  cases K with
  | none =>
    have h0 : ks = [] := by
      cases ks with
      | nil => rfl
      | cons x l => obtain ⟨ad, e, _⟩ := hrow.get 0 (by simp [keptCells]); cases e
    subst h0
    obtain ⟨i, i1, i2, i3, i4⟩ := info_parts torn_info
    refine ⟨some ⟨w.heap.size, 0, none⟩, 0, _, ?_, hb0, fun j v hv => by simp [keptCells] at hv⟩
    simp [Builtin.append_, run_underlying Try.underlying33, sizeOf, typeInfo, i1, Builtin.lenOf, Builtin.firstCells, storeCells]
  | some ad =>
    obtain ⟨i, i1, i2, i3, i4⟩ := info_parts torn_info
    have hown : Wd (w.alloc (.cells #[] 52)) 52 2 (some ⟨w.heap.size, 0, none⟩) 0 0 [] := World.ownsRow_made w #[] 0 (Nat.zero_le _) (by simp [maxLen]) (by simp)
    obtain ⟨A', c', w2, hrun, hw2, hgr, hpl⟩ := append_wide (t := 33) (ty := 33) 2 16 Try.underlying33 i1 i2 i3 i4 (by simp [Value.cells]) (by omega) hown ad ks.length ck (keptCells ks) (kept_len ks) (fun j u hu => by
      obtain ⟨ad', e, hb, hc⟩ := hrow j u hu
      injection e with e
      subst e
      rw [World.cell?_alloc_lt _ _ _ (World.block_lt_of_cell? w _ hc)]
      exact hc) (kept_one ks) (by omega) (by omega)
    rw [Nat.zero_add] at hrun hw2
    rw [List.nil_append] at hw2
    have hblk : ∀ i, A'.map (·.block) = some i → w.heap.size ≤ i := fun i hi => by
      rcases hpl with e | e
      · rw [e] at hi; simp at hi; omega
      · rw [e] at hi; simp at hi; omega
    refine ⟨A', c', w2, hrun, hb0.trans ⟨hgr.os, hgr.tape, hgr.output, hgr.size, fun i hi => hgr.block i (by simp; omega) (fun e => by simp at e; omega)⟩, fun j v hv => ?_⟩
    have hn : 0 < ks.length := by
      rcases Nat.eq_zero_or_pos ks.length with q | q
      · rw [List.eq_nil_of_length_eq_zero q] at hv; simp [keptCells] at hv
      · exact q
    obtain ⟨gk, cur, rfl, hg, _⟩ := hw2.form hn
    refine ⟨_, rfl, heap_lt hg, hblk gk rfl, ?_⟩
    rw [add_blk, Nat.zero_add]
    exact hw2.cell rfl hv
section
variable {w : World} {g : Nat} {S : DS} {F : Nat → Prop}
theorem do_grow (h : Dk w g S F) (x : Ac) (K : Option Addr) (ck : Nat) (hk : x.kind = 0) :
    Calls Try.prog 14 #[.pointer (some ⟨g, 0, none⟩), .agg #[.int .i64 x.kind, .int .i64 x.n, .int .i64 x.page, .int .i64 x.at_, .string x.s, .slice K x.kept.length ck]] w fun e w' => e = .returned (.int .i64 (S.growE x.n)) ∧ Went F g w (S.grow x.n) w' := by
  have hb : Below w.heap.size w (w.alloc (.cells #[.int .i64 0, .int .i64 x.n, .int .i64 x.page, .int .i64 x.at_, .string x.s, .slice K x.kept.length ck] 35)) := (Below.refl _ w).alloc (Nat.le_refl _) _
  have hc := grow_dk (h.below hb) x.n
  rw [hk]
  have HB := Lib.hid hb
  clear h hb hk
  go_enter Try.func14, Try.ntmps14
  go_wp2_with fail
  refine hc.mono ?_
  rintro e w1 ⟨rfl, h1⟩
  clear hc
  go_wp2_with fail
  go_ret
  exact ⟨rfl, Went.after HB.out h1⟩
theorem do_sync (h : Dk w g S F) (x : Ac) (K : Option Addr) (ck : Nat) (hk : x.kind = 2) (hll : S.loose.length ≤ 100000000) :
    Calls Try.prog 14 #[.pointer (some ⟨g, 0, none⟩), .agg #[.int .i64 x.kind, .int .i64 x.n, .int .i64 x.page, .int .i64 x.at_, .string x.s, .slice K x.kept.length ck]] w fun e w' => e = .returned (.int .i64 0) ∧ Went F g w S.sync w' := by
  have hb : Below w.heap.size w (w.alloc (.cells #[.int .i64 2, .int .i64 x.n, .int .i64 x.page, .int .i64 x.at_, .string x.s, .slice K x.kept.length ck] 35)) := (Below.refl _ w).alloc (Nat.le_refl _) _
  have hc := sync_dk (h.below hb) hll
  rw [hk]
  have HB := Lib.hid hb
  clear h hb hk
  go_enter Try.func14, Try.ntmps14
  go_wp2_with fail
  refine hc.mono ?_
  rintro e w1 ⟨rfl, h1⟩
  clear hc
  go_wp2_with fail
  go_ret
  exact ⟨rfl, Went.after HB.out h1⟩
theorem do_fuse (h : Dk w g S F) (x : Ac) (K : Option Addr) (ck : Nat) (hk : x.kind = 6) (hx : x.n ≤ 9223372036854775807) :
    Calls Try.prog 14 #[.pointer (some ⟨g, 0, none⟩), .agg #[.int .i64 x.kind, .int .i64 x.n, .int .i64 x.page, .int .i64 x.at_, .string x.s, .slice K x.kept.length ck]] w fun e w' => e = .returned (.int .i64 0) ∧ Went F g w (S.fuse x.n) w' := by
  have hb : Below w.heap.size w (w.alloc (.cells #[.int .i64 6, .int .i64 x.n, .int .i64 x.page, .int .i64 x.at_, .string x.s, .slice K x.kept.length ck] 35)) := (Below.refl _ w).alloc (Nat.le_refl _) _
  have hc := fuse_dk (h.below hb) x.n hx
  rw [hk]
  have HB := Lib.hid hb
  clear h hb hk
  go_enter Try.func14, Try.ntmps14
  go_wp2_with fail
  refine hc.mono ?_
  rintro e w1 ⟨rfl, h1⟩
  clear hc
  go_wp2_with fail
  go_ret
  exact ⟨rfl, Went.after HB.out h1⟩
theorem do_none (h : Dk w g S F) (x : Ac) (K : Option Addr) (ck : Nat) (h0 : x.kind ≠ 0) (h1 : x.kind ≠ 1) (h2 : x.kind ≠ 2) (h3 : x.kind ≠ 3) (h4 : x.kind ≠ 4) (h6 : x.kind ≠ 6) :
    Calls Try.prog 14 #[.pointer (some ⟨g, 0, none⟩), .agg #[.int .i64 x.kind, .int .i64 x.n, .int .i64 x.page, .int .i64 x.at_, .string x.s, .slice K x.kept.length ck]] w fun e w' => e = .returned (.int .i64 0) ∧ Went F g w S w' := by
  have b0 := beq_eq_false_iff_ne.2 h0
  have b1 := beq_eq_false_iff_ne.2 h1
  have b2 := beq_eq_false_iff_ne.2 h2
  have b3 := beq_eq_false_iff_ne.2 h3
  have b4 := beq_eq_false_iff_ne.2 h4
  have b6 := beq_eq_false_iff_ne.2 h6
  have HB := Lib.hid (show Went F g w S (w.alloc (.cells #[.int .i64 x.kind, .int .i64 x.n, .int .i64 x.page, .int .i64 x.at_, .string x.s, .slice K x.kept.length ck] 35)) from Went.after ((Below.refl _ w).alloc (Nat.le_refl _) _) (went_same (h.below ((Below.refl _ w).alloc (Nat.le_refl _) _))))
  clear h h0 h1 h2 h3 h4 h6
  go_enter Try.func14, Try.ntmps14
  go_wp2_with fail
  go_ret
  exact ⟨rfl, HB.out⟩
theorem do_write (h : Dk w g S F) (x : Ac) (K : Option Addr) (ck : Nat) (hk : x.kind = 1) (hll : S.loose.length ≤ 100000000) :
    Calls Try.prog 14 #[.pointer (some ⟨g, 0, none⟩), .agg #[.int .i64 x.kind, .int .i64 x.n, .int .i64 x.page, .int .i64 x.at_, .string x.s, .slice K x.kept.length ck]] w fun e w' => e = .returned (.int .i64 (S.writeE x.page x.b)) ∧ Went F g w (S.write x.page x.b) w' := by
  have hb : Below w.heap.size w (w.alloc (.cells #[.int .i64 1, .int .i64 x.n, .int .i64 x.page, .int .i64 x.at_, .string x.s, .slice K x.kept.length ck] 35)) := (Below.refl _ w).alloc (Nat.le_refl _) _
  obtain ⟨C, w2, hcv, _, hb2, hs2, hr2, _⟩ := conv_string (P := Try.prog) (w.alloc (.cells #[.int .i64 1, .int .i64 x.n, .int .i64 x.page, .int .i64 x.at_, .string x.s, .slice K x.kept.length ck] 35)) x.s Try.underlying9 Try.underlying45 Try.underlying5
  simp only [World.size_alloc] at hcv hs2 hr2
  have hlen : x.s.size = x.b.length := by simp [Ac.b]
  have hc := write_dk ((h.below hb).below hb2) x.page (some ⟨w.heap.size + 1, 0, none⟩) C x.b hll (hr2.more (by omega))
  rw [← hlen] at hc
  rw [hk]
  have HB := Lib.hid (show Below w.heap.size w w2 from hb.trans (hb2.mono (by simp)))
  clear h hb hk hb2 hs2 hr2 hlen
  go_enter Try.func14, Try.ntmps14
  go_wp2_with fail
  refine hc.mono ?_
  rintro e w1 ⟨rfl, h1⟩
  clear hc
  go_wp2_with fail
  go_ret
  exact ⟨rfl, Went.after HB.out h1⟩
theorem do_spoil (h : Dk w g S F) (hF : ∀ i, F i → i < w.heap.size) (x : Ac) (K : Option Addr) (ck : Nat) (hk : x.kind = 4) (hll : S.loose.length ≤ 100000000) (hsz : x.s.size ≤ 300) :
    Calls Try.prog 14 #[.pointer (some ⟨g, 0, none⟩), .agg #[.int .i64 x.kind, .int .i64 x.n, .int .i64 x.page, .int .i64 x.at_, .string x.s, .slice K x.kept.length ck]] w fun e w' => e = .returned (.int .i64 (S.spoilE x.page x.at_ x.b)) ∧ Went F g w (S.spoil x.page x.at_ x.b) w' := by
  have hb : Below w.heap.size w (w.alloc (.cells #[.int .i64 4, .int .i64 x.n, .int .i64 x.page, .int .i64 x.at_, .string x.s, .slice K x.kept.length ck] 35)) := (Below.refl _ w).alloc (Nat.le_refl _) _
  obtain ⟨C, w2, hcv, _, hb2, hs2, hr2, _⟩ := conv_string (P := Try.prog) (w.alloc (.cells #[.int .i64 4, .int .i64 x.n, .int .i64 x.page, .int .i64 x.at_, .string x.s, .slice K x.kept.length ck] 35)) x.s Try.underlying9 Try.underlying45 Try.underlying5
  simp only [World.size_alloc] at hcv hs2 hr2
  have hlen : x.s.size = x.b.length := by simp [Ac.b]
  have hc := spoil_dk ((h.below hb).below hb2) x.page x.at_ (some ⟨w.heap.size + 1, 0, none⟩) C x.b (by omega) hll (fun j v hv => by
    obtain ⟨ad, e, _, q⟩ := hr2 j v hv
    injection e with e
    subst e
    exact ⟨_, rfl, by show w.heap.size + 1 < w2.heap.size; omega, fun q => by have := hF _ q; simp at this; omega, q⟩)
  rw [← hlen] at hc
  rw [hk]
  have HB := Lib.hid (show Below w.heap.size w w2 from hb.trans (hb2.mono (by simp)))
  clear h hb hk hb2 hs2 hr2 hlen hF
  go_enter Try.func14, Try.ntmps14
  go_wp2_with fail
  refine hc.mono ?_
  rintro e w1 ⟨rfl, h1⟩
  clear hc
  go_wp2_with fail
  go_ret
  exact ⟨rfl, Went.after HB.out h1⟩
theorem do_crash (h : Dk w g S F) (hF : ∀ i, F i → i < w.heap.size) (x : Ac) (K : Option Addr) (ck : Nat) (hk : x.kind = 3) (hll : S.loose.length ≤ 100000000) (hks : x.kept.length ≤ 1000000) (hz : ∀ y ∈ x.kept, y.2 < 256) (hrow : Row w w.heap.size K (keptCells x.kept)) :
    Calls Try.prog 14 #[.pointer (some ⟨g, 0, none⟩), .agg #[.int .i64 x.kind, .int .i64 x.n, .int .i64 x.page, .int .i64 x.at_, .string x.s, .slice K x.kept.length ck]] w fun e w' => e = .returned (.int .i64 0) ∧ Went F g w (S.crash x.kept) w' := by
  have hb : Below w.heap.size w (w.alloc (.cells #[.int .i64 3, .int .i64 x.n, .int .i64 x.page, .int .i64 x.at_, .string x.s, .slice K x.kept.length ck] 35)) := (Below.refl _ w).alloc (Nat.le_refl _) _
  obtain ⟨A', c', w2, hrun, hb2, hr2⟩ := kept_append (w.alloc (.cells #[.int .i64 3, .int .i64 x.n, .int .i64 x.page, .int .i64 x.at_, .string x.s, .slice K x.kept.length ck] 35)) K ck x.kept hks ((hrow.below hb).more (by simp))
  simp only [World.size_alloc] at hrun hr2
  have hc := crash_dk ((h.below hb).below hb2) A' c' x.kept hks hz hll (fun j v hv => by
    obtain ⟨ad, e, q1, q2, q3⟩ := hr2 j v hv
    exact ⟨ad, e, q1, fun q => by have := hF _ q; omega, q3⟩)
  rw [hk]
  have HB := Lib.hid (show Below w.heap.size w w2 from hb.trans (hb2.mono (by simp)))
  clear h hb hk hb2 hr2 hF hrow
  go_enter Try.func14, Try.ntmps14
  go_wp2_with (at_builtin; refine wpList_append_run rfl (.tmp 29) (.tmp 31) 33 33 rfl rfl rfl hrun ?_)
  refine hc.mono ?_
  rintro e w1 ⟨rfl, h1⟩
  clear hc
  go_wp2_with fail
  go_ret
  exact ⟨rfl, Went.after HB.out h1⟩
/-- an act that isn't too great -/
structure AcOk (x : Ac) : Prop where
  n : x.n ≤ 9223372036854775807
  z : ∀ y ∈ x.kept, y.2 < 256
  s : x.s.size ≤ maxLen
  k : x.kept.length ≤ maxLen
theorem few_sizes {x : Ac} (h : few x = true) : x.s.size ≤ 300 ∧ x.kept.length ≤ 20 ∧ x.n ≤ 50 := by
  simp [few] at h; omega
theorem do_dk (h : Dk w g S F) (hF : ∀ i, F i → i < w.heap.size) (x : Ac) (K : Option Addr) (ck : Nat) (hx : AcOk x) (hf : few x = true) (hll : S.loose.length ≤ 100000000) (hrow : Row w w.heap.size K (keptCells x.kept)) :
    Calls Try.prog 14 #[.pointer (some ⟨g, 0, none⟩), .agg #[.int .i64 x.kind, .int .i64 x.n, .int .i64 x.page, .int .i64 x.at_, .string x.s, .slice K x.kept.length ck]] w fun e w' => e = .returned (.int .i64 (actE S x)) ∧ Went F g w (act S x) w' := by
  obtain ⟨f1, f2, f3⟩ := few_sizes hf
  unfold actE act
  by_cases h0 : x.kind = 0
  · simp only [h0, if_true]; have := do_grow h x K ck h0; rw [h0] at this; exact this
  by_cases h1 : x.kind = 1
  · simp only [h1, if_true]; have := do_write h x K ck h1 hll; rw [h1] at this; exact this
  by_cases h2 : x.kind = 2
  · simp only [h2, if_true]; have := do_sync h x K ck h2 hll; rw [h2] at this; exact this
  by_cases h3 : x.kind = 3
  · simp only [h3, if_true]; have := do_crash h hF x K ck h3 hll (by omega) hx.z hrow; rw [h3] at this; exact this
  by_cases h4 : x.kind = 4
  · simp only [h4, if_true]; have := do_spoil h hF x K ck h4 hll f1; rw [h4] at this; exact this
  by_cases h6 : x.kind = 6
  · simp only [h6, if_true]; have := do_fuse h x K ck h6 hx.n; rw [h6] at this; exact this
  · simp only [h0, h1, h2, h3, h4, h6, if_false]; exact do_none h x K ck h0 h1 h2 h3 h4 h6
end
end Go.Proofs.Ytecdindjlfefhaa.DiskDo
