/- The walk of FactsNarrow. -/
import Derived.Test.YtilcnhdfdgmekaaGreatKFactsFind2
import Derived.Test.YtilcnhdfdgmekaaGreatKFactsLawP
import Derived.Test.YtilcnhdfdgmekaaGreatKHeld
namespace Go.Proofs.YtilcnhdfdgmekaaGreat.FactsNarrow
open Go.RowKit Base KeyPlain TuplePlain TupleRef TupleSpec TupleCut FMap FactsPlain FactsMem FactsHas FactsPut FactsDrop FactsNew FactsFind FactsLess FactsObj FactsUsersOf FactsNames FactsOrder FactsRefS FactsFew FactsIs FactsAwake TurnB RowN FactsLawP FactsFind2

theorem find_len (m : List Tp) (x : Tp) (most : Int) : (find m x most).length ≤ m.length := by
  unfold find
  rw [List.length_take]
  exact Nat.le_trans (Nat.min_le_right _ _) (List.length_filter_le _ _)
theorem find_sub {m : List Tp} {x y : Tp} (hm : m.length ≤ 80) (h : ∀ t, means y t = true → means x t = true) {t : Tp} (ht : t ∈ find m y 1000) : t ∈ find m x 1000 := by
  have e : ∀ z, find m z 1000 = m.filter (means z) := fun z => by
    unfold find
    rw [List.take_of_length_le]
    have := List.length_filter_le (means z) m
    have : (1000 : Int).toNat = 1000 := rfl
    omega
  rw [e] at ht ⊢
  obtain ⟨h1, h2⟩ := List.mem_filter.1 ht
  exact List.mem_filter.2 ⟨h1, h t h2⟩
theorem find_cut (m : List Tp) (x : Tp) {a b : Int} (h : a ≤ b) : (find m x b).take (find m x a).length = find m x a := by
  unfold find
  rw [List.take_take, List.length_take]
  have : min (min a.toNat (m.filter (means x)).length) b.toNat = min a.toNat (m.filter (means x)).length := by omega
  rw [this, ← List.take_eq_take_min]
theorem find_cut_len (m : List Tp) (x : Tp) {a b : Int} (h : a ≤ b) : (find m x a).length ≤ (find m x b).length := by
  rw [← find_cut m x h, List.length_take]
  exact Nat.min_le_right _ _
theorem rowT_take {w : World} {A : Option Addr} {l : List Tp} (h : RowT w A l) (k : Nat) : RowT w A (l.take k) := fun i hi => by
  rw [List.length_take] at hi
  obtain ⟨g, o, h1, h2, h3⟩ := h i (by omega)
  exact ⟨g, o, h1, h2, by simpa using h3⟩
def NaS (b5 b7 p q : Nat) (x : Tp) (w : World) : Prop := Bx w b5 x ∧ w.cell? ⟨b7, 0, none⟩ = some (.int .u8 (p : Int)) ∧ w.cell? ⟨b7, 1, none⟩ = some (.int .u8 (q : Int))
def NyS (b5 b10 : Nat) (x y : Tp) (w : World) : Prop := Bx w b5 x ∧ Bx w b10 y
theorem cell_b {w w' : World} {p : Addr} {v : Value} (h : w.cell? p = some v) (hb : Below w.heap.size w w') : w'.cell? p = some v := cell_wn (lo := 0) (Wn.ofBelow hb) h
theorem NaS.below {b5 b7 p q : Nat} {x : Tp} {w w' : World} (h : NaS b5 b7 p q x w) (hb : Below w.heap.size w w') : NaS b5 b7 p q x w' := ⟨h.1.below hb, cell_b h.2.1 hb, cell_b h.2.2 hb⟩
theorem NyS.below {b5 b10 : Nat} {x y : Tp} {w w' : World} (h : NyS b5 b10 x y w) (hb : Below w.heap.size w w') : NyS b5 b10 x y w' := ⟨h.1.below hb, h.2.below hb⟩
/-- the filter that tells more -/
def nar (x t : Tp) : Tp := ⟨x.k, if x.i.size = 0 then t.i else x.i, x.r, ⟨x.u.k, if x.u.i.size = 0 then t.u.i else x.u.i, x.u.r⟩⟩
theorem nar_means (x t s : Tp) (h : means (nar x t) s = true) : means x s = true := by
  refine means_more (y := nar x t) (.inr rfl) ?_ (.inr rfl) (.inr rfl) ?_ (.inr rfl) h
  · by_cases hz : x.i.size = 0
    · exact .inl hz
    · exact .inr (by simp [nar, hz])
  · by_cases hz : x.u.i.size = 0
    · exact .inl hz
    · exact .inr (by simp [nar, hz])
set_option maxRecDepth 100000 in
set_option maxHeartbeats 51200000 in
theorem narrow_any (A : Option Addr) (c : Nat) (l : List Tp) (x t : Tp) (p q : Nat) (W : World) (hr : TRow W A l) (hT : ∀ t ∈ l, TpF t) (hz : l.length * 96 ≤ reachBytes) (hp : p ≤ 255) (hq : q ≤ 255) :
    Calls Tryz.prog 7 #[.slice A l.length c, .agg (tc x), .agg (tc t), .agg #[.int .u8 (p : Int), .int .u8 (q : Int)]] W (Law W) := by
  have HR := Lib.hid hr
  have HTF := Lib.hid hT
  have HZ := Lib.hid hz
  obtain ⟨n, hn⟩ : ∃ v, v = l.length := ⟨_, rfl⟩
  rw [← hn] at hz ⊢
  have HZ := Lib.hid (show n * 96 ≤ 140737488355328 by unfold reachBytes at hz; omega)
  have HNL := Lib.hid hn
  obtain ⟨m, hm⟩ : ∃ v, new l = v := ⟨_, rfl⟩
  have HM := Lib.hid hm
  have HMU := Lib.hid (show Up ltT m by rw [← hm]; exact new_up l)
  have HML := Lib.hid (show m.length * 96 ≤ 140737488355328 by have := new_len l; rw [hm] at this; unfold reachBytes at hz; omega)
  clear hr hT hz hn hm
  obtain ⟨w1, hw1⟩ : ∃ v, v = W.alloc (.cells (tc x) 43) := ⟨_, rfl⟩
  obtain ⟨b5, hb5⟩ : ∃ v, v = W.heap.size := ⟨_, rfl⟩
  obtain ⟨w2, hw2⟩ : ∃ v, v = w1.alloc (.cells (tc t) 32) := ⟨_, rfl⟩
  obtain ⟨b6, hb6⟩ : ∃ v, v = b5 + 1 := ⟨_, rfl⟩
  obtain ⟨w3, hw3⟩ : ∃ v, v = w2.alloc (.cells #[.int .u8 (p : Int), .int .u8 (q : Int)] 59) := ⟨_, rfl⟩
  obtain ⟨b7, hb7⟩ : ∃ v, v = b6 + 1 := ⟨_, rfl⟩
  have bl1 : Below W.heap.size W w1 := by rw [hw1]; exact al _ _
  have bl2 : Below w1.heap.size w1 w2 := by rw [hw2]; exact al _ _
  have bl3 : Below w2.heap.size w2 w3 := by rw [hw3]; exact al _ _
  have s1 : w1.heap.size = b6 := by rw [hw1, hb6, hb5]; simp
  have s2 : w2.heap.size = b7 := by rw [hw2, hb7]; simp [s1]
  have a5 : w1.heap[b5]? = some (.cells (tc x) 43 (0, 0)) := by rw [hw1, hb5]; exact heap_alloc_new W _
  have a6 : w2.heap[b6]? = some (.cells (tc t) 32 (0, 0)) := by rw [hw2, ← s1]; exact heap_alloc_new w1 _
  have a7 : w3.heap[b7]? = some (.cells #[.int .u8 (p : Int), .int .u8 (q : Int)] 59 (0, 0)) := by rw [hw3, ← s2]; exact heap_alloc_new w2 _
  have a5' := ((Below.step bl2 bl3).block b5 (heap_lt a5)).trans a5
  have a6' := (bl3.block b6 (heap_lt a6)).trans a6
  have HC := Lib.hid (fun (w' : World) (hw' : Below w3.heap.size w3 w') => show Bx w' b5 x ∧ Bx w' b6 t ∧ w'.cell? ⟨b7, 0, none⟩ = some (.int .u8 (p : Int)) ∧ w'.cell? ⟨b7, 1, none⟩ = some (.int .u8 (q : Int)) from
    ⟨six_at ((hw'.block b5 (heap_lt a5')).trans a5'), six_at ((hw'.block b6 (heap_lt a6')).trans a6'), by simp [World.cell?, (hw'.block b7 (heap_lt a7)).trans a7], by simp [World.cell?, (hw'.block b7 (heap_lt a7)).trans a7]⟩)
  have HBw3 := Lib.hid (Below.step (Below.step bl1 bl2) bl3)
  unfold tc at hw1 hw2 ⊢
  have HW1 := Lib.hid hw1
  have HW2 := Lib.hid hw2
  have HW3 := Lib.hid hw3
  have HB5 := Lib.hid hb5
  have HB6 := Lib.hid hb6
  have HB7 := Lib.hid hb7
  clear hw1 hb5 hw2 hb6 hw3 hb7 bl1 bl2 bl3 s1 s2 a5 a6 a7 a5' a6'
  go_enter Tryz.func7, Tryz.ntmps7
  go_upto_region 1 with fail
  rw [← HW1.out, ← HB5.out, ← HB6.out, ← HW2.out, ← HW3.out]
  rw [← HB7.out]
  clear HW1 HW2 HW3 HB6
  obtain ⟨A1, c1, w4, hrun, hr1, hb1⟩ := run_copy (c := c) HNL.out (HR.out.below HBw3.out) HZ.out 22
  have HNEW := Lib.hid (is_new (n := n) (c := c1) l HNL.out (by have := HZ.out; omega) hr1 HTF.out)
  have HBM := Lib.hid (HBw3.out.trans (hb1.mono HBw3.out.size))
  have HSM := Lib.hid hb1
  clear hr1 hb1
  go_wp2_with (at_builtin; first | refine wpList_append_run rfl (.tmp 16) (.tmp 17) 22 22 rfl rfl rfl hrun ?_)
  clear hrun
  (with_reducible refine HNEW.out.mono ?_)
  rintro e w5 hq
  unfold MadePost at hq
  obtain ⟨fb, rfl, his, hbn⟩ := hq
  rw [HM.out] at his
  have HIS := Lib.hid his
  have HBw5 := Lib.hid (HBM.out.trans (hbn.mono HBM.out.size))
  have HSw5 := Lib.hid (HSM.out.trans (hbn.mono HSM.out.size))
  have HLO := Lib.hid (show w4.heap.size ≤ w5.heap.size ∧ W.heap.size ≤ w4.heap.size from ⟨hbn.size, HBM.out.size⟩)
  obtain ⟨lo, hlo⟩ : ∃ v, v = w4.heap.size := ⟨_, rfl⟩
  rw [← hlo] at HIS HLO
  clear his hbn HNEW HBM HSM hlo
  have HCC := Lib.hid (fun (wx : World) (hk : Below w5.heap.size w5 wx) => HC.out wx (Below.step HSw5.out hk))
  clear HC
  go_wp2_with fail
  (with_reducible refine (awake_any _).mono ?_)
  rintro e w6 ⟨rfl, hb⟩
  have HBw6 := Lib.hid (HBw5.out.trans (hb.mono HBw5.out.size))
  have hk6 : Below w5.heap.size w5 w6 := hb
  clear hb
  have hfew := few_any w6 A n c l HNL.out (rowT (HR.out.below HBw6.out)) (by have := HZ.out; omega)
  go_wp2_with fail
  (with_reducible refine hfew.mono ?_)
  clear hfew
  rintro e w7 ⟨rfl, hb⟩
  have HBw7 := Lib.hid (HBw6.out.trans (hb.mono HBw6.out.size))
  cases hf : fewB l with
  | false =>
    clear hb hf
    go_wp2_with fail
    (with_reducible refine (awake_any _).mono ?_)
    rintro e wz ⟨rfl, hbz⟩
    have HBZ := Lib.hid (HBw7.out.trans (hbz.mono HBw7.out.size))
    clear hbz
    go_wp2_with fail
    go_ret
    exact ⟨rfl, HBZ.out⟩
  | true =>
    have hk7 : Below w5.heap.size w5 w7 := Below.step hk6 hb
    have HMM := Lib.hid (show m.length ≤ 80 by have := new_len l; rw [HM.out] at this; have := few_len hf; omega)
    have HIS7 := Lib.hid (HIS.out.below hk7)
    clear hb hf hk6
    have HK7 := Lib.hid hk7
    obtain ⟨⟨h0, h1, h2, h3, h4, h5⟩, ⟨i0, i1, i2, i3, i4, i5⟩, hp0, hq0⟩ := HCC.out _ hk7
    have j1 : ∀ o, (w7.alloc o).cell? ⟨b6, 1, none⟩ = some (.string t.i) := fun o => cell_b i1 (al _ _)
    have j4 : ∀ o, (w7.alloc o).cell? ⟨b6, 4, none⟩ = some (.string t.u.i) := fun o => cell_b i4 (al _ _)
    obtain ⟨y, hy⟩ : ∃ v, v = nar x t := ⟨_, rfl⟩
    obtain ⟨w8, hw8⟩ : ∃ v, v = w7.alloc (.cells (tc y) 43) := ⟨_, rfl⟩
    obtain ⟨b10, hb10⟩ : ∃ v, v = w7.heap.size := ⟨_, rfl⟩
    have bl8 : Below w7.heap.size w7 w8 := by rw [hw8]; exact al _ _
    have a10 : w8.heap[b10]? = some (.cells (tc y) 43 (0, 0)) := by rw [hw8, hb10]; exact heap_alloc_new w7 _
    have HNA := Lib.hid (fun (w : World) (hb : Below w8.heap.size w8 w) => show NaS b5 b7 p q x w from ⟨(HCC.out _ (Below.step (Below.step HK7.out bl8) hb)).1, (HCC.out _ (Below.step (Below.step HK7.out bl8) hb)).2.2⟩)
    have HNY := Lib.hid (fun (w : World) (hb : Below w8.heap.size w8 w) => show NyS b5 b10 x y w from ⟨(HCC.out _ (Below.step (Below.step HK7.out bl8) hb)).1, six_at ((hb.block b10 (heap_lt a10)).trans a10)⟩)
    have HIS8 := Lib.hid (HIS7.out.below bl8)
    have HBw8 := Lib.hid (HBw7.out.trans (bl8.mono HBw7.out.size))
    have HSUB := Lib.hid (fun (s : Tp) (hs : s ∈ find m y 1000) => find_sub HMM.out (x := x) (y := y) (fun t' ht' => nar_means x t t' (by rw [← hy]; exact ht')) hs)
    have HFX := Lib.hid (fun (w : World) (hb : Below w8.heap.size w8 w) (z : Tp) (most : Int) => is_find2 (HIS8.out.below hb) HML.out z most)
    have HB10 := Lib.hid hb10
    have HY := Lib.hid hy
    unfold tc at hw8
    have HW8 := Lib.hid hw8
    clear hy hw8 hb10 bl8 a10 hk7
    by_cases hxi : x.i.size = 0
    · skip
      by_cases hui : x.u.i.size = 0
      · skip
        have ei : x.i.toList.isEmpty = true := by rw [TupleRef.empty_eq]; simp [hxi]
        have eu : x.u.i.toList.isEmpty = true := by rw [TupleRef.empty_eq]; simp [hui]
        have hyv : y = ⟨x.k, t.i, x.r, ⟨x.u.k, t.u.i, x.u.r⟩⟩ := by rw [HY.out]; simp [nar, hxi, hui]
        have hw8 := HW8.out
        rw [hyv] at hw8
        dsimp only at hw8
        have HW8' := Lib.hid hw8
        clear hw8 hxi hui hyv
        go_upto_region 9 with fail
        rw [← HW8'.out, ← HB10.out]
        clear h0 h1 h2 h3 h4 h5 i0 i1 i2 i3 i4 i5 hp0 hq0 ei eu HW8' j1 j4
        refine wp_region_any (by kernel_rfl) ?_
        change wpAny _ _ _ _ _ _ _ (World.drew _)
        obtain ⟨y0, hy0⟩ : ∃ v, v = World.drew w8 := ⟨_, rfl⟩
        rw [← hy0]
        have hba0 : Below w8.heap.size w8 y0 := by rw [hy0]; exact (Below.refl _ _).drew
        have hsa0 : NyS b5 b10 x y y0 := HNY.out _ hba0
        clear hy0
        refine Held.any_of_G (S := (fun w' : World => NyS b5 b10 x y w')) (z := 7) _ _ _ _ ?_
        refine Held.G_take (i := 0) (d := 48) (v := ?_) [0, 2, 5, 6, 7] rfl rfl (by kernel_rfl) (by kernel_rfl) (by kernel_rfl) (by kernel_rfl) (fun _ _ _ h => h) (Or.inl ⟨by rfl, ?_⟩) hsa0 ?_
        rotate_left 1
        · intro w hSw; clear hSw; go_simp <;> with_reducible rfl
        simp only [Act.put, List.setIfInBounds_toArray, List.set_cons_zero, List.set_cons_succ]
        refine Held.G_take (i := 1) (d := 49) (v := ?_) [1, 2, 5, 6, 7] rfl rfl (by kernel_rfl) (by kernel_rfl) (by kernel_rfl) (by kernel_rfl) (fun _ _ _ h => h) (Or.inl ⟨by rfl, ?_⟩) hsa0 ?_
        rotate_left 1
        · intro w hSw; obtain ⟨⟨h0, h1, h2, h3, h4, h5⟩, i0, i1, i2, i3, i4, i5⟩ := hSw; go_simp <;> with_reducible rfl
        simp only [Act.put, List.setIfInBounds_toArray, List.set_cons_zero, List.set_cons_succ]
        refine Held.G_take (i := 3) (d := 51) (v := ?_) [3, 5, 6, 7] rfl rfl (by kernel_rfl) (by kernel_rfl) (by kernel_rfl) (by kernel_rfl) (fun _ _ _ h => h) (Or.inl ⟨by rfl, ?_⟩) hsa0 ?_
        rotate_left 1
        · intro w hSw; clear hSw; go_simp <;> with_reducible rfl
        simp only [Act.put, List.setIfInBounds_toArray, List.set_cons_zero, List.set_cons_succ]
        refine Held.G_take (i := 4) (d := 52) (v := ?_) [4, 5, 6, 7] rfl rfl (by kernel_rfl) (by kernel_rfl) (by kernel_rfl) (by kernel_rfl) (fun _ _ _ h => h) (Or.inl ⟨by rfl, ?_⟩) hsa0 ?_
        rotate_left 1
        · intro w hSw; obtain ⟨⟨h0, h1, h2, h3, h4, h5⟩, i0, i1, i2, i3, i4, i5⟩ := hSw; go_simp <;> with_reducible rfl
        simp only [Act.put, List.setIfInBounds_toArray, List.set_cons_zero, List.set_cons_succ]
        refine Held.G_ready (rs := [2]) (by decide +kernel) (by simp) ?_
        refine Held.G_cons rfl (fun KK hK => ?_) Held.G_nil
        go_simp
        have hh := HFX.out _ hba0 x 1000
        unfold FindPost2 at hh
        dsimp only [tc] at hh
        (with_reducible refine hh.mono ?_)
        clear hh
        rintro e y1 ⟨Aa0, ca0, na0, hn, rfl, hsh, hcp, hrw, hbb⟩
        have hba1 := Below.step hba0 hbb
        have hsa1 := NyS.below hsa0 hbb
        have HAa0 := Lib.hid (And.intro (rowT hrw) (And.intro hn (And.intro hsh hcp)))
        clear hn hsh hcp hrw hbb hba0 hsa0
        go_simp
        refine hK _ _ ?_
        clear hK KK
        refine ⟨hsa1, ?_⟩
        refine Held.G_ready (rs := [5]) (by decide +kernel) (by simp) ?_
        refine Held.G_cons rfl (fun KK hK => ?_) Held.G_nil
        go_simp
        have hh := HFX.out _ hba1 y 1000
        unfold FindPost2 at hh
        dsimp only [tc] at hh
        (with_reducible refine hh.mono ?_)
        clear hh
        rintro e y2 ⟨Aa1, ca1, na1, hn, rfl, hsh, hcp, hrw, hbb⟩
        have hba2 := Below.step hba1 hbb
        have hsa2 := NyS.below hsa1 hbb
        have HAa0' := Lib.hid (And.intro (HAa0.out.1.below hbb) HAa0.out.2)
        have HAa1 := Lib.hid (And.intro (rowT hrw) (And.intro hn (And.intro hsh hcp)))
        clear hn hsh hcp hrw hbb hba1 hsa1
        go_simp
        refine hK _ _ ?_
        clear hK KK
        refine ⟨hsa2, ?_⟩
        refine Held.G_take (i := 6) (d := 11) (v := ?_) [6, 7] rfl rfl (by kernel_rfl) (by kernel_rfl) (by kernel_rfl) (by kernel_rfl) (fun _ _ _ h => h) (Or.inl ⟨by rfl, ?_⟩) hsa2 ?_
        rotate_left 1
        · intro w hSw; clear hSw; go_simp <;> with_reducible rfl
        simp only [Act.put, List.setIfInBounds_toArray, List.set_cons_zero, List.set_cons_succ]
        refine Held.G_ready (rs := [7]) (by decide +kernel) (by simp) ?_
        refine Held.G_last rfl (fun KK hK => ?_) Held.G_nil
        go_simp
        refine hK _ _ ?_
        clear hK KK
        refine Held.G_done (by kernel_rfl) ?_ _
        have HW0 := Lib.hid HAa0'.out
        have HBY := Lib.hid hba2
        have HCUT := Lib.hid (find_cut m x (a := min (p : Int) (q : Int)) (b := max (p : Int) (q : Int)) (by omega))
        have HLEN := Lib.hid (find_cut_len m x (a := min (p : Int) (q : Int)) (b := max (p : Int) (q : Int)) (by omega))
        have HCUT2 := Lib.hid (find_cut m x (a := max (p : Int) (q : Int)) (b := 1000) (by omega))
        have HLEN2 := Lib.hid (find_cut_len m x (a := max (p : Int) (q : Int)) (b := 1000) (by omega))
        have hnb : na1 ≤ 80 := by have := HAa1.out.2.1; have := find_len m y 1000; have := HMM.out; omega
        clear hba2 hsa2
        go_wp2_with fail
        go_loopw [13] (fun i wr => ∃ k : Nat, k ≤ na1 ∧ i = .int .i64 k ∧ Below y2.heap.size y2 wr) (fun i _ => na1 - (intOf i).toNat)
        case atStart => exact ⟨0, by omega, rfl, Below.refl _ _⟩
        case round =>
          obtain ⟨k, hk, rfl, hbw⟩ := hrel
          have HBR := Lib.hid hbw
          by_cases hlt : k < na1
          · have h1 : k < (find m y 1000).length := by have := HAa1.out.2.1; omega
            obtain ⟨gt, ot, hB, hgt, e0, e1, e2, e3, e4, e5⟩ := (HAa1.out.1.below hbw) k h1
            have hx2 := idx_tp (n := na1) (c := ca1) hB hlt
            have hin := HSUB.out _ (List.getElem_mem h1)
            have hhas := rhas_any wr Aa0 na0 ca0 (find m x 1000) (find m y 1000)[k] HW0.out.2.1 (HW0.out.1.below hbw) (by have := find_len m x 1000; have := HMM.out; omega)
            rw [decide_eq_true hin] at hhas
            generalize (find m y 1000)[k] = s at *
            clear h1 hB hgt hin hbw
            dsimp only [tc] at hhas
            have HLT := Lib.hid hlt
            go_wp2_with fail
            clear e0 e1 e2 e3 e4 e5 hx2
            (with_reducible refine hhas.mono ?_)
            clear hhas
            rintro e wq ⟨rfl, hb⟩
            have HBQ := Lib.hid (Below.step HBR.out hb)
            clear hb
            go_wp2_with fail
            go_roundw
            case rel => exact ⟨k + 1, by have := HLT.out; omega, by go_num, HBQ.out⟩
            case measure => have := HLT.out; simp [intOf]; omega
          · have HWR := Lib.hid (Below.step HBY.out hbw)
            clear hbw
            go_wp2_with fail
            clear hlt hk
            refine wp_region_any (by kernel_rfl) ?_
            change wpAny _ _ _ _ _ _ _ (World.drew _)
            obtain ⟨z0, hz0⟩ : ∃ v, v = World.drew wr := ⟨_, rfl⟩
            rw [← hz0]
            have hbb0 : Below w8.heap.size w8 z0 := by rw [hz0]; exact HWR.out.trans (Below.refl _ _).drew
            have hsb0 : NaS b5 b7 p q x z0 := HNA.out _ hbb0
            have HWZ0 := Lib.hid (show Below y2.heap.size y2 z0 from by rw [hz0]; exact HBR.out.trans (Below.refl _ _).drew)
            have hbz0 := HWZ0.out
            clear hz0
            obtain ⟨hwmin, hwmax⟩ : IntKind.i64.wrap (min (p : Int) (q : Int)) = min (p : Int) (q : Int) ∧ IntKind.i64.wrap (max (p : Int) (q : Int)) = max (p : Int) (q : Int) := ⟨wrap_small _ (by omega) (by omega), wrap_small _ (by omega) (by omega)⟩
            refine Held.any_of_G (S := (fun w' : World => NaS b5 b7 p q x w')) (z := 19) _ _ _ _ ?_
            refine Held.G_take (i := 0) (d := 67) (v := ?_) [0, 8, 17, 18, 19] rfl rfl (by kernel_rfl) (by kernel_rfl) (by kernel_rfl) (by kernel_rfl) (fun _ _ _ h => h) (Or.inl ⟨by rfl, ?_⟩) hsb0 ?_
            rotate_left 1
            · intro w hSw; clear hSw; go_simp <;> with_reducible rfl
            simp only [Act.put, List.setIfInBounds_toArray, List.set_cons_zero, List.set_cons_succ]
            refine Held.G_take (i := 1) (d := 68) (v := ?_) [1, 8, 17, 18, 19] rfl rfl (by kernel_rfl) (by kernel_rfl) (by kernel_rfl) (by kernel_rfl) (fun _ _ _ h => h) (Or.inl ⟨by rfl, ?_⟩) hsb0 ?_
            rotate_left 1
            · intro w hSw; obtain ⟨⟨h0, h1, h2, h3, h4, h5⟩, j0, j1⟩ := hSw; go_simp <;> with_reducible rfl
            simp only [Act.put, List.setIfInBounds_toArray, List.set_cons_zero, List.set_cons_succ]
            refine Held.G_take (i := 2) (d := 69) (v := ?_) [2, 3, 6, 7, 8, 17, 18, 19] rfl rfl (by kernel_rfl) (by kernel_rfl) (by kernel_rfl) (by kernel_rfl) (fun _ _ _ h => h) (Or.inl ⟨by rfl, ?_⟩) hsb0 ?_
            rotate_left 1
            · intro w hSw; clear hSw; go_simp <;> with_reducible rfl
            simp only [Act.put, List.setIfInBounds_toArray, List.set_cons_zero, List.set_cons_succ]
            refine Held.G_take (i := 3) (d := 70) (v := ?_) [3, 6, 7, 8, 17, 18, 19] rfl rfl (by kernel_rfl) (by kernel_rfl) (by kernel_rfl) (by kernel_rfl) (fun _ _ _ h => h) (Or.inl ⟨by rfl, ?_⟩) hsb0 ?_
            rotate_left 1
            · intro w hSw; obtain ⟨⟨h0, h1, h2, h3, h4, h5⟩, j0, j1⟩ := hSw; go_simp <;> with_reducible rfl
            simp only [Act.put, List.setIfInBounds_toArray, List.set_cons_zero, List.set_cons_succ]
            refine Held.G_take (i := 4) (d := 71) (v := ?_) [4, 5, 6, 7, 8, 17, 18, 19] rfl rfl (by kernel_rfl) (by kernel_rfl) (by kernel_rfl) (by kernel_rfl) (fun _ _ _ h => h) (Or.inl ⟨by rfl, ?_⟩) hsb0 ?_
            rotate_left 1
            · intro w hSw; clear hSw; go_simp <;> with_reducible rfl
            simp only [Act.put, List.setIfInBounds_toArray, List.set_cons_zero, List.set_cons_succ]
            refine Held.G_take (i := 5) (d := 72) (v := ?_) [5, 6, 7, 8, 17, 18, 19] rfl rfl (by kernel_rfl) (by kernel_rfl) (by kernel_rfl) (by kernel_rfl) (fun _ _ _ h => h) (Or.inl ⟨by rfl, ?_⟩) hsb0 ?_
            rotate_left 1
            · intro w hSw; obtain ⟨⟨h0, h1, h2, h3, h4, h5⟩, j0, j1⟩ := hSw; go_simp <;> with_reducible rfl
            simp only [Act.put, List.setIfInBounds_toArray, List.set_cons_zero, List.set_cons_succ]
            refine Held.G_take (i := 6) (d := 73) (v := ?_) [6, 7, 8, 17, 18, 19] rfl rfl (by kernel_rfl) (by kernel_rfl) (by kernel_rfl) (by kernel_rfl) (fun _ _ _ h => h) (Or.inl ⟨by rfl, ?_⟩) hsb0 ?_
            rotate_left 1
            · intro w hSw; clear hSw; go_simp <;> with_reducible rfl
            simp only [Act.put, List.setIfInBounds_toArray, List.set_cons_zero, List.set_cons_succ]
            refine Held.G_take (i := 7) (d := 74) (v := ?_) [7, 8, 17, 18, 19] rfl rfl (by kernel_rfl) (by kernel_rfl) (by kernel_rfl) (by kernel_rfl) (fun _ _ _ h => h) (Or.inl ⟨by rfl, ?_⟩) hsb0 ?_
            rotate_left 1
            · intro w hSw; clear hSw; go_simp <;> with_reducible rfl
            simp only [Act.put, List.setIfInBounds_toArray, List.set_cons_zero, List.set_cons_succ]
            refine Held.G_take (i := 9) (d := 76) (v := ?_) [9, 17, 18, 19] rfl rfl (by kernel_rfl) (by kernel_rfl) (by kernel_rfl) (by kernel_rfl) (fun _ _ _ h => h) (Or.inl ⟨by rfl, ?_⟩) hsb0 ?_
            rotate_left 1
            · intro w hSw; clear hSw; go_simp <;> with_reducible rfl
            simp only [Act.put, List.setIfInBounds_toArray, List.set_cons_zero, List.set_cons_succ]
            refine Held.G_take (i := 10) (d := 77) (v := ?_) [10, 17, 18, 19] rfl rfl (by kernel_rfl) (by kernel_rfl) (by kernel_rfl) (by kernel_rfl) (fun _ _ _ h => h) (Or.inl ⟨by rfl, ?_⟩) hsb0 ?_
            rotate_left 1
            · intro w hSw; obtain ⟨⟨h0, h1, h2, h3, h4, h5⟩, j0, j1⟩ := hSw; go_simp <;> with_reducible rfl
            simp only [Act.put, List.setIfInBounds_toArray, List.set_cons_zero, List.set_cons_succ]
            refine Held.G_take (i := 11) (d := 78) (v := ?_) [11, 12, 15, 16, 17, 18, 19] rfl rfl (by kernel_rfl) (by kernel_rfl) (by kernel_rfl) (by kernel_rfl) (fun _ _ _ h => h) (Or.inl ⟨by rfl, ?_⟩) hsb0 ?_
            rotate_left 1
            · intro w hSw; clear hSw; go_simp <;> with_reducible rfl
            simp only [Act.put, List.setIfInBounds_toArray, List.set_cons_zero, List.set_cons_succ]
            refine Held.G_take (i := 12) (d := 79) (v := ?_) [12, 15, 16, 17, 18, 19] rfl rfl (by kernel_rfl) (by kernel_rfl) (by kernel_rfl) (by kernel_rfl) (fun _ _ _ h => h) (Or.inl ⟨by rfl, ?_⟩) hsb0 ?_
            rotate_left 1
            · intro w hSw; obtain ⟨⟨h0, h1, h2, h3, h4, h5⟩, j0, j1⟩ := hSw; go_simp <;> with_reducible rfl
            simp only [Act.put, List.setIfInBounds_toArray, List.set_cons_zero, List.set_cons_succ]
            refine Held.G_take (i := 13) (d := 80) (v := ?_) [13, 14, 15, 16, 17, 18, 19] rfl rfl (by kernel_rfl) (by kernel_rfl) (by kernel_rfl) (by kernel_rfl) (fun _ _ _ h => h) (Or.inl ⟨by rfl, ?_⟩) hsb0 ?_
            rotate_left 1
            · intro w hSw; clear hSw; go_simp <;> with_reducible rfl
            simp only [Act.put, List.setIfInBounds_toArray, List.set_cons_zero, List.set_cons_succ]
            refine Held.G_take (i := 14) (d := 81) (v := ?_) [14, 15, 16, 17, 18, 19] rfl rfl (by kernel_rfl) (by kernel_rfl) (by kernel_rfl) (by kernel_rfl) (fun _ _ _ h => h) (Or.inl ⟨by rfl, ?_⟩) hsb0 ?_
            rotate_left 1
            · intro w hSw; obtain ⟨⟨h0, h1, h2, h3, h4, h5⟩, j0, j1⟩ := hSw; go_simp <;> with_reducible rfl
            simp only [Act.put, List.setIfInBounds_toArray, List.set_cons_zero, List.set_cons_succ]
            refine Held.G_take (i := 15) (d := 82) (v := ?_) [15, 16, 17, 18, 19] rfl rfl (by kernel_rfl) (by kernel_rfl) (by kernel_rfl) (by kernel_rfl) (fun _ _ _ h => h) (Or.inl ⟨by rfl, ?_⟩) hsb0 ?_
            rotate_left 1
            · intro w hSw; clear hSw; go_simp <;> with_reducible rfl
            simp only [Act.put, List.setIfInBounds_toArray, List.set_cons_zero, List.set_cons_succ]
            refine Held.G_take (i := 16) (d := 83) (v := ?_) [16, 17, 18, 19] rfl rfl (by kernel_rfl) (by kernel_rfl) (by kernel_rfl) (by kernel_rfl) (fun _ _ _ h => h) (Or.inl ⟨by rfl, ?_⟩) hsb0 ?_
            rotate_left 1
            · intro w hSw; clear hSw; go_simp <;> with_reducible rfl
            simp only [Act.put, List.setIfInBounds_toArray, List.set_cons_zero, List.set_cons_succ]
            refine Held.G_ready (rs := [8]) (by decide +kernel) (by simp) ?_
            refine Held.G_cons rfl (fun KK hK => ?_) Held.G_nil
            go_simp
            have hh := HFX.out _ hbb0 x (min (p : Int) (q : Int))
            unfold FindPost2 at hh
            dsimp only [tc] at hh
            (with_reducible refine hh.mono ?_)
            clear hh
            rintro e z1 ⟨Ab0, cb0, nb0, hn, rfl, hsh, hcp, hrw, hbb⟩
            have hbb1 := Below.step hbb0 hbb
            have hbz1 := Below.step hbz0 hbb
            clear hbz0
            have hsb1 := NaS.below hsb0 hbb
            have HAb0 := Lib.hid (And.intro (rowT hrw) (And.intro hn (And.intro hsh hcp)))
            clear hn hsh hcp hrw hbb hbb0 hsb0
            go_simp
            refine hK _ _ ?_
            clear hK KK
            refine ⟨hsb1, ?_⟩
            refine Held.G_ready (rs := [17]) (by decide +kernel) (by simp) ?_
            refine Held.G_cons rfl (fun KK hK => ?_) Held.G_nil
            go_simp
            have hh := HFX.out _ hbb1 x (max (p : Int) (q : Int))
            unfold FindPost2 at hh
            dsimp only [tc] at hh
            (with_reducible refine hh.mono ?_)
            clear hh
            rintro e z2 ⟨Ab1, cb1, nb1, hn, rfl, hsh, hcp, hrw, hbb⟩
            have hbb2 := Below.step hbb1 hbb
            have hbz2 := Below.step hbz1 hbb
            clear hbz1
            have hsb2 := NaS.below hsb1 hbb
            have HAb0' := Lib.hid (And.intro (HAb0.out.1.below hbb) HAb0.out.2)
            have HAb1 := Lib.hid (And.intro (rowT hrw) (And.intro hn (And.intro hsh hcp)))
            clear hn hsh hcp hrw hbb hbb1 hsb1
            go_simp
            refine hK _ _ ?_
            clear hK KK
            refine ⟨hsb2, ?_⟩
            refine Held.G_take (i := 18) (d := 14) (v := ?_) [18, 19] rfl rfl (by kernel_rfl) (by kernel_rfl) (by kernel_rfl) (by kernel_rfl) (fun _ _ _ h => h) (Or.inl ⟨by rfl, ?_⟩) hsb2 ?_
            rotate_left 1
            · intro w hSw; clear hSw; go_simp <;> with_reducible rfl
            simp only [Act.put, List.setIfInBounds_toArray, List.set_cons_zero, List.set_cons_succ]
            refine Held.G_ready (rs := [19]) (by decide +kernel) (by simp) ?_
            refine Held.G_last rfl (fun KK hK => ?_) Held.G_nil
            go_simp
            refine hK _ _ ?_
            clear hK KK
            refine Held.G_done (by kernel_rfl) ?_ _
            clear hwmin hwmax
            have HWZ := Lib.hid hbz2
            clear hbz2
            have HBF := Lib.hid (HBw8.out.trans (hbb2.mono HBw8.out.size))
            clear hsb2
            have hcb := cut_t Ab1 nb1 cb1 nb0 HAb1.out.2.2.1 (by have := HAb1.out.2.2.2; have := HLEN.out; have := HAb1.out.2.1; have := HAb0'.out.2.1; omega)
            have hcw := cut_t Aa0 na0 ca0 nb1 HW0.out.2.2.1 (by have := HW0.out.2.2.2; have := HLEN2.out; have := HAb1.out.2.1; have := HW0.out.2.1; omega)
            have hle : ((nb0 : Int) ≤ (nb1 : Int)) := by have := HLEN.out; have := HAb1.out.2.1; have := HAb0'.out.2.1; omega
            have hs1 := rsame_t z2 Ab0 Ab1 nb0 cb0 nb0 cb1 (find m x (min (p : Int) (q : Int))) ((find m x (max (p : Int) (q : Int))).take nb0) true HAb0'.out.2.1 (by rw [List.length_take]; have := HLEN.out; have := HAb0'.out.2.1; omega) HAb0'.out.1 (rowT_take HAb1.out.1 _) (by have := find_len m x (min (p : Int) (q : Int)); have := HMM.out; omega) (by rw [HAb0'.out.2.1, HCUT.out]; simp)
            have HS2 := Lib.hid (fun (w : World) (hb : Below z2.heap.size z2 w) => rsame_t w Ab1 Aa0 nb1 cb1 nb1 ca0 (find m x (max (p : Int) (q : Int))) ((find m x 1000).take nb1) true HAb1.out.2.1 (by rw [List.length_take]; have := HLEN2.out; have := HAb1.out.2.1; omega) (HAb1.out.1.below hb) (rowT_take ((HW0.out.1.below HWZ.out).below hb) _) (by have := find_len m x (max (p : Int) (q : Int)); have := HMM.out; omega) (by rw [HAb1.out.2.1, HCUT2.out]; simp))
            clear hbb2
            go_wp2_with fail
            (with_reducible refine hs1.mono ?_)
            clear hs1
            rintro e z3 ⟨rfl, hb3⟩
            have hs2 := HS2.out _ hb3
            have HB3 := Lib.hid (HBF.out.trans (hb3.mono HBF.out.size))
            clear hb3
            go_wp2_with fail
            (with_reducible refine hs2.mono ?_)
            clear hs2
            rintro e z4 ⟨rfl, hb4⟩
            have HB4 := Lib.hid (HB3.out.trans (hb4.mono HB3.out.size))
            clear hb4
            go_wp2_with fail
            go_ret
            exact ⟨rfl, HB4.out⟩
      · skip
        have ei : x.i.toList.isEmpty = true := by rw [TupleRef.empty_eq]; simp [hxi]
        have eu : x.u.i.toList.isEmpty = false := by rw [TupleRef.empty_eq]; simp [hui]
        have hyv : y = ⟨x.k, t.i, x.r, ⟨x.u.k, x.u.i, x.u.r⟩⟩ := by rw [HY.out]; simp [nar, hxi, hui]
        have hw8 := HW8.out
        rw [hyv] at hw8
        dsimp only at hw8
        have HW8' := Lib.hid hw8
        clear hw8 hxi hui hyv
        go_upto_region 9 with fail
        rw [← HW8'.out, ← HB10.out]
        clear h0 h1 h2 h3 h4 h5 i0 i1 i2 i3 i4 i5 hp0 hq0 ei eu HW8' j1 j4
        refine wp_region_any (by kernel_rfl) ?_
        change wpAny _ _ _ _ _ _ _ (World.drew _)
        obtain ⟨y0, hy0⟩ : ∃ v, v = World.drew w8 := ⟨_, rfl⟩
        rw [← hy0]
        have hba0 : Below w8.heap.size w8 y0 := by rw [hy0]; exact (Below.refl _ _).drew
        have hsa0 : NyS b5 b10 x y y0 := HNY.out _ hba0
        clear hy0
        refine Held.any_of_G (S := (fun w' : World => NyS b5 b10 x y w')) (z := 7) _ _ _ _ ?_
        refine Held.G_take (i := 0) (d := 48) (v := ?_) [0, 2, 5, 6, 7] rfl rfl (by kernel_rfl) (by kernel_rfl) (by kernel_rfl) (by kernel_rfl) (fun _ _ _ h => h) (Or.inl ⟨by rfl, ?_⟩) hsa0 ?_
        rotate_left 1
        · intro w hSw; clear hSw; go_simp <;> with_reducible rfl
        simp only [Act.put, List.setIfInBounds_toArray, List.set_cons_zero, List.set_cons_succ]
        refine Held.G_take (i := 1) (d := 49) (v := ?_) [1, 2, 5, 6, 7] rfl rfl (by kernel_rfl) (by kernel_rfl) (by kernel_rfl) (by kernel_rfl) (fun _ _ _ h => h) (Or.inl ⟨by rfl, ?_⟩) hsa0 ?_
        rotate_left 1
        · intro w hSw; obtain ⟨⟨h0, h1, h2, h3, h4, h5⟩, i0, i1, i2, i3, i4, i5⟩ := hSw; go_simp <;> with_reducible rfl
        simp only [Act.put, List.setIfInBounds_toArray, List.set_cons_zero, List.set_cons_succ]
        refine Held.G_take (i := 3) (d := 51) (v := ?_) [3, 5, 6, 7] rfl rfl (by kernel_rfl) (by kernel_rfl) (by kernel_rfl) (by kernel_rfl) (fun _ _ _ h => h) (Or.inl ⟨by rfl, ?_⟩) hsa0 ?_
        rotate_left 1
        · intro w hSw; clear hSw; go_simp <;> with_reducible rfl
        simp only [Act.put, List.setIfInBounds_toArray, List.set_cons_zero, List.set_cons_succ]
        refine Held.G_take (i := 4) (d := 52) (v := ?_) [4, 5, 6, 7] rfl rfl (by kernel_rfl) (by kernel_rfl) (by kernel_rfl) (by kernel_rfl) (fun _ _ _ h => h) (Or.inl ⟨by rfl, ?_⟩) hsa0 ?_
        rotate_left 1
        · intro w hSw; obtain ⟨⟨h0, h1, h2, h3, h4, h5⟩, i0, i1, i2, i3, i4, i5⟩ := hSw; go_simp <;> with_reducible rfl
        simp only [Act.put, List.setIfInBounds_toArray, List.set_cons_zero, List.set_cons_succ]
        refine Held.G_ready (rs := [2]) (by decide +kernel) (by simp) ?_
        refine Held.G_cons rfl (fun KK hK => ?_) Held.G_nil
        go_simp
        have hh := HFX.out _ hba0 x 1000
        unfold FindPost2 at hh
        dsimp only [tc] at hh
        (with_reducible refine hh.mono ?_)
        clear hh
        rintro e y1 ⟨Aa0, ca0, na0, hn, rfl, hsh, hcp, hrw, hbb⟩
        have hba1 := Below.step hba0 hbb
        have hsa1 := NyS.below hsa0 hbb
        have HAa0 := Lib.hid (And.intro (rowT hrw) (And.intro hn (And.intro hsh hcp)))
        clear hn hsh hcp hrw hbb hba0 hsa0
        go_simp
        refine hK _ _ ?_
        clear hK KK
        refine ⟨hsa1, ?_⟩
        refine Held.G_ready (rs := [5]) (by decide +kernel) (by simp) ?_
        refine Held.G_cons rfl (fun KK hK => ?_) Held.G_nil
        go_simp
        have hh := HFX.out _ hba1 y 1000
        unfold FindPost2 at hh
        dsimp only [tc] at hh
        (with_reducible refine hh.mono ?_)
        clear hh
        rintro e y2 ⟨Aa1, ca1, na1, hn, rfl, hsh, hcp, hrw, hbb⟩
        have hba2 := Below.step hba1 hbb
        have hsa2 := NyS.below hsa1 hbb
        have HAa0' := Lib.hid (And.intro (HAa0.out.1.below hbb) HAa0.out.2)
        have HAa1 := Lib.hid (And.intro (rowT hrw) (And.intro hn (And.intro hsh hcp)))
        clear hn hsh hcp hrw hbb hba1 hsa1
        go_simp
        refine hK _ _ ?_
        clear hK KK
        refine ⟨hsa2, ?_⟩
        refine Held.G_take (i := 6) (d := 11) (v := ?_) [6, 7] rfl rfl (by kernel_rfl) (by kernel_rfl) (by kernel_rfl) (by kernel_rfl) (fun _ _ _ h => h) (Or.inl ⟨by rfl, ?_⟩) hsa2 ?_
        rotate_left 1
        · intro w hSw; clear hSw; go_simp <;> with_reducible rfl
        simp only [Act.put, List.setIfInBounds_toArray, List.set_cons_zero, List.set_cons_succ]
        refine Held.G_ready (rs := [7]) (by decide +kernel) (by simp) ?_
        refine Held.G_last rfl (fun KK hK => ?_) Held.G_nil
        go_simp
        refine hK _ _ ?_
        clear hK KK
        refine Held.G_done (by kernel_rfl) ?_ _
        have HW0 := Lib.hid HAa0'.out
        have HBY := Lib.hid hba2
        have HCUT := Lib.hid (find_cut m x (a := min (p : Int) (q : Int)) (b := max (p : Int) (q : Int)) (by omega))
        have HLEN := Lib.hid (find_cut_len m x (a := min (p : Int) (q : Int)) (b := max (p : Int) (q : Int)) (by omega))
        have HCUT2 := Lib.hid (find_cut m x (a := max (p : Int) (q : Int)) (b := 1000) (by omega))
        have HLEN2 := Lib.hid (find_cut_len m x (a := max (p : Int) (q : Int)) (b := 1000) (by omega))
        have hnb : na1 ≤ 80 := by have := HAa1.out.2.1; have := find_len m y 1000; have := HMM.out; omega
        clear hba2 hsa2
        go_wp2_with fail
        go_loopw [13] (fun i wr => ∃ k : Nat, k ≤ na1 ∧ i = .int .i64 k ∧ Below y2.heap.size y2 wr) (fun i _ => na1 - (intOf i).toNat)
        case atStart => exact ⟨0, by omega, rfl, Below.refl _ _⟩
        case round =>
          obtain ⟨k, hk, rfl, hbw⟩ := hrel
          have HBR := Lib.hid hbw
          by_cases hlt : k < na1
          · have h1 : k < (find m y 1000).length := by have := HAa1.out.2.1; omega
            obtain ⟨gt, ot, hB, hgt, e0, e1, e2, e3, e4, e5⟩ := (HAa1.out.1.below hbw) k h1
            have hx2 := idx_tp (n := na1) (c := ca1) hB hlt
            have hin := HSUB.out _ (List.getElem_mem h1)
            have hhas := rhas_any wr Aa0 na0 ca0 (find m x 1000) (find m y 1000)[k] HW0.out.2.1 (HW0.out.1.below hbw) (by have := find_len m x 1000; have := HMM.out; omega)
            rw [decide_eq_true hin] at hhas
            generalize (find m y 1000)[k] = s at *
            clear h1 hB hgt hin hbw
            dsimp only [tc] at hhas
            have HLT := Lib.hid hlt
            go_wp2_with fail
            clear e0 e1 e2 e3 e4 e5 hx2
            (with_reducible refine hhas.mono ?_)
            clear hhas
            rintro e wq ⟨rfl, hb⟩
            have HBQ := Lib.hid (Below.step HBR.out hb)
            clear hb
            go_wp2_with fail
            go_roundw
            case rel => exact ⟨k + 1, by have := HLT.out; omega, by go_num, HBQ.out⟩
            case measure => have := HLT.out; simp [intOf]; omega
          · have HWR := Lib.hid (Below.step HBY.out hbw)
            clear hbw
            go_wp2_with fail
            clear hlt hk
            refine wp_region_any (by kernel_rfl) ?_
            change wpAny _ _ _ _ _ _ _ (World.drew _)
            obtain ⟨z0, hz0⟩ : ∃ v, v = World.drew wr := ⟨_, rfl⟩
            rw [← hz0]
            have hbb0 : Below w8.heap.size w8 z0 := by rw [hz0]; exact HWR.out.trans (Below.refl _ _).drew
            have hsb0 : NaS b5 b7 p q x z0 := HNA.out _ hbb0
            have HWZ0 := Lib.hid (show Below y2.heap.size y2 z0 from by rw [hz0]; exact HBR.out.trans (Below.refl _ _).drew)
            have hbz0 := HWZ0.out
            clear hz0
            obtain ⟨hwmin, hwmax⟩ : IntKind.i64.wrap (min (p : Int) (q : Int)) = min (p : Int) (q : Int) ∧ IntKind.i64.wrap (max (p : Int) (q : Int)) = max (p : Int) (q : Int) := ⟨wrap_small _ (by omega) (by omega), wrap_small _ (by omega) (by omega)⟩
            refine Held.any_of_G (S := (fun w' : World => NaS b5 b7 p q x w')) (z := 19) _ _ _ _ ?_
            refine Held.G_take (i := 0) (d := 67) (v := ?_) [0, 8, 17, 18, 19] rfl rfl (by kernel_rfl) (by kernel_rfl) (by kernel_rfl) (by kernel_rfl) (fun _ _ _ h => h) (Or.inl ⟨by rfl, ?_⟩) hsb0 ?_
            rotate_left 1
            · intro w hSw; clear hSw; go_simp <;> with_reducible rfl
            simp only [Act.put, List.setIfInBounds_toArray, List.set_cons_zero, List.set_cons_succ]
            refine Held.G_take (i := 1) (d := 68) (v := ?_) [1, 8, 17, 18, 19] rfl rfl (by kernel_rfl) (by kernel_rfl) (by kernel_rfl) (by kernel_rfl) (fun _ _ _ h => h) (Or.inl ⟨by rfl, ?_⟩) hsb0 ?_
            rotate_left 1
            · intro w hSw; obtain ⟨⟨h0, h1, h2, h3, h4, h5⟩, j0, j1⟩ := hSw; go_simp <;> with_reducible rfl
            simp only [Act.put, List.setIfInBounds_toArray, List.set_cons_zero, List.set_cons_succ]
            refine Held.G_take (i := 2) (d := 69) (v := ?_) [2, 3, 6, 7, 8, 17, 18, 19] rfl rfl (by kernel_rfl) (by kernel_rfl) (by kernel_rfl) (by kernel_rfl) (fun _ _ _ h => h) (Or.inl ⟨by rfl, ?_⟩) hsb0 ?_
            rotate_left 1
            · intro w hSw; clear hSw; go_simp <;> with_reducible rfl
            simp only [Act.put, List.setIfInBounds_toArray, List.set_cons_zero, List.set_cons_succ]
            refine Held.G_take (i := 3) (d := 70) (v := ?_) [3, 6, 7, 8, 17, 18, 19] rfl rfl (by kernel_rfl) (by kernel_rfl) (by kernel_rfl) (by kernel_rfl) (fun _ _ _ h => h) (Or.inl ⟨by rfl, ?_⟩) hsb0 ?_
            rotate_left 1
            · intro w hSw; obtain ⟨⟨h0, h1, h2, h3, h4, h5⟩, j0, j1⟩ := hSw; go_simp <;> with_reducible rfl
            simp only [Act.put, List.setIfInBounds_toArray, List.set_cons_zero, List.set_cons_succ]
            refine Held.G_take (i := 4) (d := 71) (v := ?_) [4, 5, 6, 7, 8, 17, 18, 19] rfl rfl (by kernel_rfl) (by kernel_rfl) (by kernel_rfl) (by kernel_rfl) (fun _ _ _ h => h) (Or.inl ⟨by rfl, ?_⟩) hsb0 ?_
            rotate_left 1
            · intro w hSw; clear hSw; go_simp <;> with_reducible rfl
            simp only [Act.put, List.setIfInBounds_toArray, List.set_cons_zero, List.set_cons_succ]
            refine Held.G_take (i := 5) (d := 72) (v := ?_) [5, 6, 7, 8, 17, 18, 19] rfl rfl (by kernel_rfl) (by kernel_rfl) (by kernel_rfl) (by kernel_rfl) (fun _ _ _ h => h) (Or.inl ⟨by rfl, ?_⟩) hsb0 ?_
            rotate_left 1
            · intro w hSw; obtain ⟨⟨h0, h1, h2, h3, h4, h5⟩, j0, j1⟩ := hSw; go_simp <;> with_reducible rfl
            simp only [Act.put, List.setIfInBounds_toArray, List.set_cons_zero, List.set_cons_succ]
            refine Held.G_take (i := 6) (d := 73) (v := ?_) [6, 7, 8, 17, 18, 19] rfl rfl (by kernel_rfl) (by kernel_rfl) (by kernel_rfl) (by kernel_rfl) (fun _ _ _ h => h) (Or.inl ⟨by rfl, ?_⟩) hsb0 ?_
            rotate_left 1
            · intro w hSw; clear hSw; go_simp <;> with_reducible rfl
            simp only [Act.put, List.setIfInBounds_toArray, List.set_cons_zero, List.set_cons_succ]
            refine Held.G_take (i := 7) (d := 74) (v := ?_) [7, 8, 17, 18, 19] rfl rfl (by kernel_rfl) (by kernel_rfl) (by kernel_rfl) (by kernel_rfl) (fun _ _ _ h => h) (Or.inl ⟨by rfl, ?_⟩) hsb0 ?_
            rotate_left 1
            · intro w hSw; clear hSw; go_simp <;> with_reducible rfl
            simp only [Act.put, List.setIfInBounds_toArray, List.set_cons_zero, List.set_cons_succ]
            refine Held.G_take (i := 9) (d := 76) (v := ?_) [9, 17, 18, 19] rfl rfl (by kernel_rfl) (by kernel_rfl) (by kernel_rfl) (by kernel_rfl) (fun _ _ _ h => h) (Or.inl ⟨by rfl, ?_⟩) hsb0 ?_
            rotate_left 1
            · intro w hSw; clear hSw; go_simp <;> with_reducible rfl
            simp only [Act.put, List.setIfInBounds_toArray, List.set_cons_zero, List.set_cons_succ]
            refine Held.G_take (i := 10) (d := 77) (v := ?_) [10, 17, 18, 19] rfl rfl (by kernel_rfl) (by kernel_rfl) (by kernel_rfl) (by kernel_rfl) (fun _ _ _ h => h) (Or.inl ⟨by rfl, ?_⟩) hsb0 ?_
            rotate_left 1
            · intro w hSw; obtain ⟨⟨h0, h1, h2, h3, h4, h5⟩, j0, j1⟩ := hSw; go_simp <;> with_reducible rfl
            simp only [Act.put, List.setIfInBounds_toArray, List.set_cons_zero, List.set_cons_succ]
            refine Held.G_take (i := 11) (d := 78) (v := ?_) [11, 12, 15, 16, 17, 18, 19] rfl rfl (by kernel_rfl) (by kernel_rfl) (by kernel_rfl) (by kernel_rfl) (fun _ _ _ h => h) (Or.inl ⟨by rfl, ?_⟩) hsb0 ?_
            rotate_left 1
            · intro w hSw; clear hSw; go_simp <;> with_reducible rfl
            simp only [Act.put, List.setIfInBounds_toArray, List.set_cons_zero, List.set_cons_succ]
            refine Held.G_take (i := 12) (d := 79) (v := ?_) [12, 15, 16, 17, 18, 19] rfl rfl (by kernel_rfl) (by kernel_rfl) (by kernel_rfl) (by kernel_rfl) (fun _ _ _ h => h) (Or.inl ⟨by rfl, ?_⟩) hsb0 ?_
            rotate_left 1
            · intro w hSw; obtain ⟨⟨h0, h1, h2, h3, h4, h5⟩, j0, j1⟩ := hSw; go_simp <;> with_reducible rfl
            simp only [Act.put, List.setIfInBounds_toArray, List.set_cons_zero, List.set_cons_succ]
            refine Held.G_take (i := 13) (d := 80) (v := ?_) [13, 14, 15, 16, 17, 18, 19] rfl rfl (by kernel_rfl) (by kernel_rfl) (by kernel_rfl) (by kernel_rfl) (fun _ _ _ h => h) (Or.inl ⟨by rfl, ?_⟩) hsb0 ?_
            rotate_left 1
            · intro w hSw; clear hSw; go_simp <;> with_reducible rfl
            simp only [Act.put, List.setIfInBounds_toArray, List.set_cons_zero, List.set_cons_succ]
            refine Held.G_take (i := 14) (d := 81) (v := ?_) [14, 15, 16, 17, 18, 19] rfl rfl (by kernel_rfl) (by kernel_rfl) (by kernel_rfl) (by kernel_rfl) (fun _ _ _ h => h) (Or.inl ⟨by rfl, ?_⟩) hsb0 ?_
            rotate_left 1
            · intro w hSw; obtain ⟨⟨h0, h1, h2, h3, h4, h5⟩, j0, j1⟩ := hSw; go_simp <;> with_reducible rfl
            simp only [Act.put, List.setIfInBounds_toArray, List.set_cons_zero, List.set_cons_succ]
            refine Held.G_take (i := 15) (d := 82) (v := ?_) [15, 16, 17, 18, 19] rfl rfl (by kernel_rfl) (by kernel_rfl) (by kernel_rfl) (by kernel_rfl) (fun _ _ _ h => h) (Or.inl ⟨by rfl, ?_⟩) hsb0 ?_
            rotate_left 1
            · intro w hSw; clear hSw; go_simp <;> with_reducible rfl
            simp only [Act.put, List.setIfInBounds_toArray, List.set_cons_zero, List.set_cons_succ]
            refine Held.G_take (i := 16) (d := 83) (v := ?_) [16, 17, 18, 19] rfl rfl (by kernel_rfl) (by kernel_rfl) (by kernel_rfl) (by kernel_rfl) (fun _ _ _ h => h) (Or.inl ⟨by rfl, ?_⟩) hsb0 ?_
            rotate_left 1
            · intro w hSw; clear hSw; go_simp <;> with_reducible rfl
            simp only [Act.put, List.setIfInBounds_toArray, List.set_cons_zero, List.set_cons_succ]
            refine Held.G_ready (rs := [8]) (by decide +kernel) (by simp) ?_
            refine Held.G_cons rfl (fun KK hK => ?_) Held.G_nil
            go_simp
            have hh := HFX.out _ hbb0 x (min (p : Int) (q : Int))
            unfold FindPost2 at hh
            dsimp only [tc] at hh
            (with_reducible refine hh.mono ?_)
            clear hh
            rintro e z1 ⟨Ab0, cb0, nb0, hn, rfl, hsh, hcp, hrw, hbb⟩
            have hbb1 := Below.step hbb0 hbb
            have hbz1 := Below.step hbz0 hbb
            clear hbz0
            have hsb1 := NaS.below hsb0 hbb
            have HAb0 := Lib.hid (And.intro (rowT hrw) (And.intro hn (And.intro hsh hcp)))
            clear hn hsh hcp hrw hbb hbb0 hsb0
            go_simp
            refine hK _ _ ?_
            clear hK KK
            refine ⟨hsb1, ?_⟩
            refine Held.G_ready (rs := [17]) (by decide +kernel) (by simp) ?_
            refine Held.G_cons rfl (fun KK hK => ?_) Held.G_nil
            go_simp
            have hh := HFX.out _ hbb1 x (max (p : Int) (q : Int))
            unfold FindPost2 at hh
            dsimp only [tc] at hh
            (with_reducible refine hh.mono ?_)
            clear hh
            rintro e z2 ⟨Ab1, cb1, nb1, hn, rfl, hsh, hcp, hrw, hbb⟩
            have hbb2 := Below.step hbb1 hbb
            have hbz2 := Below.step hbz1 hbb
            clear hbz1
            have hsb2 := NaS.below hsb1 hbb
            have HAb0' := Lib.hid (And.intro (HAb0.out.1.below hbb) HAb0.out.2)
            have HAb1 := Lib.hid (And.intro (rowT hrw) (And.intro hn (And.intro hsh hcp)))
            clear hn hsh hcp hrw hbb hbb1 hsb1
            go_simp
            refine hK _ _ ?_
            clear hK KK
            refine ⟨hsb2, ?_⟩
            refine Held.G_take (i := 18) (d := 14) (v := ?_) [18, 19] rfl rfl (by kernel_rfl) (by kernel_rfl) (by kernel_rfl) (by kernel_rfl) (fun _ _ _ h => h) (Or.inl ⟨by rfl, ?_⟩) hsb2 ?_
            rotate_left 1
            · intro w hSw; clear hSw; go_simp <;> with_reducible rfl
            simp only [Act.put, List.setIfInBounds_toArray, List.set_cons_zero, List.set_cons_succ]
            refine Held.G_ready (rs := [19]) (by decide +kernel) (by simp) ?_
            refine Held.G_last rfl (fun KK hK => ?_) Held.G_nil
            go_simp
            refine hK _ _ ?_
            clear hK KK
            refine Held.G_done (by kernel_rfl) ?_ _
            clear hwmin hwmax
            have HWZ := Lib.hid hbz2
            clear hbz2
            have HBF := Lib.hid (HBw8.out.trans (hbb2.mono HBw8.out.size))
            clear hsb2
            have hcb := cut_t Ab1 nb1 cb1 nb0 HAb1.out.2.2.1 (by have := HAb1.out.2.2.2; have := HLEN.out; have := HAb1.out.2.1; have := HAb0'.out.2.1; omega)
            have hcw := cut_t Aa0 na0 ca0 nb1 HW0.out.2.2.1 (by have := HW0.out.2.2.2; have := HLEN2.out; have := HAb1.out.2.1; have := HW0.out.2.1; omega)
            have hle : ((nb0 : Int) ≤ (nb1 : Int)) := by have := HLEN.out; have := HAb1.out.2.1; have := HAb0'.out.2.1; omega
            have hs1 := rsame_t z2 Ab0 Ab1 nb0 cb0 nb0 cb1 (find m x (min (p : Int) (q : Int))) ((find m x (max (p : Int) (q : Int))).take nb0) true HAb0'.out.2.1 (by rw [List.length_take]; have := HLEN.out; have := HAb0'.out.2.1; omega) HAb0'.out.1 (rowT_take HAb1.out.1 _) (by have := find_len m x (min (p : Int) (q : Int)); have := HMM.out; omega) (by rw [HAb0'.out.2.1, HCUT.out]; simp)
            have HS2 := Lib.hid (fun (w : World) (hb : Below z2.heap.size z2 w) => rsame_t w Ab1 Aa0 nb1 cb1 nb1 ca0 (find m x (max (p : Int) (q : Int))) ((find m x 1000).take nb1) true HAb1.out.2.1 (by rw [List.length_take]; have := HLEN2.out; have := HAb1.out.2.1; omega) (HAb1.out.1.below hb) (rowT_take ((HW0.out.1.below HWZ.out).below hb) _) (by have := find_len m x (max (p : Int) (q : Int)); have := HMM.out; omega) (by rw [HAb1.out.2.1, HCUT2.out]; simp))
            clear hbb2
            go_wp2_with fail
            (with_reducible refine hs1.mono ?_)
            clear hs1
            rintro e z3 ⟨rfl, hb3⟩
            have hs2 := HS2.out _ hb3
            have HB3 := Lib.hid (HBF.out.trans (hb3.mono HBF.out.size))
            clear hb3
            go_wp2_with fail
            (with_reducible refine hs2.mono ?_)
            clear hs2
            rintro e z4 ⟨rfl, hb4⟩
            have HB4 := Lib.hid (HB3.out.trans (hb4.mono HB3.out.size))
            clear hb4
            go_wp2_with fail
            go_ret
            exact ⟨rfl, HB4.out⟩
    · skip
      by_cases hui : x.u.i.size = 0
      · skip
        have ei : x.i.toList.isEmpty = false := by rw [TupleRef.empty_eq]; simp [hxi]
        have eu : x.u.i.toList.isEmpty = true := by rw [TupleRef.empty_eq]; simp [hui]
        have hyv : y = ⟨x.k, x.i, x.r, ⟨x.u.k, t.u.i, x.u.r⟩⟩ := by rw [HY.out]; simp [nar, hxi, hui]
        have hw8 := HW8.out
        rw [hyv] at hw8
        dsimp only at hw8
        have HW8' := Lib.hid hw8
        clear hw8 hxi hui hyv
        go_upto_region 9 with fail
        rw [← HW8'.out, ← HB10.out]
        clear h0 h1 h2 h3 h4 h5 i0 i1 i2 i3 i4 i5 hp0 hq0 ei eu HW8' j1 j4
        refine wp_region_any (by kernel_rfl) ?_
        change wpAny _ _ _ _ _ _ _ (World.drew _)
        obtain ⟨y0, hy0⟩ : ∃ v, v = World.drew w8 := ⟨_, rfl⟩
        rw [← hy0]
        have hba0 : Below w8.heap.size w8 y0 := by rw [hy0]; exact (Below.refl _ _).drew
        have hsa0 : NyS b5 b10 x y y0 := HNY.out _ hba0
        clear hy0
        refine Held.any_of_G (S := (fun w' : World => NyS b5 b10 x y w')) (z := 7) _ _ _ _ ?_
        refine Held.G_take (i := 0) (d := 48) (v := ?_) [0, 2, 5, 6, 7] rfl rfl (by kernel_rfl) (by kernel_rfl) (by kernel_rfl) (by kernel_rfl) (fun _ _ _ h => h) (Or.inl ⟨by rfl, ?_⟩) hsa0 ?_
        rotate_left 1
        · intro w hSw; clear hSw; go_simp <;> with_reducible rfl
        simp only [Act.put, List.setIfInBounds_toArray, List.set_cons_zero, List.set_cons_succ]
        refine Held.G_take (i := 1) (d := 49) (v := ?_) [1, 2, 5, 6, 7] rfl rfl (by kernel_rfl) (by kernel_rfl) (by kernel_rfl) (by kernel_rfl) (fun _ _ _ h => h) (Or.inl ⟨by rfl, ?_⟩) hsa0 ?_
        rotate_left 1
        · intro w hSw; obtain ⟨⟨h0, h1, h2, h3, h4, h5⟩, i0, i1, i2, i3, i4, i5⟩ := hSw; go_simp <;> with_reducible rfl
        simp only [Act.put, List.setIfInBounds_toArray, List.set_cons_zero, List.set_cons_succ]
        refine Held.G_take (i := 3) (d := 51) (v := ?_) [3, 5, 6, 7] rfl rfl (by kernel_rfl) (by kernel_rfl) (by kernel_rfl) (by kernel_rfl) (fun _ _ _ h => h) (Or.inl ⟨by rfl, ?_⟩) hsa0 ?_
        rotate_left 1
        · intro w hSw; clear hSw; go_simp <;> with_reducible rfl
        simp only [Act.put, List.setIfInBounds_toArray, List.set_cons_zero, List.set_cons_succ]
        refine Held.G_take (i := 4) (d := 52) (v := ?_) [4, 5, 6, 7] rfl rfl (by kernel_rfl) (by kernel_rfl) (by kernel_rfl) (by kernel_rfl) (fun _ _ _ h => h) (Or.inl ⟨by rfl, ?_⟩) hsa0 ?_
        rotate_left 1
        · intro w hSw; obtain ⟨⟨h0, h1, h2, h3, h4, h5⟩, i0, i1, i2, i3, i4, i5⟩ := hSw; go_simp <;> with_reducible rfl
        simp only [Act.put, List.setIfInBounds_toArray, List.set_cons_zero, List.set_cons_succ]
        refine Held.G_ready (rs := [2]) (by decide +kernel) (by simp) ?_
        refine Held.G_cons rfl (fun KK hK => ?_) Held.G_nil
        go_simp
        have hh := HFX.out _ hba0 x 1000
        unfold FindPost2 at hh
        dsimp only [tc] at hh
        (with_reducible refine hh.mono ?_)
        clear hh
        rintro e y1 ⟨Aa0, ca0, na0, hn, rfl, hsh, hcp, hrw, hbb⟩
        have hba1 := Below.step hba0 hbb
        have hsa1 := NyS.below hsa0 hbb
        have HAa0 := Lib.hid (And.intro (rowT hrw) (And.intro hn (And.intro hsh hcp)))
        clear hn hsh hcp hrw hbb hba0 hsa0
        go_simp
        refine hK _ _ ?_
        clear hK KK
        refine ⟨hsa1, ?_⟩
        refine Held.G_ready (rs := [5]) (by decide +kernel) (by simp) ?_
        refine Held.G_cons rfl (fun KK hK => ?_) Held.G_nil
        go_simp
        have hh := HFX.out _ hba1 y 1000
        unfold FindPost2 at hh
        dsimp only [tc] at hh
        (with_reducible refine hh.mono ?_)
        clear hh
        rintro e y2 ⟨Aa1, ca1, na1, hn, rfl, hsh, hcp, hrw, hbb⟩
        have hba2 := Below.step hba1 hbb
        have hsa2 := NyS.below hsa1 hbb
        have HAa0' := Lib.hid (And.intro (HAa0.out.1.below hbb) HAa0.out.2)
        have HAa1 := Lib.hid (And.intro (rowT hrw) (And.intro hn (And.intro hsh hcp)))
        clear hn hsh hcp hrw hbb hba1 hsa1
        go_simp
        refine hK _ _ ?_
        clear hK KK
        refine ⟨hsa2, ?_⟩
        refine Held.G_take (i := 6) (d := 11) (v := ?_) [6, 7] rfl rfl (by kernel_rfl) (by kernel_rfl) (by kernel_rfl) (by kernel_rfl) (fun _ _ _ h => h) (Or.inl ⟨by rfl, ?_⟩) hsa2 ?_
        rotate_left 1
        · intro w hSw; clear hSw; go_simp <;> with_reducible rfl
        simp only [Act.put, List.setIfInBounds_toArray, List.set_cons_zero, List.set_cons_succ]
        refine Held.G_ready (rs := [7]) (by decide +kernel) (by simp) ?_
        refine Held.G_last rfl (fun KK hK => ?_) Held.G_nil
        go_simp
        refine hK _ _ ?_
        clear hK KK
        refine Held.G_done (by kernel_rfl) ?_ _
        have HW0 := Lib.hid HAa0'.out
        have HBY := Lib.hid hba2
        have HCUT := Lib.hid (find_cut m x (a := min (p : Int) (q : Int)) (b := max (p : Int) (q : Int)) (by omega))
        have HLEN := Lib.hid (find_cut_len m x (a := min (p : Int) (q : Int)) (b := max (p : Int) (q : Int)) (by omega))
        have HCUT2 := Lib.hid (find_cut m x (a := max (p : Int) (q : Int)) (b := 1000) (by omega))
        have HLEN2 := Lib.hid (find_cut_len m x (a := max (p : Int) (q : Int)) (b := 1000) (by omega))
        have hnb : na1 ≤ 80 := by have := HAa1.out.2.1; have := find_len m y 1000; have := HMM.out; omega
        clear hba2 hsa2
        go_wp2_with fail
        go_loopw [13] (fun i wr => ∃ k : Nat, k ≤ na1 ∧ i = .int .i64 k ∧ Below y2.heap.size y2 wr) (fun i _ => na1 - (intOf i).toNat)
        case atStart => exact ⟨0, by omega, rfl, Below.refl _ _⟩
        case round =>
          obtain ⟨k, hk, rfl, hbw⟩ := hrel
          have HBR := Lib.hid hbw
          by_cases hlt : k < na1
          · have h1 : k < (find m y 1000).length := by have := HAa1.out.2.1; omega
            obtain ⟨gt, ot, hB, hgt, e0, e1, e2, e3, e4, e5⟩ := (HAa1.out.1.below hbw) k h1
            have hx2 := idx_tp (n := na1) (c := ca1) hB hlt
            have hin := HSUB.out _ (List.getElem_mem h1)
            have hhas := rhas_any wr Aa0 na0 ca0 (find m x 1000) (find m y 1000)[k] HW0.out.2.1 (HW0.out.1.below hbw) (by have := find_len m x 1000; have := HMM.out; omega)
            rw [decide_eq_true hin] at hhas
            generalize (find m y 1000)[k] = s at *
            clear h1 hB hgt hin hbw
            dsimp only [tc] at hhas
            have HLT := Lib.hid hlt
            go_wp2_with fail
            clear e0 e1 e2 e3 e4 e5 hx2
            (with_reducible refine hhas.mono ?_)
            clear hhas
            rintro e wq ⟨rfl, hb⟩
            have HBQ := Lib.hid (Below.step HBR.out hb)
            clear hb
            go_wp2_with fail
            go_roundw
            case rel => exact ⟨k + 1, by have := HLT.out; omega, by go_num, HBQ.out⟩
            case measure => have := HLT.out; simp [intOf]; omega
          · have HWR := Lib.hid (Below.step HBY.out hbw)
            clear hbw
            go_wp2_with fail
            clear hlt hk
            refine wp_region_any (by kernel_rfl) ?_
            change wpAny _ _ _ _ _ _ _ (World.drew _)
            obtain ⟨z0, hz0⟩ : ∃ v, v = World.drew wr := ⟨_, rfl⟩
            rw [← hz0]
            have hbb0 : Below w8.heap.size w8 z0 := by rw [hz0]; exact HWR.out.trans (Below.refl _ _).drew
            have hsb0 : NaS b5 b7 p q x z0 := HNA.out _ hbb0
            have HWZ0 := Lib.hid (show Below y2.heap.size y2 z0 from by rw [hz0]; exact HBR.out.trans (Below.refl _ _).drew)
            have hbz0 := HWZ0.out
            clear hz0
            obtain ⟨hwmin, hwmax⟩ : IntKind.i64.wrap (min (p : Int) (q : Int)) = min (p : Int) (q : Int) ∧ IntKind.i64.wrap (max (p : Int) (q : Int)) = max (p : Int) (q : Int) := ⟨wrap_small _ (by omega) (by omega), wrap_small _ (by omega) (by omega)⟩
            refine Held.any_of_G (S := (fun w' : World => NaS b5 b7 p q x w')) (z := 19) _ _ _ _ ?_
            refine Held.G_take (i := 0) (d := 67) (v := ?_) [0, 8, 17, 18, 19] rfl rfl (by kernel_rfl) (by kernel_rfl) (by kernel_rfl) (by kernel_rfl) (fun _ _ _ h => h) (Or.inl ⟨by rfl, ?_⟩) hsb0 ?_
            rotate_left 1
            · intro w hSw; clear hSw; go_simp <;> with_reducible rfl
            simp only [Act.put, List.setIfInBounds_toArray, List.set_cons_zero, List.set_cons_succ]
            refine Held.G_take (i := 1) (d := 68) (v := ?_) [1, 8, 17, 18, 19] rfl rfl (by kernel_rfl) (by kernel_rfl) (by kernel_rfl) (by kernel_rfl) (fun _ _ _ h => h) (Or.inl ⟨by rfl, ?_⟩) hsb0 ?_
            rotate_left 1
            · intro w hSw; obtain ⟨⟨h0, h1, h2, h3, h4, h5⟩, j0, j1⟩ := hSw; go_simp <;> with_reducible rfl
            simp only [Act.put, List.setIfInBounds_toArray, List.set_cons_zero, List.set_cons_succ]
            refine Held.G_take (i := 2) (d := 69) (v := ?_) [2, 3, 6, 7, 8, 17, 18, 19] rfl rfl (by kernel_rfl) (by kernel_rfl) (by kernel_rfl) (by kernel_rfl) (fun _ _ _ h => h) (Or.inl ⟨by rfl, ?_⟩) hsb0 ?_
            rotate_left 1
            · intro w hSw; clear hSw; go_simp <;> with_reducible rfl
            simp only [Act.put, List.setIfInBounds_toArray, List.set_cons_zero, List.set_cons_succ]
            refine Held.G_take (i := 3) (d := 70) (v := ?_) [3, 6, 7, 8, 17, 18, 19] rfl rfl (by kernel_rfl) (by kernel_rfl) (by kernel_rfl) (by kernel_rfl) (fun _ _ _ h => h) (Or.inl ⟨by rfl, ?_⟩) hsb0 ?_
            rotate_left 1
            · intro w hSw; obtain ⟨⟨h0, h1, h2, h3, h4, h5⟩, j0, j1⟩ := hSw; go_simp <;> with_reducible rfl
            simp only [Act.put, List.setIfInBounds_toArray, List.set_cons_zero, List.set_cons_succ]
            refine Held.G_take (i := 4) (d := 71) (v := ?_) [4, 5, 6, 7, 8, 17, 18, 19] rfl rfl (by kernel_rfl) (by kernel_rfl) (by kernel_rfl) (by kernel_rfl) (fun _ _ _ h => h) (Or.inl ⟨by rfl, ?_⟩) hsb0 ?_
            rotate_left 1
            · intro w hSw; clear hSw; go_simp <;> with_reducible rfl
            simp only [Act.put, List.setIfInBounds_toArray, List.set_cons_zero, List.set_cons_succ]
            refine Held.G_take (i := 5) (d := 72) (v := ?_) [5, 6, 7, 8, 17, 18, 19] rfl rfl (by kernel_rfl) (by kernel_rfl) (by kernel_rfl) (by kernel_rfl) (fun _ _ _ h => h) (Or.inl ⟨by rfl, ?_⟩) hsb0 ?_
            rotate_left 1
            · intro w hSw; obtain ⟨⟨h0, h1, h2, h3, h4, h5⟩, j0, j1⟩ := hSw; go_simp <;> with_reducible rfl
            simp only [Act.put, List.setIfInBounds_toArray, List.set_cons_zero, List.set_cons_succ]
            refine Held.G_take (i := 6) (d := 73) (v := ?_) [6, 7, 8, 17, 18, 19] rfl rfl (by kernel_rfl) (by kernel_rfl) (by kernel_rfl) (by kernel_rfl) (fun _ _ _ h => h) (Or.inl ⟨by rfl, ?_⟩) hsb0 ?_
            rotate_left 1
            · intro w hSw; clear hSw; go_simp <;> with_reducible rfl
            simp only [Act.put, List.setIfInBounds_toArray, List.set_cons_zero, List.set_cons_succ]
            refine Held.G_take (i := 7) (d := 74) (v := ?_) [7, 8, 17, 18, 19] rfl rfl (by kernel_rfl) (by kernel_rfl) (by kernel_rfl) (by kernel_rfl) (fun _ _ _ h => h) (Or.inl ⟨by rfl, ?_⟩) hsb0 ?_
            rotate_left 1
            · intro w hSw; clear hSw; go_simp <;> with_reducible rfl
            simp only [Act.put, List.setIfInBounds_toArray, List.set_cons_zero, List.set_cons_succ]
            refine Held.G_take (i := 9) (d := 76) (v := ?_) [9, 17, 18, 19] rfl rfl (by kernel_rfl) (by kernel_rfl) (by kernel_rfl) (by kernel_rfl) (fun _ _ _ h => h) (Or.inl ⟨by rfl, ?_⟩) hsb0 ?_
            rotate_left 1
            · intro w hSw; clear hSw; go_simp <;> with_reducible rfl
            simp only [Act.put, List.setIfInBounds_toArray, List.set_cons_zero, List.set_cons_succ]
            refine Held.G_take (i := 10) (d := 77) (v := ?_) [10, 17, 18, 19] rfl rfl (by kernel_rfl) (by kernel_rfl) (by kernel_rfl) (by kernel_rfl) (fun _ _ _ h => h) (Or.inl ⟨by rfl, ?_⟩) hsb0 ?_
            rotate_left 1
            · intro w hSw; obtain ⟨⟨h0, h1, h2, h3, h4, h5⟩, j0, j1⟩ := hSw; go_simp <;> with_reducible rfl
            simp only [Act.put, List.setIfInBounds_toArray, List.set_cons_zero, List.set_cons_succ]
            refine Held.G_take (i := 11) (d := 78) (v := ?_) [11, 12, 15, 16, 17, 18, 19] rfl rfl (by kernel_rfl) (by kernel_rfl) (by kernel_rfl) (by kernel_rfl) (fun _ _ _ h => h) (Or.inl ⟨by rfl, ?_⟩) hsb0 ?_
            rotate_left 1
            · intro w hSw; clear hSw; go_simp <;> with_reducible rfl
            simp only [Act.put, List.setIfInBounds_toArray, List.set_cons_zero, List.set_cons_succ]
            refine Held.G_take (i := 12) (d := 79) (v := ?_) [12, 15, 16, 17, 18, 19] rfl rfl (by kernel_rfl) (by kernel_rfl) (by kernel_rfl) (by kernel_rfl) (fun _ _ _ h => h) (Or.inl ⟨by rfl, ?_⟩) hsb0 ?_
            rotate_left 1
            · intro w hSw; obtain ⟨⟨h0, h1, h2, h3, h4, h5⟩, j0, j1⟩ := hSw; go_simp <;> with_reducible rfl
            simp only [Act.put, List.setIfInBounds_toArray, List.set_cons_zero, List.set_cons_succ]
            refine Held.G_take (i := 13) (d := 80) (v := ?_) [13, 14, 15, 16, 17, 18, 19] rfl rfl (by kernel_rfl) (by kernel_rfl) (by kernel_rfl) (by kernel_rfl) (fun _ _ _ h => h) (Or.inl ⟨by rfl, ?_⟩) hsb0 ?_
            rotate_left 1
            · intro w hSw; clear hSw; go_simp <;> with_reducible rfl
            simp only [Act.put, List.setIfInBounds_toArray, List.set_cons_zero, List.set_cons_succ]
            refine Held.G_take (i := 14) (d := 81) (v := ?_) [14, 15, 16, 17, 18, 19] rfl rfl (by kernel_rfl) (by kernel_rfl) (by kernel_rfl) (by kernel_rfl) (fun _ _ _ h => h) (Or.inl ⟨by rfl, ?_⟩) hsb0 ?_
            rotate_left 1
            · intro w hSw; obtain ⟨⟨h0, h1, h2, h3, h4, h5⟩, j0, j1⟩ := hSw; go_simp <;> with_reducible rfl
            simp only [Act.put, List.setIfInBounds_toArray, List.set_cons_zero, List.set_cons_succ]
            refine Held.G_take (i := 15) (d := 82) (v := ?_) [15, 16, 17, 18, 19] rfl rfl (by kernel_rfl) (by kernel_rfl) (by kernel_rfl) (by kernel_rfl) (fun _ _ _ h => h) (Or.inl ⟨by rfl, ?_⟩) hsb0 ?_
            rotate_left 1
            · intro w hSw; clear hSw; go_simp <;> with_reducible rfl
            simp only [Act.put, List.setIfInBounds_toArray, List.set_cons_zero, List.set_cons_succ]
            refine Held.G_take (i := 16) (d := 83) (v := ?_) [16, 17, 18, 19] rfl rfl (by kernel_rfl) (by kernel_rfl) (by kernel_rfl) (by kernel_rfl) (fun _ _ _ h => h) (Or.inl ⟨by rfl, ?_⟩) hsb0 ?_
            rotate_left 1
            · intro w hSw; clear hSw; go_simp <;> with_reducible rfl
            simp only [Act.put, List.setIfInBounds_toArray, List.set_cons_zero, List.set_cons_succ]
            refine Held.G_ready (rs := [8]) (by decide +kernel) (by simp) ?_
            refine Held.G_cons rfl (fun KK hK => ?_) Held.G_nil
            go_simp
            have hh := HFX.out _ hbb0 x (min (p : Int) (q : Int))
            unfold FindPost2 at hh
            dsimp only [tc] at hh
            (with_reducible refine hh.mono ?_)
            clear hh
            rintro e z1 ⟨Ab0, cb0, nb0, hn, rfl, hsh, hcp, hrw, hbb⟩
            have hbb1 := Below.step hbb0 hbb
            have hbz1 := Below.step hbz0 hbb
            clear hbz0
            have hsb1 := NaS.below hsb0 hbb
            have HAb0 := Lib.hid (And.intro (rowT hrw) (And.intro hn (And.intro hsh hcp)))
            clear hn hsh hcp hrw hbb hbb0 hsb0
            go_simp
            refine hK _ _ ?_
            clear hK KK
            refine ⟨hsb1, ?_⟩
            refine Held.G_ready (rs := [17]) (by decide +kernel) (by simp) ?_
            refine Held.G_cons rfl (fun KK hK => ?_) Held.G_nil
            go_simp
            have hh := HFX.out _ hbb1 x (max (p : Int) (q : Int))
            unfold FindPost2 at hh
            dsimp only [tc] at hh
            (with_reducible refine hh.mono ?_)
            clear hh
            rintro e z2 ⟨Ab1, cb1, nb1, hn, rfl, hsh, hcp, hrw, hbb⟩
            have hbb2 := Below.step hbb1 hbb
            have hbz2 := Below.step hbz1 hbb
            clear hbz1
            have hsb2 := NaS.below hsb1 hbb
            have HAb0' := Lib.hid (And.intro (HAb0.out.1.below hbb) HAb0.out.2)
            have HAb1 := Lib.hid (And.intro (rowT hrw) (And.intro hn (And.intro hsh hcp)))
            clear hn hsh hcp hrw hbb hbb1 hsb1
            go_simp
            refine hK _ _ ?_
            clear hK KK
            refine ⟨hsb2, ?_⟩
            refine Held.G_take (i := 18) (d := 14) (v := ?_) [18, 19] rfl rfl (by kernel_rfl) (by kernel_rfl) (by kernel_rfl) (by kernel_rfl) (fun _ _ _ h => h) (Or.inl ⟨by rfl, ?_⟩) hsb2 ?_
            rotate_left 1
            · intro w hSw; clear hSw; go_simp <;> with_reducible rfl
            simp only [Act.put, List.setIfInBounds_toArray, List.set_cons_zero, List.set_cons_succ]
            refine Held.G_ready (rs := [19]) (by decide +kernel) (by simp) ?_
            refine Held.G_last rfl (fun KK hK => ?_) Held.G_nil
            go_simp
            refine hK _ _ ?_
            clear hK KK
            refine Held.G_done (by kernel_rfl) ?_ _
            clear hwmin hwmax
            have HWZ := Lib.hid hbz2
            clear hbz2
            have HBF := Lib.hid (HBw8.out.trans (hbb2.mono HBw8.out.size))
            clear hsb2
            have hcb := cut_t Ab1 nb1 cb1 nb0 HAb1.out.2.2.1 (by have := HAb1.out.2.2.2; have := HLEN.out; have := HAb1.out.2.1; have := HAb0'.out.2.1; omega)
            have hcw := cut_t Aa0 na0 ca0 nb1 HW0.out.2.2.1 (by have := HW0.out.2.2.2; have := HLEN2.out; have := HAb1.out.2.1; have := HW0.out.2.1; omega)
            have hle : ((nb0 : Int) ≤ (nb1 : Int)) := by have := HLEN.out; have := HAb1.out.2.1; have := HAb0'.out.2.1; omega
            have hs1 := rsame_t z2 Ab0 Ab1 nb0 cb0 nb0 cb1 (find m x (min (p : Int) (q : Int))) ((find m x (max (p : Int) (q : Int))).take nb0) true HAb0'.out.2.1 (by rw [List.length_take]; have := HLEN.out; have := HAb0'.out.2.1; omega) HAb0'.out.1 (rowT_take HAb1.out.1 _) (by have := find_len m x (min (p : Int) (q : Int)); have := HMM.out; omega) (by rw [HAb0'.out.2.1, HCUT.out]; simp)
            have HS2 := Lib.hid (fun (w : World) (hb : Below z2.heap.size z2 w) => rsame_t w Ab1 Aa0 nb1 cb1 nb1 ca0 (find m x (max (p : Int) (q : Int))) ((find m x 1000).take nb1) true HAb1.out.2.1 (by rw [List.length_take]; have := HLEN2.out; have := HAb1.out.2.1; omega) (HAb1.out.1.below hb) (rowT_take ((HW0.out.1.below HWZ.out).below hb) _) (by have := find_len m x (max (p : Int) (q : Int)); have := HMM.out; omega) (by rw [HAb1.out.2.1, HCUT2.out]; simp))
            clear hbb2
            go_wp2_with fail
            (with_reducible refine hs1.mono ?_)
            clear hs1
            rintro e z3 ⟨rfl, hb3⟩
            have hs2 := HS2.out _ hb3
            have HB3 := Lib.hid (HBF.out.trans (hb3.mono HBF.out.size))
            clear hb3
            go_wp2_with fail
            (with_reducible refine hs2.mono ?_)
            clear hs2
            rintro e z4 ⟨rfl, hb4⟩
            have HB4 := Lib.hid (HB3.out.trans (hb4.mono HB3.out.size))
            clear hb4
            go_wp2_with fail
            go_ret
            exact ⟨rfl, HB4.out⟩
      · skip
        have ei : x.i.toList.isEmpty = false := by rw [TupleRef.empty_eq]; simp [hxi]
        have eu : x.u.i.toList.isEmpty = false := by rw [TupleRef.empty_eq]; simp [hui]
        have hyv : y = ⟨x.k, x.i, x.r, ⟨x.u.k, x.u.i, x.u.r⟩⟩ := by rw [HY.out]; simp [nar, hxi, hui]
        have hw8 := HW8.out
        rw [hyv] at hw8
        dsimp only at hw8
        have HW8' := Lib.hid hw8
        clear hw8 hxi hui hyv
        go_upto_region 9 with fail
        rw [← HW8'.out, ← HB10.out]
        clear h0 h1 h2 h3 h4 h5 i0 i1 i2 i3 i4 i5 hp0 hq0 ei eu HW8' j1 j4
        refine wp_region_any (by kernel_rfl) ?_
        change wpAny _ _ _ _ _ _ _ (World.drew _)
        obtain ⟨y0, hy0⟩ : ∃ v, v = World.drew w8 := ⟨_, rfl⟩
        rw [← hy0]
        have hba0 : Below w8.heap.size w8 y0 := by rw [hy0]; exact (Below.refl _ _).drew
        have hsa0 : NyS b5 b10 x y y0 := HNY.out _ hba0
        clear hy0
        refine Held.any_of_G (S := (fun w' : World => NyS b5 b10 x y w')) (z := 7) _ _ _ _ ?_
        refine Held.G_take (i := 0) (d := 48) (v := ?_) [0, 2, 5, 6, 7] rfl rfl (by kernel_rfl) (by kernel_rfl) (by kernel_rfl) (by kernel_rfl) (fun _ _ _ h => h) (Or.inl ⟨by rfl, ?_⟩) hsa0 ?_
        rotate_left 1
        · intro w hSw; clear hSw; go_simp <;> with_reducible rfl
        simp only [Act.put, List.setIfInBounds_toArray, List.set_cons_zero, List.set_cons_succ]
        refine Held.G_take (i := 1) (d := 49) (v := ?_) [1, 2, 5, 6, 7] rfl rfl (by kernel_rfl) (by kernel_rfl) (by kernel_rfl) (by kernel_rfl) (fun _ _ _ h => h) (Or.inl ⟨by rfl, ?_⟩) hsa0 ?_
        rotate_left 1
        · intro w hSw; obtain ⟨⟨h0, h1, h2, h3, h4, h5⟩, i0, i1, i2, i3, i4, i5⟩ := hSw; go_simp <;> with_reducible rfl
        simp only [Act.put, List.setIfInBounds_toArray, List.set_cons_zero, List.set_cons_succ]
        refine Held.G_take (i := 3) (d := 51) (v := ?_) [3, 5, 6, 7] rfl rfl (by kernel_rfl) (by kernel_rfl) (by kernel_rfl) (by kernel_rfl) (fun _ _ _ h => h) (Or.inl ⟨by rfl, ?_⟩) hsa0 ?_
        rotate_left 1
        · intro w hSw; clear hSw; go_simp <;> with_reducible rfl
        simp only [Act.put, List.setIfInBounds_toArray, List.set_cons_zero, List.set_cons_succ]
        refine Held.G_take (i := 4) (d := 52) (v := ?_) [4, 5, 6, 7] rfl rfl (by kernel_rfl) (by kernel_rfl) (by kernel_rfl) (by kernel_rfl) (fun _ _ _ h => h) (Or.inl ⟨by rfl, ?_⟩) hsa0 ?_
        rotate_left 1
        · intro w hSw; obtain ⟨⟨h0, h1, h2, h3, h4, h5⟩, i0, i1, i2, i3, i4, i5⟩ := hSw; go_simp <;> with_reducible rfl
        simp only [Act.put, List.setIfInBounds_toArray, List.set_cons_zero, List.set_cons_succ]
        refine Held.G_ready (rs := [2]) (by decide +kernel) (by simp) ?_
        refine Held.G_cons rfl (fun KK hK => ?_) Held.G_nil
        go_simp
        have hh := HFX.out _ hba0 x 1000
        unfold FindPost2 at hh
        dsimp only [tc] at hh
        (with_reducible refine hh.mono ?_)
        clear hh
        rintro e y1 ⟨Aa0, ca0, na0, hn, rfl, hsh, hcp, hrw, hbb⟩
        have hba1 := Below.step hba0 hbb
        have hsa1 := NyS.below hsa0 hbb
        have HAa0 := Lib.hid (And.intro (rowT hrw) (And.intro hn (And.intro hsh hcp)))
        clear hn hsh hcp hrw hbb hba0 hsa0
        go_simp
        refine hK _ _ ?_
        clear hK KK
        refine ⟨hsa1, ?_⟩
        refine Held.G_ready (rs := [5]) (by decide +kernel) (by simp) ?_
        refine Held.G_cons rfl (fun KK hK => ?_) Held.G_nil
        go_simp
        have hh := HFX.out _ hba1 y 1000
        unfold FindPost2 at hh
        dsimp only [tc] at hh
        (with_reducible refine hh.mono ?_)
        clear hh
        rintro e y2 ⟨Aa1, ca1, na1, hn, rfl, hsh, hcp, hrw, hbb⟩
        have hba2 := Below.step hba1 hbb
        have hsa2 := NyS.below hsa1 hbb
        have HAa0' := Lib.hid (And.intro (HAa0.out.1.below hbb) HAa0.out.2)
        have HAa1 := Lib.hid (And.intro (rowT hrw) (And.intro hn (And.intro hsh hcp)))
        clear hn hsh hcp hrw hbb hba1 hsa1
        go_simp
        refine hK _ _ ?_
        clear hK KK
        refine ⟨hsa2, ?_⟩
        refine Held.G_take (i := 6) (d := 11) (v := ?_) [6, 7] rfl rfl (by kernel_rfl) (by kernel_rfl) (by kernel_rfl) (by kernel_rfl) (fun _ _ _ h => h) (Or.inl ⟨by rfl, ?_⟩) hsa2 ?_
        rotate_left 1
        · intro w hSw; clear hSw; go_simp <;> with_reducible rfl
        simp only [Act.put, List.setIfInBounds_toArray, List.set_cons_zero, List.set_cons_succ]
        refine Held.G_ready (rs := [7]) (by decide +kernel) (by simp) ?_
        refine Held.G_last rfl (fun KK hK => ?_) Held.G_nil
        go_simp
        refine hK _ _ ?_
        clear hK KK
        refine Held.G_done (by kernel_rfl) ?_ _
        have HW0 := Lib.hid HAa0'.out
        have HBY := Lib.hid hba2
        have HCUT := Lib.hid (find_cut m x (a := min (p : Int) (q : Int)) (b := max (p : Int) (q : Int)) (by omega))
        have HLEN := Lib.hid (find_cut_len m x (a := min (p : Int) (q : Int)) (b := max (p : Int) (q : Int)) (by omega))
        have HCUT2 := Lib.hid (find_cut m x (a := max (p : Int) (q : Int)) (b := 1000) (by omega))
        have HLEN2 := Lib.hid (find_cut_len m x (a := max (p : Int) (q : Int)) (b := 1000) (by omega))
        have hnb : na1 ≤ 80 := by have := HAa1.out.2.1; have := find_len m y 1000; have := HMM.out; omega
        clear hba2 hsa2
        go_wp2_with fail
        go_loopw [13] (fun i wr => ∃ k : Nat, k ≤ na1 ∧ i = .int .i64 k ∧ Below y2.heap.size y2 wr) (fun i _ => na1 - (intOf i).toNat)
        case atStart => exact ⟨0, by omega, rfl, Below.refl _ _⟩
        case round =>
          obtain ⟨k, hk, rfl, hbw⟩ := hrel
          have HBR := Lib.hid hbw
          by_cases hlt : k < na1
          · have h1 : k < (find m y 1000).length := by have := HAa1.out.2.1; omega
            obtain ⟨gt, ot, hB, hgt, e0, e1, e2, e3, e4, e5⟩ := (HAa1.out.1.below hbw) k h1
            have hx2 := idx_tp (n := na1) (c := ca1) hB hlt
            have hin := HSUB.out _ (List.getElem_mem h1)
            have hhas := rhas_any wr Aa0 na0 ca0 (find m x 1000) (find m y 1000)[k] HW0.out.2.1 (HW0.out.1.below hbw) (by have := find_len m x 1000; have := HMM.out; omega)
            rw [decide_eq_true hin] at hhas
            generalize (find m y 1000)[k] = s at *
            clear h1 hB hgt hin hbw
            dsimp only [tc] at hhas
            have HLT := Lib.hid hlt
            go_wp2_with fail
            clear e0 e1 e2 e3 e4 e5 hx2
            (with_reducible refine hhas.mono ?_)
            clear hhas
            rintro e wq ⟨rfl, hb⟩
            have HBQ := Lib.hid (Below.step HBR.out hb)
            clear hb
            go_wp2_with fail
            go_roundw
            case rel => exact ⟨k + 1, by have := HLT.out; omega, by go_num, HBQ.out⟩
            case measure => have := HLT.out; simp [intOf]; omega
          · have HWR := Lib.hid (Below.step HBY.out hbw)
            clear hbw
            go_wp2_with fail
            clear hlt hk
            refine wp_region_any (by kernel_rfl) ?_
            change wpAny _ _ _ _ _ _ _ (World.drew _)
            obtain ⟨z0, hz0⟩ : ∃ v, v = World.drew wr := ⟨_, rfl⟩
            rw [← hz0]
            have hbb0 : Below w8.heap.size w8 z0 := by rw [hz0]; exact HWR.out.trans (Below.refl _ _).drew
            have hsb0 : NaS b5 b7 p q x z0 := HNA.out _ hbb0
            have HWZ0 := Lib.hid (show Below y2.heap.size y2 z0 from by rw [hz0]; exact HBR.out.trans (Below.refl _ _).drew)
            have hbz0 := HWZ0.out
            clear hz0
            obtain ⟨hwmin, hwmax⟩ : IntKind.i64.wrap (min (p : Int) (q : Int)) = min (p : Int) (q : Int) ∧ IntKind.i64.wrap (max (p : Int) (q : Int)) = max (p : Int) (q : Int) := ⟨wrap_small _ (by omega) (by omega), wrap_small _ (by omega) (by omega)⟩
            refine Held.any_of_G (S := (fun w' : World => NaS b5 b7 p q x w')) (z := 19) _ _ _ _ ?_
            refine Held.G_take (i := 0) (d := 67) (v := ?_) [0, 8, 17, 18, 19] rfl rfl (by kernel_rfl) (by kernel_rfl) (by kernel_rfl) (by kernel_rfl) (fun _ _ _ h => h) (Or.inl ⟨by rfl, ?_⟩) hsb0 ?_
            rotate_left 1
            · intro w hSw; clear hSw; go_simp <;> with_reducible rfl
            simp only [Act.put, List.setIfInBounds_toArray, List.set_cons_zero, List.set_cons_succ]
            refine Held.G_take (i := 1) (d := 68) (v := ?_) [1, 8, 17, 18, 19] rfl rfl (by kernel_rfl) (by kernel_rfl) (by kernel_rfl) (by kernel_rfl) (fun _ _ _ h => h) (Or.inl ⟨by rfl, ?_⟩) hsb0 ?_
            rotate_left 1
            · intro w hSw; obtain ⟨⟨h0, h1, h2, h3, h4, h5⟩, j0, j1⟩ := hSw; go_simp <;> with_reducible rfl
            simp only [Act.put, List.setIfInBounds_toArray, List.set_cons_zero, List.set_cons_succ]
            refine Held.G_take (i := 2) (d := 69) (v := ?_) [2, 3, 6, 7, 8, 17, 18, 19] rfl rfl (by kernel_rfl) (by kernel_rfl) (by kernel_rfl) (by kernel_rfl) (fun _ _ _ h => h) (Or.inl ⟨by rfl, ?_⟩) hsb0 ?_
            rotate_left 1
            · intro w hSw; clear hSw; go_simp <;> with_reducible rfl
            simp only [Act.put, List.setIfInBounds_toArray, List.set_cons_zero, List.set_cons_succ]
            refine Held.G_take (i := 3) (d := 70) (v := ?_) [3, 6, 7, 8, 17, 18, 19] rfl rfl (by kernel_rfl) (by kernel_rfl) (by kernel_rfl) (by kernel_rfl) (fun _ _ _ h => h) (Or.inl ⟨by rfl, ?_⟩) hsb0 ?_
            rotate_left 1
            · intro w hSw; obtain ⟨⟨h0, h1, h2, h3, h4, h5⟩, j0, j1⟩ := hSw; go_simp <;> with_reducible rfl
            simp only [Act.put, List.setIfInBounds_toArray, List.set_cons_zero, List.set_cons_succ]
            refine Held.G_take (i := 4) (d := 71) (v := ?_) [4, 5, 6, 7, 8, 17, 18, 19] rfl rfl (by kernel_rfl) (by kernel_rfl) (by kernel_rfl) (by kernel_rfl) (fun _ _ _ h => h) (Or.inl ⟨by rfl, ?_⟩) hsb0 ?_
            rotate_left 1
            · intro w hSw; clear hSw; go_simp <;> with_reducible rfl
            simp only [Act.put, List.setIfInBounds_toArray, List.set_cons_zero, List.set_cons_succ]
            refine Held.G_take (i := 5) (d := 72) (v := ?_) [5, 6, 7, 8, 17, 18, 19] rfl rfl (by kernel_rfl) (by kernel_rfl) (by kernel_rfl) (by kernel_rfl) (fun _ _ _ h => h) (Or.inl ⟨by rfl, ?_⟩) hsb0 ?_
            rotate_left 1
            · intro w hSw; obtain ⟨⟨h0, h1, h2, h3, h4, h5⟩, j0, j1⟩ := hSw; go_simp <;> with_reducible rfl
            simp only [Act.put, List.setIfInBounds_toArray, List.set_cons_zero, List.set_cons_succ]
            refine Held.G_take (i := 6) (d := 73) (v := ?_) [6, 7, 8, 17, 18, 19] rfl rfl (by kernel_rfl) (by kernel_rfl) (by kernel_rfl) (by kernel_rfl) (fun _ _ _ h => h) (Or.inl ⟨by rfl, ?_⟩) hsb0 ?_
            rotate_left 1
            · intro w hSw; clear hSw; go_simp <;> with_reducible rfl
            simp only [Act.put, List.setIfInBounds_toArray, List.set_cons_zero, List.set_cons_succ]
            refine Held.G_take (i := 7) (d := 74) (v := ?_) [7, 8, 17, 18, 19] rfl rfl (by kernel_rfl) (by kernel_rfl) (by kernel_rfl) (by kernel_rfl) (fun _ _ _ h => h) (Or.inl ⟨by rfl, ?_⟩) hsb0 ?_
            rotate_left 1
            · intro w hSw; clear hSw; go_simp <;> with_reducible rfl
            simp only [Act.put, List.setIfInBounds_toArray, List.set_cons_zero, List.set_cons_succ]
            refine Held.G_take (i := 9) (d := 76) (v := ?_) [9, 17, 18, 19] rfl rfl (by kernel_rfl) (by kernel_rfl) (by kernel_rfl) (by kernel_rfl) (fun _ _ _ h => h) (Or.inl ⟨by rfl, ?_⟩) hsb0 ?_
            rotate_left 1
            · intro w hSw; clear hSw; go_simp <;> with_reducible rfl
            simp only [Act.put, List.setIfInBounds_toArray, List.set_cons_zero, List.set_cons_succ]
            refine Held.G_take (i := 10) (d := 77) (v := ?_) [10, 17, 18, 19] rfl rfl (by kernel_rfl) (by kernel_rfl) (by kernel_rfl) (by kernel_rfl) (fun _ _ _ h => h) (Or.inl ⟨by rfl, ?_⟩) hsb0 ?_
            rotate_left 1
            · intro w hSw; obtain ⟨⟨h0, h1, h2, h3, h4, h5⟩, j0, j1⟩ := hSw; go_simp <;> with_reducible rfl
            simp only [Act.put, List.setIfInBounds_toArray, List.set_cons_zero, List.set_cons_succ]
            refine Held.G_take (i := 11) (d := 78) (v := ?_) [11, 12, 15, 16, 17, 18, 19] rfl rfl (by kernel_rfl) (by kernel_rfl) (by kernel_rfl) (by kernel_rfl) (fun _ _ _ h => h) (Or.inl ⟨by rfl, ?_⟩) hsb0 ?_
            rotate_left 1
            · intro w hSw; clear hSw; go_simp <;> with_reducible rfl
            simp only [Act.put, List.setIfInBounds_toArray, List.set_cons_zero, List.set_cons_succ]
            refine Held.G_take (i := 12) (d := 79) (v := ?_) [12, 15, 16, 17, 18, 19] rfl rfl (by kernel_rfl) (by kernel_rfl) (by kernel_rfl) (by kernel_rfl) (fun _ _ _ h => h) (Or.inl ⟨by rfl, ?_⟩) hsb0 ?_
            rotate_left 1
            · intro w hSw; obtain ⟨⟨h0, h1, h2, h3, h4, h5⟩, j0, j1⟩ := hSw; go_simp <;> with_reducible rfl
            simp only [Act.put, List.setIfInBounds_toArray, List.set_cons_zero, List.set_cons_succ]
            refine Held.G_take (i := 13) (d := 80) (v := ?_) [13, 14, 15, 16, 17, 18, 19] rfl rfl (by kernel_rfl) (by kernel_rfl) (by kernel_rfl) (by kernel_rfl) (fun _ _ _ h => h) (Or.inl ⟨by rfl, ?_⟩) hsb0 ?_
            rotate_left 1
            · intro w hSw; clear hSw; go_simp <;> with_reducible rfl
            simp only [Act.put, List.setIfInBounds_toArray, List.set_cons_zero, List.set_cons_succ]
            refine Held.G_take (i := 14) (d := 81) (v := ?_) [14, 15, 16, 17, 18, 19] rfl rfl (by kernel_rfl) (by kernel_rfl) (by kernel_rfl) (by kernel_rfl) (fun _ _ _ h => h) (Or.inl ⟨by rfl, ?_⟩) hsb0 ?_
            rotate_left 1
            · intro w hSw; obtain ⟨⟨h0, h1, h2, h3, h4, h5⟩, j0, j1⟩ := hSw; go_simp <;> with_reducible rfl
            simp only [Act.put, List.setIfInBounds_toArray, List.set_cons_zero, List.set_cons_succ]
            refine Held.G_take (i := 15) (d := 82) (v := ?_) [15, 16, 17, 18, 19] rfl rfl (by kernel_rfl) (by kernel_rfl) (by kernel_rfl) (by kernel_rfl) (fun _ _ _ h => h) (Or.inl ⟨by rfl, ?_⟩) hsb0 ?_
            rotate_left 1
            · intro w hSw; clear hSw; go_simp <;> with_reducible rfl
            simp only [Act.put, List.setIfInBounds_toArray, List.set_cons_zero, List.set_cons_succ]
            refine Held.G_take (i := 16) (d := 83) (v := ?_) [16, 17, 18, 19] rfl rfl (by kernel_rfl) (by kernel_rfl) (by kernel_rfl) (by kernel_rfl) (fun _ _ _ h => h) (Or.inl ⟨by rfl, ?_⟩) hsb0 ?_
            rotate_left 1
            · intro w hSw; clear hSw; go_simp <;> with_reducible rfl
            simp only [Act.put, List.setIfInBounds_toArray, List.set_cons_zero, List.set_cons_succ]
            refine Held.G_ready (rs := [8]) (by decide +kernel) (by simp) ?_
            refine Held.G_cons rfl (fun KK hK => ?_) Held.G_nil
            go_simp
            have hh := HFX.out _ hbb0 x (min (p : Int) (q : Int))
            unfold FindPost2 at hh
            dsimp only [tc] at hh
            (with_reducible refine hh.mono ?_)
            clear hh
            rintro e z1 ⟨Ab0, cb0, nb0, hn, rfl, hsh, hcp, hrw, hbb⟩
            have hbb1 := Below.step hbb0 hbb
            have hbz1 := Below.step hbz0 hbb
            clear hbz0
            have hsb1 := NaS.below hsb0 hbb
            have HAb0 := Lib.hid (And.intro (rowT hrw) (And.intro hn (And.intro hsh hcp)))
            clear hn hsh hcp hrw hbb hbb0 hsb0
            go_simp
            refine hK _ _ ?_
            clear hK KK
            refine ⟨hsb1, ?_⟩
            refine Held.G_ready (rs := [17]) (by decide +kernel) (by simp) ?_
            refine Held.G_cons rfl (fun KK hK => ?_) Held.G_nil
            go_simp
            have hh := HFX.out _ hbb1 x (max (p : Int) (q : Int))
            unfold FindPost2 at hh
            dsimp only [tc] at hh
            (with_reducible refine hh.mono ?_)
            clear hh
            rintro e z2 ⟨Ab1, cb1, nb1, hn, rfl, hsh, hcp, hrw, hbb⟩
            have hbb2 := Below.step hbb1 hbb
            have hbz2 := Below.step hbz1 hbb
            clear hbz1
            have hsb2 := NaS.below hsb1 hbb
            have HAb0' := Lib.hid (And.intro (HAb0.out.1.below hbb) HAb0.out.2)
            have HAb1 := Lib.hid (And.intro (rowT hrw) (And.intro hn (And.intro hsh hcp)))
            clear hn hsh hcp hrw hbb hbb1 hsb1
            go_simp
            refine hK _ _ ?_
            clear hK KK
            refine ⟨hsb2, ?_⟩
            refine Held.G_take (i := 18) (d := 14) (v := ?_) [18, 19] rfl rfl (by kernel_rfl) (by kernel_rfl) (by kernel_rfl) (by kernel_rfl) (fun _ _ _ h => h) (Or.inl ⟨by rfl, ?_⟩) hsb2 ?_
            rotate_left 1
            · intro w hSw; clear hSw; go_simp <;> with_reducible rfl
            simp only [Act.put, List.setIfInBounds_toArray, List.set_cons_zero, List.set_cons_succ]
            refine Held.G_ready (rs := [19]) (by decide +kernel) (by simp) ?_
            refine Held.G_last rfl (fun KK hK => ?_) Held.G_nil
            go_simp
            refine hK _ _ ?_
            clear hK KK
            refine Held.G_done (by kernel_rfl) ?_ _
            clear hwmin hwmax
            have HWZ := Lib.hid hbz2
            clear hbz2
            have HBF := Lib.hid (HBw8.out.trans (hbb2.mono HBw8.out.size))
            clear hsb2
            have hcb := cut_t Ab1 nb1 cb1 nb0 HAb1.out.2.2.1 (by have := HAb1.out.2.2.2; have := HLEN.out; have := HAb1.out.2.1; have := HAb0'.out.2.1; omega)
            have hcw := cut_t Aa0 na0 ca0 nb1 HW0.out.2.2.1 (by have := HW0.out.2.2.2; have := HLEN2.out; have := HAb1.out.2.1; have := HW0.out.2.1; omega)
            have hle : ((nb0 : Int) ≤ (nb1 : Int)) := by have := HLEN.out; have := HAb1.out.2.1; have := HAb0'.out.2.1; omega
            have hs1 := rsame_t z2 Ab0 Ab1 nb0 cb0 nb0 cb1 (find m x (min (p : Int) (q : Int))) ((find m x (max (p : Int) (q : Int))).take nb0) true HAb0'.out.2.1 (by rw [List.length_take]; have := HLEN.out; have := HAb0'.out.2.1; omega) HAb0'.out.1 (rowT_take HAb1.out.1 _) (by have := find_len m x (min (p : Int) (q : Int)); have := HMM.out; omega) (by rw [HAb0'.out.2.1, HCUT.out]; simp)
            have HS2 := Lib.hid (fun (w : World) (hb : Below z2.heap.size z2 w) => rsame_t w Ab1 Aa0 nb1 cb1 nb1 ca0 (find m x (max (p : Int) (q : Int))) ((find m x 1000).take nb1) true HAb1.out.2.1 (by rw [List.length_take]; have := HLEN2.out; have := HAb1.out.2.1; omega) (HAb1.out.1.below hb) (rowT_take ((HW0.out.1.below HWZ.out).below hb) _) (by have := find_len m x (max (p : Int) (q : Int)); have := HMM.out; omega) (by rw [HAb1.out.2.1, HCUT2.out]; simp))
            clear hbb2
            go_wp2_with fail
            (with_reducible refine hs1.mono ?_)
            clear hs1
            rintro e z3 ⟨rfl, hb3⟩
            have hs2 := HS2.out _ hb3
            have HB3 := Lib.hid (HBF.out.trans (hb3.mono HBF.out.size))
            clear hb3
            go_wp2_with fail
            (with_reducible refine hs2.mono ?_)
            clear hs2
            rintro e z4 ⟨rfl, hb4⟩
            have HB4 := Lib.hid (HB3.out.trans (hb4.mono HB3.out.size))
            clear hb4
            go_wp2_with fail
            go_ret
            exact ⟨rfl, HB4.out⟩
end Go.Proofs.YtilcnhdfdgmekaaGreat.FactsNarrow
