/- The contract of the document's Cells. -/
import Derived.Test.YtffbmabhlgfjkaaFreeMid
import Derived.Test.YtffbmabhlgfjkaaHeld
namespace Go.Proofs.Ytffbmabhlgfjkaa.FreeRefCells
open Go.RowKit Base FreePlain FreeMem FreeText FreeCellsOf FreePages FreeCheck FreeSl FreeOf FreeCells FreeMid

theorem shape_snoc {qs : Cs} {r : List ByteArray} : Shape (qs ++ [r]) ↔ (∀ q ∈ qs, q.length = 23) ∧ 0 < r.length ∧ r.length ≤ 23 := by
  constructor
  · intro h
    refine ⟨fun q hq => ?_, ?_⟩
    · obtain ⟨i, hi, rfl⟩ := List.mem_iff_getElem.1 hq
      have h1 := h i (by simp; omega)
      rw [List.getElem_append_left hi] at h1
      rcases h1 with h1 | ⟨h1, _⟩
      · exact h1
      · simp at h1; omega
    · have h1 := h qs.length (by simp)
      simp at h1
      omega
  · rintro ⟨h1, h2, h3⟩ i hi
    rw [List.length_append, List.length_singleton] at hi
    rcases Nat.lt_or_ge i qs.length with q | q
    · rw [List.getElem_append_left q]
      exact .inl (h1 _ (List.getElem_mem q))
    · obtain rfl : i = qs.length := by omega
      simp
      omega
theorem full_len : ∀ {qs : Cs}, (∀ q ∈ qs, q.length = 23) → qs.flatten.length = 23 * qs.length
  | [], _ => rfl
  | q :: qs, h => by
    have := full_len (qs := qs) fun x hx => h x (by simp [hx])
    have h1 := h q (by simp)
    rw [List.flatten_cons, List.length_append, this, h1, List.length_cons]
    omega
theorem snoc_cases : ∀ cs : Cs, cs = [] ∨ ∃ qs r, cs = qs ++ [r] := fun cs => by
  rcases List.eq_nil_or_concat cs with h | ⟨qs, r, h⟩
  · exact .inl h
  · exact .inr ⟨qs, r, by rw [h, List.concat_eq_append]⟩
theorem take_texts {l : Fs} {k : Nat} (hk : k < l.length) : texts (l.take (k + 1)) = texts (l.take k) ++ [cell l[k]] := by
  rw [List.take_succ_eq_append_getElem hk, texts_append]; rfl
theorem pages_new {l : Fs} {k : Nat} {cs : Cs} (h : PagesOf cs (l.take k)) (hk : k < l.length) (hm : k % 23 = 0) : PagesOf (cs ++ [[cell l[k]]]) (l.take (k + 1)) := by
  obtain ⟨h1, h2⟩ := h
  refine ⟨shape_snoc.2 ⟨?_, by simp, by simp⟩, by rw [List.flatten_append, h2, take_texts hk]; rfl⟩
  rcases snoc_cases cs with rfl | ⟨qs, r, rfl⟩
  · simp
  · obtain ⟨a1, a2, a3⟩ := shape_snoc.1 h1
    have h3 : (qs ++ [r]).flatten.length = k := by rw [h2, texts_len, List.length_take]; omega
    rw [List.flatten_append, List.length_append, full_len a1] at h3
    simp at h3
    intro q hq
    rcases List.mem_append.1 hq with hq | hq
    · exact a1 q hq
    · rw [List.mem_singleton.1 hq]; omega
theorem pages_old {l : Fs} {k : Nat} {qs : Cs} {r : List ByteArray} (h : PagesOf (qs ++ [r]) (l.take k)) (hk : k < l.length) (hm : k % 23 ≠ 0) : r.length < 23 ∧ PagesOf (qs ++ [r ++ [cell l[k]]]) (l.take (k + 1)) := by
  obtain ⟨h1, h2⟩ := h
  obtain ⟨a1, a2, a3⟩ := shape_snoc.1 h1
  have h3 : (qs ++ [r]).flatten.length = k := by rw [h2, texts_len, List.length_take]; omega
  rw [List.flatten_append, List.length_append, full_len a1] at h3
  simp at h3
  refine ⟨by omega, shape_snoc.2 ⟨a1, by simp, by simp; omega⟩, ?_⟩
  rw [take_texts hk, ← h2]
  simp
theorem cellsP_snoc (qs : List Ps) (p : Ps) : cellsP (qs ++ [p]) = cellsP qs ++ [p.2.2] := by simp [cellsP]
/-- what stands at a round's start -/
def St (lo g co : Nat) (l : Fs) (k : Nat) (ps : List Ps) (w : World) : Prop := (k = 0 ∧ ps = [] ∧ Own w lo 39 (some ⟨g, 0, none⟩) co []) ∨ ∃ qs p, ps = qs ++ [p] ∧ Mid lo g co qs p p w ∧ PagesOf (cellsP ps) (l.take k)
theorem St.pages {lo g co : Nat} {l : Fs} {k : Nat} {ps : List Ps} {w : World} (h : St lo g co l k ps w) : PagesOf (cellsP ps) (l.take k) ∧ Own w lo 39 (some ⟨g, 0, none⟩) co (ps.map psv) ∧ ∀ p ∈ ps, RowS w p.1 p.2.2 := by
  rcases h with ⟨rfl, rfl, h⟩ | ⟨qs, p, rfl, ⟨h1, h2, h3⟩, h4⟩
  · exact ⟨⟨shape_nil, by simp [cellsP, texts]⟩, h, by simp⟩
  · refine ⟨h4, by simpa using h1, fun q hq => ?_⟩
    rcases List.mem_append.1 hq with hq | hq
    · exact (h3 q hq).rowS
    · rw [List.mem_singleton.1 hq]; exact RowS.ofOwn h2
/-- a new page -/
theorem St.new {lo g co m : Nat} {l : Fs} {k : Nat} {ps : List Ps} {W w : World} (h : St lo g co l k ps w) (hm : m = ps.length) (hl : m ≤ 1000) (hB : Below lo W w) (hlo : lo ≤ w.heap.size) :
    ∃ g' co' w', (Builtin.append_ #[33, 33] 33 #[.slice (some ⟨g, 0, none⟩) m co, .slice (some ⟨w.heap.size, 0, none⟩) 1 1]).run Try.prog (w.alloc (.cells #[.slice none 0 0] 39)) = .ok (.slice (some ⟨g', 0, none⟩) (m + 1) co') w' ∧ Mid lo g' co' ps (none, 0, []) (none, 0, []) w' ∧ Below lo W w' := by
  subst hm
  obtain ⟨_, h1, h2⟩ := h.pages
  have hpl : (ps.map psv).length = ps.length := by simp
  have ho2 := h1.alloc (.cells #[.slice none 0 0] 39)
  have hbw2 := bstep hB hlo (al w (.cells #[.slice none 0 0] 39))
  obtain ⟨A3, c3, w3, hrun, ho3, hg⟩ := run_append_row (P := Try.prog) 33 el_ss (c2 := 1) ho2 (row_one w (.slice none 0 0) 39) (by simp [Value.oneCell']) (by rw [hpl]; simp [maxLen]; omega) (by rw [hpl]; simp; omega) (Nat.le_trans hlo (al _ _).size)
  have hb3 := ho2.below hbw2 hg (Nat.le_refl _) (Nat.le_trans hlo (al _ _).size)
  rw [hpl] at hrun
  have hA : ∃ g', A3 = some ⟨g', 0, none⟩ := by
    obtain ⟨g', cap, e1, _⟩ := World.ownsRow.form ho3 (by simp)
    injection e1 with e1
    exact ⟨g', e1⟩
  obtain ⟨g', rfl⟩ := hA
  exact ⟨g', c3, w3, hrun, ⟨ho3, Own.nil _ _ _, fun q hq => FreeMid.RowS.none (((h2 q hq).below (al _ _)).outer ho2 hg)⟩, hb3⟩
set_option maxRecDepth 100000 in
set_option maxHeartbeats 12800000 in
theorem rcells_any (W : World) (A : Option Addr) (n c : Nat) (l : Fs) (hn : n = l.length) (hr : Row W W.heap.size A (fr l)) (hl : l.length ≤ 1000) (hf : ∀ p ∈ l, Fit p) :
    Calls Try.prog 21 #[.slice A n c] W fun e w' => ∃ A' m c' cs, e = .returned (.slice A' m c') ∧ m = cs.length ∧ OutS W.heap.size cs A' c' w' ∧ PagesOf cs l ∧ Below W.heap.size W w' := by
  subst hn
  have HR := Lib.hid hr
  have HF := Lib.hid hf
  have hst0 : St W.heap.size W.heap.size 0 l 0 [] (W.alloc (.cells #[] 39)) := .inl ⟨rfl, rfl, Own.empty _ _ (Nat.le_refl _)⟩
  have hb0 := al W (.cells #[] 39)
  clear hr hf
  go_enter Try.func21, Try.ntmps21
  go_wp2_with fail
  go_loopw [3, 4, 5] (fun v i _ wr => ∃ (k m g co : Nat) (ps : List Ps), k ≤ l.length ∧ m = ps.length ∧ v = .slice (some ⟨g, 0, none⟩) m co ∧ i = .int .i64 k ∧ St W.heap.size g co l k ps wr ∧ Below W.heap.size W wr) (fun _ i _ _ => l.length - (intOf i).toNat)
  case atStart => exact ⟨0, 0, _, _, [], by omega, rfl, rfl, rfl, hst0, hb0⟩
  case round =>
    clear hst0 hb0
    obtain ⟨k, m, g, co, ps, hk, hm, rfl, rfl, hst, hb⟩ := hrel
    by_cases hlt : k < l.length
    · obtain ⟨ad, hA, hblk, hc1, hc2⟩ := row_at HR.out k hlt
      subst hA
      obtain ⟨f1, f2, f3, f4⟩ := HF.out _ (List.getElem_mem hlt)
      obtain ⟨n1, hn1⟩ := Int.eq_ofNat_of_zero_le (show 0 ≤ (l[k]).1 by omega)
      obtain ⟨n2, hn2⟩ := Int.eq_ofNat_of_zero_le f3
      have HCE := Lib.hid (show cell l[k] = four n1 ++ four n2 by simp only [cell, hn1, hn2]; rfl)
      rw [hn1] at hc1 f1 f2
      rw [hn2] at hc2 f3 f4
      have HCC := Lib.hid (fun (w' : World) (q : Below W.heap.size W w') => show w'.cell? (ad.add (k * 2)) = some (.int .i64 (n1 : Int)) ∧ w'.cell? ⟨(ad.add (k * 2)).block, (ad.add (k * 2)).off + 1, none⟩ = some (.int .i64 (n2 : Int)) from ⟨(q.cell (p := ad.add (k * 2)) (by rw [blk_add]; exact hblk)).trans hc1, (q.cell (p := ⟨(ad.add (k * 2)).block, (ad.add (k * 2)).off + 1, none⟩) (by show (ad.add (k * 2)).block < _; rw [blk_add]; exact hblk)).trans hc2⟩)
      clear hc1 hc2 hn1 hn2
      have hpl : ps.length ≤ 1000 := by
        have h1 := hst.pages.1
        rcases snoc_cases (cellsP ps) with e | ⟨qs, r, e⟩
        · have : (cellsP ps).length = ps.length := by simp [cellsP]
          rw [e] at this; simp at this; omega
        · have h2 : (cellsP ps).length = ps.length := by simp [cellsP]
          rw [e] at h1 h2
          obtain ⟨a1, a2, a3⟩ := shape_snoc.1 h1.1
          have h3 : (qs ++ [r]).flatten.length = k := by rw [h1.2, texts_len, List.length_take]; omega
          rw [List.flatten_append, List.length_append, full_len a1] at h3
          simp at h3 h2
          omega
      by_cases h23 : k % 23 = 0
      · have e23 : ((k : Int) % 23) = 0 := by omega
        obtain ⟨g2, co2, wx, hrun, hmx, hbx⟩ := hst.new hm (by omega) hb hb.size
        obtain ⟨r2, hr2⟩ : ∃ r2 : List ByteArray, r2 = [] := ⟨_, rfl⟩
        have HPG := Lib.hid (fun (A' : Option Addr) (c' : Nat) => show PagesOf (cellsP (ps ++ [(A', c', r2 ++ [four n1 ++ four n2])])) (l.take (k + 1)) by
          rw [cellsP_snoc, ← HCE.out, hr2]
          exact pages_new hst.pages.1 hlt h23)
        clear hst hb
        generalize g2 = g at *
        generalize co2 = co at *
        obtain ⟨qs, hqs⟩ : ∃ qs, qs = ps := ⟨_, rfl⟩
        rw [← hqs] at hmx HPG hm hpl
        obtain ⟨kk, hkk⟩ : ∃ kk, kk = m := ⟨_, rfl⟩
        have HKK := Lib.hid (show kk = qs.length by rw [hkk]; exact hm)
        obtain ⟨m9, hm9⟩ : ∃ m9, m9 = m + 1 := ⟨_, rfl⟩
        have HM9 := Lib.hid (show ∀ p : Ps, m9 = (qs ++ [p]).length by intro p; rw [List.length_append, List.length_singleton, ← HKK.out]; omega)
        clear hqs
        rw [← hm9] at hrun
        have ek : (m9 : Int) - 1 = (kk : Int) := by omega
        have ek2 : kk < m9 := by omega
        have ek3 : kk ≤ 1000 := by rw [HKK.out, ← hm]; omega
        subst hkk
        clear hm hpl
        obtain ⟨A2, hA2⟩ : ∃ A2 : Option Addr, A2 = none := ⟨_, rfl⟩
        obtain ⟨c2, hc2⟩ : ∃ c2 : Nat, c2 = 0 := ⟨_, rfl⟩
        obtain ⟨m2, hm2⟩ : ∃ m2 : Nat, m2 = 0 := ⟨_, rfl⟩
        have HM2 := Lib.hid (show m2 = r2.length by rw [hm2, hr2]; rfl)
        have HM3 := Lib.hid (show m2 ≤ 100 by omega)
        rw [← hA2, ← hc2, ← hr2] at hmx
        clear hA2 hc2 hm2 hr2 hm9
        have hs1 : (four n1).size = 4 := rfl
        have hs2 : (four n2).size = 4 := rfl
        have HC := Lib.hid (show ∀ (w' : World) {p : Ps}, Mid W.heap.size g co qs (A2, c2, r2) p w' → Below W.heap.size W w' → w'.cell? ⟨g, kk, none⟩ = some (.slice A2 m2 c2) ∧ w'.cell? (ad.add (k * 2)) = some (.int .i64 (n1 : Int)) ∧ w'.cell? ⟨(ad.add (k * 2)).block, (ad.add (k * 2)).off + 1, none⟩ = some (.int .i64 (n2 : Int)) from fun w' p hm hb => by
          have h0 := hm.cell
          rw [← HKK.out, add_zero_block, psv, ← HM2.out] at h0
          exact ⟨h0, HCC.out w' hb⟩)
        go_wp2_with (at_builtin; refine FreeMem.wpList_append_run rfl (.tmp 16) (.tmp 17) 33 33 rfl rfl rfl hrun ?_)
        clear hrun e23 ek
        refine wp_region_any (by kernel_rfl) ?_
        change wpAny _ _ _ _ _ _ _ (World.drew _)
        obtain ⟨u0, hu0⟩ : ∃ v, v = World.drew wx := ⟨_, rfl⟩
        rw [← hu0]
        have hB0 : Below W.heap.size W u0 := by rw [hu0]; exact hbx.drew
        have hM0 : Mid W.heap.size g co qs (A2, c2, r2) (A2, c2, r2) u0 := by rw [hu0]; exact hmx.later (Below.refl _ _).drew
        clear hu0 hbx hmx
        refine Held.any_of_G (S := (fun w' : World => w'.cell? ⟨g, kk, none⟩ = some (.slice A2 m2 c2) ∧ w'.cell? (ad.add (k * 2)) = some (.int .i64 (n1 : Int)) ∧ w'.cell? ⟨(ad.add (k * 2)).block, (ad.add (k * 2)).off + 1, none⟩ = some (.int .i64 (n2 : Int)))) (z := 22) _ _ _ _ ?_
        refine Held.G_take (i := 0) (d := 22) (v := ?_) [0, 21, 22] rfl rfl (by kernel_rfl) (by kernel_rfl) (by kernel_rfl) (by kernel_rfl) (fun _ _ _ h => h) (Or.inl ⟨by rfl, ?_⟩) (HC.out _ hM0 hB0) ?_
        rotate_left 1
        · intro w hSw; clear hSw; go_simp <;> with_reducible rfl
        simp only [Act.put, List.setIfInBounds_toArray, List.set_cons_zero, List.set_cons_succ]
        refine Held.G_take (i := 1) (d := 23) (v := ?_) [1, 21, 22] rfl rfl (by kernel_rfl) (by kernel_rfl) (by kernel_rfl) (by kernel_rfl) (fun _ _ _ h => h) (Or.inl ⟨by rfl, ?_⟩) (HC.out _ hM0 hB0) ?_
        rotate_left 1
        · intro w hSw; clear hSw; go_simp <;> with_reducible rfl
        simp only [Act.put, List.setIfInBounds_toArray, List.set_cons_zero, List.set_cons_succ]
        refine Held.G_take (i := 2) (d := 24) (v := ?_) [2, 4, 5, 20, 21, 22] rfl rfl (by kernel_rfl) (by kernel_rfl) (by kernel_rfl) (by kernel_rfl) (fun _ _ _ h => h) (Or.inl ⟨by rfl, ?_⟩) (HC.out _ hM0 hB0) ?_
        rotate_left 1
        · intro w hSw; clear hSw; go_simp <;> with_reducible rfl
        simp only [Act.put, List.setIfInBounds_toArray, List.set_cons_zero, List.set_cons_succ]
        refine Held.G_take (i := 3) (d := 25) (v := ?_) [3, 4, 5, 20, 21, 22] rfl rfl (by kernel_rfl) (by kernel_rfl) (by kernel_rfl) (by kernel_rfl) (fun _ _ _ h => h) (Or.inl ⟨by rfl, ?_⟩) (HC.out _ hM0 hB0) ?_
        rotate_left 1
        · intro w hSw; clear hSw; go_simp <;> with_reducible rfl
        simp only [Act.put, List.setIfInBounds_toArray, List.set_cons_zero, List.set_cons_succ]
        refine Held.G_take (i := 4) (d := 26) (v := ?_) [4, 5, 20, 21, 22] rfl rfl (by kernel_rfl) (by kernel_rfl) (by kernel_rfl) (by kernel_rfl) (fun _ _ _ h => h) (Or.inl ⟨by rfl, ?_⟩) (HC.out _ hM0 hB0) ?_
        rotate_left 1
        · intro w hSw; clear hSw; go_simp <;> with_reducible rfl
        simp only [Act.put, List.setIfInBounds_toArray, List.set_cons_zero, List.set_cons_succ]
        refine Held.G_take (i := 5) (d := 27) (v := ?_) [5, 20, 21, 22] rfl rfl (by kernel_rfl) (by kernel_rfl) (by kernel_rfl) (by kernel_rfl) (fun _ _ _ h => h) (Or.inl ⟨by rfl, ?_⟩) (HC.out _ hM0 hB0) ?_
        rotate_left 1
        · intro w hSw; obtain ⟨h0, h1, h2⟩ := hSw; go_simp <;> with_reducible rfl
        simp only [Act.put, List.setIfInBounds_toArray, List.set_cons_zero, List.set_cons_succ]
        refine Held.G_take (i := 6) (d := 28) (v := ?_) [6, 8, 9, 10, 11, 17, 18, 19, 20, 21, 22] rfl rfl (by kernel_rfl) (by kernel_rfl) (by kernel_rfl) (by kernel_rfl) (fun _ _ _ h => h) (Or.inl ⟨by rfl, ?_⟩) (HC.out _ hM0 hB0) ?_
        rotate_left 1
        · intro w hSw; clear hSw; go_simp <;> with_reducible rfl
        simp only [Act.put, List.setIfInBounds_toArray, List.set_cons_zero, List.set_cons_succ]
        refine Held.G_take (i := 7) (d := 29) (v := ?_) [7, 8, 9, 10, 11, 17, 18, 19, 20, 21, 22] rfl rfl (by kernel_rfl) (by kernel_rfl) (by kernel_rfl) (by kernel_rfl) (fun _ _ _ h => h) (Or.inl ⟨by rfl, ?_⟩) (HC.out _ hM0 hB0) ?_
        rotate_left 1
        · intro w hSw; clear hSw; go_simp <;> with_reducible rfl
        simp only [Act.put, List.setIfInBounds_toArray, List.set_cons_zero, List.set_cons_succ]
        refine Held.G_take (i := 8) (d := 30) (v := ?_) [8, 9, 10, 11, 17, 18, 19, 20, 21, 22] rfl rfl (by kernel_rfl) (by kernel_rfl) (by kernel_rfl) (by kernel_rfl) (fun _ _ _ h => h) (Or.inl ⟨by rfl, ?_⟩) (HC.out _ hM0 hB0) ?_
        rotate_left 1
        · intro w hSw; clear hSw; go_simp <;> with_reducible rfl
        simp only [Act.put, List.setIfInBounds_toArray, List.set_cons_zero, List.set_cons_succ]
        refine Held.G_take (i := 9) (d := 31) (v := ?_) [9, 10, 11, 17, 18, 19, 20, 21, 22] rfl rfl (by kernel_rfl) (by kernel_rfl) (by kernel_rfl) (by kernel_rfl) (fun _ _ _ h => h) (Or.inl ⟨by rfl, ?_⟩) (HC.out _ hM0 hB0) ?_
        rotate_left 1
        · intro w hSw; clear hSw; go_simp <;> with_reducible rfl
        simp only [Act.put, List.setIfInBounds_toArray, List.set_cons_zero, List.set_cons_succ]
        refine Held.G_take (i := 10) (d := 32) (v := ?_) [10, 11, 17, 18, 19, 20, 21, 22] rfl rfl (by kernel_rfl) (by kernel_rfl) (by kernel_rfl) (by kernel_rfl) (fun _ _ _ h => h) (Or.inl ⟨by rfl, ?_⟩) (HC.out _ hM0 hB0) ?_
        rotate_left 1
        · intro w hSw; obtain ⟨h0, h1, h2⟩ := hSw; go_simp <;> with_reducible rfl
        simp only [Act.put, List.setIfInBounds_toArray, List.set_cons_zero, List.set_cons_succ]
        refine Held.G_take (i := 12) (d := 34) (v := ?_) [12, 14, 15, 16, 17, 18, 19, 20, 21, 22] rfl rfl (by kernel_rfl) (by kernel_rfl) (by kernel_rfl) (by kernel_rfl) (fun _ _ _ h => h) (Or.inl ⟨by rfl, ?_⟩) (HC.out _ hM0 hB0) ?_
        rotate_left 1
        · intro w hSw; clear hSw; go_simp <;> with_reducible rfl
        simp only [Act.put, List.setIfInBounds_toArray, List.set_cons_zero, List.set_cons_succ]
        refine Held.G_take (i := 13) (d := 35) (v := ?_) [13, 14, 15, 16, 17, 18, 19, 20, 21, 22] rfl rfl (by kernel_rfl) (by kernel_rfl) (by kernel_rfl) (by kernel_rfl) (fun _ _ _ h => h) (Or.inl ⟨by rfl, ?_⟩) (HC.out _ hM0 hB0) ?_
        rotate_left 1
        · intro w hSw; clear hSw; go_simp <;> with_reducible rfl
        simp only [Act.put, List.setIfInBounds_toArray, List.set_cons_zero, List.set_cons_succ]
        refine Held.G_take (i := 14) (d := 36) (v := ?_) [14, 15, 16, 17, 18, 19, 20, 21, 22] rfl rfl (by kernel_rfl) (by kernel_rfl) (by kernel_rfl) (by kernel_rfl) (fun _ _ _ h => h) (Or.inl ⟨by rfl, ?_⟩) (HC.out _ hM0 hB0) ?_
        rotate_left 1
        · intro w hSw; clear hSw; go_simp <;> with_reducible rfl
        simp only [Act.put, List.setIfInBounds_toArray, List.set_cons_zero, List.set_cons_succ]
        refine Held.G_take (i := 15) (d := 37) (v := ?_) [15, 16, 17, 18, 19, 20, 21, 22] rfl rfl (by kernel_rfl) (by kernel_rfl) (by kernel_rfl) (by kernel_rfl) (fun _ _ _ h => h) (Or.inl ⟨by rfl, ?_⟩) (HC.out _ hM0 hB0) ?_
        rotate_left 1
        · intro w hSw; clear hSw; go_simp <;> with_reducible rfl
        simp only [Act.put, List.setIfInBounds_toArray, List.set_cons_zero, List.set_cons_succ]
        refine Held.G_take (i := 16) (d := 38) (v := ?_) [16, 17, 18, 19, 20, 21, 22] rfl rfl (by kernel_rfl) (by kernel_rfl) (by kernel_rfl) (by kernel_rfl) (fun _ _ _ h => h) (Or.inl ⟨by rfl, ?_⟩) (HC.out _ hM0 hB0) ?_
        rotate_left 1
        · intro w hSw; obtain ⟨h0, h1, h2⟩ := hSw; go_simp <;> with_reducible rfl
        simp only [Act.put, List.setIfInBounds_toArray, List.set_cons_zero, List.set_cons_succ]
        refine Held.G_ready (rs := [11]) (by decide +kernel) (by simp) ?_
        refine Held.G_cons rfl (fun KK hK => ?_) Held.G_nil
        go_simp
        (with_reducible refine (rfour_any u0 n1 (by omega)).mono ?_)
        rintro e u1 ⟨rfl, hst⟩
        have hB1 := bstep hB0 hB0.size hst
        have hM1 := hM0.later hst
        clear hst
        go_simp
        refine hK _ _ ?_
        clear hK KK
        refine ⟨(HC.out _ hM1 hB1), ?_⟩
        refine Held.G_ready (rs := [17]) (by decide +kernel) (by simp) ?_
        refine Held.G_cons rfl (fun KK hK => ?_) Held.G_nil
        go_simp
        (with_reducible refine (rfour_any u1 n2 (by omega)).mono ?_)
        rintro e u2 ⟨rfl, hst⟩
        have hB2 := bstep hB1 hB1.size hst
        have hM2 := hM1.later hst
        clear hst
        go_simp
        refine hK _ _ ?_
        clear hK KK
        refine ⟨(HC.out _ hM2 hB2), ?_⟩
        refine Held.G_take (i := 18) (d := 40) (v := ?_) [18, 19, 20, 21, 22] rfl rfl (by kernel_rfl) (by kernel_rfl) (by kernel_rfl) (by kernel_rfl) (fun _ _ _ h => h) (Or.inl ⟨by rfl, ?_⟩) (HC.out _ hM2 hB2) ?_
        rotate_left 1
        · intro w hSw; clear hSw; go_simp <;> with_reducible rfl
        simp only [Act.put, List.setIfInBounds_toArray, List.set_cons_zero, List.set_cons_succ]
        refine Held.G_ready (rs := [19]) (by decide +kernel) (by simp) ?_
        refine Held.G_cons rfl (fun KK hK => ?_) Held.G_nil
        go_simp
        refine hK _ _ ?_
        clear hK KK
        obtain ⟨u3, hw⟩ : ∃ v, v = u2.alloc (.cells #[.string (four n1 ++ four n2)] 9) := ⟨_, rfl⟩
        rw [← hw]
        have hst : Below u2.heap.size u2 u3 := by rw [hw]; exact al _ _
        have hB3 := bstep hB2 hB2.size hst
        have hM3 := hM2.later hst
        have hr1 : Row u3 u3.heap.size (some ⟨u2.heap.size, 0, none⟩) [.string (four n1 ++ four n2)] := by rw [hw]; exact row_one _ _ _
        clear hw hst
        refine ⟨(HC.out _ hM3 hB3), ?_⟩
        refine Held.G_ready (rs := [20]) (by decide +kernel) (by simp) ?_
        refine Held.G_cons rfl (fun KK hK => ?_) Held.G_nil
        obtain ⟨A', c', u4, hrun, hM4, hB4⟩ := hM3.app (n := m2 + 1) (c2 := 1) HM2.out rfl hB3 hB3.size hr1 (by have := HM3.out; omega)
        refine step_append_d (d := 42) rfl rfl (.tmp 27) (.tmp 41) 39 39 rfl (vs := .slice A2 m2 c2) (vx := .slice (some ⟨u2.heap.size, 0, none⟩) 1 1) (by simp [Act.eval]) (by simp [Act.eval]) hrun ?_
        refine hK _ _ ?_
        clear hK KK hrun
        simp only [Act.put, List.setIfInBounds_toArray, List.set_cons_zero, List.set_cons_succ]
        refine ⟨(HC.out _ hM4 hB4), ?_⟩
        refine Held.G_take (i := 21) (d := 43) (v := ?_) [21, 22] rfl rfl (by kernel_rfl) (by kernel_rfl) (by kernel_rfl) (by kernel_rfl) (fun _ _ _ h => h) (Or.inl ⟨by rfl, ?_⟩) (HC.out _ hM4 hB4) ?_
        rotate_left 1
        · intro w hSw; clear hSw; go_simp <;> with_reducible rfl
        simp only [Act.put, List.setIfInBounds_toArray, List.set_cons_zero, List.set_cons_succ]
        refine Held.G_ready (rs := [22]) (by decide +kernel) (by simp) ?_
        refine Held.G_last rfl (fun KK hK => ?_) Held.G_nil
        have hfz := hM4.free kk
        have hcz := (HC.out _ hM4 hB4).1
        have hset := hM4.set hB4 HKK.out
        have e9 : psv (A', c', r2 ++ [four n1 ++ four n2]) = .slice A' (m2 + 1) c' := by rw [HM2.out]; simp [psv]
        rw [e9] at hset
        clear e9
        go_simp
        refine hK _ _ ?_
        clear hK KK hfz hcz
        refine Held.G_done (by kernel_rfl) ?_ _
        go_wp2_with fail
        go_roundw
        case rel => exact ⟨k + 1, m9, g, co, qs ++ [(A', c', r2 ++ [four n1 ++ four n2])], by omega, HM9.out _, rfl, by go_num, .inr ⟨qs, _, rfl, hset.1, HPG.out A' c'⟩, hset.2⟩
        case measure => simp [intOf]; omega
      · have e23 : (((k : Int) % 23) = 0) = False := by simp; omega
        rcases hst with ⟨rfl, _, _⟩ | ⟨qs, p, rfl, hmx, hpg⟩
        · exact absurd rfl h23
        · obtain ⟨A2, c2, r2⟩ := p
          rw [cellsP_snoc] at hpg
          obtain ⟨q1, q2⟩ := pages_old hpg hlt h23
          have q1 : r2.length < 23 := q1
          have HPG := Lib.hid (fun (A' : Option Addr) (c' : Nat) => show PagesOf (cellsP (qs ++ [(A', c', r2 ++ [four n1 ++ four n2])])) (l.take (k + 1)) by
            rw [cellsP_snoc, ← HCE.out]
            exact q2)
          clear hpg q2
          obtain ⟨wx, hwx⟩ : ∃ wx, wx = wr := ⟨_, rfl⟩
          have hbx := hb
          rw [← hwx] at hbx hmx
          obtain ⟨kk, hkk⟩ : ∃ kk, kk = qs.length := ⟨_, rfl⟩
          have HKK := Lib.hid hkk
          rw [List.length_append, List.length_singleton] at hm hpl
          obtain ⟨m9, hm9⟩ : ∃ m9, m9 = m := ⟨_, rfl⟩
          have HM9 := Lib.hid (show ∀ p : Ps, m9 = (qs ++ [p]).length by intro p; rw [List.length_append, List.length_singleton]; omega)
          rw [← hm9]
          have ek : (m9 : Int) - 1 = (kk : Int) := by omega
          have ek2 : kk < m9 := by omega
          have ek3 : kk ≤ 1000 := by omega
          obtain ⟨m2, hm2⟩ : ∃ m2 : Nat, m2 = r2.length := ⟨_, rfl⟩
          have HM2 := Lib.hid hm2
          have HM3 := Lib.hid (show m2 ≤ 100 by omega)
          rw [← hwx]
          clear hm hm9 hm2 hkk hpl hb hwx
          have hs1 : (four n1).size = 4 := rfl
          have hs2 : (four n2).size = 4 := rfl
          have HC := Lib.hid (show ∀ (w' : World) {p : Ps}, Mid W.heap.size g co qs (A2, c2, r2) p w' → Below W.heap.size W w' → w'.cell? ⟨g, kk, none⟩ = some (.slice A2 m2 c2) ∧ w'.cell? (ad.add (k * 2)) = some (.int .i64 (n1 : Int)) ∧ w'.cell? ⟨(ad.add (k * 2)).block, (ad.add (k * 2)).off + 1, none⟩ = some (.int .i64 (n2 : Int)) from fun w' p hm hb => by
            have h0 := hm.cell
            rw [← HKK.out, add_zero_block, psv, ← HM2.out] at h0
            exact ⟨h0, HCC.out w' hb⟩)
          go_wp2_with fail
          clear e23 ek
          refine wp_region_any (by kernel_rfl) ?_
          change wpAny _ _ _ _ _ _ _ (World.drew _)
          obtain ⟨u0, hu0⟩ : ∃ v, v = World.drew wx := ⟨_, rfl⟩
          rw [← hu0]
          have hB0 : Below W.heap.size W u0 := by rw [hu0]; exact hbx.drew
          have hM0 : Mid W.heap.size g co qs (A2, c2, r2) (A2, c2, r2) u0 := by rw [hu0]; exact hmx.later (Below.refl _ _).drew
          clear hu0 hbx hmx
          refine Held.any_of_G (S := (fun w' : World => w'.cell? ⟨g, kk, none⟩ = some (.slice A2 m2 c2) ∧ w'.cell? (ad.add (k * 2)) = some (.int .i64 (n1 : Int)) ∧ w'.cell? ⟨(ad.add (k * 2)).block, (ad.add (k * 2)).off + 1, none⟩ = some (.int .i64 (n2 : Int)))) (z := 22) _ _ _ _ ?_
          refine Held.G_take (i := 0) (d := 22) (v := ?_) [0, 21, 22] rfl rfl (by kernel_rfl) (by kernel_rfl) (by kernel_rfl) (by kernel_rfl) (fun _ _ _ h => h) (Or.inl ⟨by rfl, ?_⟩) (HC.out _ hM0 hB0) ?_
          rotate_left 1
          · intro w hSw; clear hSw; go_simp <;> with_reducible rfl
          simp only [Act.put, List.setIfInBounds_toArray, List.set_cons_zero, List.set_cons_succ]
          refine Held.G_take (i := 1) (d := 23) (v := ?_) [1, 21, 22] rfl rfl (by kernel_rfl) (by kernel_rfl) (by kernel_rfl) (by kernel_rfl) (fun _ _ _ h => h) (Or.inl ⟨by rfl, ?_⟩) (HC.out _ hM0 hB0) ?_
          rotate_left 1
          · intro w hSw; clear hSw; go_simp <;> with_reducible rfl
          simp only [Act.put, List.setIfInBounds_toArray, List.set_cons_zero, List.set_cons_succ]
          refine Held.G_take (i := 2) (d := 24) (v := ?_) [2, 4, 5, 20, 21, 22] rfl rfl (by kernel_rfl) (by kernel_rfl) (by kernel_rfl) (by kernel_rfl) (fun _ _ _ h => h) (Or.inl ⟨by rfl, ?_⟩) (HC.out _ hM0 hB0) ?_
          rotate_left 1
          · intro w hSw; clear hSw; go_simp <;> with_reducible rfl
          simp only [Act.put, List.setIfInBounds_toArray, List.set_cons_zero, List.set_cons_succ]
          refine Held.G_take (i := 3) (d := 25) (v := ?_) [3, 4, 5, 20, 21, 22] rfl rfl (by kernel_rfl) (by kernel_rfl) (by kernel_rfl) (by kernel_rfl) (fun _ _ _ h => h) (Or.inl ⟨by rfl, ?_⟩) (HC.out _ hM0 hB0) ?_
          rotate_left 1
          · intro w hSw; clear hSw; go_simp <;> with_reducible rfl
          simp only [Act.put, List.setIfInBounds_toArray, List.set_cons_zero, List.set_cons_succ]
          refine Held.G_take (i := 4) (d := 26) (v := ?_) [4, 5, 20, 21, 22] rfl rfl (by kernel_rfl) (by kernel_rfl) (by kernel_rfl) (by kernel_rfl) (fun _ _ _ h => h) (Or.inl ⟨by rfl, ?_⟩) (HC.out _ hM0 hB0) ?_
          rotate_left 1
          · intro w hSw; clear hSw; go_simp <;> with_reducible rfl
          simp only [Act.put, List.setIfInBounds_toArray, List.set_cons_zero, List.set_cons_succ]
          refine Held.G_take (i := 5) (d := 27) (v := ?_) [5, 20, 21, 22] rfl rfl (by kernel_rfl) (by kernel_rfl) (by kernel_rfl) (by kernel_rfl) (fun _ _ _ h => h) (Or.inl ⟨by rfl, ?_⟩) (HC.out _ hM0 hB0) ?_
          rotate_left 1
          · intro w hSw; obtain ⟨h0, h1, h2⟩ := hSw; go_simp <;> with_reducible rfl
          simp only [Act.put, List.setIfInBounds_toArray, List.set_cons_zero, List.set_cons_succ]
          refine Held.G_take (i := 6) (d := 28) (v := ?_) [6, 8, 9, 10, 11, 17, 18, 19, 20, 21, 22] rfl rfl (by kernel_rfl) (by kernel_rfl) (by kernel_rfl) (by kernel_rfl) (fun _ _ _ h => h) (Or.inl ⟨by rfl, ?_⟩) (HC.out _ hM0 hB0) ?_
          rotate_left 1
          · intro w hSw; clear hSw; go_simp <;> with_reducible rfl
          simp only [Act.put, List.setIfInBounds_toArray, List.set_cons_zero, List.set_cons_succ]
          refine Held.G_take (i := 7) (d := 29) (v := ?_) [7, 8, 9, 10, 11, 17, 18, 19, 20, 21, 22] rfl rfl (by kernel_rfl) (by kernel_rfl) (by kernel_rfl) (by kernel_rfl) (fun _ _ _ h => h) (Or.inl ⟨by rfl, ?_⟩) (HC.out _ hM0 hB0) ?_
          rotate_left 1
          · intro w hSw; clear hSw; go_simp <;> with_reducible rfl
          simp only [Act.put, List.setIfInBounds_toArray, List.set_cons_zero, List.set_cons_succ]
          refine Held.G_take (i := 8) (d := 30) (v := ?_) [8, 9, 10, 11, 17, 18, 19, 20, 21, 22] rfl rfl (by kernel_rfl) (by kernel_rfl) (by kernel_rfl) (by kernel_rfl) (fun _ _ _ h => h) (Or.inl ⟨by rfl, ?_⟩) (HC.out _ hM0 hB0) ?_
          rotate_left 1
          · intro w hSw; clear hSw; go_simp <;> with_reducible rfl
          simp only [Act.put, List.setIfInBounds_toArray, List.set_cons_zero, List.set_cons_succ]
          refine Held.G_take (i := 9) (d := 31) (v := ?_) [9, 10, 11, 17, 18, 19, 20, 21, 22] rfl rfl (by kernel_rfl) (by kernel_rfl) (by kernel_rfl) (by kernel_rfl) (fun _ _ _ h => h) (Or.inl ⟨by rfl, ?_⟩) (HC.out _ hM0 hB0) ?_
          rotate_left 1
          · intro w hSw; clear hSw; go_simp <;> with_reducible rfl
          simp only [Act.put, List.setIfInBounds_toArray, List.set_cons_zero, List.set_cons_succ]
          refine Held.G_take (i := 10) (d := 32) (v := ?_) [10, 11, 17, 18, 19, 20, 21, 22] rfl rfl (by kernel_rfl) (by kernel_rfl) (by kernel_rfl) (by kernel_rfl) (fun _ _ _ h => h) (Or.inl ⟨by rfl, ?_⟩) (HC.out _ hM0 hB0) ?_
          rotate_left 1
          · intro w hSw; obtain ⟨h0, h1, h2⟩ := hSw; go_simp <;> with_reducible rfl
          simp only [Act.put, List.setIfInBounds_toArray, List.set_cons_zero, List.set_cons_succ]
          refine Held.G_take (i := 12) (d := 34) (v := ?_) [12, 14, 15, 16, 17, 18, 19, 20, 21, 22] rfl rfl (by kernel_rfl) (by kernel_rfl) (by kernel_rfl) (by kernel_rfl) (fun _ _ _ h => h) (Or.inl ⟨by rfl, ?_⟩) (HC.out _ hM0 hB0) ?_
          rotate_left 1
          · intro w hSw; clear hSw; go_simp <;> with_reducible rfl
          simp only [Act.put, List.setIfInBounds_toArray, List.set_cons_zero, List.set_cons_succ]
          refine Held.G_take (i := 13) (d := 35) (v := ?_) [13, 14, 15, 16, 17, 18, 19, 20, 21, 22] rfl rfl (by kernel_rfl) (by kernel_rfl) (by kernel_rfl) (by kernel_rfl) (fun _ _ _ h => h) (Or.inl ⟨by rfl, ?_⟩) (HC.out _ hM0 hB0) ?_
          rotate_left 1
          · intro w hSw; clear hSw; go_simp <;> with_reducible rfl
          simp only [Act.put, List.setIfInBounds_toArray, List.set_cons_zero, List.set_cons_succ]
          refine Held.G_take (i := 14) (d := 36) (v := ?_) [14, 15, 16, 17, 18, 19, 20, 21, 22] rfl rfl (by kernel_rfl) (by kernel_rfl) (by kernel_rfl) (by kernel_rfl) (fun _ _ _ h => h) (Or.inl ⟨by rfl, ?_⟩) (HC.out _ hM0 hB0) ?_
          rotate_left 1
          · intro w hSw; clear hSw; go_simp <;> with_reducible rfl
          simp only [Act.put, List.setIfInBounds_toArray, List.set_cons_zero, List.set_cons_succ]
          refine Held.G_take (i := 15) (d := 37) (v := ?_) [15, 16, 17, 18, 19, 20, 21, 22] rfl rfl (by kernel_rfl) (by kernel_rfl) (by kernel_rfl) (by kernel_rfl) (fun _ _ _ h => h) (Or.inl ⟨by rfl, ?_⟩) (HC.out _ hM0 hB0) ?_
          rotate_left 1
          · intro w hSw; clear hSw; go_simp <;> with_reducible rfl
          simp only [Act.put, List.setIfInBounds_toArray, List.set_cons_zero, List.set_cons_succ]
          refine Held.G_take (i := 16) (d := 38) (v := ?_) [16, 17, 18, 19, 20, 21, 22] rfl rfl (by kernel_rfl) (by kernel_rfl) (by kernel_rfl) (by kernel_rfl) (fun _ _ _ h => h) (Or.inl ⟨by rfl, ?_⟩) (HC.out _ hM0 hB0) ?_
          rotate_left 1
          · intro w hSw; obtain ⟨h0, h1, h2⟩ := hSw; go_simp <;> with_reducible rfl
          simp only [Act.put, List.setIfInBounds_toArray, List.set_cons_zero, List.set_cons_succ]
          refine Held.G_ready (rs := [11]) (by decide +kernel) (by simp) ?_
          refine Held.G_cons rfl (fun KK hK => ?_) Held.G_nil
          go_simp
          (with_reducible refine (rfour_any u0 n1 (by omega)).mono ?_)
          rintro e u1 ⟨rfl, hst⟩
          have hB1 := bstep hB0 hB0.size hst
          have hM1 := hM0.later hst
          clear hst
          go_simp
          refine hK _ _ ?_
          clear hK KK
          refine ⟨(HC.out _ hM1 hB1), ?_⟩
          refine Held.G_ready (rs := [17]) (by decide +kernel) (by simp) ?_
          refine Held.G_cons rfl (fun KK hK => ?_) Held.G_nil
          go_simp
          (with_reducible refine (rfour_any u1 n2 (by omega)).mono ?_)
          rintro e u2 ⟨rfl, hst⟩
          have hB2 := bstep hB1 hB1.size hst
          have hM2 := hM1.later hst
          clear hst
          go_simp
          refine hK _ _ ?_
          clear hK KK
          refine ⟨(HC.out _ hM2 hB2), ?_⟩
          refine Held.G_take (i := 18) (d := 40) (v := ?_) [18, 19, 20, 21, 22] rfl rfl (by kernel_rfl) (by kernel_rfl) (by kernel_rfl) (by kernel_rfl) (fun _ _ _ h => h) (Or.inl ⟨by rfl, ?_⟩) (HC.out _ hM2 hB2) ?_
          rotate_left 1
          · intro w hSw; clear hSw; go_simp <;> with_reducible rfl
          simp only [Act.put, List.setIfInBounds_toArray, List.set_cons_zero, List.set_cons_succ]
          refine Held.G_ready (rs := [19]) (by decide +kernel) (by simp) ?_
          refine Held.G_cons rfl (fun KK hK => ?_) Held.G_nil
          go_simp
          refine hK _ _ ?_
          clear hK KK
          obtain ⟨u3, hw⟩ : ∃ v, v = u2.alloc (.cells #[.string (four n1 ++ four n2)] 9) := ⟨_, rfl⟩
          rw [← hw]
          have hst : Below u2.heap.size u2 u3 := by rw [hw]; exact al _ _
          have hB3 := bstep hB2 hB2.size hst
          have hM3 := hM2.later hst
          have hr1 : Row u3 u3.heap.size (some ⟨u2.heap.size, 0, none⟩) [.string (four n1 ++ four n2)] := by rw [hw]; exact row_one _ _ _
          clear hw hst
          refine ⟨(HC.out _ hM3 hB3), ?_⟩
          refine Held.G_ready (rs := [20]) (by decide +kernel) (by simp) ?_
          refine Held.G_cons rfl (fun KK hK => ?_) Held.G_nil
          obtain ⟨A', c', u4, hrun, hM4, hB4⟩ := hM3.app (n := m2 + 1) (c2 := 1) HM2.out rfl hB3 hB3.size hr1 (by have := HM3.out; omega)
          refine step_append_d (d := 42) rfl rfl (.tmp 27) (.tmp 41) 39 39 rfl (vs := .slice A2 m2 c2) (vx := .slice (some ⟨u2.heap.size, 0, none⟩) 1 1) (by simp [Act.eval]) (by simp [Act.eval]) hrun ?_
          refine hK _ _ ?_
          clear hK KK hrun
          simp only [Act.put, List.setIfInBounds_toArray, List.set_cons_zero, List.set_cons_succ]
          refine ⟨(HC.out _ hM4 hB4), ?_⟩
          refine Held.G_take (i := 21) (d := 43) (v := ?_) [21, 22] rfl rfl (by kernel_rfl) (by kernel_rfl) (by kernel_rfl) (by kernel_rfl) (fun _ _ _ h => h) (Or.inl ⟨by rfl, ?_⟩) (HC.out _ hM4 hB4) ?_
          rotate_left 1
          · intro w hSw; clear hSw; go_simp <;> with_reducible rfl
          simp only [Act.put, List.setIfInBounds_toArray, List.set_cons_zero, List.set_cons_succ]
          refine Held.G_ready (rs := [22]) (by decide +kernel) (by simp) ?_
          refine Held.G_last rfl (fun KK hK => ?_) Held.G_nil
          have hfz := hM4.free kk
          have hcz := (HC.out _ hM4 hB4).1
          have hset := hM4.set hB4 HKK.out
          have e9 : psv (A', c', r2 ++ [four n1 ++ four n2]) = .slice A' (m2 + 1) c' := by rw [HM2.out]; simp [psv]
          rw [e9] at hset
          clear e9
          go_simp
          refine hK _ _ ?_
          clear hK KK hfz hcz
          refine Held.G_done (by kernel_rfl) ?_ _
          go_wp2_with fail
          go_roundw
          case rel => exact ⟨k + 1, m9, g, co, qs ++ [(A', c', r2 ++ [four n1 ++ four n2])], by omega, HM9.out _, rfl, by go_num, .inr ⟨qs, _, rfl, hset.1, HPG.out A' c'⟩, hset.2⟩
          case measure => simp [intOf]; omega
    · obtain rfl : k = l.length := by omega
      obtain ⟨q1, q2, q3⟩ := hst.pages
      rw [List.take_of_length_le (Nat.le_refl _)] at q1
      have HO := Lib.hid (show OutS W.heap.size (cellsP ps) (some ⟨g, 0, none⟩) co wr from ⟨ps, rfl, q2, q3⟩)
      have HPG := Lib.hid q1
      have HM := Lib.hid (show m = (cellsP ps).length by rw [hm]; simp [cellsP])
      clear hst hm q1 q2 q3
      go_wp2_with fail
      go_ret
      exact ⟨_, _, _, cellsP ps, rfl, HM.out, HO.out, HPG.out, hb⟩
end Go.Proofs.Ytffbmabhlgfjkaa.FreeRefCells
