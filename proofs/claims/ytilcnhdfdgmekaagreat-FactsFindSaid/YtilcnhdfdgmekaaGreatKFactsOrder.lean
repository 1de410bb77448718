/- FactsAdd, FactsOrder. -/
import Derived.Test.YtilcnhdfdgmekaaGreatKFactsMeant
import Derived.Test.YtilcnhdfdgmekaaGreatKRowN
import Derived.Laws.OwnMore
namespace Go.Proofs.YtilcnhdfdgmekaaGreat.FactsAdd
open Go.RowKit Base KeyPlain TuplePlain TupleRef TupleSpec TupleCut FMap FactsPlain FactsMem FactsNew FactsEach FactsLess FactsMeant TurnB RowN

theorem elem_t : ElemN Tryz.prog 22 32 6 96 := by
  obtain ⟨i, h1, h2, h3, h4⟩ := info_parts (show (Tryz.prog.info? 32).map (fun i => (i.zero, i.size, i.bytes)) = some (some (.agg #[.string ⟨#[]⟩, .string ⟨#[]⟩, .string ⟨#[]⟩, .string ⟨#[]⟩, .string ⟨#[]⟩, .string ⟨#[]⟩]), 6, 96) from by kernel_rfl)
  exact ⟨Tryz.underlying22, i, _, h1, h2, h3, h4, rfl⟩
set_option maxHeartbeats 6400000 in
theorem add_no {w : World} {bi bf bu br bl : Nat} {x : Tp} (h : Mu w bi bf bu x) (hr : w.heap[br]? = some (.cells #[(.func (.func 62) #[] #[.pointer (some ⟨bi, 0, none⟩), .pointer (some ⟨bf, 0, none⟩), .pointer (some ⟨bu, 0, none⟩)])] 36 (0, 0))) (t : Tp) (hm : means x t = false) :
    Calls Tryz.prog 56 #[.agg (tc t), .pointer (some ⟨br, 0, none⟩), .pointer (some ⟨bl, 0, none⟩)] w fun e w' => e = .returned (.tuple #[]) ∧ Below w.heap.size w w' := by
  obtain ⟨w1, hw1⟩ : ∃ v, v = w.alloc (.cells (tc t) 32) := ⟨_, rfl⟩
  obtain ⟨b, hbe⟩ : ∃ v, v = w.heap.size := ⟨_, rfl⟩
  have b1 : Below w.heap.size w w1 := by rw [hw1]; exact al _ _
  have a1 : w1.heap[b]? = some (.cells (tc t) 32 (0, 0)) := by rw [hw1, hbe]; exact heap_alloc_new w _
  have HM := means_any (h.below b1) t
  rw [hm] at HM
  have hc : w1.cell? ⟨br, 0, none⟩ = some (.func (.func 62) #[] #[.pointer (some ⟨bi, 0, none⟩), .pointer (some ⟨bf, 0, none⟩), .pointer (some ⟨bu, 0, none⟩)]) := by simp [World.cell?, (b1.block br (heap_lt hr)).trans hr]
  unfold tc at a1 hw1 HM ⊢
  obtain ⟨d0, d1, d2, d3, d4, d5⟩ := six_at a1
  have HM := Lib.hid HM
  have HB := Lib.hid b1
  have HW1 := Lib.hid hw1
  have HBE := Lib.hid hbe
  clear hw1 hbe a1 b1 h hr hm
  go_enter Tryz.func56, Tryz.ntmps56
  go_upto_region 1 with fail
  rw [← HW1.out, ← HBE.out]
  go_wp2_with fail
  (with_reducible refine HM.out.mono ?_)
  rintro e w2 ⟨rfl, hb⟩
  have HB2 := Lib.hid (Below.step HB.out hb)
  clear hb
  go_wp2_with fail
  go_end0
  exact ⟨rfl, HB2.out⟩
def AddPost (w : World) (lo bl n : Nat) (ob : Option Nat) (xs : List Value) (e : Ending) (w' : World) : Prop :=
  e = .returned (.tuple #[]) ∧ ∃ A' c', w'.heap[bl]? = some (.cells #[.slice A' (n + 1) c'] 22 (0, 0)) ∧ w'.ownsRow lo 32 6 (.slice A' (n + 1) c') (n + 1) xs ∧ ((Value.slice A' (n + 1) c').ownBlock = ob ∨ ∃ k, w.heap.size ≤ k ∧ (Value.slice A' (n + 1) c').ownBlock = some k) ∧ Turn (fun k => k = bl ∨ ob = some k) w w'
set_option maxHeartbeats 6400000 in
theorem add_yes {w : World} {lo bi bf bu br bl n c : Nat} {A : Option Addr} {xs : List Value} {x : Tp} (h : Mu w bi bf bu x) (hr : w.heap[br]? = some (.cells #[(.func (.func 62) #[] #[.pointer (some ⟨bi, 0, none⟩), .pointer (some ⟨bf, 0, none⟩), .pointer (some ⟨bu, 0, none⟩)])] 36 (0, 0))) (hl : w.heap[bl]? = some (.cells #[.slice A n c] 22 (0, 0)))
    (ho : w.ownsRow lo 32 6 (.slice A n c) n xs) (hlo : bl < lo) (hls : lo ≤ w.heap.size) (hn : (n + 1) * 96 ≤ 140737488355328) (t : Tp) (hm : means x t = true) :
    Calls Tryz.prog 56 #[.agg (tc t), .pointer (some ⟨br, 0, none⟩), .pointer (some ⟨bl, 0, none⟩)] w (AddPost w lo bl n (Value.slice A n c).ownBlock (xs ++ encT t)) := by
  obtain ⟨w1, hw1⟩ : ∃ v, v = w.alloc (.cells (tc t) 32) := ⟨_, rfl⟩
  obtain ⟨b, hbe⟩ : ∃ v, v = w.heap.size := ⟨_, rfl⟩
  have b1 : Below w.heap.size w w1 := by rw [hw1]; exact al _ _
  have a1 : w1.heap[b]? = some (.cells (tc t) 32 (0, 0)) := by rw [hw1, hbe]; exact heap_alloc_new w _
  have hb1 : b < w1.heap.size := by rw [hw1, hbe]; simp
  have HM := means_any (h.below b1) t
  rw [hm] at HM
  have hc : w1.cell? ⟨br, 0, none⟩ = some (.func (.func 62) #[] #[.pointer (some ⟨bi, 0, none⟩), .pointer (some ⟨bf, 0, none⟩), .pointer (some ⟨bu, 0, none⟩)]) := by simp [World.cell?, (b1.block br (heap_lt hr)).trans hr]
  have hown := Lib.hid (fun (w2 : World) (hb : Below w.heap.size w w2) => own_same ho fun k hk => hb.block k (ho.lt k hk).2)
  have hbl := Lib.hid (fun (w2 : World) (hb : Below w.heap.size w w2) => (hb.block bl (heap_lt hl)).trans hl)
  have HT := Lib.hid (fun (w2 : World) (hb : Below w1.heap.size w1 w2) => (hb.block b hb1).trans a1)
  unfold tc at a1 hw1 HM HT ⊢
  obtain ⟨d0, d1, d2, d3, d4, d5⟩ := six_at a1
  have HM := Lib.hid HM
  have HB := Lib.hid b1
  have HW1 := Lib.hid hw1
  have HBE := Lib.hid hbe
  have HLO := Lib.hid hlo
  have HLS := Lib.hid hls
  have HN := Lib.hid hn
  have HLT := Lib.hid (heap_lt hl)
  have HOL := Lib.hid (fun k hk => ho.lt k hk)
  clear hw1 hbe a1 b1 h hr hm ho hl hb1 hlo hls hn
  go_enter Tryz.func56, Tryz.ntmps56
  go_upto_region 1 with fail
  rw [← HW1.out, ← HBE.out]
  clear HW1
  go_wp2_with fail
  (with_reducible refine HM.out.mono ?_)
  rintro e w2 ⟨rfl, hb⟩
  clear d0 d1 d2 d3 d4 d5 hc
  have b2 := Below.step HB.out hb
  obtain ⟨d0, d1, d2, d3, d4, d5⟩ := six_at (HT.out w2 hb)
  have hc : w2.cell? ⟨bl, 0, none⟩ = some (.slice A n c) := by simp [World.cell?, hbl.out w2 b2]
  obtain ⟨w3, hw3⟩ : ∃ v, v = w2.alloc (.cells #[.string t.k, .string t.i, .string t.r, .string t.u.k, .string t.u.i, .string t.u.r] 32) := ⟨_, rfl⟩
  have b23 : Below w2.heap.size w2 w3 := by rw [hw3]; exact al _ _
  have b3 := Below.step b2 b23
  have hnr : Row w3 w3.heap.size (some ⟨w2.heap.size, 0, none⟩) (encT t) := by rw [hw3]; exact (row_of_block (heap_alloc_new w2 _)).more (by simp)
  have hbn : n + 1 ≤ maxLen := by have := HN.out; unfold maxLen; omega
  have hls3 : lo ≤ w3.heap.size := Nat.le_trans HLS.out b3.size
  obtain ⟨A', c', w4, hrun, ho4, hg4, hloc⟩ := run_append_n (c2 := 1) 22 elem_t (by decide) (hown.out w3 b3) hnr (m := 1) rfl (by intro v hv; simp [encT, tc] at hv; rcases hv with rfl | rfl | rfl | rfl | rfl | rfl <;> rfl) hbn HN.out hls3
  have hl4 : w4.heap[bl]? = some (.cells #[.slice A n c] 22 (0, 0)) := (hg4.block bl (Nat.lt_of_lt_of_le HLT.out b3.size) (fun e => by have := (HOL.out bl e.symm).1; have := HLO.out; omega)).trans (hbl.out w3 b3)
  have c4 : w4.cell? ⟨bl, 0, none⟩ = some (.slice A n c) := by simp [World.cell?, hl4]
  have f4 : w4.frozen? ⟨bl, 0, none⟩ = false := by simp [World.frozen?, hl4]
  have HF := Lib.hid (show AddPost w lo bl n (Value.slice A n c).ownBlock (xs ++ encT t) (.returned (.tuple #[])) (w4.setCell ⟨bl, 0, none⟩ (.slice A' (n + 1) c')) from by
    have hnb : ∀ k, (Value.slice A' (n + 1) c').ownBlock = some k → k ≠ bl := fun k hk => by have := (ho4.lt k hk).1; have := HLO.out; omega
    refine ⟨rfl, A', c', ?_, own_same ho4 fun k hk => Below.heap_setCell _ _ _ _ (fun e => hnb k hk e), ?_, ?_⟩
    · exact at_set hl4 0 _
    · rcases hloc with q | q
      · exact .inl q
      · exact .inr ⟨_, b3.size, q⟩
    · have t1 : Turn (fun k => k = bl ∨ (Value.slice A n c).ownBlock = some k) w w3 := Turn.ofBelow b3
      have t2 : Turn (fun k => k = bl ∨ (Value.slice A n c).ownBlock = some k) w3 w4 := Turn.ofGrown hg4 fun k hk _ => .inr hk
      exact (t1.step t2).set _ (.inr (.inl rfl)) _)
  have HW3 := Lib.hid hw3
  clear hw3 b23 b3 hnr hbn hls3 ho4 hg4 hloc hl4 b2 hb
  go_wp2_with (at_builtin; first | refine wpList_append_run rfl (.tmp 7) (.tmp 9) 22 22 rfl rfl rfl (by rw [← HW3.out]; exact hrun) ?_)
  go_end0
  exact HF.out
end Go.Proofs.YtilcnhdfdgmekaaGreat.FactsAdd
namespace Go.Proofs.YtilcnhdfdgmekaaGreat.FactsOrder
open Go.RowKit Base KeyPlain TuplePlain TupleRef TupleSpec TupleCut FMap FactsPlain FactsMem FactsNew FactsEach SortKit SortSlice FactsLess FactsSort FactsMeant FactsAdd TurnB RowN
open Go.Sort (HoldsK)

theorem flat_at {α : Type} {enc : α → List Value} {k : Nat} (hk : ∀ x, (enc x).length = k) : ∀ (l : List α) (i j : Nat) (hi : i < l.length), j < k → (l.flatMap enc)[i * k + j]? = (enc l[i])[j]?
  | [], _, _, hi, _ => by simp at hi
  | x :: l, 0, j, _, hj => by
    rw [List.flatMap_cons, List.getElem?_append_left (by rw [hk]; omega)]
    simp
  | x :: l, i + 1, j, hi, hj => by
    rw [List.flatMap_cons, List.getElem?_append_right (by rw [hk, Nat.add_mul]; omega), hk, show (i + 1) * k + j - k = i * k + j from by rw [Nat.add_mul]; omega]
    exact flat_at hk l i j (by simpa using hi) hj
theorem holds_of_own {α : Type} [Inhabited α] {enc : α → List Value} {k base g cap n : Nat} {e : TypeId} {w : World} (h0 : 0 < k) (hk : ∀ x, (enc x).length = k) {l : List α} (hn : n = l.length) (h : w.ownsRow base e k (.slice (some ⟨g, 0, none⟩) n cap) n (l.flatMap enc)) : HoldsK enc k w g 0 l.toArray := by
  subst hn
  intro j hj
  have hj' : j < l.length * k := by simpa [Go.Sort.HoldsK] using hj
  have hi : j / k < l.length := (Nat.div_lt_iff_lt_mul h0).2 hj'
  have hm : j % k < k := Nat.mod_lt _ h0
  have he : j / k * k + j % k = j := by rw [Nat.mul_comm]; exact Nat.div_add_mod j k
  rw [Nat.zero_add]
  refine ⟨?_, h.frozenAt j⟩
  rw [h.cellAt j hj']
  have h1 := flat_at hk l _ _ hi hm
  rw [he] at h1
  rw [h1, Go.Sort.get_flatK _ _ _ _ (by simpa using hj'), getElem!_pos l.toArray (j / k) (by simpa using hi), getElem!_pos _ (j % k) (by rw [hk]; exact hm)]
  simp [hk, hm]
theorem trow_of {w : World} {g : Nat} {l : List Tp} (h : HoldsK encT 6 w g 0 l.toArray) (hg : g < w.heap.size) : TRow w (some ⟨g, 0, none⟩) l := fun i hi => ⟨g, 0, rfl, hg, fun j v hv => by
  refine enc_at (enc := encT) (k := 6) (d := l.toArray) (fun _ => rfl) h (i := i) (by simpa using hi) j v ?_
  rw [getElem!_pos l.toArray i (by simpa using hi)]
  simpa using hv⟩
theorem sort_nil {t e : TypeId} {α : Type} {enc : α → List Value} {k : Nat} (T : SlT t e enc k) (g : Nat) (lb : Array Value) (w : World) :
    Calls Tryz.prog 57 #[.iface t (.slice none 0 0), .func (.func g) #[] lb] w fun e w' => e = .returned (.tuple #[]) ∧ Below w.heap.size w w' := by
  obtain ⟨i, ie, ke, f2, gS, hi, hd, hpk, hie, hke, hs1, hagg, hf2, hf1, hx⟩ := T.ex
  obtain ⟨f, hf⟩ := hf1 0 (by omega)
  refine (Any.sort_Slice_tiny Tryz.laysGg6 t e i ie hi hd hpk hie ke hke none 0 0 (by omega) f hf (.func g) #[] lb w).mono ?_
  rintro e' w' ⟨rfl, os, rfl⟩
  exact ⟨rfl, rfl, rfl, rfl, by simp [Go.Sort.grow], fun q hq => by simp [Go.Sort.grow, hq, Array.getElem?_append_left]⟩
/-- what is gathered so far -/
def AddQ (lo bi bf bu br bl : Nat) (x : Tp) (done : List Tp) (X : Nat → Prop) (w : World) : Prop :=
  Mu w bi bf bu x ∧ w.heap[br]? = some (.cells #[(.func (.func 62) #[] #[.pointer (some ⟨bi, 0, none⟩), .pointer (some ⟨bf, 0, none⟩), .pointer (some ⟨bu, 0, none⟩)])] 36 (0, 0)) ∧ lo ≤ w.heap.size ∧ ∃ (A : Option Addr) (c n : Nat), n = (done.filter (means x)).length ∧ w.heap[bl]? = some (.cells #[.slice A n c] 22 (0, 0)) ∧
    w.ownsRow lo 32 6 (.slice A n c) n ((done.filter (means x)).flatMap encT) ∧ ∀ k, X k ↔ k = bl ∨ (Value.slice A n c).ownBlock = some k
theorem add_tells {fb gm : Nat} {G : List Grp} {lo bi bf bu br bl : Nat} {x : Tp} (hF : ∀ k, Fb fb gm G k → k < lo ∧ k ≠ bl) (hbi : bi < lo) (hbf : bf < lo) (hbu : bu < lo) (hbr : br < lo) (hbl : bl < lo) (ni : bi ≠ bl) (nf : bf ≠ bl) (nu : bu ≠ bl) (nr : br ≠ bl) (hn : (alls G).length * 96 ≤ 140737488355328) :
    Tells fb gm G lo 56 #[.pointer (some ⟨br, 0, none⟩), .pointer (some ⟨bl, 0, none⟩)] (AddQ lo bi bf bu br bl x) where
  enter := enters_of Tryz.func56 (by kernel_rfl) rfl
  stay := fun done X w w' h hs hb => by
    obtain ⟨h1, h2, h3, A, c, n, h4, h5, h6, h7⟩ := h
    refine ⟨h1.same (hb _ h1.m.lt.1 (.inl hbi)) (hb _ h1.m.lt.2 (.inl hbf)) (hb _ h1.ltu (.inl hbu)), (hb _ (heap_lt h2) (.inl hbr)).trans h2, Nat.le_trans h3 hs, A, c, n, h4, (hb _ (heap_lt h5) (.inl hbl)).trans h5, own_same h6 fun k hk => hb k (h6.lt k hk).2 (.inr ((h7 k).2 (.inr hk))), h7⟩
  inb := fun done X w h k hk => by
    obtain ⟨h1, h2, h3, A, c, n, h4, h5, h6, h7⟩ := h
    rcases (h7 k).1 hk with rfl | q
    · exact ⟨heap_lt h5, fun e => (hF _ e).2 rfl⟩
    · have := h6.lt k q
      exact ⟨this.2, fun e => by have := (hF _ e).1; omega⟩
  step := fun done X w t h ht hl => by
    obtain ⟨h1, h2, h3, A, c, n, h4, h5, h6, h7⟩ := h
    cases hm : means x t with
    | false =>
      refine (add_no h1 h2 t hm).mono ?_
      rintro e w' ⟨rfl, hb⟩
      refine ⟨rfl, X, ⟨h1.below hb, (hb.block _ (heap_lt h2)).trans h2, Nat.le_trans h3 hb.size, A, c, n, ?_, (hb.block _ (heap_lt h5)).trans h5, ?_, h7⟩, fun k hk => .inl hk, Turn.ofBelow hb⟩
      · simpa [List.filter_append, hm] using h4
      · have := own_same (w' := w') h6 fun k hk => hb.block k (h6.lt k hk).2
        simpa [List.filter_append, hm] using this
    | true =>
      have hle : n ≤ done.length := by rw [h4]; exact List.length_filter_le _ _
      simp only [List.length_append, List.length_cons, List.length_nil] at hl
      refine (add_yes h1 h2 h5 h6 hbl h3 (by omega) t hm).mono ?_
      rintro e w' ⟨rfl, A', c', g1, g2, g3, g4⟩
      have hX : ∀ k, X k ↔ k = bl ∨ (Value.slice A n c).ownBlock = some k := h7
      have keep : ∀ k, k < lo → k ≠ bl → w'.heap[k]? = w.heap[k]? := fun k hk hne => g4.block k (by omega) (by
        rintro (q | q)
        · exact hne q
        · have := (h6.lt k q).1; omega)
      refine ⟨rfl, fun k => k = bl ∨ (Value.slice A' (n + 1) c').ownBlock = some k, ⟨h1.same (keep _ hbi ni) (keep _ hbf nf) (keep _ hbu nu), (keep _ hbr nr).trans h2, Nat.le_trans h3 g4.size, A', c', n + 1, ?_, g1, ?_, fun k => Iff.rfl⟩, ?_, ?_⟩
      · simp [List.filter_append, hm, h4]
      · simpa [List.filter_append, hm] using g2
      · rintro k (q | q)
        · exact .inl ((hX k).2 (.inl q))
        · rcases g3 with r | ⟨k2, hk2, r⟩
          · exact .inl ((hX k).2 (.inr (r.symm.trans q)))
          · rw [r] at q
            injection q with q
            exact .inr (by omega)
      · exact g4.mono fun k _ hk => (hX k).2 hk
def InPost (w0 : World) (l : List Tp) (e : Ending) (w' : World) : Prop :=
  ∃ (A : Option Addr) (c n : Nat), n = l.length ∧ e = .returned (.slice A n c) ∧ ((A = none ∧ c = 0) ∨ ∃ g, A = some ⟨g, 0, none⟩) ∧ n ≤ c ∧ TRow w' A l ∧ Below w0.heap.size w0 w'
theorem meant_order {l done : List Tp} (hp : done.Perm l) (x : Tp) : mk ltT (done.filter (means x)) = (mk ltT l).filter (means x) :=
  up_ext ordT (mk_up ordT _) (by
    have := mk_up ordT l
    unfold Up at *
    exact this.filter _) fun t => by rw [mk_mem, List.mem_filter, List.mem_filter, mk_mem, hp.mem_iff]
set_option maxHeartbeats 6400000 in
theorem inOrder_any {fb gm : Nat} {G : List Grp} {lo bi bf bu : Nat} {x : Tp} {w0 : World} (h : Fx lo w0 fb gm G) (hu : Mu w0 bi bf bu x) (hn : (alls G).length * 96 ≤ 140737488355328) :
    Calls Tryz.prog 36 #[.pointer (some ⟨fb, 0, none⟩), (.func (.func 62) #[] #[.pointer (some ⟨bi, 0, none⟩), .pointer (some ⟨bf, 0, none⟩), .pointer (some ⟨bu, 0, none⟩)])] w0 (InPost w0 ((mk ltT (alls G)).filter (means x))) := by
  obtain ⟨w1, hw1⟩ : ∃ v, v = w0.alloc (.cells #[(.func (.func 62) #[] #[.pointer (some ⟨bi, 0, none⟩), .pointer (some ⟨bf, 0, none⟩), .pointer (some ⟨bu, 0, none⟩)])] 36) := ⟨_, rfl⟩
  obtain ⟨w2, hw2⟩ : ∃ v, v = w1.alloc (.cells #[.slice none 0 0] 22) := ⟨_, rfl⟩
  obtain ⟨b, hbe⟩ : ∃ v, v = w0.heap.size := ⟨_, rfl⟩
  have b1 : Below w0.heap.size w0 w1 := by rw [hw1]; exact al _ _
  have b12 : Below w1.heap.size w1 w2 := by rw [hw2]; exact al _ _
  have s1 : w1.heap.size = b + 1 := by rw [hw1, hbe]; simp
  have s2 : w2.heap.size = b + 2 := by rw [hw2]; simp [s1]
  have a1 : w1.heap[b]? = some (.cells #[(.func (.func 62) #[] #[.pointer (some ⟨bi, 0, none⟩), .pointer (some ⟨bf, 0, none⟩), .pointer (some ⟨bu, 0, none⟩)])] 36 (0, 0)) := by rw [hw1, hbe]; exact heap_alloc_new w0 _
  have a2 := (b12.block b (by omega)).trans a1
  have l2 : w2.heap[b + 1]? = some (.cells #[.slice none 0 0] 22 (0, 0)) := by rw [hw2, ← s1]; exact heap_alloc_new w1 _
  have b2 := Below.step b1 b12
  have hu2 := hu.below b2
  have h2 := h.below b2
  obtain ⟨lf, lg, lG⟩ := h.lt
  have hF : ∀ k, Fb fb gm G k → k < w2.heap.size ∧ k ≠ b + 1 := by
    rintro k (rfl | rfl | ⟨g, hg, rfl⟩)
    · exact ⟨by omega, by omega⟩
    · exact ⟨by omega, by omega⟩
    · have := lG g hg
      exact ⟨by omega, by omega⟩
  have u1 := hu.m.lt
  have u2 := hu.ltu
  have T := add_tells (fb := fb) (gm := gm) (G := G) (lo := w2.heap.size) (bi := bi) (bf := bf) (bu := bu) (br := b) (bl := b + 1) (x := x) hF (by omega) (by omega) (by omega) (by omega) (by omega) (by omega) (by omega) (by omega) (by omega) hn
  have hq : AddQ w2.heap.size bi bf bu b (b + 1) x [] (fun k => k = b + 1) w2 := ⟨hu2, a2, Nat.le_refl _, none, 0, 0, rfl, l2, World.ownsRow_nil _ _ _ _, fun k => by simp [Value.ownBlock]⟩
  have HE := Lib.hid (each_any T h2 hq)
  have HND := Lib.hid h.once
  have HN := Lib.hid hn
  have HB2 := Lib.hid b2
  have HW1 := Lib.hid hw1
  have HW2 := Lib.hid hw2
  have HBE := Lib.hid hbe
  have HS1 := Lib.hid s1
  have HS2 := Lib.hid s2
  clear hw1 hw2 hbe b1 b12 s1 s2 a1 a2 l2 b2 hu2 h2 lf lg lG hF u1 u2 T hq h hu hn
  go_enter Tryz.func36, Tryz.ntmps36
  go_upto_region 1 with fail
  rw [← HW1.out, ← HBE.out]
  go_upto_region 2 with fail
  rw [← HW2.out, HS1.out]
  clear HW1 HW2 HS1
  go_wp2_with fail
  (with_reducible refine HE.out.mono ?_)
  rintro e w3 ⟨rfl, done, X, hp, hev⟩
  obtain ⟨_, _, hs3, A, c, n, hnl, hl, ho, hX⟩ := hev.q
  have nd : (done.filter (means x)).Nodup := (hp.nodup_iff.2 HND.out).filter _
  have hle : n ≤ (alls G).length := by rw [hnl, ← hp.length_eq]; exact List.length_filter_le _ _
  have hb3 : Below w0.heap.size w0 w3 := hev.turn.belowOf HB2.out (by have := HB2.out.size; omega) (fun k hk => by rw [hk, ← HBE.out]; omega)
  have hc3 : w3.cell? ⟨b + 1, 0, none⟩ = some (.slice A n c) := by simp [World.cell?, hl]
  have hmo := meant_order hp x
  have hml := mk_len ordT nd
  have HL := Lib.hid hl
  have hsz : b + 2 ≤ w3.heap.size := by have := HS2.out; omega
  rcases ho.2 with ⟨he, h0⟩ | ⟨g, cap, cur, he, hg, hcur, hcap, _⟩
  · injection he with e1 e2 e3
    subst e1 e2 e3
    have HS := Lib.hid (sort_nil tI_sl 58 #[.pointer (some ⟨b + 1, 0, none⟩)] w3)
    have hz : (mk ltT (alls G)).filter (means x) = [] := by
      rw [← hmo, List.eq_nil_iff_length_eq_zero, hml, ← hnl]
    have HZ := Lib.hid hz
    have HB3 := Lib.hid hb3
    have HLT := Lib.hid (heap_lt hl)
    clear hev hs3 hnl hl ho hX nd hle hb3 hmo hml hsz hp hz
    go_wp2_with fail
    (with_reducible refine HS.out.mono ?_)
    rintro e w4 ⟨rfl, hb⟩
    have hc4 : w4.cell? ⟨b + 1, 0, none⟩ = some (.slice none 0 0) := (World.cell?_of_block (w := w3) (hb.block _ HLT.out)).trans hc3
    have HB4 := Lib.hid (Below.step HB3.out hb)
    clear hc3 hb
    go_wp2_with fail
    go_ret
    rw [HZ.out]
    exact ⟨none, 0, 0, rfl, rfl, .inl ⟨rfl, rfl⟩, Nat.le_refl _, fun i hi => by simp at hi, HB4.out⟩
  · injection he with e1 e2 e3
    subst e1
    have hh := holds_of_own (enc := encT) (k := 6) (by decide) (fun _ => rfl) hnl ho
    have hgl := heap_lt hcur
    have hne : b + 1 ≠ g := by have := HS2.out; omega
    have HS := Lib.hid (tsort_any _ hnl (by have := HN.out; omega) nd hc3 (heap_lt hl) hgl hne hh)
    have HB3 := Lib.hid hb3
    have HLT := Lib.hid (heap_lt hl)
    have HNE := Lib.hid hne
    have HMO := Lib.hid hmo
    have HML := Lib.hid (hml.trans hnl.symm)
    have HCP := Lib.hid (show n ≤ c by omega)
    have HG := Lib.hid (show w0.heap.size ≤ g ∧ g < w3.heap.size from ⟨by have := HB2.out.size; omega, hgl⟩)
    clear hev hs3 hnl hl ho hX nd hle hb3 hmo hml hsz hcur hp hh hgl hne hg hcap e2 e3
    go_wp2_with fail
    (with_reducible refine HS.out.mono ?_)
    rintro e w4 ⟨rfl, hh, hO⟩
    have hc4 : w4.cell? ⟨b + 1, 0, none⟩ = some (.slice (some ⟨g, 0, none⟩) n c) := (hO.cell HLT.out HNE.out).trans hc3
    have hb4 : Below w0.heap.size w0 w4 := HB3.out.grown hO HB3.out.size fun k hk => by
      injection hk with hk
      rw [← hk]
      exact HG.out.1
    have ht := trow_of hh (Nat.lt_of_lt_of_le HG.out.2 hO.size)
    rw [HMO.out] at ht
    have hk := HML.out
    rw [HMO.out] at hk
    have HF := Lib.hid (show InPost w0 ((mk ltT (alls G)).filter (means x)) (.returned (.slice (some ⟨g, 0, none⟩) n c)) w4 from ⟨_, c, n, hk.symm, rfl, .inr ⟨g, rfl⟩, HCP.out, ht, hb4⟩)
    clear hc3 hh hO hb4 ht hk
    go_wp2_with fail
    go_ret
    exact HF.out
end Go.Proofs.YtilcnhdfdgmekaaGreat.FactsOrder
