/- Pages of cells under way: an outer row, full pages, and the last one that grows. -/
import Derived.Test.YtffbmabhlgfjkaaFreeCells
namespace Go.Proofs.Ytffbmabhlgfjkaa.FreeMid
open Go.RowKit Base FreePlain FreeMem FreeText FreeCellsOf FreePages FreeCheck FreeSl FreeOf FreeCells

/-- a row of texts, in a block of texts that isn't F -/
def RowF (w : World) (F : Option Nat) (A : Option Addr) (cs : List ByteArray) : Prop := ∀ k v, (strs cs)[k]? = some v → ∃ ad cur, A = some ad ∧ F ≠ some ad.block ∧ w.heap[ad.block]? = some (.cells cur 9 (0, 0)) ∧ w.cell? (ad.add k) = some v
section
variable {w w' : World} {A : Option Addr} {cs : List ByteArray} {F : Option Nat}
theorem RowF.rowS (h : RowF w F A cs) : RowS w A cs := fun k v hv => by
  obtain ⟨ad, cur, e, _, hb, hc⟩ := h k v hv
  exact ⟨ad, cur, e, hb, hc⟩
theorem RowS.none (h : RowS w A cs) : RowF w none A cs := fun k v hv => by
  obtain ⟨ad, cur, e, hb, hc⟩ := h k v hv
  exact ⟨ad, cur, e, (by simp), hb, hc⟩
theorem RowF.keep {F' : Option Nat} (h : RowF w F A cs) (hF : ∀ g, g < w.heap.size → F ≠ some g → F' ≠ some g) (hk : ∀ (g : Nat) (cur : Array Value), F ≠ some g → w.heap[g]? = some (Obj.cells cur 9 (0, 0)) → w'.heap[g]? = w.heap[g]?) : RowF w' F' A cs := fun k v hv => by
  obtain ⟨ad, cur, e, hf, hb, hc⟩ := h k v hv
  have hbb := hk _ _ hf hb
  refine ⟨ad, cur, e, hF _ (lt_of_some hb) hf, hbb.trans hb, ?_⟩
  have e2 : w'.cell? (ad.add k) = w.cell? (ad.add k) := by
    simp only [World.cell?, blk_add, hbb]
  exact e2.trans hc
theorem RowF.below (h : RowF w F A cs) (hb : Below w.heap.size w w') : RowF w' F A cs := h.keep (fun _ _ h => h) fun _ _ _ hg => hb.block _ (lt_of_some hg)
end
/-- two own rows of different kinds lie apart -/
theorem apart {w : World} {b1 b2 c1 c2 : Nat} {A B : Option Addr} {xs ys : List Value} (h1 : Own w b1 39 A c1 xs) (h2 : Own w b2 9 B c2 ys) : (Value.slice A xs.length c1).ownBlock = none ∨ (Value.slice A xs.length c1).ownBlock ≠ (Value.slice B ys.length c2).ownBlock := by
  rcases h1.2 with ⟨e1, _⟩ | ⟨g, cap, cur, e1, _, q1, _⟩
  · rw [e1]; exact .inl rfl
  · rcases h2.2 with ⟨e2, _⟩ | ⟨g', cap', cur', e2, _, q2, _⟩
    · rw [e1, e2]; exact .inr (by simp [Value.ownBlock])
    · rw [e1, e2]
      refine .inr fun e => ?_
      simp only [Value.ownBlock, Option.some.injEq] at e
      subst e
      rw [q1] at q2
      injection q2 with q2
      injection q2 with _ q
      exact absurd q (by decide)
theorem own_set {w : World} {base c g k : Nat} {e : TypeId} {xs : List Value} (h : Own w base e (some ⟨g, 0, none⟩) c xs) (_hk : k < xs.length) (u : Value) : Own (w.setCell ⟨g, k, none⟩ u) base e (some ⟨g, 0, none⟩) c (xs.set k u) := by
  rcases h.2 with ⟨e1, _⟩ | ⟨g', cap, cur, e1, hb, hh, hn, hc, hs, ht⟩
  · cases e1
  · injection e1 with e1 _ e3
    injection e1 with e1
    injection e1 with e1
    subst e1 e3
    refine ⟨by rw [List.length_set]; simp, .inr ⟨g, c, cur.set! k u, by rw [List.length_set], hb, ?_, by rw [List.length_set]; exact hn, hc, by simpa using hs, ?_⟩⟩
    · exact heap_setCell_same w g k cur e u hh
    · rw [List.length_set, Array.set!_eq_setIfInBounds, Array.toList_setIfInBounds, List.take_set, ht]
theorem run_append_loc {w : World} {base : Nat} {t e : TypeId} {bytes : Nat} (ty : TypeId) (hE : Elem Try.prog t e bytes) {A A2 : Option Addr} {c c2 B : Nat} {xs news : List Value} (hown : Own w base e A c xs)
    (hr : Row w B A2 news) (hne : news ≠ []) (h1 : ∀ u ∈ news, u.oneCell' = true) (h63 : xs.length + news.length ≤ maxLen) (hbytes : (xs.length + news.length) * bytes ≤ 140737488355328) (hbase : base ≤ w.heap.size) :
    ∃ A' c' w', (Builtin.append_ #[t, t] ty #[.slice A xs.length c, .slice A2 news.length c2]).run Try.prog w = .ok (.slice A' (xs.length + news.length) c') w' ∧ Own w' base e A' c' (xs ++ news) ∧ w.grownBy w' (Value.slice A xs.length c).ownBlock ∧
      ((Value.slice A' (xs.length + news.length) c').ownBlock = (Value.slice A xs.length c).ownBlock ∨ (Value.slice A' (xs.length + news.length) c').ownBlock = some w.heap.size) := by
  obtain ⟨ht, i, z, hi, hz, hs, hby, hzs⟩ := hE
  have hpos : 0 < news.length := by
    rcases Nat.eq_zero_or_pos news.length with q | q
    · exact absurd (List.length_eq_zero_iff.1 q) hne
    · exact q
  obtain ⟨ad, e2, _⟩ := hr.get 0 hpos
  subst e2
  obtain ⟨v', w', hrun, h2, h3, _, h5⟩ := run_append_own_at (P := Try.prog) w base t ty e i z 1 bytes ht hi hz hs hby hzs (by omega) (.slice A xs.length c) xs.length xs hown ad news.length c2 news (by simp) (fun j u hu => by
    obtain ⟨ad', e, _, h⟩ := hr j u hu
    injection e with e
    subst e
    exact h) h1 h63 hbytes hbase
  have hform : ∃ A' c', v' = .slice A' (xs.length + news.length) c' := by
    rcases h2.2 with ⟨h4, h5⟩ | ⟨g, cap, cur, h4, _⟩
    · exact ⟨none, 0, by rw [h4, h5]⟩
    · exact ⟨_, _, h4⟩
  obtain ⟨A', c', rfl⟩ := hform
  exact ⟨A', c', w', hrun, by unfold Own; rw [List.length_append]; exact h2, h3, h5⟩
/-- full pages, and the last one -/
def Mid (lo : Nat) (g co : Nat) (qs : List Ps) (o p : Ps) (w : World) : Prop := Own w lo 39 (some ⟨g, 0, none⟩) co (qs.map psv ++ [psv o]) ∧ Own w lo 9 p.1 p.2.1 (strs p.2.2) ∧ ∀ q ∈ qs, RowF w (psv p).ownBlock q.1 q.2.2
section
variable {lo g co : Nat} {qs : List Ps} {o p : Ps} {w w' : World}
theorem Mid.later (h : Mid lo g co qs o p w) (hb : Below w.heap.size w w') : Mid lo g co qs o p w' := ⟨h.1.later hb, h.2.1.later hb, fun q hq => (h.2.2 q hq).below hb⟩
theorem Mid.app (h : Mid lo g co qs o p w) {W : World} {x : ByteArray} {A2 : Option Addr} {c2 B m n : Nat} (hm : m = p.2.2.length) (hn : n = m + 1) (hB : Below lo W w) (hlo : lo ≤ w.heap.size) (hr : Row w B A2 [.string x]) (hl : m ≤ 1000) :
    ∃ A' c' w', (Builtin.append_ #[39, 39] 39 #[.slice p.1 m p.2.1, .slice A2 1 c2]).run Try.prog w = .ok (.slice A' n c') w' ∧ Mid lo g co qs o (A', c', p.2.2 ++ [x]) w' ∧ Below lo W w' := by
  subst hn hm
  obtain ⟨h1, h2, h3⟩ := h
  have hsl : (strs p.2.2).length = p.2.2.length := strs_len _
  obtain ⟨A', c', w', hrun, hown, hg, hloc⟩ := run_append_loc 39 el_s (c2 := c2) h2 hr (by simp) (by simp [Value.oneCell']) (by rw [hsl]; simp [maxLen]; omega) (by rw [hsl]; simp; omega) hlo
  rw [hsl] at hrun hg hloc
  have hap := apart h1 h2
  rw [hsl] at hap
  have e1 : strs (p.2.2 ++ [x]) = strs p.2.2 ++ [.string x] := by simp [strs]
  refine ⟨A', c', w', hrun, ⟨World.ownsRow.kept h1 hg hap, by rw [e1]; exact hown, fun q hq => (h3 q hq).keep (fun b hb hF e => ?_) (fun b cur hF hb => hg.block b (lt_of_some hb) fun e => hF e.symm)⟩, ?_⟩
  · have e2 : (psv (A', c', p.2.2 ++ [x])).ownBlock = (Value.slice A' (p.2.2.length + 1) c').ownBlock := by simp [psv]
    rw [e2] at e
    have e3 : [Value.string x].length = 1 := rfl
    rw [e3] at hloc
    rcases hloc with q | q
    · rw [q] at e; exact hF e
    · rw [q] at e; injection e with e; omega
  · exact hB.grown hg hlo fun k hk => by
      have := h2.block k (by rw [hsl]; exact hk)
      exact this.1
theorem Mid.set (h : Mid lo g co qs o p w) {W : World} (hB : Below lo W w) {k : Nat} (hk : k = qs.length) : Mid lo g co qs p p (w.setCell ⟨g, k, none⟩ (psv p)) ∧ Below lo W (w.setCell ⟨g, k, none⟩ (psv p)) := by
  subst hk
  obtain ⟨h1, h2, h3⟩ := h
  have hlen : (qs.map psv ++ [psv o]).length = qs.length + 1 := by simp
  have hs := own_set (k := qs.length) h1 (by rw [hlen]; omega) (psv p)
  have e1 : (qs.map psv ++ [psv o]).set qs.length (psv p) = qs.map psv ++ [psv p] := by
    rw [List.set_append_right _ _ (by simp)]
    simp
  rw [e1] at hs
  have hap := apart h1 h2
  rw [strs_len] at hap
  have hne : (psv p).ownBlock ≠ some g := by
    rcases hap with q | q
    · cases q
    · exact fun e => q e.symm
  have hty : ∀ cur, w.heap[g]? ≠ some (Obj.cells cur 9 (0, 0)) := fun cur e => by
    rcases h1.2 with ⟨q1, _⟩ | ⟨g', cap, cur', q1, _, q2, _⟩
    · cases q1
    · injection q1 with q1
      injection q1 with q1
      injection q1 with q1
      subst q1
      rw [e] at q2
      injection q2 with q2
      injection q2 with _ q
      exact absurd q (by decide)
  refine ⟨⟨hs, ?_, fun q hq => (h3 q hq).keep (fun _ _ h => h) fun b cur _ hb => heap_setCell_other _ _ _ _ fun e => ?_⟩, hB.setCell ?_ _⟩
  · have h2' : w.ownsRow lo 9 1 (psv p) (strs p.2.2).length (strs p.2.2) := by
      have := h2
      unfold Own at this
      rw [show psv p = .slice p.1 (strs p.2.2).length p.2.1 by rw [strs_len]; rfl]
      exact this
    have := ownsRow_setCell_other h2' (a := ⟨g, qs.length, none⟩) hne (psv p)
    unfold Own
    rw [show (Value.slice p.1 (strs p.2.2).length p.2.1) = psv p by rw [strs_len]; rfl]
    exact this
  · have e : b = g := e
    subst e
    exact hty _ hb
  · exact (h1.block g (by simp [Value.ownBlock])).1
theorem Mid.cell (h : Mid lo g co qs o p w) : w.cell? ((⟨g, 0, none⟩ : Addr).add qs.length) = some (psv o) := by
  obtain ⟨ad, e, _, hc⟩ := h.1.row.get qs.length (by simp)
  injection e with e
  subst e
  simpa using hc
theorem Mid.free (h : Mid lo g co qs o p w) (k : Nat) : w.frozen? ⟨g, k, none⟩ = false := by
  rcases h.1.2 with ⟨q1, _⟩ | ⟨g', cap, cur, q1, _, q2, _⟩
  · cases q1
  · injection q1 with q1
    injection q1 with q1
    injection q1 with q1
    subst q1
    simp [World.frozen?, q2]
theorem Mid.lt (h : Mid lo g co qs o p w) : lo ≤ g ∧ g < w.heap.size := h.1.block g (by simp [Value.ownBlock])
end
end Go.Proofs.Ytffbmabhlgfjkaa.FreeMid
