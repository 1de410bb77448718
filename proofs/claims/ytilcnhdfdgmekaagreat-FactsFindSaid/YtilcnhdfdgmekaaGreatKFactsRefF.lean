/- The document's answer of a filter. -/
import Derived.Test.YtilcnhdfdgmekaaGreatKFactsRefU
namespace Go.Proofs.YtilcnhdfdgmekaaGreat.FactsRefF
open Go.RowKit Base KeyPlain TuplePlain TupleRef TupleSpec TupleCut FMap FactsPlain FactsMem FactsHas FactsPut FactsDrop FactsNew FactsFind FactsLess FactsObj FactsUsersOf FactsNames FactsOrder FactsRefS FactsFew FactsIs FactsAwake TurnB RowN FactsLawP FactsRefP FactsRefN FactsRefU

def mp (x t : Tp) (k : Nat) : Bool := ((x.parts.zip t.parts).take k).all fun p => told p.1 p.2
theorem mp_all (x t : Tp) : mp x t 6 = means x t := by
  simp [mp, means, Tp.parts, Bool.and_assoc]
theorem mp_step {x t : Tp} {k : Nat} (hx : k < x.parts.length) (ht : k < t.parts.length) : mp x t (k + 1) = (mp x t k && told x.parts[k] t.parts[k]) := by
  unfold mp
  have hz : k < (x.parts.zip t.parts).length := by rw [List.length_zip]; omega
  rw [List.take_succ_eq_append_getElem hz, List.all_append, List.getElem_zip]
  simp only [List.all_cons, List.all_nil, Bool.and_true]
  rfl
theorem mp_no {x t : Tp} {k : Nat} (hx : k < x.parts.length) (ht : k < t.parts.length) (h : told x.parts[k] t.parts[k] = false) : means x t = false := by
  rw [← mp_all]
  unfold mp
  have hz : k < (x.parts.zip t.parts).length := by rw [List.length_zip]; omega
  rw [Bool.eq_false_iff]
  intro hh
  have e : (x.parts.zip t.parts)[k]'hz = (x.parts[k]'hx, t.parts[k]'ht) := List.getElem_zip ..
  have hm := List.getElem_mem hz
  rw [e] at hm
  have h6 : (x.parts.zip t.parts).take 6 = x.parts.zip t.parts := List.take_of_length_le (by rw [List.length_zip]; exact Nat.min_le_left _ _)
  have this : told x.parts[k] t.parts[k] = true := List.all_eq_true.1 hh _ (by rw [h6]; exact hm)
  exact absurd (h.symm.trans this) (by decide)
set_option maxRecDepth 100000 in
set_option maxHeartbeats 12800000 in
theorem rmeans_any (x t : Tp) (w : World) :
    Calls Tryz.prog 38 #[.agg (tc x), .agg (tc t)] w fun e w' => e = .returned (.bool (means x t)) ∧ Below w.heap.size w w' := by
  obtain ⟨w1, hw1⟩ : ∃ v, v = w.alloc (.cells (tc x) 43) := ⟨_, rfl⟩
  obtain ⟨b1, hb1⟩ : ∃ v, v = w.heap.size := ⟨_, rfl⟩
  have bl1 : Below w.heap.size w w1 := by rw [hw1]; exact al _ _
  have a1 : w1.heap[b1]? = some (.cells (tc x) 43 (0, 0)) := by rw [hw1, hb1]; exact heap_alloc_new w _
  have s1 : w1.heap.size = b1 + 1 := by rw [hw1, hb1]; exact Array.size_push ..
  obtain ⟨w2, hw2⟩ : ∃ v, v = w1.alloc (.cells (tc t) 32) := ⟨_, rfl⟩
  have bl2 : Below w1.heap.size w1 w2 := by rw [hw2]; exact al _ _
  have a1' : w2.heap[b1]? = some (.cells (tc x) 43 (0, 0)) := (bl2.block _ (heap_lt a1)).trans a1
  have a2 : w2.heap[b1 + 1]? = some (.cells (tc t) 32 (0, 0)) := by rw [hw2, ← s1]; exact heap_alloc_new w1 _
  have s2 : w2.heap.size = b1 + 1 + 1 := by rw [hw2]; exact (Array.size_push ..).trans (by rw [s1])
  obtain ⟨w3, hw3⟩ : ∃ v, v = w2.alloc (.cells (x.parts.map .string).toArray 9) := ⟨_, rfl⟩
  obtain ⟨b3, hb3⟩ : ∃ v, v = b1 + 1 + 1 := ⟨_, rfl⟩
  have bl3 : Below w2.heap.size w2 w3 := by rw [hw3]; exact al _ _
  have a3 : w3.heap[b3]? = some (.cells (x.parts.map .string).toArray 9 (0, 0)) := by rw [hw3, hb3, ← s2]; exact heap_alloc_new w2 _
  have a2' : w3.heap[b1 + 1]? = some (.cells (tc t) 32 (0, 0)) := (bl3.block _ (heap_lt a2)).trans a2
  have hro : Row w3 w3.heap.size (some ⟨b3, 0, none⟩) (x.parts.map .string) := by
    have h0 : Row w3 (b3 + 1) (some ⟨b3, 0, none⟩) (x.parts.map .string) := row_of_block a3
    exact h0.more (by rw [hw3]; exact Nat.le_of_eq (by rw [hb3, ← s2]; exact (Array.size_push ..).symm))
  obtain ⟨ax, hax, haxb, hxc⟩ := parts_get hro
  have HB3 := Lib.hid (show Below w.heap.size w w3 from Below.step (Below.step bl1 bl2) bl3)
  have HX1 := Lib.hid (six_at a1')
  have HX2 := Lib.hid (six_at a2')
  have HXC := Lib.hid (fun (w' : World) (hw' : Below w3.heap.size w3 w') (j : Nat) (hj : j < x.parts.length) => cell_b (hxc j hj) hw')
  have HAX := Lib.hid hax
  have HPT := Lib.hid (refParts_any t w3)
  have HW1 := Lib.hid hw1
  have HW2 := Lib.hid hw2
  have HW3 := Lib.hid (show w3 = w2.alloc (.cells #[.string x.k, .string x.i, .string x.r, .string x.u.k, .string x.u.i, .string x.u.r] 9) from hw3)
  have HE1 := Lib.hid hb1
  have HE3 := Lib.hid hb3
  have HS1 := Lib.hid s1
  have HS2 := Lib.hid s2
  unfold tc at HW1 HW2 HPT ⊢
  clear hw1 hw2 hw3 hb1 hb3 s1 s2 bl1 bl2 bl3 a1 a1' a2 a2' a3 hro hxc hax haxb
  go_enter Tryz.func38, Tryz.ntmps38
  go_upto_region 1 with fail
  rw [← HW1.out]
  try rw [← HW2.out]
  try rw [← HE1.out]
  try rw [HS1.out]
  obtain ⟨c0, c1, c2, c3, c4, c5⟩ := HX1.out
  go_upto_region 2 with fail
  rw [HS2.out, ← HE3.out, ← HW3.out, HAX.out]
  clear c0 c1 c2 c3 c4 c5
  obtain ⟨d0, d1, d2, d3, d4, d5⟩ := HX2.out
  have hpt := HPT.out
  go_wp2_with fail
  (with_reducible refine hpt.mono ?_)
  clear hpt d0 d1 d2 d3 d4 d5
  rintro e w4 hq
  unfold PartsPost at hq
  obtain ⟨A2, c2, rfl, hrow, hb4⟩ := hq
  obtain ⟨ad, rfl, hadb, hcell⟩ := parts_get hrow
  have HTC := Lib.hid (fun (w' : World) (hw' : Below w4.heap.size w4 w') (j : Nat) (hj : j < t.parts.length) => cell_b (hcell j hj) hw')
  have HB4 := Lib.hid hb4
  have HB := Lib.hid (HB3.out.trans (hb4.mono HB3.out.size))
  clear hrow hb4 hcell hadb
  go_wp2_with fail
  go_loopw [7] (fun j wq => ∃ q : Nat, q ≤ 6 ∧ j = .int .i64 q ∧ mp x t q = true ∧ Below w4.heap.size w4 wq) (fun j _ => 6 - (intOf j).toNat)
  case atStart => exact ⟨0, by omega, rfl, rfl, Below.refl _ _⟩
  case round =>
    obtain ⟨q, hq6, rfl, hall, hbw⟩ := hrel
    have HALL := Lib.hid hall
    have HBW := Lib.hid hbw
    clear hall
    by_cases hq : q < 6
    · have hx' : q < x.parts.length := hq
      have ht' : q < t.parts.length := hq
      have hc1 := HXC.out wr (HB4.out.trans (hbw.mono HB4.out.size)) q hx'
      have hc2 := HTC.out wr hbw q ht'
      have HST := Lib.hid (mp_step hx' ht')
      have HNO := Lib.hid (mp_no hx' ht')
      generalize x.parts[q] = a at *
      generalize t.parts[q] = b at *
      obtain ⟨e1, e2, g1, g2, g3⟩ := FactsMeant.told_parts a b
      rw [g3] at HST HNO
      have HQ := Lib.hid hq
      clear hx' ht' g3 hbw
      cases e1 with
      | true =>
        have HF := Lib.hid (show mp x t (q + 1) = true by rw [HST.out, HALL.out]; rfl)
        clear HST HNO
        go_wp2_with fail
        go_quiet (fail)
        go_wp2_with fail
        go_roundw
        case rel => exact ⟨q + 1, by have := HQ.out; omega, by go_num, HF.out, HBW.out.trans (Base.below_drewN _ _ _)⟩
        case measure => have := HQ.out; simp [intOf]; omega
      | false =>
        cases e2 with
        | true =>
          have HF := Lib.hid (show mp x t (q + 1) = true by rw [HST.out, HALL.out]; rfl)
          clear HST HNO
          go_wp2_with fail
          go_quiet (fail)
          go_wp2_with fail
          go_roundw
          case rel => exact ⟨q + 1, by have := HQ.out; omega, by go_num, HF.out, HBW.out.trans (Base.below_drewN _ _ _)⟩
          case measure => have := HQ.out; simp [intOf]; omega
        | false =>
          have HF := Lib.hid (HNO.out rfl)
          clear HST HNO
          go_wp2_with fail
          go_quiet (fail)
          go_wp2_with fail
          go_ret
          exact ⟨ret_bool HF.out.symm, HB.out.trans ((HBW.out.trans (Base.below_drewN _ _ _)).mono HB.out.size)⟩
    · have HF := Lib.hid (show means x t = true by
        rw [← mp_all, show (6 : Nat) = q by omega]
        exact HALL.out)
      clear hbw
      go_wp2_with fail
      go_ret
      exact ⟨ret_bool HF.out.symm, HB.out.trans (HBW.out.mono HB.out.size)⟩
end Go.Proofs.YtilcnhdfdgmekaaGreat.FactsRefF
