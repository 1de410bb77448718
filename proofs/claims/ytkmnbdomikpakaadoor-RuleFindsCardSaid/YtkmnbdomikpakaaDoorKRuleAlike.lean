/- The document's Alike for rules. -/
import Derived.Test.YtkmnbdomikpakaaDoorKHeld
import Derived.Test.YtkmnbdomikpakaaDoorKRuleFew
namespace Go.Proofs.YtkmnbdomikpakaaDoor.RuleAlike
open Go.RowKit Base KeyPlain TuplePlain TupleRef RulePlain RuleMem RuleRec RuleFew

theorem at_set {w : World} {g : Nat} {t : TypeId} {cs : Array Value} (h : w.heap[g]? = some (.cells cs t (0, 0))) (i : Nat) (v : Value) : (w.setCell ⟨g, i, none⟩ v).heap[g]? = some (.cells (cs.setIfInBounds i v) t (0, 0)) := by
  simp [World.setCell, Array.getElem?_modify, h]
theorem five_at {w : World} {g : Nat} {t : TypeId} {a b c d e : Value} (q : w.heap[g]? = some (.cells #[a, b, c, d, e] t (0, 0))) : w.cell? ⟨g, 0, none⟩ = some a ∧ w.cell? ⟨g, 1, none⟩ = some b ∧ w.cell? ⟨g, 2, none⟩ = some c ∧ w.cell? ⟨g, 3, none⟩ = some d ∧ w.cell? ⟨g, 4, none⟩ = some e := by
  refine ⟨?_, ?_, ?_, ?_, ?_⟩ <;> (simp only [World.cell?, q]; rfl)
theorem set5 {w : World} {g : Nat} {t : TypeId} {x0 x1 x2 x3 x4 : Value} (h : w.heap[g]? = some (.cells #[x0, x1, x2, x3, x4] t (0, 0))) (a b c d e : Value) :
    (((((w.setCell ⟨g, 0, none⟩ a).setCell ⟨g, 1, none⟩ b).setCell ⟨g, 2, none⟩ c).setCell ⟨g, 3, none⟩ d).setCell ⟨g, 4, none⟩ e).heap[g]? = some (.cells #[a, b, c, d, e] t (0, 0)) := at_set (at_set (at_set (at_set (at_set h 0 a) 1 b) 2 c) 3 d) 4 e
theorem below5 {W w : World} {B g : Nat} (h : Below B W w) (hg : B ≤ g) (a b c d e : Value) : Below B W (((((w.setCell ⟨g, 0, none⟩ a).setCell ⟨g, 1, none⟩ b).setCell ⟨g, 2, none⟩ c).setCell ⟨g, 3, none⟩ d).setCell ⟨g, 4, none⟩ e) := ((((h.setCell hg _).setCell hg _).setCell hg _).setCell hg _).setCell hg _
set_option maxRecDepth 100000 in
set_option maxHeartbeats 25600000 in
theorem refAlike_any (A : Option Addr) (c : Nat) (l : List Kd) (A' : Option Addr) (c' : Nat) (l' : List Kd) (w : World) (hL : LayL w w.heap.size A l) (hL' : LayL w w.heap.size A' l') (hn : l.length ≤ maxLen) (hn' : l'.length ≤ maxLen) :
    Calls Tryd.prog 24 #[.slice A l.length c, .slice A' l'.length c'] w fun e w' => e = .returned (.bool (decide (l = l'))) ∧ Below w.heap.size w w' := by
  unfold maxLen at hn hn'
  have HL := Lib.hid (fun (w' : World) (hw' : Below w.heap.size w w') => hL.later hw')
  have HL' := Lib.hid (fun (w' : World) (hw' : Below w.heap.size w w') => hL'.later hw')
  clear hL hL'
  go_enter Tryd.func24, Tryd.ntmps24
  by_cases hll : l.length = l'.length
  rotate_left
  · have HM := Lib.hid (show decide (l = l') = false from decide_eq_false fun e => hll (by rw [e]))
    have il : ((l.length : Int) != (l'.length : Int)) = true := by rw [bne_iff_ne]; omega
    clear hll
    go_wp2_with fail
    go_ret
    exact ⟨ret_bool HM.out.symm, Below.refl _ _⟩
  have il : ((l.length : Int) != (l'.length : Int)) = false := by rw [bne_eq_false_iff_eq]; omega
  have HLL := Lib.hid hll
  clear hll
  go_wp2_with fail
  clear il
  go_loopw [5, 6] (fun i z wr => z = z ∧ ∃ k : Nat, k ≤ l.length ∧ i = .int .i64 k ∧ l.take k = l'.take k ∧ Below w.heap.size w wr) (fun i _ _ => l.length - (intOf i).toNat)
  case atStart => exact ⟨rfl, 0, by omega, rfl, rfl, Below.refl _ _⟩
  case round =>
    obtain ⟨_, k, hk, rfl, hpre, hB⟩ := hrel
    have HBW := Lib.hid hB
    by_cases hlt : k < l.length
    rotate_left
    · have HM := Lib.hid (show decide (l = l') = true from decide_eq_true (by have h1 := HLL.out; rwa [List.take_of_length_le (by omega), List.take_of_length_le (by omega)] at hpre))
      clear hpre
      have hni : ¬ (k : Int) < (l.length : Int) := by omega
      go_wp2_with fail
      go_ret
      exact ⟨ret_bool HM.out.symm, HBW.out⟩
    have hlt' : k < l'.length := by have := HLL.out; omega
    obtain ⟨ad, K, c1, rfl, hks, hrs, hml⟩ := kind_see (HL.out wr hB) k hlt
    obtain ⟨ad', K', c1', rfl, hks', hrs', hml'⟩ := kind_see (HL'.out wr hB) k hlt'
    have HKS := Lib.hid (fun (w' : World) (hw' : Below wr.heap.size wr w') => hks.below hw')
    have HKS' := Lib.hid (fun (w' : World) (hw' : Below wr.heap.size wr w') => hks'.below hw')
    have HRL := Lib.hid hrs
    have HRL' := Lib.hid hrs'
    have HNX := Lib.hid (show l[k] = l'[k] → l.take (k + 1) = l'.take (k + 1) from fun h => by rw [List.take_succ_eq_append_getElem hlt, List.take_succ_eq_append_getElem hlt', hpre, h])
    have HNO := Lib.hid (show l[k] ≠ l'[k] → decide (l = l') = false from fun h => decide_eq_false fun e => h (by subst e; rfl))
    have HLT := Lib.hid (Nat.not_le_of_lt hlt)
    clear hks hks' hrs hrs' hpre hB
    have ltI' : (k : Int) < (l'.length : Int) := by omega
    generalize l[k] = kd at *
    generalize l'[k] = kd' at *
    clear hlt'
    obtain ⟨nm, rs⟩ := kd
    obtain ⟨nm', rs'⟩ := kd'
    simp only at hml hml' HKS HKS' HRL HRL'
    unfold maxLen at hml hml'
    have HSK := Lib.hid (fun (w' : World) (hw' : Below wr.heap.size wr w') => show (w'.cell? (ad.add (k * 2)) = some (.string nm) ∧ w'.cell? ⟨(ad.add (k * 2)).block, (ad.add (k * 2)).off + (0 + 1), none⟩ = some (.slice K rs.length c1)) ∧ (w'.cell? (ad'.add (k * 2)) = some (.string nm') ∧ w'.cell? ⟨(ad'.add (k * 2)).block, (ad'.add (k * 2)).off + (0 + 1), none⟩ = some (.slice K' rs'.length c1')) from ⟨⟨(HKS.out w' hw').at0, (HKS.out w' hw').at_ 0 rfl⟩, (HKS'.out w' hw').at0, (HKS'.out w' hw').at_ 0 rfl⟩)
    have qn := Str.ba_beq nm nm'
    by_cases hnn : nm = nm'
    rotate_left
    · rw [decide_eq_false hnn] at qn
      have HM := Lib.hid (HNO.out fun e => hnn (by injection e))
      clear hnn
      go_upto_region 6 with fail
      refine wp_region_any (by kernel_rfl) ?_
      change wpAny _ _ _ _ _ _ _ (World.drew _)
      refine Held.any_of_G (S := (fun w' : World => (w'.cell? (ad.add (k * 2)) = some (.string nm) ∧ w'.cell? ⟨(ad.add (k * 2)).block, (ad.add (k * 2)).off + (0 + 1), none⟩ = some (.slice K rs.length c1)) ∧ (w'.cell? (ad'.add (k * 2)) = some (.string nm') ∧ w'.cell? ⟨(ad'.add (k * 2)).block, (ad'.add (k * 2)).off + (0 + 1), none⟩ = some (.slice K' rs'.length c1')))) (z := 25) _ _ _ _ ?_
      refine Held.G_take (i := 0) (d := 20) (v := ?_) [0, 2, 3, 4, 10, 11, 12, 13, 14, 15, 16, 17, 18, 19, 20, 21, 22, 23, 24, 25] rfl rfl (by kernel_rfl) (by kernel_rfl) (by kernel_rfl) (by kernel_rfl) (fun _ _ _ h => h) (Or.inl ⟨by rfl, ?_⟩) (HSK.out _ (show Below wr.heap.size wr (World.drew wr) from (Below.refl _ _).drew)) ?_
      rotate_left 1
      · intro w hSw; clear hSw; go_simp <;> with_reducible rfl
      simp only [Act.put, List.setIfInBounds_toArray, List.set_cons_zero, List.set_cons_succ]
      refine Held.G_take (i := 1) (d := 21) (v := ?_) [1, 2, 3, 4, 10, 11, 12, 13, 14, 15, 16, 17, 18, 19, 20, 21, 22, 23, 24, 25] rfl rfl (by kernel_rfl) (by kernel_rfl) (by kernel_rfl) (by kernel_rfl) (fun _ _ _ h => h) (Or.inl ⟨by rfl, ?_⟩) (HSK.out _ (show Below wr.heap.size wr (World.drew wr) from (Below.refl _ _).drew)) ?_
      rotate_left 1
      · intro w hSw; clear hSw; go_simp <;> with_reducible rfl
      simp only [Act.put, List.setIfInBounds_toArray, List.set_cons_zero, List.set_cons_succ]
      refine Held.G_take (i := 2) (d := 22) (v := ?_) [2, 3, 4, 10, 11, 12, 13, 14, 15, 16, 17, 18, 19, 20, 21, 22, 23, 24, 25] rfl rfl (by kernel_rfl) (by kernel_rfl) (by kernel_rfl) (by kernel_rfl) (fun _ _ _ h => h) (Or.inl ⟨by rfl, ?_⟩) (HSK.out _ (show Below wr.heap.size wr (World.drew wr) from (Below.refl _ _).drew)) ?_
      rotate_left 1
      · intro w hSw; clear hSw; go_simp <;> with_reducible rfl
      simp only [Act.put, List.setIfInBounds_toArray, List.set_cons_zero, List.set_cons_succ]
      refine Held.G_take (i := 3) (d := 23) (v := ?_) [3, 4, 10, 11, 12, 13, 14, 15, 16, 17, 18, 19, 20, 21, 22, 23, 24, 25] rfl rfl (by kernel_rfl) (by kernel_rfl) (by kernel_rfl) (by kernel_rfl) (fun _ _ _ h => h) (Or.inl ⟨by rfl, ?_⟩) (HSK.out _ (show Below wr.heap.size wr (World.drew wr) from (Below.refl _ _).drew)) ?_
      rotate_left 1
      · intro w hSw; clear hSw; go_simp <;> with_reducible rfl
      simp only [Act.put, List.setIfInBounds_toArray, List.set_cons_zero, List.set_cons_succ]
      refine Held.G_take (i := 4) (d := 24) (v := ?_) [4, 10, 11, 12, 13, 14, 15, 16, 17, 18, 19, 20, 21, 22, 23, 24, 25] rfl rfl (by kernel_rfl) (by kernel_rfl) (by kernel_rfl) (by kernel_rfl) (fun _ _ _ h => h) (Or.inl ⟨by rfl, ?_⟩) (HSK.out _ (show Below wr.heap.size wr (World.drew wr) from (Below.refl _ _).drew)) ?_
      rotate_left 1
      · intro w hSw; obtain ⟨⟨k0, k1⟩, k0', k1'⟩ := hSw; go_simp <;> with_reducible rfl
      simp only [Act.put, List.setIfInBounds_toArray, List.set_cons_zero, List.set_cons_succ]
      refine Held.G_take (i := 5) (d := 25) (v := ?_) [5, 7, 8, 9, 10, 11, 12, 13, 14, 15, 16, 17, 18, 19, 20, 21, 22, 23, 24, 25] rfl rfl (by kernel_rfl) (by kernel_rfl) (by kernel_rfl) (by kernel_rfl) (fun _ _ _ h => h) (Or.inl ⟨by rfl, ?_⟩) (HSK.out _ (show Below wr.heap.size wr (World.drew wr) from (Below.refl _ _).drew)) ?_
      rotate_left 1
      · intro w hSw; clear hSw; go_simp <;> with_reducible rfl
      simp only [Act.put, List.setIfInBounds_toArray, List.set_cons_zero, List.set_cons_succ]
      refine Held.G_take (i := 6) (d := 26) (v := ?_) [6, 7, 8, 9, 10, 11, 12, 13, 14, 15, 16, 17, 18, 19, 20, 21, 22, 23, 24, 25] rfl rfl (by kernel_rfl) (by kernel_rfl) (by kernel_rfl) (by kernel_rfl) (fun _ _ _ h => h) (Or.inl ⟨by rfl, ?_⟩) (HSK.out _ (show Below wr.heap.size wr (World.drew wr) from (Below.refl _ _).drew)) ?_
      rotate_left 1
      · intro w hSw; clear hSw; go_simp <;> with_reducible rfl
      simp only [Act.put, List.setIfInBounds_toArray, List.set_cons_zero, List.set_cons_succ]
      refine Held.G_take (i := 7) (d := 27) (v := ?_) [7, 8, 9, 10, 11, 12, 13, 14, 15, 16, 17, 18, 19, 20, 21, 22, 23, 24, 25] rfl rfl (by kernel_rfl) (by kernel_rfl) (by kernel_rfl) (by kernel_rfl) (fun _ _ _ h => h) (Or.inl ⟨by rfl, ?_⟩) (HSK.out _ (show Below wr.heap.size wr (World.drew wr) from (Below.refl _ _).drew)) ?_
      rotate_left 1
      · intro w hSw; clear hSw; go_simp <;> with_reducible rfl
      simp only [Act.put, List.setIfInBounds_toArray, List.set_cons_zero, List.set_cons_succ]
      refine Held.G_take (i := 8) (d := 28) (v := ?_) [8, 9, 10, 11, 12, 13, 14, 15, 16, 17, 18, 19, 20, 21, 22, 23, 24, 25] rfl rfl (by kernel_rfl) (by kernel_rfl) (by kernel_rfl) (by kernel_rfl) (fun _ _ _ h => h) (Or.inl ⟨by rfl, ?_⟩) (HSK.out _ (show Below wr.heap.size wr (World.drew wr) from (Below.refl _ _).drew)) ?_
      rotate_left 1
      · intro w hSw; clear hSw; go_simp <;> with_reducible rfl
      simp only [Act.put, List.setIfInBounds_toArray, List.set_cons_zero, List.set_cons_succ]
      refine Held.G_take (i := 9) (d := 29) (v := ?_) [9, 10, 11, 12, 13, 14, 15, 16, 17, 18, 19, 20, 21, 22, 23, 24, 25] rfl rfl (by kernel_rfl) (by kernel_rfl) (by kernel_rfl) (by kernel_rfl) (fun _ _ _ h => h) (Or.inl ⟨by rfl, ?_⟩) (HSK.out _ (show Below wr.heap.size wr (World.drew wr) from (Below.refl _ _).drew)) ?_
      rotate_left 1
      · intro w hSw; obtain ⟨⟨k0, k1⟩, k0', k1'⟩ := hSw; go_simp <;> with_reducible rfl
      simp only [Act.put, List.setIfInBounds_toArray, List.set_cons_zero, List.set_cons_succ]
      refine Held.G_take (i := 10) (d := 30) (v := ?_) [10, 11, 12, 13, 14, 15, 16, 17, 18, 19, 20, 21, 22, 23, 24, 25] rfl rfl (by kernel_rfl) (by kernel_rfl) (by kernel_rfl) (by kernel_rfl) (fun _ _ _ h => h) (Or.inl ⟨by rfl, ?_⟩) (HSK.out _ (show Below wr.heap.size wr (World.drew wr) from (Below.refl _ _).drew)) ?_
      rotate_left 1
      · intro w hSw; clear hSw; go_simp <;> with_reducible rfl
      simp only [Act.put, List.setIfInBounds_toArray, List.set_cons_zero, List.set_cons_succ]
      refine Held.G_take (i := 11) (d := 31) (v := ?_) [11, 12, 13, 14, 15, 16, 17, 18, 19, 20, 21, 22, 23, 24, 25] rfl rfl (by kernel_rfl) (by kernel_rfl) (by kernel_rfl) (by kernel_rfl) (fun _ _ _ h => h) (Or.inl ⟨by rfl, ?_⟩) (HSK.out _ (show Below wr.heap.size wr (World.drew wr) from (Below.refl _ _).drew)) ?_
      rotate_left 1
      · intro w hSw; clear hSw; go_simp <;> with_reducible rfl
      simp only [Act.put, List.setIfInBounds_toArray, List.set_cons_zero, List.set_cons_succ]
      refine Held.G_take (i := 12) (d := 32) (v := undef) [12, 14, 15, 16, 17, 24, 25] rfl rfl (by kernel_rfl) (by kernel_rfl) (by kernel_rfl) (by kernel_rfl) (fun _ _ _ h => h) (Or.inr ⟨by rfl, rfl⟩) (HSK.out _ (show Below wr.heap.size wr (World.drew wr) from (Below.refl _ _).drew)) ?_
      simp only [Act.put, List.setIfInBounds_toArray, List.set_cons_zero, List.set_cons_succ]
      refine Held.G_take (i := 13) (d := 33) (v := undef) [13, 14, 15, 16, 17, 24, 25] rfl rfl (by kernel_rfl) (by kernel_rfl) (by kernel_rfl) (by kernel_rfl) (fun _ _ _ h => h) (Or.inr ⟨by rfl, rfl⟩) (HSK.out _ (show Below wr.heap.size wr (World.drew wr) from (Below.refl _ _).drew)) ?_
      simp only [Act.put, List.setIfInBounds_toArray, List.set_cons_zero, List.set_cons_succ]
      refine Held.G_take (i := 14) (d := 34) (v := undef) [14, 15, 16, 17, 24, 25] rfl rfl (by kernel_rfl) (by kernel_rfl) (by kernel_rfl) (by kernel_rfl) (fun _ _ _ h => h) (Or.inr ⟨by rfl, rfl⟩) (HSK.out _ (show Below wr.heap.size wr (World.drew wr) from (Below.refl _ _).drew)) ?_
      simp only [Act.put, List.setIfInBounds_toArray, List.set_cons_zero, List.set_cons_succ]
      refine Held.G_take (i := 15) (d := 35) (v := undef) [15, 16, 17, 24, 25] rfl rfl (by kernel_rfl) (by kernel_rfl) (by kernel_rfl) (by kernel_rfl) (fun _ _ _ h => h) (Or.inr ⟨by rfl, rfl⟩) (HSK.out _ (show Below wr.heap.size wr (World.drew wr) from (Below.refl _ _).drew)) ?_
      simp only [Act.put, List.setIfInBounds_toArray, List.set_cons_zero, List.set_cons_succ]
      refine Held.G_take (i := 16) (d := 36) (v := undef) [16, 17, 24, 25] rfl rfl (by kernel_rfl) (by kernel_rfl) (by kernel_rfl) (by kernel_rfl) (fun _ _ _ h => h) (Or.inr ⟨by rfl, rfl⟩) (HSK.out _ (show Below wr.heap.size wr (World.drew wr) from (Below.refl _ _).drew)) ?_
      simp only [Act.put, List.setIfInBounds_toArray, List.set_cons_zero, List.set_cons_succ]
      refine Held.G_take (i := 17) (d := 37) (v := undef) [17, 24, 25] rfl rfl (by kernel_rfl) (by kernel_rfl) (by kernel_rfl) (by kernel_rfl) (fun _ _ _ h => h) (Or.inr ⟨by rfl, rfl⟩) (HSK.out _ (show Below wr.heap.size wr (World.drew wr) from (Below.refl _ _).drew)) ?_
      simp only [Act.put, List.setIfInBounds_toArray, List.set_cons_zero, List.set_cons_succ]
      refine Held.G_take (i := 18) (d := 38) (v := undef) [18, 20, 21, 22, 23, 24, 25] rfl rfl (by kernel_rfl) (by kernel_rfl) (by kernel_rfl) (by kernel_rfl) (fun _ _ _ h => h) (Or.inr ⟨by rfl, rfl⟩) (HSK.out _ (show Below wr.heap.size wr (World.drew wr) from (Below.refl _ _).drew)) ?_
      simp only [Act.put, List.setIfInBounds_toArray, List.set_cons_zero, List.set_cons_succ]
      refine Held.G_take (i := 19) (d := 39) (v := undef) [19, 20, 21, 22, 23, 24, 25] rfl rfl (by kernel_rfl) (by kernel_rfl) (by kernel_rfl) (by kernel_rfl) (fun _ _ _ h => h) (Or.inr ⟨by rfl, rfl⟩) (HSK.out _ (show Below wr.heap.size wr (World.drew wr) from (Below.refl _ _).drew)) ?_
      simp only [Act.put, List.setIfInBounds_toArray, List.set_cons_zero, List.set_cons_succ]
      refine Held.G_take (i := 20) (d := 40) (v := undef) [20, 21, 22, 23, 24, 25] rfl rfl (by kernel_rfl) (by kernel_rfl) (by kernel_rfl) (by kernel_rfl) (fun _ _ _ h => h) (Or.inr ⟨by rfl, rfl⟩) (HSK.out _ (show Below wr.heap.size wr (World.drew wr) from (Below.refl _ _).drew)) ?_
      simp only [Act.put, List.setIfInBounds_toArray, List.set_cons_zero, List.set_cons_succ]
      refine Held.G_take (i := 21) (d := 41) (v := undef) [21, 22, 23, 24, 25] rfl rfl (by kernel_rfl) (by kernel_rfl) (by kernel_rfl) (by kernel_rfl) (fun _ _ _ h => h) (Or.inr ⟨by rfl, rfl⟩) (HSK.out _ (show Below wr.heap.size wr (World.drew wr) from (Below.refl _ _).drew)) ?_
      simp only [Act.put, List.setIfInBounds_toArray, List.set_cons_zero, List.set_cons_succ]
      refine Held.G_take (i := 22) (d := 42) (v := undef) [22, 23, 24, 25] rfl rfl (by kernel_rfl) (by kernel_rfl) (by kernel_rfl) (by kernel_rfl) (fun _ _ _ h => h) (Or.inr ⟨by rfl, rfl⟩) (HSK.out _ (show Below wr.heap.size wr (World.drew wr) from (Below.refl _ _).drew)) ?_
      simp only [Act.put, List.setIfInBounds_toArray, List.set_cons_zero, List.set_cons_succ]
      refine Held.G_take (i := 23) (d := 43) (v := undef) [23, 24, 25] rfl rfl (by kernel_rfl) (by kernel_rfl) (by kernel_rfl) (by kernel_rfl) (fun _ _ _ h => h) (Or.inr ⟨by rfl, rfl⟩) (HSK.out _ (show Below wr.heap.size wr (World.drew wr) from (Below.refl _ _).drew)) ?_
      simp only [Act.put, List.setIfInBounds_toArray, List.set_cons_zero, List.set_cons_succ]
      refine Held.G_take (i := 24) (d := 44) (v := undef) [24, 25] rfl rfl (by kernel_rfl) (by kernel_rfl) (by kernel_rfl) (by kernel_rfl) (fun _ _ _ h => h) (Or.inr ⟨by rfl, rfl⟩) (HSK.out _ (show Below wr.heap.size wr (World.drew wr) from (Below.refl _ _).drew)) ?_
      simp only [Act.put, List.setIfInBounds_toArray, List.set_cons_zero, List.set_cons_succ]
      refine Held.G_ready (rs := [25]) (by decide +kernel) (by simp) ?_
      refine Held.G_last rfl (fun KK hK => ?_) Held.G_nil
      go_simp
      refine hK _ _ ?_
      clear hK KK
      refine Held.G_done (by kernel_rfl) ?_ _
      go_wp2_with fail
      go_ret
      exact ⟨ret_bool HM.out.symm, HBW.out.trans ((show Below wr.heap.size wr (World.drew wr) from (Below.refl _ _).drew).mono HBW.out.size)⟩
    rw [decide_eq_true hnn] at qn
    by_cases hrl : rs.length = rs'.length
    rotate_left
    · have HM := Lib.hid (HNO.out fun e => hrl (by injection e with _ e; rw [e]))
      have qr : ((rs.length : Int) != (rs'.length : Int)) = true := by rw [bne_iff_ne]; omega
      clear hrl hnn
      go_upto_region 6 with fail
      refine wp_region_any (by kernel_rfl) ?_
      change wpAny _ _ _ _ _ _ _ (World.drew _)
      refine Held.any_of_G (S := (fun w' : World => (w'.cell? (ad.add (k * 2)) = some (.string nm) ∧ w'.cell? ⟨(ad.add (k * 2)).block, (ad.add (k * 2)).off + (0 + 1), none⟩ = some (.slice K rs.length c1)) ∧ (w'.cell? (ad'.add (k * 2)) = some (.string nm') ∧ w'.cell? ⟨(ad'.add (k * 2)).block, (ad'.add (k * 2)).off + (0 + 1), none⟩ = some (.slice K' rs'.length c1')))) (z := 25) _ _ _ _ ?_
      refine Held.G_take (i := 0) (d := 20) (v := ?_) [0, 2, 3, 4, 10, 11, 12, 13, 14, 15, 16, 17, 18, 19, 20, 21, 22, 23, 24, 25] rfl rfl (by kernel_rfl) (by kernel_rfl) (by kernel_rfl) (by kernel_rfl) (fun _ _ _ h => h) (Or.inl ⟨by rfl, ?_⟩) (HSK.out _ (show Below wr.heap.size wr (World.drew wr) from (Below.refl _ _).drew)) ?_
      rotate_left 1
      · intro w hSw; clear hSw; go_simp <;> with_reducible rfl
      simp only [Act.put, List.setIfInBounds_toArray, List.set_cons_zero, List.set_cons_succ]
      refine Held.G_take (i := 1) (d := 21) (v := ?_) [1, 2, 3, 4, 10, 11, 12, 13, 14, 15, 16, 17, 18, 19, 20, 21, 22, 23, 24, 25] rfl rfl (by kernel_rfl) (by kernel_rfl) (by kernel_rfl) (by kernel_rfl) (fun _ _ _ h => h) (Or.inl ⟨by rfl, ?_⟩) (HSK.out _ (show Below wr.heap.size wr (World.drew wr) from (Below.refl _ _).drew)) ?_
      rotate_left 1
      · intro w hSw; clear hSw; go_simp <;> with_reducible rfl
      simp only [Act.put, List.setIfInBounds_toArray, List.set_cons_zero, List.set_cons_succ]
      refine Held.G_take (i := 2) (d := 22) (v := ?_) [2, 3, 4, 10, 11, 12, 13, 14, 15, 16, 17, 18, 19, 20, 21, 22, 23, 24, 25] rfl rfl (by kernel_rfl) (by kernel_rfl) (by kernel_rfl) (by kernel_rfl) (fun _ _ _ h => h) (Or.inl ⟨by rfl, ?_⟩) (HSK.out _ (show Below wr.heap.size wr (World.drew wr) from (Below.refl _ _).drew)) ?_
      rotate_left 1
      · intro w hSw; clear hSw; go_simp <;> with_reducible rfl
      simp only [Act.put, List.setIfInBounds_toArray, List.set_cons_zero, List.set_cons_succ]
      refine Held.G_take (i := 3) (d := 23) (v := ?_) [3, 4, 10, 11, 12, 13, 14, 15, 16, 17, 18, 19, 20, 21, 22, 23, 24, 25] rfl rfl (by kernel_rfl) (by kernel_rfl) (by kernel_rfl) (by kernel_rfl) (fun _ _ _ h => h) (Or.inl ⟨by rfl, ?_⟩) (HSK.out _ (show Below wr.heap.size wr (World.drew wr) from (Below.refl _ _).drew)) ?_
      rotate_left 1
      · intro w hSw; clear hSw; go_simp <;> with_reducible rfl
      simp only [Act.put, List.setIfInBounds_toArray, List.set_cons_zero, List.set_cons_succ]
      refine Held.G_take (i := 4) (d := 24) (v := ?_) [4, 10, 11, 12, 13, 14, 15, 16, 17, 18, 19, 20, 21, 22, 23, 24, 25] rfl rfl (by kernel_rfl) (by kernel_rfl) (by kernel_rfl) (by kernel_rfl) (fun _ _ _ h => h) (Or.inl ⟨by rfl, ?_⟩) (HSK.out _ (show Below wr.heap.size wr (World.drew wr) from (Below.refl _ _).drew)) ?_
      rotate_left 1
      · intro w hSw; obtain ⟨⟨k0, k1⟩, k0', k1'⟩ := hSw; go_simp <;> with_reducible rfl
      simp only [Act.put, List.setIfInBounds_toArray, List.set_cons_zero, List.set_cons_succ]
      refine Held.G_take (i := 5) (d := 25) (v := ?_) [5, 7, 8, 9, 10, 11, 12, 13, 14, 15, 16, 17, 18, 19, 20, 21, 22, 23, 24, 25] rfl rfl (by kernel_rfl) (by kernel_rfl) (by kernel_rfl) (by kernel_rfl) (fun _ _ _ h => h) (Or.inl ⟨by rfl, ?_⟩) (HSK.out _ (show Below wr.heap.size wr (World.drew wr) from (Below.refl _ _).drew)) ?_
      rotate_left 1
      · intro w hSw; clear hSw; go_simp <;> with_reducible rfl
      simp only [Act.put, List.setIfInBounds_toArray, List.set_cons_zero, List.set_cons_succ]
      refine Held.G_take (i := 6) (d := 26) (v := ?_) [6, 7, 8, 9, 10, 11, 12, 13, 14, 15, 16, 17, 18, 19, 20, 21, 22, 23, 24, 25] rfl rfl (by kernel_rfl) (by kernel_rfl) (by kernel_rfl) (by kernel_rfl) (fun _ _ _ h => h) (Or.inl ⟨by rfl, ?_⟩) (HSK.out _ (show Below wr.heap.size wr (World.drew wr) from (Below.refl _ _).drew)) ?_
      rotate_left 1
      · intro w hSw; clear hSw; go_simp <;> with_reducible rfl
      simp only [Act.put, List.setIfInBounds_toArray, List.set_cons_zero, List.set_cons_succ]
      refine Held.G_take (i := 7) (d := 27) (v := ?_) [7, 8, 9, 10, 11, 12, 13, 14, 15, 16, 17, 18, 19, 20, 21, 22, 23, 24, 25] rfl rfl (by kernel_rfl) (by kernel_rfl) (by kernel_rfl) (by kernel_rfl) (fun _ _ _ h => h) (Or.inl ⟨by rfl, ?_⟩) (HSK.out _ (show Below wr.heap.size wr (World.drew wr) from (Below.refl _ _).drew)) ?_
      rotate_left 1
      · intro w hSw; clear hSw; go_simp <;> with_reducible rfl
      simp only [Act.put, List.setIfInBounds_toArray, List.set_cons_zero, List.set_cons_succ]
      refine Held.G_take (i := 8) (d := 28) (v := ?_) [8, 9, 10, 11, 12, 13, 14, 15, 16, 17, 18, 19, 20, 21, 22, 23, 24, 25] rfl rfl (by kernel_rfl) (by kernel_rfl) (by kernel_rfl) (by kernel_rfl) (fun _ _ _ h => h) (Or.inl ⟨by rfl, ?_⟩) (HSK.out _ (show Below wr.heap.size wr (World.drew wr) from (Below.refl _ _).drew)) ?_
      rotate_left 1
      · intro w hSw; clear hSw; go_simp <;> with_reducible rfl
      simp only [Act.put, List.setIfInBounds_toArray, List.set_cons_zero, List.set_cons_succ]
      refine Held.G_take (i := 9) (d := 29) (v := ?_) [9, 10, 11, 12, 13, 14, 15, 16, 17, 18, 19, 20, 21, 22, 23, 24, 25] rfl rfl (by kernel_rfl) (by kernel_rfl) (by kernel_rfl) (by kernel_rfl) (fun _ _ _ h => h) (Or.inl ⟨by rfl, ?_⟩) (HSK.out _ (show Below wr.heap.size wr (World.drew wr) from (Below.refl _ _).drew)) ?_
      rotate_left 1
      · intro w hSw; obtain ⟨⟨k0, k1⟩, k0', k1'⟩ := hSw; go_simp <;> with_reducible rfl
      simp only [Act.put, List.setIfInBounds_toArray, List.set_cons_zero, List.set_cons_succ]
      refine Held.G_take (i := 10) (d := 30) (v := ?_) [10, 11, 12, 13, 14, 15, 16, 17, 18, 19, 20, 21, 22, 23, 24, 25] rfl rfl (by kernel_rfl) (by kernel_rfl) (by kernel_rfl) (by kernel_rfl) (fun _ _ _ h => h) (Or.inl ⟨by rfl, ?_⟩) (HSK.out _ (show Below wr.heap.size wr (World.drew wr) from (Below.refl _ _).drew)) ?_
      rotate_left 1
      · intro w hSw; clear hSw; go_simp <;> with_reducible rfl
      simp only [Act.put, List.setIfInBounds_toArray, List.set_cons_zero, List.set_cons_succ]
      refine Held.G_take (i := 11) (d := 31) (v := ?_) [11, 12, 13, 14, 15, 16, 17, 18, 19, 20, 21, 22, 23, 24, 25] rfl rfl (by kernel_rfl) (by kernel_rfl) (by kernel_rfl) (by kernel_rfl) (fun _ _ _ h => h) (Or.inl ⟨by rfl, ?_⟩) (HSK.out _ (show Below wr.heap.size wr (World.drew wr) from (Below.refl _ _).drew)) ?_
      rotate_left 1
      · intro w hSw; clear hSw; go_simp <;> with_reducible rfl
      simp only [Act.put, List.setIfInBounds_toArray, List.set_cons_zero, List.set_cons_succ]
      refine Held.G_take (i := 12) (d := 32) (v := ?_) [12, 14, 15, 16, 17, 24, 25] rfl rfl (by kernel_rfl) (by kernel_rfl) (by kernel_rfl) (by kernel_rfl) (fun _ _ _ h => h) (Or.inl ⟨by rfl, ?_⟩) (HSK.out _ (show Below wr.heap.size wr (World.drew wr) from (Below.refl _ _).drew)) ?_
      rotate_left 1
      · intro w hSw; clear hSw; go_simp <;> with_reducible rfl
      simp only [Act.put, List.setIfInBounds_toArray, List.set_cons_zero, List.set_cons_succ]
      refine Held.G_take (i := 13) (d := 33) (v := ?_) [13, 14, 15, 16, 17, 24, 25] rfl rfl (by kernel_rfl) (by kernel_rfl) (by kernel_rfl) (by kernel_rfl) (fun _ _ _ h => h) (Or.inl ⟨by rfl, ?_⟩) (HSK.out _ (show Below wr.heap.size wr (World.drew wr) from (Below.refl _ _).drew)) ?_
      rotate_left 1
      · intro w hSw; clear hSw; go_simp <;> with_reducible rfl
      simp only [Act.put, List.setIfInBounds_toArray, List.set_cons_zero, List.set_cons_succ]
      refine Held.G_take (i := 14) (d := 34) (v := ?_) [14, 15, 16, 17, 24, 25] rfl rfl (by kernel_rfl) (by kernel_rfl) (by kernel_rfl) (by kernel_rfl) (fun _ _ _ h => h) (Or.inl ⟨by rfl, ?_⟩) (HSK.out _ (show Below wr.heap.size wr (World.drew wr) from (Below.refl _ _).drew)) ?_
      rotate_left 1
      · intro w hSw; clear hSw; go_simp <;> with_reducible rfl
      simp only [Act.put, List.setIfInBounds_toArray, List.set_cons_zero, List.set_cons_succ]
      refine Held.G_take (i := 15) (d := 35) (v := ?_) [15, 16, 17, 24, 25] rfl rfl (by kernel_rfl) (by kernel_rfl) (by kernel_rfl) (by kernel_rfl) (fun _ _ _ h => h) (Or.inl ⟨by rfl, ?_⟩) (HSK.out _ (show Below wr.heap.size wr (World.drew wr) from (Below.refl _ _).drew)) ?_
      rotate_left 1
      · intro w hSw; clear hSw; go_simp <;> with_reducible rfl
      simp only [Act.put, List.setIfInBounds_toArray, List.set_cons_zero, List.set_cons_succ]
      refine Held.G_take (i := 16) (d := 36) (v := ?_) [16, 17, 24, 25] rfl rfl (by kernel_rfl) (by kernel_rfl) (by kernel_rfl) (by kernel_rfl) (fun _ _ _ h => h) (Or.inl ⟨by rfl, ?_⟩) (HSK.out _ (show Below wr.heap.size wr (World.drew wr) from (Below.refl _ _).drew)) ?_
      rotate_left 1
      · intro w hSw; obtain ⟨⟨k0, k1⟩, k0', k1'⟩ := hSw; go_simp <;> with_reducible rfl
      simp only [Act.put, List.setIfInBounds_toArray, List.set_cons_zero, List.set_cons_succ]
      refine Held.G_take (i := 17) (d := 37) (v := ?_) [17, 24, 25] rfl rfl (by kernel_rfl) (by kernel_rfl) (by kernel_rfl) (by kernel_rfl) (fun _ _ _ h => h) (Or.inl ⟨by rfl, ?_⟩) (HSK.out _ (show Below wr.heap.size wr (World.drew wr) from (Below.refl _ _).drew)) ?_
      rotate_left 1
      · intro w hSw; clear hSw; go_simp <;> with_reducible rfl
      simp only [Act.put, List.setIfInBounds_toArray, List.set_cons_zero, List.set_cons_succ]
      refine Held.G_take (i := 18) (d := 38) (v := ?_) [18, 20, 21, 22, 23, 24, 25] rfl rfl (by kernel_rfl) (by kernel_rfl) (by kernel_rfl) (by kernel_rfl) (fun _ _ _ h => h) (Or.inl ⟨by rfl, ?_⟩) (HSK.out _ (show Below wr.heap.size wr (World.drew wr) from (Below.refl _ _).drew)) ?_
      rotate_left 1
      · intro w hSw; clear hSw; go_simp <;> with_reducible rfl
      simp only [Act.put, List.setIfInBounds_toArray, List.set_cons_zero, List.set_cons_succ]
      refine Held.G_take (i := 19) (d := 39) (v := ?_) [19, 20, 21, 22, 23, 24, 25] rfl rfl (by kernel_rfl) (by kernel_rfl) (by kernel_rfl) (by kernel_rfl) (fun _ _ _ h => h) (Or.inl ⟨by rfl, ?_⟩) (HSK.out _ (show Below wr.heap.size wr (World.drew wr) from (Below.refl _ _).drew)) ?_
      rotate_left 1
      · intro w hSw; clear hSw; go_simp <;> with_reducible rfl
      simp only [Act.put, List.setIfInBounds_toArray, List.set_cons_zero, List.set_cons_succ]
      refine Held.G_take (i := 20) (d := 40) (v := ?_) [20, 21, 22, 23, 24, 25] rfl rfl (by kernel_rfl) (by kernel_rfl) (by kernel_rfl) (by kernel_rfl) (fun _ _ _ h => h) (Or.inl ⟨by rfl, ?_⟩) (HSK.out _ (show Below wr.heap.size wr (World.drew wr) from (Below.refl _ _).drew)) ?_
      rotate_left 1
      · intro w hSw; clear hSw; go_simp <;> with_reducible rfl
      simp only [Act.put, List.setIfInBounds_toArray, List.set_cons_zero, List.set_cons_succ]
      refine Held.G_take (i := 21) (d := 41) (v := ?_) [21, 22, 23, 24, 25] rfl rfl (by kernel_rfl) (by kernel_rfl) (by kernel_rfl) (by kernel_rfl) (fun _ _ _ h => h) (Or.inl ⟨by rfl, ?_⟩) (HSK.out _ (show Below wr.heap.size wr (World.drew wr) from (Below.refl _ _).drew)) ?_
      rotate_left 1
      · intro w hSw; clear hSw; go_simp <;> with_reducible rfl
      simp only [Act.put, List.setIfInBounds_toArray, List.set_cons_zero, List.set_cons_succ]
      refine Held.G_take (i := 22) (d := 42) (v := ?_) [22, 23, 24, 25] rfl rfl (by kernel_rfl) (by kernel_rfl) (by kernel_rfl) (by kernel_rfl) (fun _ _ _ h => h) (Or.inl ⟨by rfl, ?_⟩) (HSK.out _ (show Below wr.heap.size wr (World.drew wr) from (Below.refl _ _).drew)) ?_
      rotate_left 1
      · intro w hSw; obtain ⟨⟨k0, k1⟩, k0', k1'⟩ := hSw; go_simp <;> with_reducible rfl
      simp only [Act.put, List.setIfInBounds_toArray, List.set_cons_zero, List.set_cons_succ]
      refine Held.G_take (i := 23) (d := 43) (v := ?_) [23, 24, 25] rfl rfl (by kernel_rfl) (by kernel_rfl) (by kernel_rfl) (by kernel_rfl) (fun _ _ _ h => h) (Or.inl ⟨by rfl, ?_⟩) (HSK.out _ (show Below wr.heap.size wr (World.drew wr) from (Below.refl _ _).drew)) ?_
      rotate_left 1
      · intro w hSw; clear hSw; go_simp <;> with_reducible rfl
      simp only [Act.put, List.setIfInBounds_toArray, List.set_cons_zero, List.set_cons_succ]
      refine Held.G_take (i := 24) (d := 44) (v := ?_) [24, 25] rfl rfl (by kernel_rfl) (by kernel_rfl) (by kernel_rfl) (by kernel_rfl) (fun _ _ _ h => h) (Or.inl ⟨by rfl, ?_⟩) (HSK.out _ (show Below wr.heap.size wr (World.drew wr) from (Below.refl _ _).drew)) ?_
      rotate_left 1
      · intro w hSw; clear hSw; go_simp <;> with_reducible rfl
      simp only [Act.put, List.setIfInBounds_toArray, List.set_cons_zero, List.set_cons_succ]
      refine Held.G_ready (rs := [25]) (by decide +kernel) (by simp) ?_
      refine Held.G_last rfl (fun KK hK => ?_) Held.G_nil
      go_simp
      refine hK _ _ ?_
      clear hK KK
      refine Held.G_done (by kernel_rfl) ?_ _
      go_wp2_with fail
      go_ret
      exact ⟨ret_bool HM.out.symm, HBW.out.trans ((show Below wr.heap.size wr (World.drew wr) from (Below.refl _ _).drew).mono HBW.out.size)⟩
    have qr : ((rs.length : Int) != (rs'.length : Int)) = false := by rw [bne_eq_false_iff_eq]; omega
    have HRLL := Lib.hid hrl
    have HNN := Lib.hid hnn
    clear hrl hnn
    go_upto_region 6 with fail
    refine wp_region_any (by kernel_rfl) ?_
    change wpAny _ _ _ _ _ _ _ (World.drew _)
    refine Held.any_of_G (S := (fun w' : World => (w'.cell? (ad.add (k * 2)) = some (.string nm) ∧ w'.cell? ⟨(ad.add (k * 2)).block, (ad.add (k * 2)).off + (0 + 1), none⟩ = some (.slice K rs.length c1)) ∧ (w'.cell? (ad'.add (k * 2)) = some (.string nm') ∧ w'.cell? ⟨(ad'.add (k * 2)).block, (ad'.add (k * 2)).off + (0 + 1), none⟩ = some (.slice K' rs'.length c1')))) (z := 25) _ _ _ _ ?_
    refine Held.G_take (i := 0) (d := 20) (v := ?_) [0, 2, 3, 4, 10, 11, 12, 13, 14, 15, 16, 17, 18, 19, 20, 21, 22, 23, 24, 25] rfl rfl (by kernel_rfl) (by kernel_rfl) (by kernel_rfl) (by kernel_rfl) (fun _ _ _ h => h) (Or.inl ⟨by rfl, ?_⟩) (HSK.out _ (show Below wr.heap.size wr (World.drew wr) from (Below.refl _ _).drew)) ?_
    rotate_left 1
    · intro w hSw; clear hSw; go_simp <;> with_reducible rfl
    simp only [Act.put, List.setIfInBounds_toArray, List.set_cons_zero, List.set_cons_succ]
    refine Held.G_take (i := 1) (d := 21) (v := ?_) [1, 2, 3, 4, 10, 11, 12, 13, 14, 15, 16, 17, 18, 19, 20, 21, 22, 23, 24, 25] rfl rfl (by kernel_rfl) (by kernel_rfl) (by kernel_rfl) (by kernel_rfl) (fun _ _ _ h => h) (Or.inl ⟨by rfl, ?_⟩) (HSK.out _ (show Below wr.heap.size wr (World.drew wr) from (Below.refl _ _).drew)) ?_
    rotate_left 1
    · intro w hSw; clear hSw; go_simp <;> with_reducible rfl
    simp only [Act.put, List.setIfInBounds_toArray, List.set_cons_zero, List.set_cons_succ]
    refine Held.G_take (i := 2) (d := 22) (v := ?_) [2, 3, 4, 10, 11, 12, 13, 14, 15, 16, 17, 18, 19, 20, 21, 22, 23, 24, 25] rfl rfl (by kernel_rfl) (by kernel_rfl) (by kernel_rfl) (by kernel_rfl) (fun _ _ _ h => h) (Or.inl ⟨by rfl, ?_⟩) (HSK.out _ (show Below wr.heap.size wr (World.drew wr) from (Below.refl _ _).drew)) ?_
    rotate_left 1
    · intro w hSw; clear hSw; go_simp <;> with_reducible rfl
    simp only [Act.put, List.setIfInBounds_toArray, List.set_cons_zero, List.set_cons_succ]
    refine Held.G_take (i := 3) (d := 23) (v := ?_) [3, 4, 10, 11, 12, 13, 14, 15, 16, 17, 18, 19, 20, 21, 22, 23, 24, 25] rfl rfl (by kernel_rfl) (by kernel_rfl) (by kernel_rfl) (by kernel_rfl) (fun _ _ _ h => h) (Or.inl ⟨by rfl, ?_⟩) (HSK.out _ (show Below wr.heap.size wr (World.drew wr) from (Below.refl _ _).drew)) ?_
    rotate_left 1
    · intro w hSw; clear hSw; go_simp <;> with_reducible rfl
    simp only [Act.put, List.setIfInBounds_toArray, List.set_cons_zero, List.set_cons_succ]
    refine Held.G_take (i := 4) (d := 24) (v := ?_) [4, 10, 11, 12, 13, 14, 15, 16, 17, 18, 19, 20, 21, 22, 23, 24, 25] rfl rfl (by kernel_rfl) (by kernel_rfl) (by kernel_rfl) (by kernel_rfl) (fun _ _ _ h => h) (Or.inl ⟨by rfl, ?_⟩) (HSK.out _ (show Below wr.heap.size wr (World.drew wr) from (Below.refl _ _).drew)) ?_
    rotate_left 1
    · intro w hSw; obtain ⟨⟨k0, k1⟩, k0', k1'⟩ := hSw; go_simp <;> with_reducible rfl
    simp only [Act.put, List.setIfInBounds_toArray, List.set_cons_zero, List.set_cons_succ]
    refine Held.G_take (i := 5) (d := 25) (v := ?_) [5, 7, 8, 9, 10, 11, 12, 13, 14, 15, 16, 17, 18, 19, 20, 21, 22, 23, 24, 25] rfl rfl (by kernel_rfl) (by kernel_rfl) (by kernel_rfl) (by kernel_rfl) (fun _ _ _ h => h) (Or.inl ⟨by rfl, ?_⟩) (HSK.out _ (show Below wr.heap.size wr (World.drew wr) from (Below.refl _ _).drew)) ?_
    rotate_left 1
    · intro w hSw; clear hSw; go_simp <;> with_reducible rfl
    simp only [Act.put, List.setIfInBounds_toArray, List.set_cons_zero, List.set_cons_succ]
    refine Held.G_take (i := 6) (d := 26) (v := ?_) [6, 7, 8, 9, 10, 11, 12, 13, 14, 15, 16, 17, 18, 19, 20, 21, 22, 23, 24, 25] rfl rfl (by kernel_rfl) (by kernel_rfl) (by kernel_rfl) (by kernel_rfl) (fun _ _ _ h => h) (Or.inl ⟨by rfl, ?_⟩) (HSK.out _ (show Below wr.heap.size wr (World.drew wr) from (Below.refl _ _).drew)) ?_
    rotate_left 1
    · intro w hSw; clear hSw; go_simp <;> with_reducible rfl
    simp only [Act.put, List.setIfInBounds_toArray, List.set_cons_zero, List.set_cons_succ]
    refine Held.G_take (i := 7) (d := 27) (v := ?_) [7, 8, 9, 10, 11, 12, 13, 14, 15, 16, 17, 18, 19, 20, 21, 22, 23, 24, 25] rfl rfl (by kernel_rfl) (by kernel_rfl) (by kernel_rfl) (by kernel_rfl) (fun _ _ _ h => h) (Or.inl ⟨by rfl, ?_⟩) (HSK.out _ (show Below wr.heap.size wr (World.drew wr) from (Below.refl _ _).drew)) ?_
    rotate_left 1
    · intro w hSw; clear hSw; go_simp <;> with_reducible rfl
    simp only [Act.put, List.setIfInBounds_toArray, List.set_cons_zero, List.set_cons_succ]
    refine Held.G_take (i := 8) (d := 28) (v := ?_) [8, 9, 10, 11, 12, 13, 14, 15, 16, 17, 18, 19, 20, 21, 22, 23, 24, 25] rfl rfl (by kernel_rfl) (by kernel_rfl) (by kernel_rfl) (by kernel_rfl) (fun _ _ _ h => h) (Or.inl ⟨by rfl, ?_⟩) (HSK.out _ (show Below wr.heap.size wr (World.drew wr) from (Below.refl _ _).drew)) ?_
    rotate_left 1
    · intro w hSw; clear hSw; go_simp <;> with_reducible rfl
    simp only [Act.put, List.setIfInBounds_toArray, List.set_cons_zero, List.set_cons_succ]
    refine Held.G_take (i := 9) (d := 29) (v := ?_) [9, 10, 11, 12, 13, 14, 15, 16, 17, 18, 19, 20, 21, 22, 23, 24, 25] rfl rfl (by kernel_rfl) (by kernel_rfl) (by kernel_rfl) (by kernel_rfl) (fun _ _ _ h => h) (Or.inl ⟨by rfl, ?_⟩) (HSK.out _ (show Below wr.heap.size wr (World.drew wr) from (Below.refl _ _).drew)) ?_
    rotate_left 1
    · intro w hSw; obtain ⟨⟨k0, k1⟩, k0', k1'⟩ := hSw; go_simp <;> with_reducible rfl
    simp only [Act.put, List.setIfInBounds_toArray, List.set_cons_zero, List.set_cons_succ]
    refine Held.G_take (i := 10) (d := 30) (v := ?_) [10, 11, 12, 13, 14, 15, 16, 17, 18, 19, 20, 21, 22, 23, 24, 25] rfl rfl (by kernel_rfl) (by kernel_rfl) (by kernel_rfl) (by kernel_rfl) (fun _ _ _ h => h) (Or.inl ⟨by rfl, ?_⟩) (HSK.out _ (show Below wr.heap.size wr (World.drew wr) from (Below.refl _ _).drew)) ?_
    rotate_left 1
    · intro w hSw; clear hSw; go_simp <;> with_reducible rfl
    simp only [Act.put, List.setIfInBounds_toArray, List.set_cons_zero, List.set_cons_succ]
    refine Held.G_take (i := 11) (d := 31) (v := ?_) [11, 12, 13, 14, 15, 16, 17, 18, 19, 20, 21, 22, 23, 24, 25] rfl rfl (by kernel_rfl) (by kernel_rfl) (by kernel_rfl) (by kernel_rfl) (fun _ _ _ h => h) (Or.inl ⟨by rfl, ?_⟩) (HSK.out _ (show Below wr.heap.size wr (World.drew wr) from (Below.refl _ _).drew)) ?_
    rotate_left 1
    · intro w hSw; clear hSw; go_simp <;> with_reducible rfl
    simp only [Act.put, List.setIfInBounds_toArray, List.set_cons_zero, List.set_cons_succ]
    refine Held.G_take (i := 12) (d := 32) (v := ?_) [12, 14, 15, 16, 17, 24, 25] rfl rfl (by kernel_rfl) (by kernel_rfl) (by kernel_rfl) (by kernel_rfl) (fun _ _ _ h => h) (Or.inl ⟨by rfl, ?_⟩) (HSK.out _ (show Below wr.heap.size wr (World.drew wr) from (Below.refl _ _).drew)) ?_
    rotate_left 1
    · intro w hSw; clear hSw; go_simp <;> with_reducible rfl
    simp only [Act.put, List.setIfInBounds_toArray, List.set_cons_zero, List.set_cons_succ]
    refine Held.G_take (i := 13) (d := 33) (v := ?_) [13, 14, 15, 16, 17, 24, 25] rfl rfl (by kernel_rfl) (by kernel_rfl) (by kernel_rfl) (by kernel_rfl) (fun _ _ _ h => h) (Or.inl ⟨by rfl, ?_⟩) (HSK.out _ (show Below wr.heap.size wr (World.drew wr) from (Below.refl _ _).drew)) ?_
    rotate_left 1
    · intro w hSw; clear hSw; go_simp <;> with_reducible rfl
    simp only [Act.put, List.setIfInBounds_toArray, List.set_cons_zero, List.set_cons_succ]
    refine Held.G_take (i := 14) (d := 34) (v := ?_) [14, 15, 16, 17, 24, 25] rfl rfl (by kernel_rfl) (by kernel_rfl) (by kernel_rfl) (by kernel_rfl) (fun _ _ _ h => h) (Or.inl ⟨by rfl, ?_⟩) (HSK.out _ (show Below wr.heap.size wr (World.drew wr) from (Below.refl _ _).drew)) ?_
    rotate_left 1
    · intro w hSw; clear hSw; go_simp <;> with_reducible rfl
    simp only [Act.put, List.setIfInBounds_toArray, List.set_cons_zero, List.set_cons_succ]
    refine Held.G_take (i := 15) (d := 35) (v := ?_) [15, 16, 17, 24, 25] rfl rfl (by kernel_rfl) (by kernel_rfl) (by kernel_rfl) (by kernel_rfl) (fun _ _ _ h => h) (Or.inl ⟨by rfl, ?_⟩) (HSK.out _ (show Below wr.heap.size wr (World.drew wr) from (Below.refl _ _).drew)) ?_
    rotate_left 1
    · intro w hSw; clear hSw; go_simp <;> with_reducible rfl
    simp only [Act.put, List.setIfInBounds_toArray, List.set_cons_zero, List.set_cons_succ]
    refine Held.G_take (i := 16) (d := 36) (v := ?_) [16, 17, 24, 25] rfl rfl (by kernel_rfl) (by kernel_rfl) (by kernel_rfl) (by kernel_rfl) (fun _ _ _ h => h) (Or.inl ⟨by rfl, ?_⟩) (HSK.out _ (show Below wr.heap.size wr (World.drew wr) from (Below.refl _ _).drew)) ?_
    rotate_left 1
    · intro w hSw; obtain ⟨⟨k0, k1⟩, k0', k1'⟩ := hSw; go_simp <;> with_reducible rfl
    simp only [Act.put, List.setIfInBounds_toArray, List.set_cons_zero, List.set_cons_succ]
    refine Held.G_take (i := 17) (d := 37) (v := ?_) [17, 24, 25] rfl rfl (by kernel_rfl) (by kernel_rfl) (by kernel_rfl) (by kernel_rfl) (fun _ _ _ h => h) (Or.inl ⟨by rfl, ?_⟩) (HSK.out _ (show Below wr.heap.size wr (World.drew wr) from (Below.refl _ _).drew)) ?_
    rotate_left 1
    · intro w hSw; clear hSw; go_simp <;> with_reducible rfl
    simp only [Act.put, List.setIfInBounds_toArray, List.set_cons_zero, List.set_cons_succ]
    refine Held.G_take (i := 18) (d := 38) (v := ?_) [18, 20, 21, 22, 23, 24, 25] rfl rfl (by kernel_rfl) (by kernel_rfl) (by kernel_rfl) (by kernel_rfl) (fun _ _ _ h => h) (Or.inl ⟨by rfl, ?_⟩) (HSK.out _ (show Below wr.heap.size wr (World.drew wr) from (Below.refl _ _).drew)) ?_
    rotate_left 1
    · intro w hSw; clear hSw; go_simp <;> with_reducible rfl
    simp only [Act.put, List.setIfInBounds_toArray, List.set_cons_zero, List.set_cons_succ]
    refine Held.G_take (i := 19) (d := 39) (v := ?_) [19, 20, 21, 22, 23, 24, 25] rfl rfl (by kernel_rfl) (by kernel_rfl) (by kernel_rfl) (by kernel_rfl) (fun _ _ _ h => h) (Or.inl ⟨by rfl, ?_⟩) (HSK.out _ (show Below wr.heap.size wr (World.drew wr) from (Below.refl _ _).drew)) ?_
    rotate_left 1
    · intro w hSw; clear hSw; go_simp <;> with_reducible rfl
    simp only [Act.put, List.setIfInBounds_toArray, List.set_cons_zero, List.set_cons_succ]
    refine Held.G_take (i := 20) (d := 40) (v := ?_) [20, 21, 22, 23, 24, 25] rfl rfl (by kernel_rfl) (by kernel_rfl) (by kernel_rfl) (by kernel_rfl) (fun _ _ _ h => h) (Or.inl ⟨by rfl, ?_⟩) (HSK.out _ (show Below wr.heap.size wr (World.drew wr) from (Below.refl _ _).drew)) ?_
    rotate_left 1
    · intro w hSw; clear hSw; go_simp <;> with_reducible rfl
    simp only [Act.put, List.setIfInBounds_toArray, List.set_cons_zero, List.set_cons_succ]
    refine Held.G_take (i := 21) (d := 41) (v := ?_) [21, 22, 23, 24, 25] rfl rfl (by kernel_rfl) (by kernel_rfl) (by kernel_rfl) (by kernel_rfl) (fun _ _ _ h => h) (Or.inl ⟨by rfl, ?_⟩) (HSK.out _ (show Below wr.heap.size wr (World.drew wr) from (Below.refl _ _).drew)) ?_
    rotate_left 1
    · intro w hSw; clear hSw; go_simp <;> with_reducible rfl
    simp only [Act.put, List.setIfInBounds_toArray, List.set_cons_zero, List.set_cons_succ]
    refine Held.G_take (i := 22) (d := 42) (v := ?_) [22, 23, 24, 25] rfl rfl (by kernel_rfl) (by kernel_rfl) (by kernel_rfl) (by kernel_rfl) (fun _ _ _ h => h) (Or.inl ⟨by rfl, ?_⟩) (HSK.out _ (show Below wr.heap.size wr (World.drew wr) from (Below.refl _ _).drew)) ?_
    rotate_left 1
    · intro w hSw; obtain ⟨⟨k0, k1⟩, k0', k1'⟩ := hSw; go_simp <;> with_reducible rfl
    simp only [Act.put, List.setIfInBounds_toArray, List.set_cons_zero, List.set_cons_succ]
    refine Held.G_take (i := 23) (d := 43) (v := ?_) [23, 24, 25] rfl rfl (by kernel_rfl) (by kernel_rfl) (by kernel_rfl) (by kernel_rfl) (fun _ _ _ h => h) (Or.inl ⟨by rfl, ?_⟩) (HSK.out _ (show Below wr.heap.size wr (World.drew wr) from (Below.refl _ _).drew)) ?_
    rotate_left 1
    · intro w hSw; clear hSw; go_simp <;> with_reducible rfl
    simp only [Act.put, List.setIfInBounds_toArray, List.set_cons_zero, List.set_cons_succ]
    refine Held.G_take (i := 24) (d := 44) (v := ?_) [24, 25] rfl rfl (by kernel_rfl) (by kernel_rfl) (by kernel_rfl) (by kernel_rfl) (fun _ _ _ h => h) (Or.inl ⟨by rfl, ?_⟩) (HSK.out _ (show Below wr.heap.size wr (World.drew wr) from (Below.refl _ _).drew)) ?_
    rotate_left 1
    · intro w hSw; clear hSw; go_simp <;> with_reducible rfl
    simp only [Act.put, List.setIfInBounds_toArray, List.set_cons_zero, List.set_cons_succ]
    refine Held.G_ready (rs := [25]) (by decide +kernel) (by simp) ?_
    refine Held.G_last rfl (fun KK hK => ?_) Held.G_nil
    go_simp
    refine hK _ _ ?_
    clear hK KK
    refine Held.G_done (by kernel_rfl) ?_ _
    go_wp2_with fail
    clear qr qn
    obtain ⟨wa, hwa⟩ : ∃ v, v = World.drew wr := ⟨_, rfl⟩
    rw [← hwa]
    have hba : Below wr.heap.size wr wa := by rw [hwa]; exact (Below.refl _ _).drew
    have HBA := Lib.hid hba
    clear hwa hba
    generalize wr = wz at *
    go_loopw [6] (fun i wr => ∃ m : Nat, m ≤ rs.length ∧ i = .int .i64 m ∧ rs.take m = rs'.take m ∧ Below wz.heap.size wz wr) (fun i _ => rs.length - (intOf i).toNat)
    case atStart => exact ⟨0, by omega, rfl, rfl, HBA.out⟩
    case round =>
      obtain ⟨m, hm, rfl, hpre, hB⟩ := hrel
      have HBV := Lib.hid hB
      obtain ⟨⟨k0, k1⟩, k0', k1'⟩ := HSK.out wr hB
      by_cases hlm : m < rs.length
      rotate_left
      · have HM := Lib.hid (HNX.out (by have h1 := HRLL.out; have h2 := HNN.out; rw [List.take_of_length_le (by omega), List.take_of_length_le (by omega)] at hpre; rw [h2, hpre]))
        clear hpre
        have hni : ¬ (m : Int) < (rs.length : Int) := by omega
        have HBX := Lib.hid (HBW.out.trans (HBV.out.mono HBW.out.size))
        go_wp2_with fail
        go_roundw
        case rel => exact ⟨trivial, k + 1, by have := HLT.out; omega, by go_num, HM.out, HBX.out⟩
        case measure => have := HLT.out; simp [intOf]; omega
      have hlm' : m < rs'.length := by have := HRLL.out; omega
      obtain ⟨bd, x1, x2, x3, x4, rfl, hrs, hy⟩ := rule_see (HRL.out.imp (see_later hB) fun _ _ _ h => h.imp (see_later hB)) m hlm
      obtain ⟨bd', x1', x2', x3', x4', rfl, hrs', hy'⟩ := rule_see (HRL'.out.imp (see_later hB) fun _ _ _ h => h.imp (see_later hB)) m hlm'
      have HNX2 := Lib.hid (show rs[m] = rs'[m] → rs.take (m + 1) = rs'.take (m + 1) from fun h => by rw [List.take_succ_eq_append_getElem hlm, List.take_succ_eq_append_getElem hlm', hpre, h])
      have HNO2 := Lib.hid (show rs[m] ≠ rs'[m] → decide (l = l') = false from fun h => HNO.out fun e => h (by injection e with _ e; subst e; rfl))
      have HLM := Lib.hid (Nat.not_le_of_lt hlm)
      have lmI : (m : Int) < (rs.length : Int) := by omega
      have lmI' : (m : Int) < (rs'.length : Int) := by omega
      clear hpre
      generalize rs[m] = rl at *
      generalize rs'[m] = rl' at *
      clear hlm'
      obtain ⟨rel, e⟩ := rl
      obtain ⟨rel', e'⟩ := rl'
      simp only at hrs hrs' hy hy'
      obtain ⟨Z, z, hxe, _⟩ := hy.open
      simp only [List.cons.injEq, and_true] at hxe
      obtain ⟨rfl, rfl, rfl, rfl⟩ := hxe
      obtain ⟨Z', z', hxe, _⟩ := hy'.open
      simp only [List.cons.injEq, and_true] at hxe
      obtain ⟨rfl, rfl, rfl, rfl⟩ := hxe
      have HSV := Lib.hid (fun (w' : World) (hw' : Below wr.heap.size wr w') => show ((w'.cell? (ad.add (k * 2)) = some (.string nm) ∧ w'.cell? ⟨(ad.add (k * 2)).block, (ad.add (k * 2)).off + (0 + 1), none⟩ = some (.slice (some bd) rs.length c1)) ∧ (w'.cell? (ad'.add (k * 2)) = some (.string nm') ∧ w'.cell? ⟨(ad'.add (k * 2)).block, (ad'.add (k * 2)).off + (0 + 1), none⟩ = some (.slice (some bd') rs'.length c1'))) ∧ (w'.cell? (bd.add (m * 5)) = some (.string rel) ∧ w'.cell? ⟨(bd.add (m * 5)).block, (bd.add (m * 5)).off + (0 + 1), none⟩ = some (.string (e).op) ∧ w'.cell? ⟨(bd.add (m * 5)).block, (bd.add (m * 5)).off + (1 + 1), none⟩ = some (.string (e).nm) ∧ w'.cell? ⟨(bd.add (m * 5)).block, (bd.add (m * 5)).off + (2 + 1), none⟩ = some (.string (e).fo) ∧ w'.cell? ⟨(bd.add (m * 5)).block, (bd.add (m * 5)).off + (3 + 1), none⟩ = some (.slice Z (e).ps.length z)) ∧ (w'.cell? (bd'.add (m * 5)) = some (.string rel') ∧ w'.cell? ⟨(bd'.add (m * 5)).block, (bd'.add (m * 5)).off + (0 + 1), none⟩ = some (.string (e').op) ∧ w'.cell? ⟨(bd'.add (m * 5)).block, (bd'.add (m * 5)).off + (1 + 1), none⟩ = some (.string (e').nm) ∧ w'.cell? ⟨(bd'.add (m * 5)).block, (bd'.add (m * 5)).off + (2 + 1), none⟩ = some (.string (e').fo) ∧ w'.cell? ⟨(bd'.add (m * 5)).block, (bd'.add (m * 5)).off + (3 + 1), none⟩ = some (.slice Z' (e').ps.length z')) from ⟨HSK.out w' (Below.step hB hw'), ⟨(hrs.below hw').at0, (hrs.below hw').at_ 0 rfl, (hrs.below hw').at_ 1 rfl, (hrs.below hw').at_ 2 rfl, (hrs.below hw').at_ 3 rfl⟩, ⟨(hrs'.below hw').at0, (hrs'.below hw').at_ 0 rfl, (hrs'.below hw').at_ 1 rfl, (hrs'.below hw').at_ 2 rfl, (hrs'.below hw').at_ 3 rfl⟩⟩)
      have HY := Lib.hid (fun (w' : World) (hw' : Below wr.heap.size wr w') => hy.later hw')
      have HY' := Lib.hid (fun (w' : World) (hw' : Below wr.heap.size wr w') => hy'.later hw')
      clear hrs hrs' hy hy' hB
      go_upto_region 11 with fail
      clear k0 k1 k0' k1'
      go_cut [7, 8] from 56 to 71 (fun s7 s8 wx => ∃ g7 g8 : Nat, s7 = .pointer (some ⟨g7, 0, none⟩) ∧ s8 = .pointer (some ⟨g8, 0, none⟩) ∧ wx.heap[g7]? = some (.cells #[.string rel, .string e.op, .string e.nm, .string e.fo, .slice Z e.ps.length z] 47 (0, 0)) ∧ wx.heap[g8]? = some (.cells #[.string rel', .string e'.op, .string e'.nm, .string e'.fo, .slice Z' e'.ps.length z'] 47 (0, 0)) ∧ Below wr.heap.size wr wx)
      case first =>
        refine wp_region_any (by kernel_rfl) ?_
        change wpAny _ _ _ _ _ _ _ (World.drew _)
        obtain ⟨u0, hu0⟩ : ∃ v, v = World.drew wr := ⟨_, rfl⟩
        rw [← hu0]
        have hB0 : Below wr.heap.size wr u0 := by rw [hu0]; exact (Below.refl _ _).drew
        clear hu0
        refine Held.any_of_G (S := (fun w' : World => ((w'.cell? (ad.add (k * 2)) = some (.string nm) ∧ w'.cell? ⟨(ad.add (k * 2)).block, (ad.add (k * 2)).off + (0 + 1), none⟩ = some (.slice (some bd) rs.length c1)) ∧ (w'.cell? (ad'.add (k * 2)) = some (.string nm') ∧ w'.cell? ⟨(ad'.add (k * 2)).block, (ad'.add (k * 2)).off + (0 + 1), none⟩ = some (.slice (some bd') rs'.length c1'))) ∧ (w'.cell? (bd.add (m * 5)) = some (.string rel) ∧ w'.cell? ⟨(bd.add (m * 5)).block, (bd.add (m * 5)).off + (0 + 1), none⟩ = some (.string (e).op) ∧ w'.cell? ⟨(bd.add (m * 5)).block, (bd.add (m * 5)).off + (1 + 1), none⟩ = some (.string (e).nm) ∧ w'.cell? ⟨(bd.add (m * 5)).block, (bd.add (m * 5)).off + (2 + 1), none⟩ = some (.string (e).fo) ∧ w'.cell? ⟨(bd.add (m * 5)).block, (bd.add (m * 5)).off + (3 + 1), none⟩ = some (.slice Z (e).ps.length z)) ∧ (w'.cell? (bd'.add (m * 5)) = some (.string rel') ∧ w'.cell? ⟨(bd'.add (m * 5)).block, (bd'.add (m * 5)).off + (0 + 1), none⟩ = some (.string (e').op) ∧ w'.cell? ⟨(bd'.add (m * 5)).block, (bd'.add (m * 5)).off + (1 + 1), none⟩ = some (.string (e').nm) ∧ w'.cell? ⟨(bd'.add (m * 5)).block, (bd'.add (m * 5)).off + (2 + 1), none⟩ = some (.string (e').fo) ∧ w'.cell? ⟨(bd'.add (m * 5)).block, (bd'.add (m * 5)).off + (3 + 1), none⟩ = some (.slice Z' (e').ps.length z')))) (z := 19) _ _ _ _ ?_
        refine Held.G_take (i := 0) (d := 56) (v := ?_) [0, 2, 3, 4, 6, 7, 18, 19] rfl rfl (by kernel_rfl) (by kernel_rfl) (by kernel_rfl) (by kernel_rfl) (fun _ _ _ h => h) (Or.inl ⟨by rfl, ?_⟩) (HSV.out _ hB0) ?_
        rotate_left 1
        · intro w hSw; clear hSw; go_simp <;> with_reducible rfl
        simp only [Act.put, List.setIfInBounds_toArray, List.set_cons_zero, List.set_cons_succ]
        refine Held.G_take (i := 1) (d := 57) (v := ?_) [1, 2, 3, 4, 6, 7, 18, 19] rfl rfl (by kernel_rfl) (by kernel_rfl) (by kernel_rfl) (by kernel_rfl) (fun _ _ _ h => h) (Or.inl ⟨by rfl, ?_⟩) (HSV.out _ hB0) ?_
        rotate_left 1
        · intro w hSw; clear hSw; go_simp <;> with_reducible rfl
        simp only [Act.put, List.setIfInBounds_toArray, List.set_cons_zero, List.set_cons_succ]
        refine Held.G_take (i := 2) (d := 58) (v := ?_) [2, 3, 4, 6, 7, 18, 19] rfl rfl (by kernel_rfl) (by kernel_rfl) (by kernel_rfl) (by kernel_rfl) (fun _ _ _ h => h) (Or.inl ⟨by rfl, ?_⟩) (HSV.out _ hB0) ?_
        rotate_left 1
        · intro w hSw; clear hSw; go_simp <;> with_reducible rfl
        simp only [Act.put, List.setIfInBounds_toArray, List.set_cons_zero, List.set_cons_succ]
        refine Held.G_take (i := 3) (d := 59) (v := ?_) [3, 4, 6, 7, 18, 19] rfl rfl (by kernel_rfl) (by kernel_rfl) (by kernel_rfl) (by kernel_rfl) (fun _ _ _ h => h) (Or.inl ⟨by rfl, ?_⟩) (HSV.out _ hB0) ?_
        rotate_left 1
        · intro w hSw; clear hSw; go_simp <;> with_reducible rfl
        simp only [Act.put, List.setIfInBounds_toArray, List.set_cons_zero, List.set_cons_succ]
        refine Held.G_take (i := 4) (d := 60) (v := ?_) [4, 6, 7, 18, 19] rfl rfl (by kernel_rfl) (by kernel_rfl) (by kernel_rfl) (by kernel_rfl) (fun _ _ _ h => h) (Or.inl ⟨by rfl, ?_⟩) (HSV.out _ hB0) ?_
        rotate_left 1
        · intro w hSw; obtain ⟨⟨⟨k0, k1⟩, k0', k1'⟩, ⟨r0, r1, r2, r3, r4⟩, r0', r1', r2', r3', r4'⟩ := hSw; go_simp <;> with_reducible rfl
        simp only [Act.put, List.setIfInBounds_toArray, List.set_cons_zero, List.set_cons_succ]
        refine Held.G_take (i := 5) (d := 61) (v := ?_) [5, 6, 7, 18, 19] rfl rfl (by kernel_rfl) (by kernel_rfl) (by kernel_rfl) (by kernel_rfl) (fun _ _ _ h => h) (Or.inl ⟨by rfl, ?_⟩) (HSV.out _ hB0) ?_
        rotate_left 1
        · intro w hSw; clear hSw; go_simp <;> with_reducible rfl
        simp only [Act.put, List.setIfInBounds_toArray, List.set_cons_zero, List.set_cons_succ]
        refine Held.G_take (i := 6) (d := 62) (v := ?_) [6, 7, 18, 19] rfl rfl (by kernel_rfl) (by kernel_rfl) (by kernel_rfl) (by kernel_rfl) (fun _ _ _ h => h) (Or.inl ⟨by rfl, ?_⟩) (HSV.out _ hB0) ?_
        rotate_left 1
        · intro w hSw; clear hSw; go_simp <;> with_reducible rfl
        simp only [Act.put, List.setIfInBounds_toArray, List.set_cons_zero, List.set_cons_succ]
        refine Held.G_take (i := 7) (d := 63) (v := ?_) [7, 18, 19] rfl rfl (by kernel_rfl) (by kernel_rfl) (by kernel_rfl) (by kernel_rfl) (fun _ _ _ h => h) (Or.inl ⟨by rfl, ?_⟩) (HSV.out _ hB0) ?_
        rotate_left 1
        · intro w hSw; obtain ⟨⟨⟨k0, k1⟩, k0', k1'⟩, ⟨r0, r1, r2, r3, r4⟩, r0', r1', r2', r3', r4'⟩ := hSw; go_simp <;> with_reducible rfl
        simp only [Act.put, List.setIfInBounds_toArray, List.set_cons_zero, List.set_cons_succ]
        refine Held.G_take (i := 8) (d := 64) (v := ?_) [8, 10, 11, 12, 14, 15, 19] rfl rfl (by kernel_rfl) (by kernel_rfl) (by kernel_rfl) (by kernel_rfl) (fun _ _ _ h => h) (Or.inl ⟨by rfl, ?_⟩) (HSV.out _ hB0) ?_
        rotate_left 1
        · intro w hSw; clear hSw; go_simp <;> with_reducible rfl
        simp only [Act.put, List.setIfInBounds_toArray, List.set_cons_zero, List.set_cons_succ]
        refine Held.G_take (i := 9) (d := 65) (v := ?_) [9, 10, 11, 12, 14, 15, 19] rfl rfl (by kernel_rfl) (by kernel_rfl) (by kernel_rfl) (by kernel_rfl) (fun _ _ _ h => h) (Or.inl ⟨by rfl, ?_⟩) (HSV.out _ hB0) ?_
        rotate_left 1
        · intro w hSw; clear hSw; go_simp <;> with_reducible rfl
        simp only [Act.put, List.setIfInBounds_toArray, List.set_cons_zero, List.set_cons_succ]
        refine Held.G_take (i := 10) (d := 66) (v := ?_) [10, 11, 12, 14, 15, 19] rfl rfl (by kernel_rfl) (by kernel_rfl) (by kernel_rfl) (by kernel_rfl) (fun _ _ _ h => h) (Or.inl ⟨by rfl, ?_⟩) (HSV.out _ hB0) ?_
        rotate_left 1
        · intro w hSw; clear hSw; go_simp <;> with_reducible rfl
        simp only [Act.put, List.setIfInBounds_toArray, List.set_cons_zero, List.set_cons_succ]
        refine Held.G_take (i := 11) (d := 67) (v := ?_) [11, 12, 14, 15, 19] rfl rfl (by kernel_rfl) (by kernel_rfl) (by kernel_rfl) (by kernel_rfl) (fun _ _ _ h => h) (Or.inl ⟨by rfl, ?_⟩) (HSV.out _ hB0) ?_
        rotate_left 1
        · intro w hSw; clear hSw; go_simp <;> with_reducible rfl
        simp only [Act.put, List.setIfInBounds_toArray, List.set_cons_zero, List.set_cons_succ]
        refine Held.G_take (i := 12) (d := 68) (v := ?_) [12, 14, 15, 19] rfl rfl (by kernel_rfl) (by kernel_rfl) (by kernel_rfl) (by kernel_rfl) (fun _ _ _ h => h) (Or.inl ⟨by rfl, ?_⟩) (HSV.out _ hB0) ?_
        rotate_left 1
        · intro w hSw; obtain ⟨⟨⟨k0, k1⟩, k0', k1'⟩, ⟨r0, r1, r2, r3, r4⟩, r0', r1', r2', r3', r4'⟩ := hSw; go_simp <;> with_reducible rfl
        simp only [Act.put, List.setIfInBounds_toArray, List.set_cons_zero, List.set_cons_succ]
        refine Held.G_take (i := 13) (d := 69) (v := ?_) [13, 14, 15, 19] rfl rfl (by kernel_rfl) (by kernel_rfl) (by kernel_rfl) (by kernel_rfl) (fun _ _ _ h => h) (Or.inl ⟨by rfl, ?_⟩) (HSV.out _ hB0) ?_
        rotate_left 1
        · intro w hSw; clear hSw; go_simp <;> with_reducible rfl
        simp only [Act.put, List.setIfInBounds_toArray, List.set_cons_zero, List.set_cons_succ]
        refine Held.G_take (i := 14) (d := 70) (v := ?_) [14, 15, 19] rfl rfl (by kernel_rfl) (by kernel_rfl) (by kernel_rfl) (by kernel_rfl) (fun _ _ _ h => h) (Or.inl ⟨by rfl, ?_⟩) (HSV.out _ hB0) ?_
        rotate_left 1
        · intro w hSw; clear hSw; go_simp <;> with_reducible rfl
        simp only [Act.put, List.setIfInBounds_toArray, List.set_cons_zero, List.set_cons_succ]
        refine Held.G_take (i := 15) (d := 71) (v := ?_) [15, 19] rfl rfl (by kernel_rfl) (by kernel_rfl) (by kernel_rfl) (by kernel_rfl) (fun _ _ _ h => h) (Or.inl ⟨by rfl, ?_⟩) (HSV.out _ hB0) ?_
        rotate_left 1
        · intro w hSw; obtain ⟨⟨⟨k0, k1⟩, k0', k1'⟩, ⟨r0, r1, r2, r3, r4⟩, r0', r1', r2', r3', r4'⟩ := hSw; go_simp <;> with_reducible rfl
        simp only [Act.put, List.setIfInBounds_toArray, List.set_cons_zero, List.set_cons_succ]
        refine Held.G_ready (rs := [16, 17]) (by decide +kernel) (by simp) ?_
        refine Held.G_cons rfl (fun KK hK => ?_) ?_
        · go_simp
          refine hK _ _ ?_
          clear hK KK
          obtain ⟨u1, hw⟩ : ∃ v, v = u0.alloc (.cells #[.string ⟨#[]⟩, .string ⟨#[]⟩, .string ⟨#[]⟩, .string ⟨#[]⟩, .slice none 0 0] 47) := ⟨_, rfl⟩
          rw [← hw]
          have bb : Below u0.heap.size u0 u1 := by rw [hw]; exact al _ _
          obtain ⟨g7, hg⟩ : ∃ v, v = u0.heap.size := ⟨_, rfl⟩
          rw [← hg]
          have a7 : u1.heap[g7]? = some (.cells #[.string ⟨#[]⟩, .string ⟨#[]⟩, .string ⟨#[]⟩, .string ⟨#[]⟩, .slice none 0 0] 47 (0, 0)) := by rw [hw, hg]; exact heap_alloc_new u0 _
          have l7 : wr.heap.size ≤ g7 := by rw [hg]; exact hB0.size
          have hB1 := Below.step hB0 bb
          clear hw hg bb
          refine ⟨(HSV.out _ hB1), ?_⟩
          refine Held.G_ready (rs := [17]) (by decide +kernel) (by simp) ?_
          refine Held.G_cons rfl (fun KK hK => ?_) Held.G_nil
          go_simp
          refine hK _ _ ?_
          clear hK KK
          obtain ⟨u2, hw⟩ : ∃ v, v = u1.alloc (.cells #[.string ⟨#[]⟩, .string ⟨#[]⟩, .string ⟨#[]⟩, .string ⟨#[]⟩, .slice none 0 0] 47) := ⟨_, rfl⟩
          rw [← hw]
          have bb : Below u1.heap.size u1 u2 := by rw [hw]; exact al _ _
          obtain ⟨g8, hg⟩ : ∃ v, v = u1.heap.size := ⟨_, rfl⟩
          rw [← hg]
          have a8 : u2.heap[g8]? = some (.cells #[.string ⟨#[]⟩, .string ⟨#[]⟩, .string ⟨#[]⟩, .string ⟨#[]⟩, .slice none 0 0] 47 (0, 0)) := by rw [hw, hg]; exact heap_alloc_new u1 _
          have l8 : wr.heap.size ≤ g8 := by rw [hg]; exact hB1.size
          have lt := (Array.getElem?_eq_some_iff.1 a7).1
          have hne : g7 ≠ g8 := by omega
          have a7 := (bb.block g7 lt).trans a7
          clear lt
          have hB2 := Below.step hB1 bb
          clear hw hg bb
          refine ⟨(HSV.out _ hB2), ?_⟩
          refine Held.G_ready (rs := [18]) (by decide +kernel) (by simp) ?_
          refine Held.G_cons rfl (fun KK hK => ?_) Held.G_nil
          have f0 : u2.frozen? ⟨g7, 0, none⟩ = false := by simp [World.frozen?, a7]
          have f1 : u2.frozen? ⟨g7, 1, none⟩ = false := by simp [World.frozen?, a7]
          have f2 : u2.frozen? ⟨g7, 2, none⟩ = false := by simp [World.frozen?, a7]
          have f3 : u2.frozen? ⟨g7, 3, none⟩ = false := by simp [World.frozen?, a7]
          have f4 : u2.frozen? ⟨g7, 4, none⟩ = false := by simp [World.frozen?, a7]
          obtain ⟨d0, d1, d2, d3, d4⟩ := five_at a7
          go_simp
          refine hK _ _ ?_
          clear hK KK f0 f1 f2 f3 f4 d0 d1 d2 d3 d4
          obtain ⟨u3, hw⟩ : ∃ v, v = (((((u2.setCell ⟨g7, 0, none⟩ (.string rel)).setCell ⟨g7, 1, none⟩ (.string e.op)).setCell ⟨g7, 2, none⟩ (.string e.nm)).setCell ⟨g7, 3, none⟩ (.string e.fo)).setCell ⟨g7, 4, none⟩ (.slice Z e.ps.length z)) := ⟨_, rfl⟩
          rw [← hw]
          have a7' : u3.heap[g7]? = some (.cells #[.string rel, .string e.op, .string e.nm, .string e.fo, .slice Z e.ps.length z] 47 (0, 0)) := by rw [hw]; exact set5 a7 _ _ _ _ _
          have a8' : u3.heap[g8]? = some (.cells #[.string ⟨#[]⟩, .string ⟨#[]⟩, .string ⟨#[]⟩, .string ⟨#[]⟩, .slice none 0 0] 47 (0, 0)) := by rw [hw]; exact (Below.heap_setCell _ _ _ _ hne.symm).trans ((Below.heap_setCell _ _ _ _ hne.symm).trans ((Below.heap_setCell _ _ _ _ hne.symm).trans ((Below.heap_setCell _ _ _ _ hne.symm).trans ((Below.heap_setCell _ _ _ _ hne.symm).trans (a8)))))
          have hB3 : Below wr.heap.size wr u3 := by rw [hw]; exact below5 hB2 l7 _ _ _ _ _
          clear hw a7 a8
          have a7 := a7'
          have a8 := a8'
          clear a7' a8'
          refine ⟨(HSV.out _ hB3), ?_⟩
          refine Held.G_ready (rs := [19]) (by decide +kernel) (by simp) ?_
          refine Held.G_last rfl (fun KK hK => ?_) Held.G_nil
          have f0 : u3.frozen? ⟨g8, 0, none⟩ = false := by simp [World.frozen?, a8]
          have f1 : u3.frozen? ⟨g8, 1, none⟩ = false := by simp [World.frozen?, a8]
          have f2 : u3.frozen? ⟨g8, 2, none⟩ = false := by simp [World.frozen?, a8]
          have f3 : u3.frozen? ⟨g8, 3, none⟩ = false := by simp [World.frozen?, a8]
          have f4 : u3.frozen? ⟨g8, 4, none⟩ = false := by simp [World.frozen?, a8]
          obtain ⟨d0, d1, d2, d3, d4⟩ := five_at a8
          go_simp
          refine hK _ _ ?_
          clear hK KK f0 f1 f2 f3 f4 d0 d1 d2 d3 d4
          obtain ⟨u4, hw⟩ : ∃ v, v = (((((u3.setCell ⟨g8, 0, none⟩ (.string rel')).setCell ⟨g8, 1, none⟩ (.string e'.op)).setCell ⟨g8, 2, none⟩ (.string e'.nm)).setCell ⟨g8, 3, none⟩ (.string e'.fo)).setCell ⟨g8, 4, none⟩ (.slice Z' e'.ps.length z')) := ⟨_, rfl⟩
          rw [← hw]
          have a8' : u4.heap[g8]? = some (.cells #[.string rel', .string e'.op, .string e'.nm, .string e'.fo, .slice Z' e'.ps.length z'] 47 (0, 0)) := by rw [hw]; exact set5 a8 _ _ _ _ _
          have a7' : u4.heap[g7]? = some (.cells #[.string rel, .string e.op, .string e.nm, .string e.fo, .slice Z e.ps.length z] 47 (0, 0)) := by rw [hw]; exact (Below.heap_setCell _ _ _ _ hne).trans ((Below.heap_setCell _ _ _ _ hne).trans ((Below.heap_setCell _ _ _ _ hne).trans ((Below.heap_setCell _ _ _ _ hne).trans ((Below.heap_setCell _ _ _ _ hne).trans (a7)))))
          have hB4 : Below wr.heap.size wr u4 := by rw [hw]; exact below5 hB3 l8 _ _ _ _ _
          clear hw a7 a8
          have a7 := a7'
          have a8 := a8'
          clear a7' a8'
          refine Held.G_done (by kernel_rfl) ?_ _
          go_wp2_with fail
          go_meet
          exact ⟨g7, g8, rfl, rfl, a7, a8, hB4⟩
        refine Held.G_cons rfl (fun KK hK => ?_) Held.G_nil
        go_simp
        refine hK _ _ ?_
        clear hK KK
        obtain ⟨u1, hw⟩ : ∃ v, v = u0.alloc (.cells #[.string ⟨#[]⟩, .string ⟨#[]⟩, .string ⟨#[]⟩, .string ⟨#[]⟩, .slice none 0 0] 47) := ⟨_, rfl⟩
        rw [← hw]
        have bb : Below u0.heap.size u0 u1 := by rw [hw]; exact al _ _
        obtain ⟨g8, hg⟩ : ∃ v, v = u0.heap.size := ⟨_, rfl⟩
        rw [← hg]
        have a8 : u1.heap[g8]? = some (.cells #[.string ⟨#[]⟩, .string ⟨#[]⟩, .string ⟨#[]⟩, .string ⟨#[]⟩, .slice none 0 0] 47 (0, 0)) := by rw [hw, hg]; exact heap_alloc_new u0 _
        have l8 : wr.heap.size ≤ g8 := by rw [hg]; exact hB0.size
        have hB1 := Below.step hB0 bb
        clear hw hg bb
        refine ⟨(HSV.out _ hB1), ?_⟩
        refine Held.G_ready (rs := [16]) (by decide +kernel) (by simp) ?_
        refine Held.G_cons rfl (fun KK hK => ?_) Held.G_nil
        go_simp
        refine hK _ _ ?_
        clear hK KK
        obtain ⟨u2, hw⟩ : ∃ v, v = u1.alloc (.cells #[.string ⟨#[]⟩, .string ⟨#[]⟩, .string ⟨#[]⟩, .string ⟨#[]⟩, .slice none 0 0] 47) := ⟨_, rfl⟩
        rw [← hw]
        have bb : Below u1.heap.size u1 u2 := by rw [hw]; exact al _ _
        obtain ⟨g7, hg⟩ : ∃ v, v = u1.heap.size := ⟨_, rfl⟩
        rw [← hg]
        have a7 : u2.heap[g7]? = some (.cells #[.string ⟨#[]⟩, .string ⟨#[]⟩, .string ⟨#[]⟩, .string ⟨#[]⟩, .slice none 0 0] 47 (0, 0)) := by rw [hw, hg]; exact heap_alloc_new u1 _
        have l7 : wr.heap.size ≤ g7 := by rw [hg]; exact hB1.size
        have lt := (Array.getElem?_eq_some_iff.1 a8).1
        have hne : g7 ≠ g8 := by omega
        have a8 := (bb.block g8 lt).trans a8
        clear lt
        have hB2 := Below.step hB1 bb
        clear hw hg bb
        refine ⟨(HSV.out _ hB2), ?_⟩
        refine Held.G_ready (rs := [18]) (by decide +kernel) (by simp) ?_
        refine Held.G_cons rfl (fun KK hK => ?_) Held.G_nil
        have f0 : u2.frozen? ⟨g7, 0, none⟩ = false := by simp [World.frozen?, a7]
        have f1 : u2.frozen? ⟨g7, 1, none⟩ = false := by simp [World.frozen?, a7]
        have f2 : u2.frozen? ⟨g7, 2, none⟩ = false := by simp [World.frozen?, a7]
        have f3 : u2.frozen? ⟨g7, 3, none⟩ = false := by simp [World.frozen?, a7]
        have f4 : u2.frozen? ⟨g7, 4, none⟩ = false := by simp [World.frozen?, a7]
        obtain ⟨d0, d1, d2, d3, d4⟩ := five_at a7
        go_simp
        refine hK _ _ ?_
        clear hK KK f0 f1 f2 f3 f4 d0 d1 d2 d3 d4
        obtain ⟨u3, hw⟩ : ∃ v, v = (((((u2.setCell ⟨g7, 0, none⟩ (.string rel)).setCell ⟨g7, 1, none⟩ (.string e.op)).setCell ⟨g7, 2, none⟩ (.string e.nm)).setCell ⟨g7, 3, none⟩ (.string e.fo)).setCell ⟨g7, 4, none⟩ (.slice Z e.ps.length z)) := ⟨_, rfl⟩
        rw [← hw]
        have a7' : u3.heap[g7]? = some (.cells #[.string rel, .string e.op, .string e.nm, .string e.fo, .slice Z e.ps.length z] 47 (0, 0)) := by rw [hw]; exact set5 a7 _ _ _ _ _
        have a8' : u3.heap[g8]? = some (.cells #[.string ⟨#[]⟩, .string ⟨#[]⟩, .string ⟨#[]⟩, .string ⟨#[]⟩, .slice none 0 0] 47 (0, 0)) := by rw [hw]; exact (Below.heap_setCell _ _ _ _ hne.symm).trans ((Below.heap_setCell _ _ _ _ hne.symm).trans ((Below.heap_setCell _ _ _ _ hne.symm).trans ((Below.heap_setCell _ _ _ _ hne.symm).trans ((Below.heap_setCell _ _ _ _ hne.symm).trans (a8)))))
        have hB3 : Below wr.heap.size wr u3 := by rw [hw]; exact below5 hB2 l7 _ _ _ _ _
        clear hw a7 a8
        have a7 := a7'
        have a8 := a8'
        clear a7' a8'
        refine ⟨(HSV.out _ hB3), ?_⟩
        refine Held.G_ready (rs := [19]) (by decide +kernel) (by simp) ?_
        refine Held.G_last rfl (fun KK hK => ?_) Held.G_nil
        have f0 : u3.frozen? ⟨g8, 0, none⟩ = false := by simp [World.frozen?, a8]
        have f1 : u3.frozen? ⟨g8, 1, none⟩ = false := by simp [World.frozen?, a8]
        have f2 : u3.frozen? ⟨g8, 2, none⟩ = false := by simp [World.frozen?, a8]
        have f3 : u3.frozen? ⟨g8, 3, none⟩ = false := by simp [World.frozen?, a8]
        have f4 : u3.frozen? ⟨g8, 4, none⟩ = false := by simp [World.frozen?, a8]
        obtain ⟨d0, d1, d2, d3, d4⟩ := five_at a8
        go_simp
        refine hK _ _ ?_
        clear hK KK f0 f1 f2 f3 f4 d0 d1 d2 d3 d4
        obtain ⟨u4, hw⟩ : ∃ v, v = (((((u3.setCell ⟨g8, 0, none⟩ (.string rel')).setCell ⟨g8, 1, none⟩ (.string e'.op)).setCell ⟨g8, 2, none⟩ (.string e'.nm)).setCell ⟨g8, 3, none⟩ (.string e'.fo)).setCell ⟨g8, 4, none⟩ (.slice Z' e'.ps.length z')) := ⟨_, rfl⟩
        rw [← hw]
        have a8' : u4.heap[g8]? = some (.cells #[.string rel', .string e'.op, .string e'.nm, .string e'.fo, .slice Z' e'.ps.length z'] 47 (0, 0)) := by rw [hw]; exact set5 a8 _ _ _ _ _
        have a7' : u4.heap[g7]? = some (.cells #[.string rel, .string e.op, .string e.nm, .string e.fo, .slice Z e.ps.length z] 47 (0, 0)) := by rw [hw]; exact (Below.heap_setCell _ _ _ _ hne).trans ((Below.heap_setCell _ _ _ _ hne).trans ((Below.heap_setCell _ _ _ _ hne).trans ((Below.heap_setCell _ _ _ _ hne).trans ((Below.heap_setCell _ _ _ _ hne).trans (a7)))))
        have hB4 : Below wr.heap.size wr u4 := by rw [hw]; exact below5 hB3 l8 _ _ _ _ _
        clear hw a7 a8
        have a7 := a7'
        have a8 := a8'
        clear a7' a8'
        refine Held.G_done (by kernel_rfl) ?_ _
        go_wp2_with fail
        go_meet
        exact ⟨g7, g8, rfl, rfl, a7, a8, hB4⟩
      case rest =>
        obtain ⟨g7, g8, rfl, rfl, a7, a8, hBc⟩ := hcut
        have HBC := Lib.hid hBc
        obtain ⟨p0, p1, p2, p3, p4⟩ := five_at a7
        obtain ⟨q0, q1, q2, q3, q4⟩ := five_at a8
        have hcall := refSame_any e.size e _ e' _ wc (Nat.le_refl _) (HY.out wc hBc) (HY'.out wc hBc)
        clear a7 a8 hBc
        have hbq := Ex.beq_iff e e'
        have qr := Str.ba_beq rel rel'
        by_cases hrr : rel = rel'
        rotate_left
        · rw [decide_eq_false hrr] at qr
          have HM := Lib.hid (HNO2.out fun h => hrr (by injection h))
          clear hrr hbq hcall
          go_wp2_with fail
          go_ret
          exact ⟨ret_bool HM.out.symm, HBW.out.trans ((Below.step HBV.out HBC.out).mono HBW.out.size)⟩
        rw [decide_eq_true hrr] at qr
        obtain ⟨sb, hsb⟩ : ∃ v, Ex.beq e e' = v := ⟨_, rfl⟩
        rw [hsb] at hcall hbq
        have HBQ := Lib.hid hbq
        have HRR := Lib.hid hrr
        clear hsb hbq hrr
        go_wp2_with fail
        (with_reducible refine hcall.mono ?_)
        clear hcall p0 p1 p2 p3 p4 q0 q1 q2 q3 q4 qr
        rintro e9 w2 ⟨rfl, hb⟩
        have HB2 := Lib.hid (Below.step HBC.out hb)
        clear hb
        cases sb with
        | false =>
          have HM := Lib.hid (HNO2.out fun h => by injection h with _ h; exact absurd (HBQ.out.2 h) (by decide))
          go_wp2_with fail
          go_ret
          exact ⟨ret_bool HM.out.symm, HBW.out.trans ((Below.step HBV.out HB2.out).mono HBW.out.size)⟩
        | true =>
          have HM := Lib.hid (HNX2.out (by rw [HRR.out, HBQ.out.1 rfl]))
          have HBX := Lib.hid (Below.step HBV.out HB2.out)
          go_wp2_with fail
          go_roundw
          case rel => exact ⟨m + 1, by have := HLM.out; omega, by go_num, HM.out, HBX.out⟩
          case measure => have := HLM.out; simp [intOf]; omega
end Go.Proofs.YtkmnbdomikpakaaDoor.RuleAlike
