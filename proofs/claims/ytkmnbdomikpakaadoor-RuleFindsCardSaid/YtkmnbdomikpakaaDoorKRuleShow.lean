/- The document's Show for rules. -/
import Derived.Test.YtkmnbdomikpakaaDoorKHeld
import Derived.Test.YtkmnbdomikpakaaDoorKRuleFew
namespace Go.Proofs.YtkmnbdomikpakaaDoor.RuleShow
open Go.RowKit Base KeyPlain TuplePlain TupleRef RulePlain RuleMem RuleRec RuleFew

theorem show_take' (l : List Kd) (i : Nat) (h : i < l.length) : show_ (l.take (i + 1)) = show_ (l.take i) ++ (l[i]).text := by
  unfold show_
  rw [List.take_succ_eq_append_getElem h, List.flatMap_append]
  simp
theorem show_cut (l : List Kd) (i : Nat) : (show_ (l.take i)).length ≤ (show_ l).length := by
  have e : show_ l = show_ (l.take i) ++ show_ (l.drop i) := by
    unfold show_
    rw [← List.flatMap_append, List.take_append_drop]
  rw [e, List.length_append]
  omega
theorem rules_take (rs : List Rl) (i : Nat) (h : i < rs.length) : (rs.take (i + 1)).flatMap Rl.text = (rs.take i).flatMap Rl.text ++ (rs[i]).text := by
  rw [List.take_succ_eq_append_getElem h, List.flatMap_append]
  simp
theorem rules_cut (rs : List Rl) (i : Nat) : ((rs.take i).flatMap Rl.text).length ≤ (rs.flatMap Rl.text).length := by
  have e : rs.flatMap Rl.text = (rs.take i).flatMap Rl.text ++ (rs.drop i).flatMap Rl.text := by
    rw [← List.flatMap_append, List.take_append_drop]
  rw [e, List.length_append]
  omega
set_option maxRecDepth 100000 in
set_option maxHeartbeats 25600000 in
theorem refShow_any (A : Option Addr) (c : Nat) (l : List Kd) (w : World) (hL : LayL w w.heap.size A l) (hn : l.length ≤ maxLen) (hz : (show_ l).length ≤ 100000000) (ht : ∀ k, k ∈ l → ∀ r, r ∈ k.rules → r.e.text.length ≤ 1000000) :
    Calls Tryd.prog 12 #[.slice A l.length c] w fun e w' => e = .returned (.string ⟨(show_ l).toArray⟩) ∧ Below w.heap.size w w' := by
  unfold maxLen at hn
  have HL := Lib.hid (fun (w' : World) (hw' : Below w.heap.size w w') => hL.later hw')
  have HZ := Lib.hid hz
  have HT := Lib.hid ht
  clear hL hz ht
  go_enter Tryd.func12, Tryd.ntmps12
  go_wp2_with fail
  go_loopw [3, 4, 5] (fun t i b wr => b = b ∧ ∃ (k : Nat) (s0 : ByteArray), k ≤ l.length ∧ i = .int .i64 k ∧ t = .string s0 ∧ bl s0 = show_ (l.take k) ∧ Below w.heap.size w wr) (fun _ i _ _ => l.length - (intOf i).toNat)
  case atStart => exact ⟨rfl, 0, _, by omega, rfl, rfl, rfl, Below.refl _ _⟩
  case round =>
    obtain ⟨_, k, s0, hk, rfl, rfl, hs0, hB⟩ := hrel
    have HBW := Lib.hid hB
    by_cases hlt : k < l.length
    rotate_left
    · have hni : ¬ (k : Int) < (l.length : Int) := by omega
      have HM := Lib.hid (show s0 = ⟨(show_ l).toArray⟩ from ba_of (by rw [hs0, List.take_of_length_le (by omega)]))
      clear hs0
      go_wp2_with fail
      go_ret
      exact ⟨ret_str HM.out, HBW.out⟩
    have HLT := Lib.hid (Nat.not_le_of_lt hlt)
    have HKM := Lib.hid (List.getElem_mem hlt)
    obtain ⟨ad, K, cK, rfl, hks, hrs, hml⟩ := kind_see (HL.out wr hB) k hlt
    have HKS := Lib.hid (fun (w' : World) (hw' : Below wr.heap.size wr w') => hks.below hw')
    have HRL := Lib.hid hrs
    clear hks hrs
    have hst := show_take' l k hlt
    have hcu := show_cut l (k + 1)
    have hzz := HZ.out
    rw [hst, List.length_append] at hcu
    generalize hkd : l[k] = kd at *
    obtain ⟨nm, rs⟩ := kd
    have HTK := Lib.hid (show ∀ r, r ∈ rs → r.e.text.length ≤ 1000000 from fun r hr => HT.out _ HKM.out r hr)
    clear hkd
    simp only at hml HKS HRL
    unfold maxLen at hml
    have hkt : (Kd.mk nm rs).text = bl kKind ++ (32 :: (bl nm ++ (10 :: (rs.flatMap Rl.text)))) := rfl
    have t1 : kKind.size = 4 := rfl
    rw [hkt] at hst hcu
    simp only [List.length_append, List.length_cons, bl_size] at hcu
    have z0 : s0.size ≤ 100000000 := by rw [← bl_size, hs0]; omega
    have z1 : nm.size ≤ 100000000 := by omega
    have sk := HKS.out wr (Below.refl _ _)
    have k0 := sk.at0
    have k1 := sk.at_ 0 rfl
    clear sk
    have hp1 : bl (s0 ++ (⟨#[107, 105, 110, 100, 32]⟩ ++ nm ++ ⟨#[10]⟩)) = show_ (l.take k) ++ (bl kKind ++ (32 :: (bl nm ++ [10]))) := by rw [← hs0]; simp [bl]
    have HCU := Lib.hid (show (show_ (l.take k)).length + 6 + nm.size + (rs.flatMap Rl.text).length ≤ 100000000 from by omega)
    have HST := Lib.hid hst
    have HP1 := Lib.hid hp1
    clear hst hp1 hcu hzz hkt t1 hs0 hB
    go_wp2_with fail
    clear k0 k1 z0 z1
    generalize wr = wa at *
    go_loopw [3, 5] (fun t i wr => ∃ (m : Nat) (s1 : ByteArray), m ≤ rs.length ∧ i = .int .i64 m ∧ t = .string s1 ∧ bl s1 = show_ (l.take k) ++ (bl kKind ++ (32 :: (bl nm ++ [10]))) ++ (rs.take m).flatMap Rl.text ∧ Below wa.heap.size wa wr) (fun _ i _ => rs.length - (intOf i).toNat)
    case atStart => exact ⟨0, _, by omega, rfl, rfl, by rw [HP1.out]; simp, Below.refl _ _⟩
    case round =>
      obtain ⟨m, s1, hm, rfl, rfl, hs1, hB⟩ := hrel
      have HBV := Lib.hid hB
      have sk := HKS.out wr hB
      have k0 := sk.at0
      have k1 := sk.at_ 0 rfl
      clear sk
      by_cases hlm : m < rs.length
      rotate_left
      · have hni : ¬ (m : Int) < (rs.length : Int) := by omega
        have HM := Lib.hid (show bl s1 = show_ (l.take (k + 1)) from by rw [hs1, HST.out, List.take_of_length_le (l := rs) (i := m) (by omega)]; simp)
        have HBX := Lib.hid (HBW.out.trans (HBV.out.mono HBW.out.size))
        clear hs1
        go_wp2_with fail
        go_roundw
        case rel => exact ⟨trivial, k + 1, _, by have := HLT.out; omega, by go_num, rfl, HM.out, HBX.out⟩
        case measure => have := HLT.out; simp [intOf]; omega
      have HLM := Lib.hid (Nat.not_le_of_lt hlm)
      have HRM := Lib.hid (HTK.out _ (List.getElem_mem hlm))
      obtain ⟨bd, x1, x2, x3, x4, rfl, hrs, hy⟩ := rule_see (HRL.out.imp (see_later hB) fun _ _ _ h => h.imp (see_later hB)) m hlm
      have hst2 := rules_take rs m hlm
      have hcu2 := rules_cut rs (m + 1)
      have hzz := HCU.out
      rw [hst2, List.length_append] at hcu2
      generalize rs[m] = rl at *
      obtain ⟨rel, e⟩ := rl
      simp only at hrs hy HRM
      have lmI : (m : Int) < (rs.length : Int) := by omega
      have hrt : (Rl.mk rel e).text = bl rel ++ (32 :: 61 :: 32 :: (e.text ++ [10])) := rfl
      rw [hrt] at hst2 hcu2
      simp only [List.length_append, List.length_cons, List.length_nil, bl_size] at hcu2
      have t1 : kKind.size = 4 := rfl
      have z0 : s1.size ≤ 100000000 := by rw [← bl_size, hs1]; simp only [List.length_append, List.length_cons, List.length_nil, bl_size]; omega
      have z1 : rel.size ≤ 100000000 := by omega
      have z2 : e.text.length ≤ 1000000 := HRM.out
      have HE9 := Lib.hid (fun (w' : World) (hw' : Below wr.heap.size wr w') => refText_any e.size e _ w' (Nat.le_refl _) HRM.out (hy.later hw'))
      generalize htx : (⟨e.text.toArray⟩ : ByteArray) = tx at *
      have e2 : bl tx = e.text := by rw [← htx]
      have z3 : tx.size ≤ 1000000 := by rw [← bl_size, e2]; omega
      have HM := Lib.hid (show bl (s1 ++ (rel ++ ⟨#[32, 61, 32]⟩ ++ tx ++ ⟨#[10]⟩)) = show_ (l.take k) ++ (bl kKind ++ (32 :: (bl nm ++ [10]))) ++ (rs.take (m + 1)).flatMap Rl.text from by rw [hst2, show bl (s1 ++ (rel ++ ⟨#[32, 61, 32]⟩ ++ tx ++ ⟨#[10]⟩)) = bl s1 ++ (bl rel ++ (32 :: 61 :: 32 :: (bl tx ++ [10]))) from by simp [bl], hs1, e2]; simp)
      have HSV := Lib.hid (fun (w' : World) (hw' : Below wr.heap.size wr w') => show (w'.cell? (ad.add (k * 2)) = some (.string nm) ∧ w'.cell? ⟨(ad.add (k * 2)).block, (ad.add (k * 2)).off + (0 + 1), none⟩ = some (.slice (some bd) rs.length cK)) ∧ (w'.cell? (bd.add (m * 5)) = some (.string rel) ∧ w'.cell? ⟨(bd.add (m * 5)).block, (bd.add (m * 5)).off + (0 + 1), none⟩ = some x1 ∧ w'.cell? ⟨(bd.add (m * 5)).block, (bd.add (m * 5)).off + (1 + 1), none⟩ = some x2 ∧ w'.cell? ⟨(bd.add (m * 5)).block, (bd.add (m * 5)).off + (2 + 1), none⟩ = some x3 ∧ w'.cell? ⟨(bd.add (m * 5)).block, (bd.add (m * 5)).off + (3 + 1), none⟩ = some x4) from ⟨⟨(HKS.out w' (Below.step hB hw')).at0, (HKS.out w' (Below.step hB hw')).at_ 0 rfl⟩, (hrs.below hw').at0, (hrs.below hw').at_ 0 rfl, (hrs.below hw').at_ 1 rfl, (hrs.below hw').at_ 2 rfl, (hrs.below hw').at_ 3 rfl⟩)
      clear htx e2 hst2 hcu2 hzz hrt t1 hs1 hrs hy hB
      go_upto_region 9 with fail
      clear k0 k1
      refine wp_region_any (by kernel_rfl) ?_
      change wpAny _ _ _ _ _ _ _ (World.drew _)
      refine Held.any_of_G (S := (fun w' : World => (w'.cell? (ad.add (k * 2)) = some (.string nm) ∧ w'.cell? ⟨(ad.add (k * 2)).block, (ad.add (k * 2)).off + (0 + 1), none⟩ = some (.slice (some bd) rs.length cK)) ∧ (w'.cell? (bd.add (m * 5)) = some (.string rel) ∧ w'.cell? ⟨(bd.add (m * 5)).block, (bd.add (m * 5)).off + (0 + 1), none⟩ = some x1 ∧ w'.cell? ⟨(bd.add (m * 5)).block, (bd.add (m * 5)).off + (1 + 1), none⟩ = some x2 ∧ w'.cell? ⟨(bd.add (m * 5)).block, (bd.add (m * 5)).off + (2 + 1), none⟩ = some x3 ∧ w'.cell? ⟨(bd.add (m * 5)).block, (bd.add (m * 5)).off + (3 + 1), none⟩ = some x4))) (z := 24) _ _ _ _ ?_
      refine Held.G_take (i := 0) (d := 31) (v := ?_) [0, 23, 24] rfl rfl (by kernel_rfl) (by kernel_rfl) (by kernel_rfl) (by kernel_rfl) (fun _ _ _ h => h) (Or.inl ⟨by rfl, ?_⟩) (HSV.out _ (show Below wr.heap.size wr (World.drew wr) from (Below.refl _ _).drew)) ?_
      rotate_left 1
      · intro w hSw; clear hSw; go_simp <;> with_reducible rfl
      simp only [Act.put, List.setIfInBounds_toArray, List.set_cons_zero, List.set_cons_succ]
      refine Held.G_take (i := 1) (d := 32) (v := ?_) [1, 3, 4, 5, 7, 8, 9, 10, 21, 22, 23, 24] rfl rfl (by kernel_rfl) (by kernel_rfl) (by kernel_rfl) (by kernel_rfl) (fun _ _ _ h => h) (Or.inl ⟨by rfl, ?_⟩) (HSV.out _ (show Below wr.heap.size wr (World.drew wr) from (Below.refl _ _).drew)) ?_
      rotate_left 1
      · intro w hSw; clear hSw; go_simp <;> with_reducible rfl
      simp only [Act.put, List.setIfInBounds_toArray, List.set_cons_zero, List.set_cons_succ]
      refine Held.G_take (i := 2) (d := 33) (v := ?_) [2, 3, 4, 5, 7, 8, 9, 10, 21, 22, 23, 24] rfl rfl (by kernel_rfl) (by kernel_rfl) (by kernel_rfl) (by kernel_rfl) (fun _ _ _ h => h) (Or.inl ⟨by rfl, ?_⟩) (HSV.out _ (show Below wr.heap.size wr (World.drew wr) from (Below.refl _ _).drew)) ?_
      rotate_left 1
      · intro w hSw; clear hSw; go_simp <;> with_reducible rfl
      simp only [Act.put, List.setIfInBounds_toArray, List.set_cons_zero, List.set_cons_succ]
      refine Held.G_take (i := 3) (d := 34) (v := ?_) [3, 4, 5, 7, 8, 9, 10, 21, 22, 23, 24] rfl rfl (by kernel_rfl) (by kernel_rfl) (by kernel_rfl) (by kernel_rfl) (fun _ _ _ h => h) (Or.inl ⟨by rfl, ?_⟩) (HSV.out _ (show Below wr.heap.size wr (World.drew wr) from (Below.refl _ _).drew)) ?_
      rotate_left 1
      · intro w hSw; clear hSw; go_simp <;> with_reducible rfl
      simp only [Act.put, List.setIfInBounds_toArray, List.set_cons_zero, List.set_cons_succ]
      refine Held.G_take (i := 4) (d := 35) (v := ?_) [4, 5, 7, 8, 9, 10, 21, 22, 23, 24] rfl rfl (by kernel_rfl) (by kernel_rfl) (by kernel_rfl) (by kernel_rfl) (fun _ _ _ h => h) (Or.inl ⟨by rfl, ?_⟩) (HSV.out _ (show Below wr.heap.size wr (World.drew wr) from (Below.refl _ _).drew)) ?_
      rotate_left 1
      · intro w hSw; clear hSw; go_simp <;> with_reducible rfl
      simp only [Act.put, List.setIfInBounds_toArray, List.set_cons_zero, List.set_cons_succ]
      refine Held.G_take (i := 5) (d := 36) (v := ?_) [5, 7, 8, 9, 10, 21, 22, 23, 24] rfl rfl (by kernel_rfl) (by kernel_rfl) (by kernel_rfl) (by kernel_rfl) (fun _ _ _ h => h) (Or.inl ⟨by rfl, ?_⟩) (HSV.out _ (show Below wr.heap.size wr (World.drew wr) from (Below.refl _ _).drew)) ?_
      rotate_left 1
      · intro w hSw; obtain ⟨⟨k0, k1⟩, r0, r1, r2, r3, r4⟩ := hSw; go_simp <;> with_reducible rfl
      simp only [Act.put, List.setIfInBounds_toArray, List.set_cons_zero, List.set_cons_succ]
      refine Held.G_take (i := 6) (d := 37) (v := ?_) [6, 7, 8, 9, 10, 21, 22, 23, 24] rfl rfl (by kernel_rfl) (by kernel_rfl) (by kernel_rfl) (by kernel_rfl) (fun _ _ _ h => h) (Or.inl ⟨by rfl, ?_⟩) (HSV.out _ (show Below wr.heap.size wr (World.drew wr) from (Below.refl _ _).drew)) ?_
      rotate_left 1
      · intro w hSw; clear hSw; go_simp <;> with_reducible rfl
      simp only [Act.put, List.setIfInBounds_toArray, List.set_cons_zero, List.set_cons_succ]
      refine Held.G_take (i := 7) (d := 38) (v := ?_) [7, 8, 9, 10, 21, 22, 23, 24] rfl rfl (by kernel_rfl) (by kernel_rfl) (by kernel_rfl) (by kernel_rfl) (fun _ _ _ h => h) (Or.inl ⟨by rfl, ?_⟩) (HSV.out _ (show Below wr.heap.size wr (World.drew wr) from (Below.refl _ _).drew)) ?_
      rotate_left 1
      · intro w hSw; clear hSw; go_simp <;> with_reducible rfl
      simp only [Act.put, List.setIfInBounds_toArray, List.set_cons_zero, List.set_cons_succ]
      refine Held.G_take (i := 8) (d := 39) (v := ?_) [8, 9, 10, 21, 22, 23, 24] rfl rfl (by kernel_rfl) (by kernel_rfl) (by kernel_rfl) (by kernel_rfl) (fun _ _ _ h => h) (Or.inl ⟨by rfl, ?_⟩) (HSV.out _ (show Below wr.heap.size wr (World.drew wr) from (Below.refl _ _).drew)) ?_
      rotate_left 1
      · intro w hSw; clear hSw; go_simp <;> with_reducible rfl
      simp only [Act.put, List.setIfInBounds_toArray, List.set_cons_zero, List.set_cons_succ]
      refine Held.G_take (i := 9) (d := 40) (v := ?_) [9, 10, 21, 22, 23, 24] rfl rfl (by kernel_rfl) (by kernel_rfl) (by kernel_rfl) (by kernel_rfl) (fun _ _ _ h => h) (Or.inl ⟨by rfl, ?_⟩) (HSV.out _ (show Below wr.heap.size wr (World.drew wr) from (Below.refl _ _).drew)) ?_
      rotate_left 1
      · intro w hSw; obtain ⟨⟨k0, k1⟩, r0, r1, r2, r3, r4⟩ := hSw; go_simp <;> with_reducible rfl
      simp only [Act.put, List.setIfInBounds_toArray, List.set_cons_zero, List.set_cons_succ]
      refine Held.G_take (i := 11) (d := 42) (v := ?_) [11, 13, 14, 15, 17, 18, 19, 20, 21, 22, 23, 24] rfl rfl (by kernel_rfl) (by kernel_rfl) (by kernel_rfl) (by kernel_rfl) (fun _ _ _ h => h) (Or.inl ⟨by rfl, ?_⟩) (HSV.out _ (show Below wr.heap.size wr (World.drew wr) from (Below.refl _ _).drew)) ?_
      rotate_left 1
      · intro w hSw; clear hSw; go_simp <;> with_reducible rfl
      simp only [Act.put, List.setIfInBounds_toArray, List.set_cons_zero, List.set_cons_succ]
      refine Held.G_take (i := 12) (d := 43) (v := ?_) [12, 13, 14, 15, 17, 18, 19, 20, 21, 22, 23, 24] rfl rfl (by kernel_rfl) (by kernel_rfl) (by kernel_rfl) (by kernel_rfl) (fun _ _ _ h => h) (Or.inl ⟨by rfl, ?_⟩) (HSV.out _ (show Below wr.heap.size wr (World.drew wr) from (Below.refl _ _).drew)) ?_
      rotate_left 1
      · intro w hSw; clear hSw; go_simp <;> with_reducible rfl
      simp only [Act.put, List.setIfInBounds_toArray, List.set_cons_zero, List.set_cons_succ]
      refine Held.G_take (i := 13) (d := 44) (v := ?_) [13, 14, 15, 17, 18, 19, 20, 21, 22, 23, 24] rfl rfl (by kernel_rfl) (by kernel_rfl) (by kernel_rfl) (by kernel_rfl) (fun _ _ _ h => h) (Or.inl ⟨by rfl, ?_⟩) (HSV.out _ (show Below wr.heap.size wr (World.drew wr) from (Below.refl _ _).drew)) ?_
      rotate_left 1
      · intro w hSw; clear hSw; go_simp <;> with_reducible rfl
      simp only [Act.put, List.setIfInBounds_toArray, List.set_cons_zero, List.set_cons_succ]
      refine Held.G_take (i := 14) (d := 45) (v := ?_) [14, 15, 17, 18, 19, 20, 21, 22, 23, 24] rfl rfl (by kernel_rfl) (by kernel_rfl) (by kernel_rfl) (by kernel_rfl) (fun _ _ _ h => h) (Or.inl ⟨by rfl, ?_⟩) (HSV.out _ (show Below wr.heap.size wr (World.drew wr) from (Below.refl _ _).drew)) ?_
      rotate_left 1
      · intro w hSw; clear hSw; go_simp <;> with_reducible rfl
      simp only [Act.put, List.setIfInBounds_toArray, List.set_cons_zero, List.set_cons_succ]
      refine Held.G_take (i := 15) (d := 46) (v := ?_) [15, 17, 18, 19, 20, 21, 22, 23, 24] rfl rfl (by kernel_rfl) (by kernel_rfl) (by kernel_rfl) (by kernel_rfl) (fun _ _ _ h => h) (Or.inl ⟨by rfl, ?_⟩) (HSV.out _ (show Below wr.heap.size wr (World.drew wr) from (Below.refl _ _).drew)) ?_
      rotate_left 1
      · intro w hSw; obtain ⟨⟨k0, k1⟩, r0, r1, r2, r3, r4⟩ := hSw; go_simp <;> with_reducible rfl
      simp only [Act.put, List.setIfInBounds_toArray, List.set_cons_zero, List.set_cons_succ]
      refine Held.G_take (i := 16) (d := 47) (v := ?_) [16, 17, 18, 19, 20, 21, 22, 23, 24] rfl rfl (by kernel_rfl) (by kernel_rfl) (by kernel_rfl) (by kernel_rfl) (fun _ _ _ h => h) (Or.inl ⟨by rfl, ?_⟩) (HSV.out _ (show Below wr.heap.size wr (World.drew wr) from (Below.refl _ _).drew)) ?_
      rotate_left 1
      · intro w hSw; clear hSw; go_simp <;> with_reducible rfl
      simp only [Act.put, List.setIfInBounds_toArray, List.set_cons_zero, List.set_cons_succ]
      refine Held.G_take (i := 17) (d := 48) (v := ?_) [17, 18, 19, 20, 21, 22, 23, 24] rfl rfl (by kernel_rfl) (by kernel_rfl) (by kernel_rfl) (by kernel_rfl) (fun _ _ _ h => h) (Or.inl ⟨by rfl, ?_⟩) (HSV.out _ (show Below wr.heap.size wr (World.drew wr) from (Below.refl _ _).drew)) ?_
      rotate_left 1
      · intro w hSw; clear hSw; go_simp <;> with_reducible rfl
      simp only [Act.put, List.setIfInBounds_toArray, List.set_cons_zero, List.set_cons_succ]
      refine Held.G_take (i := 18) (d := 49) (v := ?_) [18, 19, 20, 21, 22, 23, 24] rfl rfl (by kernel_rfl) (by kernel_rfl) (by kernel_rfl) (by kernel_rfl) (fun _ _ _ h => h) (Or.inl ⟨by rfl, ?_⟩) (HSV.out _ (show Below wr.heap.size wr (World.drew wr) from (Below.refl _ _).drew)) ?_
      rotate_left 1
      · intro w hSw; clear hSw; go_simp <;> with_reducible rfl
      simp only [Act.put, List.setIfInBounds_toArray, List.set_cons_zero, List.set_cons_succ]
      refine Held.G_take (i := 19) (d := 50) (v := ?_) [19, 20, 21, 22, 23, 24] rfl rfl (by kernel_rfl) (by kernel_rfl) (by kernel_rfl) (by kernel_rfl) (fun _ _ _ h => h) (Or.inl ⟨by rfl, ?_⟩) (HSV.out _ (show Below wr.heap.size wr (World.drew wr) from (Below.refl _ _).drew)) ?_
      rotate_left 1
      · intro w hSw; obtain ⟨⟨k0, k1⟩, r0, r1, r2, r3, r4⟩ := hSw; go_simp <;> with_reducible rfl
      simp only [Act.put, List.setIfInBounds_toArray, List.set_cons_zero, List.set_cons_succ]
      refine Held.G_ready (rs := [10, 20]) (by decide +kernel) (by simp) ?_
      refine Held.G_cons rfl (fun KK hK => ?_) ?_
      · go_simp
        rw [if_neg (by first | omega | (simp only [ByteArray.size_append]; omega) | (simp; omega))]
        go_simp
        refine hK _ _ ?_
        clear hK KK
        refine ⟨(HSV.out _ (show Below wr.heap.size wr (World.drew wr) from (Below.refl _ _).drew)), ?_⟩
        refine Held.G_ready (rs := [20]) (by decide +kernel) (by simp) ?_
        refine Held.G_cons rfl (fun KK hK => ?_) Held.G_nil
        go_simp
        have hcall := HE9.out _ (show Below wr.heap.size wr (World.drew wr) from (Below.refl _ _).drew)
        (with_reducible refine hcall.mono ?_)
        clear hcall
        rintro e9 v1 ⟨rfl, bq⟩
        have hq : Below wr.heap.size wr v1 := Below.step (show Below wr.heap.size wr (World.drew wr) from (Below.refl _ _).drew) bq
        clear bq
        go_simp
        refine hK _ _ ?_
        clear hK KK
        refine ⟨(HSV.out _ hq), ?_⟩
        refine Held.G_ready (rs := [21]) (by decide +kernel) (by simp) ?_
        refine Held.G_cons rfl (fun KK hK => ?_) Held.G_nil
        go_simp
        rw [if_neg (by first | omega | (simp only [ByteArray.size_append]; omega) | (simp; omega))]
        go_simp
        refine hK _ _ ?_
        clear hK KK
        refine ⟨(HSV.out _ hq), ?_⟩
        refine Held.G_ready (rs := [22]) (by decide +kernel) (by simp) ?_
        refine Held.G_cons rfl (fun KK hK => ?_) Held.G_nil
        go_simp
        rw [if_neg (by first | omega | (simp only [ByteArray.size_append]; omega) | (simp; omega))]
        go_simp
        refine hK _ _ ?_
        clear hK KK
        refine ⟨(HSV.out _ hq), ?_⟩
        refine Held.G_ready (rs := [23]) (by decide +kernel) (by simp) ?_
        refine Held.G_cons rfl (fun KK hK => ?_) Held.G_nil
        go_simp
        rw [if_neg (by first | omega | (simp only [ByteArray.size_append]; omega) | (simp; omega))]
        go_simp
        refine hK _ _ ?_
        clear hK KK
        refine ⟨(HSV.out _ hq), ?_⟩
        refine Held.G_ready (rs := [24]) (by decide +kernel) (by simp) ?_
        refine Held.G_last rfl (fun KK hK => ?_) Held.G_nil
        go_simp
        refine hK _ _ ?_
        clear hK KK
        refine Held.G_done (by kernel_rfl) ?_ _
        have HBX := Lib.hid (Below.step HBV.out hq)
        clear hq
        go_wp2_with fail
        go_roundw
        case rel => exact ⟨m + 1, _, by have := HLM.out; omega, by go_num, rfl, HM.out, HBX.out⟩
        case measure => have := HLM.out; simp [intOf]; omega
      refine Held.G_cons rfl (fun KK hK => ?_) Held.G_nil
      go_simp
      have hcall := HE9.out _ (show Below wr.heap.size wr (World.drew wr) from (Below.refl _ _).drew)
      (with_reducible refine hcall.mono ?_)
      clear hcall
      rintro e9 v1 ⟨rfl, bq⟩
      have hq : Below wr.heap.size wr v1 := Below.step (show Below wr.heap.size wr (World.drew wr) from (Below.refl _ _).drew) bq
      clear bq
      go_simp
      refine hK _ _ ?_
      clear hK KK
      refine ⟨(HSV.out _ hq), ?_⟩
      refine Held.G_ready (rs := [10]) (by decide +kernel) (by simp) ?_
      refine Held.G_cons rfl (fun KK hK => ?_) Held.G_nil
      go_simp
      rw [if_neg (by first | omega | (simp only [ByteArray.size_append]; omega) | (simp; omega))]
      go_simp
      refine hK _ _ ?_
      clear hK KK
      refine ⟨(HSV.out _ hq), ?_⟩
      refine Held.G_ready (rs := [21]) (by decide +kernel) (by simp) ?_
      refine Held.G_cons rfl (fun KK hK => ?_) Held.G_nil
      go_simp
      rw [if_neg (by first | omega | (simp only [ByteArray.size_append]; omega) | (simp; omega))]
      go_simp
      refine hK _ _ ?_
      clear hK KK
      refine ⟨(HSV.out _ hq), ?_⟩
      refine Held.G_ready (rs := [22]) (by decide +kernel) (by simp) ?_
      refine Held.G_cons rfl (fun KK hK => ?_) Held.G_nil
      go_simp
      rw [if_neg (by first | omega | (simp only [ByteArray.size_append]; omega) | (simp; omega))]
      go_simp
      refine hK _ _ ?_
      clear hK KK
      refine ⟨(HSV.out _ hq), ?_⟩
      refine Held.G_ready (rs := [23]) (by decide +kernel) (by simp) ?_
      refine Held.G_cons rfl (fun KK hK => ?_) Held.G_nil
      go_simp
      rw [if_neg (by first | omega | (simp only [ByteArray.size_append]; omega) | (simp; omega))]
      go_simp
      refine hK _ _ ?_
      clear hK KK
      refine ⟨(HSV.out _ hq), ?_⟩
      refine Held.G_ready (rs := [24]) (by decide +kernel) (by simp) ?_
      refine Held.G_last rfl (fun KK hK => ?_) Held.G_nil
      go_simp
      refine hK _ _ ?_
      clear hK KK
      refine Held.G_done (by kernel_rfl) ?_ _
      have HBX := Lib.hid (Below.step HBV.out hq)
      clear hq
      go_wp2_with fail
      go_roundw
      case rel => exact ⟨m + 1, _, by have := HLM.out; omega, by go_num, rfl, HM.out, HBX.out⟩
      case measure => have := HLM.out; simp [intOf]; omega
end Go.Proofs.YtkmnbdomikpakaaDoor.RuleShow
