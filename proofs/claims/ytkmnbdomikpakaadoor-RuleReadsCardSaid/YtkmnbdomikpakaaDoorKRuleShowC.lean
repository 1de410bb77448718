/- The code's Show. -/
import Derived.Test.YtkmnbdomikpakaaDoorKHeld
import Derived.Test.YtkmnbdomikpakaaDoorKRuleBld
import Derived.Test.YtkmnbdomikpakaaDoorKRuleChkC
import Derived.Test.YtkmnbdomikpakaaDoorKRuleShow
import Derived.Test.YtkmnbdomikpakaaDoorKRuleTextC
import Derived.Test.YtkmnbdomikpakaaDoorKShelf
namespace Go.Proofs.YtkmnbdomikpakaaDoor.RuleShowC
open Go.RowKit Base KeyPlain TuplePlain TupleRef RulePlain RuleMem RuleRec RuleFew RuleShow RuleChk RuleAlike RuleGl RuleSets RuleChkC RuleTextC RuleBld TurnB

set_option maxRecDepth 100000 in
set_option maxHeartbeats 25600000 in
theorem cShow_any (A : Option Addr) (c : Nat) (l : List Kd) (w : World) (hL : LayL w w.heap.size A l) (hn : l.length ≤ 1000000000) (hk : ∀ k, k ∈ l → KOk k) (hG : Gl w)
    (hz : checkC l = 0 → (show_ l).length ≤ 100000000) (ht : checkC l = 0 → ∀ k, k ∈ l → ∀ r, r ∈ k.rules → r.e.text.length ≤ 1000000) :
    Calls Tryd.prog 23 #[.slice A l.length c] w fun e w' => e = .returned (.tuple #[.string ⟨(if checkC l = 0 then show_ l else []).toArray⟩, .int .i64 (checkC l)]) ∧ Below w.heap.size w w' := by
  have hcall := cCheck_any A c l w hL hn hk hG
  have HL := Lib.hid (fun (w' : World) (hw' : Below w.heap.size w w') => hL.later hw')
  have hcc := checkC_cases l
  clear hL hk hG
  by_cases h0 : checkC l = 0
  rotate_left
  · have HV := Lib.hid (show (⟨(if checkC l = 0 then show_ l else []).toArray⟩ : ByteArray) = ⟨#[]⟩ from by rw [if_neg h0])
    have hne : (checkC l != 0) = true := by rw [bne_iff_ne]; exact h0
    rw [HV.out]
    clear h0 hz ht hcc
    generalize checkC l = ck at *
    go_enter Tryd.func23, Tryd.ntmps23
    go_wp2_with fail
    (with_reducible refine hcall.mono ?_)
    clear hcall
    rintro e w2 ⟨rfl, hb⟩
    go_wp2_with fail
    go_ret2
    exact ⟨rfl, hb⟩
  have HV := Lib.hid (show (⟨(if checkC l = 0 then show_ l else []).toArray⟩ : ByteArray) = ⟨(show_ l).toArray⟩ from by rw [if_pos h0])
  have HZ := Lib.hid (hz h0)
  have HT := Lib.hid (ht h0)
  rw [HV.out, h0]
  rw [h0] at hcall
  clear h0 hz ht hcc HV
  go_enter Tryd.func23, Tryd.ntmps23
  go_wp2_with fail
  (with_reducible refine hcall.mono ?_)
  clear hcall
  rintro e w2 ⟨rfl, hb⟩
  obtain ⟨w3, hw3⟩ : ∃ v, v = w2.alloc (.cells #[.pointer none, .slice none 0 0] 70) := ⟨_, rfl⟩
  obtain ⟨b, hbe⟩ : ∃ v, v = w2.heap.size := ⟨_, rfl⟩
  have hbd : Bd w3 b [] := by rw [hw3, hbe]; exact Lib.fresh_isBuilder 70 5 w2
  have HB3 := Lib.hid (Below.step hb (show Below w2.heap.size w2 w3 from by rw [hw3]; exact al _ _))
  have HLE := Lib.hid (show w.heap.size ≤ b from by rw [hbe]; exact hb.size)
  have HBD := Lib.hid hbd
  have HW := Lib.hid hw3
  have HBE := Lib.hid hbe
  clear hbd hw3 hbe hb
  go_upto_region 5 with fail
  try rw [← HW.out]
  try rw [← HBE.out]
  clear HW
  go_wp2_with fail
  go_loopw [7, 9, 17] (fun z1 z2 i wr => z1 = z1 ∧ z2 = z2 ∧ ∃ k : Nat, k ≤ l.length ∧ i = .int .i64 k ∧ Bd wr b (show_ (l.take k)) ∧ Below w.heap.size w wr) (fun _ _ i _ => l.length - (intOf i).toNat)
  case atStart => exact ⟨rfl, rfl, 0, by omega, rfl, HBD.out, HB3.out⟩
  case round =>
    obtain ⟨_, _, k, hk, rfl, hbd, hB⟩ := hrel
    have HBW := Lib.hid hB
    by_cases hlt : k < l.length
    rotate_left
    · rw [List.take_of_length_le (by omega)] at hbd
      have hcall := Tryd.Builder_String_any_k b b (show_ l) wr (hbd.elim (fun h => Or.inl (Lib.BuilderAtF.of h)) (fun h => Or.inr (Lib.BuilderAtF.of h))) (Nat.le_of_lt (bd_lt hbd))
      have hni : ¬ (k : Int) < (l.length : Int) := by omega
      clear hbd
      go_wp2_with fail
      (with_reducible refine hcall.mono ?_)
      clear hcall
      rintro e w9 ⟨rfl, _, hb9, _⟩
      go_wp2_with fail
      go_ret2
      exact ⟨rfl, HBW.out.trans (hb9.mono HLE.out)⟩
    have HLT := Lib.hid (Nat.not_le_of_lt hlt)
    have HKM := Lib.hid (List.getElem_mem hlt)
    obtain ⟨ad, K, cK, rfl, hks0, hrs, hml⟩ := kind_see (HL.out w (Below.refl _ _)) k hlt
    have hks := hks0.below hB
    have HRL := Lib.hid (fun (w' : World) (hw' : Below w.heap.size w w') => hrs.imp (see_later hw') fun _ _ _ h => h.imp (see_later hw'))
    have hst := show_take' l k hlt
    have hcu := show_cut l (k + 1)
    have hzz := HZ.out
    rw [hst, List.length_append] at hcu
    have HTT := Lib.hid (HT.out _ (List.getElem_mem hlt))
    generalize hkd : l[k] = kd at *
    obtain ⟨nm, rs⟩ := kd
    simp only at hml hks hrs HTT
    have HST := Lib.hid hst
    generalize hpre : show_ (l.take k) = pre at *
    have HKT := Lib.hid (show (Kd.mk nm rs).text = bl kKind ++ 32 :: (bl nm ++ 10 :: rs.flatMap Rl.text) from rfl)
    have HLN := Lib.hid (show pre.length + (bl kKind ++ 32 :: (bl nm ++ 10 :: rs.flatMap Rl.text)).length ≤ 100000000 from by rw [← HKT.out]; omega)
    have hnz : pre.length + nm.size + 10 ≤ 200000000 := by
      have h1 := HLN.out
      have h2 : kKind.size = 4 := rfl
      simp only [List.length_append, List.length_cons, bl_size] at h1
      omega
    have k0 := hks.at0
    have k1 := hks.at_ 0 rfl
    obtain ⟨w4, hw14⟩ : ∃ v, v = wr.alloc (.cells #[.string nm, .slice K rs.length cK] 42) := ⟨_, rfl⟩
    obtain ⟨b4, hbe4⟩ : ∃ v, v = wr.heap.size := ⟨_, rfl⟩
    have hb14 : Below wr.heap.size wr w4 := by rw [hw14]; exact al _ _
    have a14 : w4.heap[b4]? = some (.cells #[.string nm, .slice K rs.length cK] 42 (0, 0)) := by rw [hw14, hbe4]; exact heap_alloc_new wr _
    have HW4 := Lib.hid hw14
    have HBE4 := Lib.hid hbe4
    clear hw14 hbe4
    have HB4 := Lib.hid (Below.step hB hb14)
    have hne : b4 ≠ b := by rw [HBE4.out]; have := bd_lt hbd; omega
    have HA4 := Lib.hid a14
    have hcall := write_any b pre (⟨#[107, 105, 110, 100, 32]⟩ ++ nm ++ ⟨#[10]⟩) w4 (hbd.later hb14) (by simp only [ByteArray.size_append]; have e1 : (⟨#[107, 105, 110, 100, 32]⟩ : ByteArray).size = 5 := rfl; have e2 : (⟨#[10]⟩ : ByteArray).size = 1 := rfl; omega)
    have HWB := Lib.hid (show bl (⟨#[107, 105, 110, 100, 32]⟩ ++ nm ++ ⟨#[10]⟩) = bl kKind ++ 32 :: (bl nm ++ [10]) from by simp [bl])
    obtain ⟨p0, p1⟩ := two_at a14
    have HNE := Lib.hid hne
    clear hks hks0 hrs hB hbd hb14 a14 hst hcu hzz hkd hne
    go_upto_region 8 with fail
    try rw [← HW4.out]
    try rw [← HBE4.out]
    clear HW4
    go_wp2_with fail
    (with_reducible refine hcall.mono ?_)
    clear hcall p0 p1 k0 k1
    rintro e w5 ⟨rfl, hbd5, hb5, hk5⟩
    obtain ⟨p0, p1⟩ := two_at (kept_at hk5 HA4.out HNE.out (by decide))
    have HB5 := Lib.hid (HB4.out.trans (hb5.mono HLE.out))
    have HBD5 := Lib.hid (show Bd w5 b (pre ++ (bl kKind ++ 32 :: (bl nm ++ 10 :: (rs.take 0).flatMap Rl.text))) from by rw [HWB.out] at hbd5; exact hbd5)
    unfold maxLen at hml
    clear hbd5 hb5 hk5
    go_wp2_with fail
    clear p0 p1
    go_loopw [9, 29] (fun z i wr => z = z ∧ ∃ m : Nat, m ≤ rs.length ∧ i = .int .i64 m ∧ Bd wr b (pre ++ (bl kKind ++ 32 :: (bl nm ++ 10 :: (rs.take m).flatMap Rl.text))) ∧ Below w.heap.size w wr) (fun _ i _ => rs.length - (intOf i).toNat)
    case atStart => exact ⟨rfl, 0, by omega, rfl, HBD5.out, HB5.out⟩
    case round =>
      obtain ⟨_, m, hm, rfl, hbd, hB⟩ := hrel
      have HBV := Lib.hid hB
      by_cases hlm : m < rs.length
      rotate_left
      · have HN := Lib.hid (show Bd wr b (show_ (l.take (k + 1))) from by rw [HST.out, HKT.out]; rw [List.take_of_length_le (by omega)] at hbd; exact hbd)
        have hni : ¬ (m : Int) < (rs.length : Int) := by omega
        have hlt9 : k < l.length := Nat.lt_of_not_le HLT.out
        clear hbd
        go_wp2_with fail
        go_roundw
        case rel => exact ⟨trivial, trivial, k + 1, by omega, by go_num, HN.out, HBV.out⟩
        case measure => simp [intOf]; omega
      obtain ⟨bd, x1, x2, x3, x4, rfl, hrs, hy⟩ := rule_see (HRL.out wr hB) m hlm
      have hrt := rules_take rs m hlm
      have hrc := rules_cut rs (m + 1)
      have hln := HLN.out
      have hte := HTT.out _ (List.getElem_mem hlm)
      rw [hrt, List.length_append] at hrc
      have HLM := Lib.hid (Nat.not_le_of_lt hlm)
      generalize hrl : rs[m] = rl at *
      obtain ⟨rel, e⟩ := rl
      simp only at hrs hy hte
      obtain ⟨Z, z, hxe, _⟩ := hy.open
      simp only [List.cons.injEq, and_true] at hxe
      obtain ⟨rfl, rfl, rfl, rfl⟩ := hxe
      have r0 := hrs.at0
      have r1 := hrs.at_ 0 rfl
      have r2 := hrs.at_ 1 rfl
      have r3 := hrs.at_ 2 rfl
      have r4 := hrs.at_ 3 rfl
      obtain ⟨w6, hw16⟩ : ∃ v, v = wr.alloc (.cells #[.string rel, .string e.op, .string e.nm, .string e.fo, .slice Z e.ps.length z] 47) := ⟨_, rfl⟩
      obtain ⟨b6, hbe6⟩ : ∃ v, v = wr.heap.size := ⟨_, rfl⟩
      have hb16 : Below wr.heap.size wr w6 := by rw [hw16]; exact al _ _
      have a16 : w6.heap[b6]? = some (.cells #[.string rel, .string e.op, .string e.nm, .string e.fo, .slice Z e.ps.length z] 47 (0, 0)) := by rw [hw16, hbe6]; exact heap_alloc_new wr _
      have HW6' := Lib.hid hw16
      have HBE6 := Lib.hid hbe6
      clear hw16 hbe6
      have HB6 := Lib.hid (Below.step hB hb16)
      have HC6 := Lib.hid (fun (w' : World) (hw' : Below w6.heap.size w6 w') => five_at ((hw'.block b6 (heap_lt a16)).trans a16))
      have HT6 := Lib.hid (fun (w' : World) (hw' : Below w6.heap.size w6 w') => exprText_any e.size e _ w' (Nat.le_refl _) hte (hy.later (Below.step hb16 hw')))
      generalize htx : (⟨e.text.toArray⟩ : ByteArray) = tx at *
      have e2 : bl tx = e.text := by rw [← htx]
      have z4 : tx.size ≤ 1000000 := by rw [← bl_size, e2]; exact hte
      have HTX := Lib.hid (show pre ++ (bl kKind ++ 32 :: (bl nm ++ 10 :: (rs.take (m + 1)).flatMap Rl.text)) = pre ++ (bl kKind ++ 32 :: (bl nm ++ 10 :: (rs.take m).flatMap Rl.text)) ++ bl (rel ++ ⟨#[32, 61, 32]⟩ ++ tx ++ ⟨#[10]⟩) from by
        rw [hrt]
        simp only [Rl.text, ← e2]
        simp [bl])
      have z3 : rel.size ≤ 100000000 := by
        simp only [Rl.text, List.length_append, List.length_cons, bl_size] at hln hrc
        omega
      have i1 : ¬ 9223372036854775807 < rel.size + 3 := by omega
      have i2 : ¬ 9223372036854775807 < rel.size + 3 + tx.size := by omega
      have i3 : ¬ 9223372036854775807 < rel.size + 3 + tx.size + 1 := by omega
      have HW6 := Lib.hid (fun (w' : World) (hw' : Below w6.heap.size w6 w') => write_any b (pre ++ (bl kKind ++ 32 :: (bl nm ++ 10 :: (rs.take m).flatMap Rl.text))) (rel ++ ⟨#[32, 61, 32]⟩ ++ tx ++ ⟨#[10]⟩) w' (hbd.later (Below.step hb16 hw')) (by
        simp only [ByteArray.size_append, List.length_append, List.length_cons, bl_size] at hln hrc ⊢
        have e3 : (⟨#[32, 61, 32]⟩ : ByteArray).size = 3 := rfl
        have e4 : (⟨#[10]⟩ : ByteArray).size = 1 := rfl
        omega))
      obtain ⟨q0, q1, q2, q3, q4⟩ := five_at a16
      clear e2 htx hrt hrc hln hte hrl hrs hy hB hbd hb16 a16
      go_upto_region 12 with fail
      try rw [← HW6'.out]
      try rw [← HBE6.out]
      clear HW6' r0 r1 r2 r3 r4
      clear q0 q1 q2 q3 q4
      refine wp_region_any (by kernel_rfl) ?_
      change wpAny _ _ _ _ _ _ _ (World.drew _)
      refine Held.any_of_G (S := (fun w' : World => w'.cell? ⟨b6, 0, none⟩ = some (.string rel) ∧ w'.cell? ⟨b6, 1, none⟩ = some (.string e.op) ∧ w'.cell? ⟨b6, 2, none⟩ = some (.string e.nm) ∧ w'.cell? ⟨b6, 3, none⟩ = some (.string e.fo) ∧ w'.cell? ⟨b6, 4, none⟩ = some (.slice Z e.ps.length z))) (z := 8) _ _ _ _ ?_
      refine Held.G_take (i := 0) (d := 33) (v := ?_) [0, 1, 2, 6, 7, 8] rfl rfl (by kernel_rfl) (by kernel_rfl) (by kernel_rfl) (by kernel_rfl) (fun _ _ _ h => h) (Or.inl ⟨by rfl, ?_⟩) (HC6.out _ (show Below w6.heap.size w6 w6.drew from (Below.refl _ _).drew)) ?_
      rotate_left 1
      · intro w hSw; clear hSw; go_simp <;> with_reducible rfl
      simp only [Act.put, List.setIfInBounds_toArray, List.set_cons_zero, List.set_cons_succ]
      refine Held.G_take (i := 1) (d := 34) (v := ?_) [1, 2, 6, 7, 8] rfl rfl (by kernel_rfl) (by kernel_rfl) (by kernel_rfl) (by kernel_rfl) (fun _ _ _ h => h) (Or.inl ⟨by rfl, ?_⟩) (HC6.out _ (show Below w6.heap.size w6 w6.drew from (Below.refl _ _).drew)) ?_
      rotate_left 1
      · intro w hSw; obtain ⟨q0, q1, q2, q3, q4⟩ := hSw; go_simp <;> with_reducible rfl
      simp only [Act.put, List.setIfInBounds_toArray, List.set_cons_zero, List.set_cons_succ]
      refine Held.G_take (i := 2) (d := 35) (v := ?_) [2, 6, 7, 8] rfl rfl (by kernel_rfl) (by kernel_rfl) (by kernel_rfl) (by kernel_rfl) (fun _ _ _ h => h) (Or.inl ⟨by rfl, ?_⟩) (HC6.out _ (show Below w6.heap.size w6 w6.drew from (Below.refl _ _).drew)) ?_
      rotate_left 1
      · intro w hSw; clear hSw; go_simp <;> with_reducible rfl
      simp only [Act.put, List.setIfInBounds_toArray, List.set_cons_zero, List.set_cons_succ]
      refine Held.G_take (i := 3) (d := 36) (v := ?_) [3, 4, 5, 6, 7, 8] rfl rfl (by kernel_rfl) (by kernel_rfl) (by kernel_rfl) (by kernel_rfl) (fun _ _ _ h => h) (Or.inl ⟨by rfl, ?_⟩) (HC6.out _ (show Below w6.heap.size w6 w6.drew from (Below.refl _ _).drew)) ?_
      rotate_left 1
      · intro w hSw; clear hSw; go_simp <;> with_reducible rfl
      simp only [Act.put, List.setIfInBounds_toArray, List.set_cons_zero, List.set_cons_succ]
      refine Held.G_take (i := 4) (d := 37) (v := ?_) [4, 5, 6, 7, 8] rfl rfl (by kernel_rfl) (by kernel_rfl) (by kernel_rfl) (by kernel_rfl) (fun _ _ _ h => h) (Or.inl ⟨by rfl, ?_⟩) (HC6.out _ (show Below w6.heap.size w6 w6.drew from (Below.refl _ _).drew)) ?_
      rotate_left 1
      · intro w hSw; obtain ⟨q0, q1, q2, q3, q4⟩ := hSw; go_simp <;> with_reducible rfl
      simp only [Act.put, List.setIfInBounds_toArray, List.set_cons_zero, List.set_cons_succ]
      refine Held.G_ready (rs := [5]) (by decide +kernel) (by simp) ?_
      refine Held.G_cons rfl (fun KK hK => ?_) Held.G_nil
      go_simp
      have hcall := HT6.out _ (show Below w6.heap.size w6 w6.drew from (Below.refl _ _).drew)
      (with_reducible refine hcall.mono ?_)
      clear hcall
      rintro e9 v1 ⟨rfl, bq⟩
      have hq1 : Below w6.heap.size w6 v1 := Below.step (show Below w6.heap.size w6 w6.drew from (Below.refl _ _).drew) bq
      clear bq
      go_simp
      refine hK _ _ ?_
      clear hK KK
      refine ⟨(HC6.out _ hq1), ?_⟩
      refine Held.G_take (i := 6) (d := 39) (v := ?_) [6, 7, 8] rfl rfl (by kernel_rfl) (by kernel_rfl) (by kernel_rfl) (by kernel_rfl) (fun _ _ _ h => h) (Or.inl ⟨by rfl, ?_⟩) (HC6.out _ hq1) ?_
      rotate_left 1
      · intro w hSw; clear hSw; go_simp <;> with_reducible rfl
      simp only [Act.put, List.setIfInBounds_toArray, List.set_cons_zero, List.set_cons_succ]
      refine Held.G_take (i := 7) (d := 40) (v := ?_) [7, 8] rfl rfl (by kernel_rfl) (by kernel_rfl) (by kernel_rfl) (by kernel_rfl) (fun _ _ _ h => h) (Or.inl ⟨by rfl, ?_⟩) (HC6.out _ hq1) ?_
      rotate_left 1
      · intro w hSw; clear hSw; go_simp <;> with_reducible rfl
      simp only [Act.put, List.setIfInBounds_toArray, List.set_cons_zero, List.set_cons_succ]
      refine Held.G_ready (rs := [8]) (by decide +kernel) (by simp) ?_
      refine Held.G_last rfl (fun KK hK => ?_) Held.G_nil
      go_simp
      have hcall := HW6.out _ hq1
      (with_reducible refine hcall.mono ?_)
      clear hcall
      rintro e9 v2 ⟨rfl, hbd, hbl, hkp⟩
      go_simp
      refine hK _ _ ?_
      clear hK KK
      refine Held.G_done (by kernel_rfl) ?_ _
      have HN := Lib.hid (show Bd v2 b (pre ++ (bl kKind ++ 32 :: (bl nm ++ 10 :: (rs.take (m + 1)).flatMap Rl.text))) from by rw [HTX.out]; exact hbd)
      have HBX := Lib.hid ((Below.step HB6.out hq1).trans (hbl.mono HLE.out))
      have hlm9 : m < rs.length := Nat.lt_of_not_le HLM.out
      clear hbd hbl hkp
      go_wp2_with fail
      go_roundw
      case rel => exact ⟨trivial, m + 1, by omega, by go_num, HN.out, HBX.out⟩
      case measure => simp [intOf]; omega
end Go.Proofs.YtkmnbdomikpakaaDoor.RuleShowC
