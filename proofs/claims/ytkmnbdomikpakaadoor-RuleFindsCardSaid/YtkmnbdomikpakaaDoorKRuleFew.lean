/- The document's Few for rules; kinds and rules in memory, one by one. -/
import Derived.Test.YtkmnbdomikpakaaDoorKRuleRec
namespace Go.Proofs.YtkmnbdomikpakaaDoor.RuleFew
open Go.RowKit Base KeyPlain TuplePlain TupleRef RulePlain RuleMem RuleRec

theorem kind_see {w : World} {B : Nat} {A : Option Addr} {l : List Kd} (h : LayL w B A l) (i : Nat) (hi : i < l.length) :
    ∃ ad K c, A = some ad ∧ Sees w B (ad.add (i * 2)) [.string (l[i]).name, .slice K (l[i]).rules.length c] ∧ SlOf w B 5 (LayR w B) K (l[i]).rules ∧ (l[i]).rules.length ≤ maxLen := by
  obtain ⟨q, hq⟩ := h
  obtain ⟨⟨ad, hA, hs⟩, ⟨K, c, e, h2, h3⟩⟩ := hq i hi
  rw [e] at hs
  exact ⟨ad, K, c, hA, hs, h2, h3⟩
theorem rule_see {w : World} {B : Nat} {A : Option Addr} {rs : List Rl} (h : SlOf w B 5 (LayR w B) A rs) (i : Nat) (hi : i < rs.length) :
    ∃ ad x1 x2 x3 x4, A = some ad ∧ Sees w B (ad.add (i * 5)) [.string (rs[i]).rel, x1, x2, x3, x4] ∧ Lay w B (rs[i]).e [x1, x2, x3, x4] := by
  obtain ⟨q, hq⟩ := h
  obtain ⟨⟨ad, hA, hs⟩, ⟨qe, hl, e⟩⟩ := hq i hi
  obtain ⟨A', c', he, _⟩ := hl.open
  rw [e, he] at hs
  rw [he] at hl
  exact ⟨ad, _, _, _, _, hA, hs, hl⟩
theorem all_take {α : Type} (p : α → Bool) (l : List α) (i : Nat) (h : i < l.length) : (l.take (i + 1)).all p = ((l.take i).all p && p l[i]) := by
  rw [List.take_succ_eq_append_getElem h, List.all_append]
  simp
theorem all_cut {α : Type} {p : α → Bool} {l : List α} {i : Nat} (h : i < l.length) (hp : p l[i] = false) : l.all p = false := by
  rw [Bool.eq_false_iff]
  intro q
  rw [List.all_eq_true.1 q _ (List.getElem_mem h)] at hp
  cases hp
set_option maxRecDepth 100000 in
set_option maxHeartbeats 12800000 in
theorem refFew_any (A : Option Addr) (c : Nat) (l : List Kd) (w : World) (hL : LayL w w.heap.size A l) (hn : l.length ≤ maxLen) :
    Calls Tryd.prog 13 #[.slice A l.length c] w fun e w' => e = .returned (.bool (few l)) ∧ Below w.heap.size w w' := by
  unfold maxLen at hn
  have HL := Lib.hid (fun (w' : World) (hw' : Below w.heap.size w w') => hL.later hw')
  clear hL
  go_enter Tryd.func13, Tryd.ntmps13
  by_cases h70 : l.length ≤ 70
  rotate_left
  · have HF := Lib.hid (show few l = false from by rw [few, decide_eq_false h70, Bool.false_and])
    have i70 : (70 : Int) < (l.length : Int) := by omega
    clear h70
    go_wp2_with fail
    go_ret
    exact ⟨ret_bool HF.out.symm, Below.refl _ _⟩
  have HF := Lib.hid (show few l = l.all fewK from by rw [few, decide_eq_true h70, Bool.true_and])
  have i70 : ¬ (70 : Int) < (l.length : Int) := by omega
  clear h70
  go_wp2_with fail
  go_loopw [3, 4] (fun i z wr => z = z ∧ ∃ k : Nat, k ≤ l.length ∧ i = .int .i64 k ∧ (l.take k).all fewK = true ∧ Below w.heap.size w wr) (fun i _ _ => l.length - (intOf i).toNat)
  case atStart => exact ⟨rfl, 0, by omega, rfl, rfl, Below.refl _ _⟩
  case round =>
    obtain ⟨_, k, hk, rfl, hpre, hB⟩ := hrel
    have HBW := Lib.hid hB
    by_cases hlt : k < l.length
    rotate_left
    · have HM := Lib.hid (show few l = true from by rw [HF.out]; rw [List.take_of_length_le (by omega)] at hpre; exact hpre)
      clear hpre
      have hni : ¬ (k : Int) < (l.length : Int) := by omega
      go_wp2_with fail
      go_ret
      exact ⟨ret_bool HM.out.symm, HBW.out⟩
    obtain ⟨ad, K, c', rfl, hks, hrs, hml⟩ := kind_see (HL.out wr hB) k hlt
    have HKS := Lib.hid (fun (w' : World) (hw' : Below wr.heap.size wr w') => hks.below hw')
    have HRL := Lib.hid hrs
    have HCUT := Lib.hid (fun h => all_cut (p := fewK) hlt h)
    have HNX := Lib.hid (show fewK l[k] = true → (l.take (k + 1)).all fewK = true from fun h => by rw [all_take _ _ _ hlt, hpre, h]; rfl)
    have HLT := Lib.hid (Nat.not_le_of_lt hlt)
    clear hks hrs hpre hB
    generalize l[k] = kd at *
    obtain ⟨nm, rs⟩ := kd
    simp only at hml HKS HRL
    unfold maxLen at hml
    have sk := HKS.out wr (Below.refl _ _)
    have k0 := sk.at0
    have k1 := sk.at_ 0 rfl
    clear sk
    by_cases hr70 : rs.length ≤ 70
    rotate_left
    · have HM := Lib.hid (show few l = false from by rw [HF.out]; exact HCUT.out (by rw [fewK]; simp [hr70]))
      have ir : (70 : Int) < (rs.length : Int) := by omega
      clear hr70
      go_wp2_with fail
      go_ret
      exact ⟨ret_bool HM.out.symm, HBW.out⟩
    by_cases hn100 : nm.size ≤ 100
    rotate_left
    · have HM := Lib.hid (show few l = false from by rw [HF.out]; exact HCUT.out (by rw [fewK]; simp [hn100]))
      have ir : ¬ (70 : Int) < (rs.length : Int) := by omega
      have inm : (100 : Int) < (nm.size : Int) := by omega
      clear hr70 hn100
      go_wp2_with fail
      go_ret
      exact ⟨ret_bool HM.out.symm, HBW.out⟩
    have HFK := Lib.hid (show fewK ⟨nm, rs⟩ = rs.all fewR from by rw [fewK]; simp [hr70, hn100])
    have ir : ¬ (70 : Int) < (rs.length : Int) := by omega
    have inm : ¬ (100 : Int) < (nm.size : Int) := by omega
    clear hr70 hn100
    go_wp2_with fail
    clear k0 k1 ir inm
    generalize wr = wa at *
    go_loopw [4] (fun i wr => ∃ m : Nat, m ≤ rs.length ∧ i = .int .i64 m ∧ (rs.take m).all fewR = true ∧ Below wa.heap.size wa wr) (fun i _ => rs.length - (intOf i).toNat)
    case atStart => exact ⟨0, by omega, rfl, rfl, Below.refl _ _⟩
    case round =>
      obtain ⟨m, hm, rfl, hpre, hB⟩ := hrel
      have HBV := Lib.hid hB
      have sk := HKS.out wr hB
      have k0 := sk.at0
      have k1 := sk.at_ 0 rfl
      clear sk
      by_cases hlm : m < rs.length
      rotate_left
      · have HM := Lib.hid (HNX.out (by rw [HFK.out]; rw [List.take_of_length_le (by omega)] at hpre; exact hpre))
        clear hpre
        have hni : ¬ (m : Int) < (rs.length : Int) := by omega
        have HBX := Lib.hid (HBW.out.trans (HBV.out.mono HBW.out.size))
        go_wp2_with fail
        go_roundw
        case rel => exact ⟨trivial, k + 1, by have := HLT.out; omega, by go_num, HM.out, HBX.out⟩
        case measure => have := HLT.out; simp [intOf]; omega
      obtain ⟨bd, x1, x2, x3, x4, rfl, hrs, hy⟩ := rule_see (HRL.out.imp (see_later hB) fun _ _ _ h => h.imp (see_later hB)) m hlm
      have HRS := Lib.hid (fun (w' : World) (hw' : Below wr.heap.size wr w') => hrs.below hw')
      have HY := Lib.hid (fun (w' : World) (hw' : Below wr.heap.size wr w') => hy.later hw')
      have HKS2 := Lib.hid (fun (w' : World) (hw' : Below wr.heap.size wr w') => HKS.out w' (Below.step hB hw'))
      have HCU2 := Lib.hid (fun h => all_cut (p := fewR) hlm h)
      have HNX2 := Lib.hid (show fewR rs[m] = true → (rs.take (m + 1)).all fewR = true from fun h => by rw [all_take _ _ _ hlm, hpre, h]; rfl)
      have HLM := Lib.hid (Nat.not_le_of_lt hlm)
      clear hrs hy hpre hB
      generalize rs[m] = rl at *
      obtain ⟨rel, e⟩ := rl
      simp only at HRS HY
      have lmI : (m : Int) < (rs.length : Int) := by omega
      have sr := HRS.out wr (Below.refl _ _)
      have r0 := sr.at0
      have r1 := sr.at_ 0 rfl
      have r2 := sr.at_ 1 rfl
      have r3 := sr.at_ 2 rfl
      have r4 := sr.at_ 3 rfl
      clear sr
      have hcall := refShort_any e.size e 30 _ wr (Nat.le_refl _) (by omega) (HY.out wr (Below.refl _ _))
      rw [show ((30 : Nat) : Int) = 30 from rfl] at hcall
      obtain ⟨sb, hsb⟩ : ∃ v, e.short 30 = v := ⟨_, rfl⟩
      rw [hsb] at hcall
      have HSB := Lib.hid hsb
      clear hsb
      go_wp2_with fail
      (with_reducible refine hcall.mono ?_)
      clear hcall k0 k1 r0 r1 r2 r3 r4
      rintro e' w2 ⟨rfl, hb⟩
      have HB2 := Lib.hid hb
      clear hb
      cases sb with
      | false =>
        have HM := Lib.hid (show few l = false from by rw [HF.out]; exact HCUT.out (by rw [HFK.out]; exact HCU2.out (by rw [fewR]; simp [HSB.out])))
        go_wp2_with fail
        go_ret
        exact ⟨ret_bool HM.out.symm, HBW.out.trans ((Below.step HBV.out HB2.out).mono HBW.out.size)⟩
      | true =>
        have sk := HKS2.out w2 HB2.out
        have k0 := sk.at0
        have k1 := sk.at_ 0 rfl
        clear sk
        have sr := HRS.out w2 HB2.out
        have r0 := sr.at0
        have r1 := sr.at_ 0 rfl
        have r2 := sr.at_ 1 rfl
        have r3 := sr.at_ 2 rfl
        have r4 := sr.at_ 3 rfl
        clear sr
        have hcall := refSize_any e.size e _ w2 (Nat.le_refl _) (HY.out w2 HB2.out)
        generalize hws : wrap e.size = ws at *
        go_wp2_with fail
        (with_reducible refine hcall.mono ?_)
        clear hcall k0 k1 r0 r1 r2 r3 r4
        rintro e' w3 ⟨rfl, hb⟩
        have HB3 := Lib.hid (Below.step HB2.out hb)
        clear hb
        by_cases hw100 : ws ≤ 100
        rotate_left
        · have HM := Lib.hid (show few l = false from by rw [HF.out]; exact HCUT.out (by rw [HFK.out]; exact HCU2.out (by rw [fewR]; simp [hws, hw100])))
          have iw : (100 : Int) < ws := by omega
          clear hw100 hws
          go_wp2_with fail
          go_ret
          exact ⟨ret_bool HM.out.symm, HBW.out.trans ((Below.step HBV.out HB3.out).mono HBW.out.size)⟩
        have HWS := Lib.hid hws
        have iw : ¬ (100 : Int) < ws := by omega
        have sk := HKS2.out w3 HB3.out
        have k0 := sk.at0
        have k1 := sk.at_ 0 rfl
        clear sk
        have sr := HRS.out w3 HB3.out
        have r0 := sr.at0
        have r1 := sr.at_ 0 rfl
        have r2 := sr.at_ 1 rfl
        have r3 := sr.at_ 2 rfl
        have r4 := sr.at_ 3 rfl
        clear sr
        by_cases hre : rel.size ≤ 100
        rotate_left
        · have HM := Lib.hid (show few l = false from by rw [HF.out]; exact HCUT.out (by rw [HFK.out]; exact HCU2.out (by rw [fewR]; simp [hre])))
          have ire : (100 : Int) < (rel.size : Int) := by omega
          clear hre hw100 hws
          go_simp
          go_wp2_with fail
          go_ret
          exact ⟨ret_bool HM.out.symm, HBW.out.trans ((Below.step HBV.out HB3.out).mono HBW.out.size)⟩
        have HM := Lib.hid (HNX2.out (by rw [fewR]; simp [HSB.out, hws, hw100, hre]))
        have ire : ¬ (100 : Int) < (rel.size : Int) := by omega
        clear hre hw100 hws
        have HBX := Lib.hid (Below.step HBV.out HB3.out)
        go_simp
        go_wp2_with fail
        go_roundw
        case rel => exact ⟨m + 1, by have := HLM.out; omega, by go_num, HM.out, HBX.out⟩
        case measure => have := HLM.out; simp [intOf]; omega
end Go.Proofs.YtkmnbdomikpakaaDoor.RuleFew
