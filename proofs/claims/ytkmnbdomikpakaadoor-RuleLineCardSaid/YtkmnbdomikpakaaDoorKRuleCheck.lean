/- The document's Check for rules. -/
import Derived.Test.YtkmnbdomikpakaaDoorKRuleAlike
import Derived.Test.YtkmnbdomikpakaaDoorKRuleChk
namespace Go.Proofs.YtkmnbdomikpakaaDoor.RuleCheck
open Go.RowKit Base KeyPlain TuplePlain TupleRef RulePlain RuleMem RuleRec RuleFew RuleAlike RuleChk

def fK (k : Kd) : Bool := k.rules.all fun x => x.e.form
set_option maxRecDepth 100000 in
set_option maxHeartbeats 25600000 in
theorem refCheck_any (A : Option Addr) (c : Nat) (l : List Kd) (w : World) (hL : LayL w w.heap.size A l) (hn : l.length ≤ maxLen) (hf : ∀ k, k ∈ l → k.name.size ≤ 1000000 ∧ ∀ r, r ∈ k.rules → r.rel.size ≤ 1000000 ∧ r.e.deep ≤ 1000000 ∧ r.e.slim = true) :
    Calls Tryd.prog 11 #[.slice A l.length c] w fun e w' => e = .returned (.int .i64 (checkW l)) ∧ Below w.heap.size w w' := by
  unfold maxLen at hn
  have HL := Lib.hid (fun (w' : World) (hw' : Below w.heap.size w w') => hL.later hw')
  have HF := Lib.hid hf
  clear hL hf
  go_enter Tryd.func11, Tryd.ntmps11
  go_upto_region 1 with fail
  go_cut [3, 4, 5] from 12 to 14 (fun s3 s4 s5 wx => s3 = .bool (decide (64 < l.length)) ∧ s4 = .bool true ∧ s5 = .bool true ∧ w = wx)
  case first =>
    by_cases h : 64 < l.length
    · have ii : (64 : Int) < (l.length : Int) := by omega
      have HV := Lib.hid (decide_eq_true h)
      clear h
      go_wp2_with fail
      go_meet
      exact ⟨by rw [HV.out], rfl, rfl, rfl⟩
    · have ii : ¬ (64 : Int) < (l.length : Int) := by omega
      have HV := Lib.hid (decide_eq_false h)
      clear h
      go_wp2_with fail
      go_meet
      exact ⟨by rw [HV.out], rfl, rfl, rfl⟩
  case rest =>
    obtain ⟨rfl, rfl, rfl, rfl⟩ := hcut
    obtain ⟨d64, hd64⟩ : ∃ v, v = (decide (64 < l.length)) := ⟨_, rfl⟩
    rw [← hd64]
    have HD64 := Lib.hid hd64
    clear hd64
    go_wp2_with fail
    go_loopw [3, 4, 5, 6, 7, 8, 9, 10, 11] (fun d f r i z1 z2 z3 z4 z5 wr => z1 = z1 ∧ z2 = z2 ∧ z3 = z3 ∧ z4 = z4 ∧ z5 = z5 ∧ ∃ k : Nat, k ≤ l.length ∧ i = .int .i64 k ∧ d = .bool (d64 || (l.take k).any dK) ∧ f = .bool ((l.take k).all fK) ∧ r = .bool (kindsI [] (l.take k)) ∧ Below w.heap.size w wr) (fun _ _ _ i _ _ _ _ _ _ => l.length - (intOf i).toNat)
    case atStart => exact ⟨rfl, rfl, rfl, rfl, rfl, 0, by omega, rfl, by simp, rfl, rfl, Below.refl _ _⟩
    case round =>
      obtain ⟨_, _, _, _, _, k, hk, rfl, rfl, rfl, rfl, hB⟩ := hrel
      have HBW := Lib.hid hB
      obtain ⟨d0, hd0⟩ : ∃ v, v = (d64 || (l.take k).any dK) := ⟨_, rfl⟩
      rw [← hd0]
      have HD0 := Lib.hid hd0
      clear hd0
      obtain ⟨f0, hf0⟩ : ∃ v, v = ((l.take k).all fK) := ⟨_, rfl⟩
      rw [← hf0]
      have HF0 := Lib.hid hf0
      clear hf0
      obtain ⟨r0, hr0⟩ : ∃ v, v = (kindsI [] (l.take k)) := ⟨_, rfl⟩
      rw [← hr0]
      have HR0 := Lib.hid hr0
      clear hr0
      by_cases hlt : k < l.length
      rotate_left
      · have HM := Lib.hid (show checkW l = if d0 then 122 else if !f0 then 120 else if !r0 then 121 else 0 from by rw [HD0.out, HF0.out, HR0.out, HD64.out, List.take_of_length_le (by omega)]; rfl)
        have hni : ¬ (k : Int) < (l.length : Int) := by omega
        clear HD0 HF0 HR0 HD64
        cases d0 with
        | true =>
          go_wp2_with fail
          go_ret
          exact ⟨by rw [HM.out]; rfl, HBW.out⟩
        | false =>
          cases f0 with
          | false =>
            go_wp2_with fail
            go_ret
            exact ⟨by rw [HM.out]; rfl, HBW.out⟩
          | true =>
            cases r0 with
            | false =>
              go_wp2_with fail
              go_ret
              exact ⟨by rw [HM.out]; rfl, HBW.out⟩
            | true =>
              go_wp2_with fail
              go_ret
              exact ⟨by rw [HM.out]; rfl, HBW.out⟩
      obtain ⟨ad, K, c', rfl, hks, hrs, hml⟩ := kind_see (HL.out wr hB) k hlt
      obtain ⟨hnz, hbr⟩ := HF.out l[k] (List.getElem_mem hlt)
      have HND := Lib.hid (show (d64 || (l.take (k + 1)).any dK) = (d0 || dK l[k]) from by rw [any_take _ _ _ hlt, ← Bool.or_assoc, HD0.out])
      have HNF := Lib.hid (show (l.take (k + 1)).all fK = (f0 && fK l[k]) from by rw [all_take' _ _ _ hlt, HF0.out])
      have HNR := Lib.hid (show kindsI [] (l.take (k + 1)) = (r0 && okK (l.take k) l[k]) from by rw [kindsI_take _ _ hlt, HR0.out])
      have HLT := Lib.hid (Nat.not_le_of_lt hlt)
      have HKL := Lib.hid (fun (w' : World) (hw' : Below wr.heap.size wr w') => LayK.later (show LayK wr wr.heap.size l[k] [.string (l[k]).name, .slice K (l[k]).rules.length c'] from ⟨K, c', rfl, hrs, hml⟩) hw')
      have lkI : (k : Int) < (l.length : Int) := by omega
      have HRL := Lib.hid (fun (w' : World) (hw' : Below wr.heap.size wr w') => hrs.imp (see_later hw') fun _ _ _ h => h.imp (see_later hw'))
      generalize l[k] = kd at *
      obtain ⟨nm, rs⟩ := kd
      simp only at hml hks hbr hnz HKL HRL
      unfold maxLen at hml
      have k0 := hks.at0
      have k1 := hks.at_ 0 rfl
      have HBR := Lib.hid hbr
      have HNZ := Lib.hid hnz
      clear hks hrs hbr hnz HD0 HF0 HR0 hB
      go_upto_region 5 with fail
      go_cut [7] from 21 to 24 (fun s7 wx => ∃ g7 : Nat, s7 = .pointer (some ⟨g7, 0, none⟩) ∧ wr.heap.size ≤ g7 ∧ wx.heap[g7]? = some (.cells #[.string nm, .slice K rs.length c'] 42 (0, 0)) ∧ Below wr.heap.size wr wx)
      case first =>
        go_wp2_with fail
        go_meet
        exact ⟨wr.heap.size, rfl, Nat.le_refl _, heap_alloc_new wr _, al _ _⟩
      case rest =>
        obtain ⟨g7, rfl, hg7, a7, hbc⟩ := hcut
        clear k0 k1 lkI hlt
        have l7 := (Array.getElem?_eq_some_iff.1 a7).1
        generalize wc = wa at *
        have HC7 := Lib.hid (fun (w' : World) (hw' : Below wa.heap.size wa w') => two_at ((hw'.block g7 l7).trans a7))
        have HBC := Lib.hid hbc
        clear a7 l7 hg7 hbc
        obtain ⟨k0, k1⟩ := HC7.out wa (Below.refl _ _)
        obtain ⟨bn, hbn⟩ : ∃ v, v = nameR nm := ⟨_, rfl⟩
        have HBN := Lib.hid hbn
        clear hbn
        go_upto_region 6 with fail
        go_cut [3] from 25 to 31 (fun s3 wx => s3 = .bool (d0 || decide (64 < rs.length)) ∧ wa = wx)
        case first =>
          cases d0 with
          | true =>
            go_wp2_with fail
            go_meet
            exact ⟨by rw [Bool.true_or], rfl⟩
          | false =>
            by_cases h : 64 < rs.length
            · have ii : (64 : Int) < (rs.length : Int) := by omega
              have HV := Lib.hid (decide_eq_true h)
              clear h
              go_wp2_with fail
              go_meet
              exact ⟨by rw [HV.out]; rfl, rfl⟩
            · have ii : ¬ (64 : Int) < (rs.length : Int) := by omega
              have HV := Lib.hid (decide_eq_false h)
              clear h
              go_wp2_with fail
              go_meet
              exact ⟨by rw [HV.out]; rfl, rfl⟩
        case rest =>
          obtain ⟨rfl, rfl⟩ := hcut
          obtain ⟨d1, hd1⟩ : ∃ v, v = (d0 || decide (64 < rs.length)) := ⟨_, rfl⟩
          rw [← hd1]
          have HD1 := Lib.hid hd1
          clear hd1
          go_upto_region 7 with fail
          go_cut [5] from 32 to 37 (fun s5 wx => s5 = .bool (r0 && bn) ∧ wa = wx)
          case first =>
            cases r0 with
            | false =>
              go_wp2_with fail
              go_meet
              exact ⟨by rw [Bool.false_and], rfl⟩
            | true =>
              have hcall := refName12_any nm wa HNZ.out
              rw [← HBN.out] at hcall
              go_wp2_with fail
              (with_reducible refine hcall.mono ?_)
              clear hcall
              rintro e' w2 ⟨rfl, rfl⟩
              go_wp2_with fail
              go_meet
              exact ⟨by rw [Bool.true_and], rfl⟩
          case rest =>
            obtain ⟨rfl, rfl⟩ := hcut
            obtain ⟨r1, hr1⟩ : ∃ v, v = (r0 && bn) := ⟨_, rfl⟩
            rw [← hr1]
            have HR1 := Lib.hid hr1
            clear hr1
            clear k0 k1
            go_wp2_with fail
            go_loopw [5, 8] (fun r i wr => ∃ j : Nat, j ≤ k ∧ i = .int .i64 j ∧ r = .bool (r1 && (l.take j).all fun x => decide (x.name ≠ nm)) ∧ Below wa.heap.size wa wr) (fun _ i _ => k - (intOf i).toNat)
            case atStart => exact ⟨0, by omega, rfl, by simp, Below.refl _ _⟩
            case round =>
              obtain ⟨j, hj, rfl, rfl, hB2⟩ := hrel
              obtain ⟨u, hu⟩ : ∃ v, v = (r1 && (l.take j).all fun x => decide (x.name ≠ nm)) := ⟨_, rfl⟩
              rw [← hu]
              have HU := Lib.hid hu
              clear hu
              have HB2 := Lib.hid hB2
              by_cases hjk : j < k
              rotate_left
              · obtain rfl : j = k := by omega
                have hni : ¬ (j : Int) < (j : Int) := by omega
                clear hjk hj
                have HR2 := Lib.hid HU.out
                clear HU
                generalize u = r2 at *
                generalize wr = wb at *
                have HBB := Lib.hid (Below.step HBC.out HB2.out)
                have HC7b := Lib.hid (fun (w' : World) (hw' : Below wb.heap.size wb w') => HC7.out w' (Below.step HB2.out hw'))
                have HKLb := Lib.hid (fun (w' : World) (hw' : Below wb.heap.size wb w') => HKL.out w' (Below.step HBB.out hw'))
                have HRLb := Lib.hid (fun (w' : World) (hw' : Below wb.heap.size wb w') => HRL.out w' (Below.step HBB.out hw'))
                skip
                go_wp2_with fail
                clear hni
                go_loopw [3, 4, 5, 9, 10, 11] (fun d f r i z1 z2 wr => z1 = z1 ∧ z2 = z2 ∧ ∃ m : Nat, m ≤ rs.length ∧ i = .int .i64 m ∧ d = .bool (d1 || (rs.take m).any dR) ∧ f = .bool (f0 && (rs.take m).all fun x => x.e.form) ∧ r = .bool (r2 && rulesI ⟨nm, rs⟩ [] (rs.take m)) ∧ Below wb.heap.size wb wr) (fun _ _ _ i _ _ _ => rs.length - (intOf i).toNat)
                case atStart => exact ⟨rfl, rfl, 0, by omega, rfl, by simp, by simp, by simp [rulesI], Below.refl _ _⟩
                case round =>
                  obtain ⟨_, _, m, hm, rfl, rfl, rfl, rfl, hB3⟩ := hrel
                  obtain ⟨da, hda⟩ : ∃ v, v = (d1 || (rs.take m).any dR) := ⟨_, rfl⟩
                  rw [← hda]
                  have HDA := Lib.hid hda
                  clear hda
                  obtain ⟨fa, hfa⟩ : ∃ v, v = (f0 && (rs.take m).all fun x => x.e.form) := ⟨_, rfl⟩
                  rw [← hfa]
                  have HFA := Lib.hid hfa
                  clear hfa
                  obtain ⟨ra, hra⟩ : ∃ v, v = (r2 && rulesI ⟨nm, rs⟩ [] (rs.take m)) := ⟨_, rfl⟩
                  rw [← hra]
                  have HRA := Lib.hid hra
                  clear hra
                  have HB3 := Lib.hid hB3
                  obtain ⟨k0, k1⟩ := HC7b.out wr hB3
                  by_cases hlm : m < rs.length
                  rotate_left
                  · have hni : ¬ (m : Int) < (rs.length : Int) := by omega
                    have ht : rs.take m = rs := List.take_of_length_le (by omega)
                    have HMD := Lib.hid (show (d64 || (l.take (j + 1)).any dK) = da from by rw [HND.out, HDA.out, ht, HD1.out, Bool.or_assoc]; rfl)
                    have HMF := Lib.hid (show (l.take (j + 1)).all fK = fa from by rw [HNF.out, HFA.out, ht]; rfl)
                    have HMR := Lib.hid (show kindsI [] (l.take (j + 1)) = ra from by rw [HNR.out, HRA.out, ht, HR2.out, HR1.out, okK, HBN.out]; simp only [Bool.and_assoc])
                    have HBX := Lib.hid (HBW.out.trans ((Below.step HBB.out HB3.out).mono HBW.out.size))
                    clear ht
                    have hlt9 : j < l.length := Nat.lt_of_not_le HLT.out
                    go_wp2_with fail
                    go_roundw
                    case rel => exact ⟨trivial, trivial, trivial, trivial, trivial, j + 1, by have := HLT.out; omega, by go_num, by rw [HMD.out], by rw [HMF.out], by rw [HMR.out], HBX.out⟩
                    case measure => have := HLT.out; simp [intOf]; omega
                  obtain ⟨bd, x1, x2, x3, x4, rfl, hrs, hy⟩ := rule_see (HRLb.out wr hB3) m hlm
                  have HRL3 := Lib.hid (HRLb.out)
                  obtain ⟨hrz, hdp, hsl⟩ := HBR.out rs[m] (List.getElem_mem hlm)
                  have HND3 := Lib.hid (show (d1 || (rs.take (m + 1)).any dR) = (da || dR rs[m]) from by rw [any_take _ _ _ hlm, ← Bool.or_assoc, HDA.out])
                  have HNF3 := Lib.hid (show (f0 && (rs.take (m + 1)).all fun x => x.e.form) = (fa && (rs[m]).e.form) from by rw [all_take' _ _ _ hlm, ← Bool.and_assoc, HFA.out])
                  have HNR3 := Lib.hid (show (r2 && rulesI ⟨nm, rs⟩ [] (rs.take (m + 1))) = (ra && okR ⟨nm, rs⟩ (rs.take m) rs[m]) from by rw [rulesI_take _ _ _ hlm, ← Bool.and_assoc, HRA.out])
                  have HLM := Lib.hid (Nat.not_le_of_lt hlm)
                  have lmI : (m : Int) < (rs.length : Int) := by omega
                  generalize rs[m] = rl at *
                  obtain ⟨rel, e⟩ := rl
                  simp only at hrs hy hrz hdp hsl HNF3
                  obtain ⟨Z, z, hxe, _⟩ := hy.open
                  simp only [List.cons.injEq, and_true] at hxe
                  obtain ⟨rfl, rfl, rfl, rfl⟩ := hxe
                  have HY0 := Lib.hid (fun (w' : World) (hw' : Below wr.heap.size wr w') => hy.later hw')
                  have q0 := hrs.at0
                  have q1 := hrs.at_ 0 rfl
                  have q2 := hrs.at_ 1 rfl
                  have q3 := hrs.at_ 2 rfl
                  have q4 := hrs.at_ 3 rfl
                  have HBR3 := Lib.hid (And.intro hrz (And.intro hdp hsl))
                  clear hrs hy hrz hdp hsl
                  go_upto_region 15 with fail
                  go_cut [10] from 61 to 65 (fun s10 wx => ∃ g10 : Nat, s10 = .pointer (some ⟨g10, 0, none⟩) ∧ wr.heap.size ≤ g10 ∧ wx.heap[g10]? = some (.cells #[.string rel, .string e.op, .string e.nm, .string e.fo, .slice Z e.ps.length z] 47 (0, 0)) ∧ Below wr.heap.size wr wx)
                  case first =>
                    go_wp2_with fail
                    go_meet
                    exact ⟨wr.heap.size, rfl, Nat.le_refl _, heap_alloc_new wr _, al _ _⟩
                  case rest =>
                    obtain ⟨g10, rfl, hg10, a10, hbc⟩ := hcut
                    clear q0 q1 q2 q3 q4 k0 k1
                    have l10 := (Array.getElem?_eq_some_iff.1 a10).1
                    generalize wc = wd at *
                    have HC10 := Lib.hid (fun (w' : World) (hw' : Below wd.heap.size wd w') => five_at ((hw'.block g10 l10).trans a10))
                    have HY := Lib.hid (fun (w' : World) (hw' : Below wd.heap.size wd w') => HY0.out w' (Below.step hbc hw'))
                    have HC7d := Lib.hid (fun (w' : World) (hw' : Below wd.heap.size wd w') => HC7b.out w' (Below.step HB3.out (Below.step hbc hw')))
                    have HKLd := Lib.hid (fun (w' : World) (hw' : Below wd.heap.size wd w') => HKLb.out w' (Below.step HB3.out (Below.step hbc hw')))
                    have HRLd := Lib.hid (fun (w' : World) (hw' : Below wd.heap.size wd w') => HRLb.out w' (Below.step HB3.out (Below.step hbc hw')))
                    have HBD := Lib.hid (Below.step HB3.out hbc)
                    clear a10 l10 hg10 hbc HY0 HRL3
                    obtain ⟨k0, k1⟩ := HC7d.out wd (Below.refl _ _)
                    obtain ⟨q0, q1, q2, q3, q4⟩ := HC10.out wd (Below.refl _ _)
                    go_upto_region 16 with fail
                    go_cut [3] from 66 to 78 (fun s3 wx => s3 = .bool (da || dR ⟨rel, e⟩) ∧ Below wd.heap.size wd wx)
                    case first =>
                      cases da with
                      | true =>
                        go_wp2_with fail
                        go_meet
                        exact ⟨by rw [Bool.true_or], Below.refl _ _⟩
                      | false =>
                        have hcall := refSize_any e.size e _ wd (Nat.le_refl _) (HY.out wd (Below.refl _ _))
                        obtain ⟨ws, hws⟩ : ∃ v, v = wrap e.size := ⟨_, rfl⟩
                        rw [← hws] at hcall
                        have HWS := Lib.hid hws
                        clear hws
                        go_wp2_with fail
                        (with_reducible refine hcall.mono ?_)
                        clear hcall
                        clear k0 k1 q0 q1 q2 q3 q4
                        rintro e' w2 ⟨rfl, hb⟩
                        have HB16 := Lib.hid hb
                        clear hb
                        by_cases h64 : 64 < ws
                        · have HV := Lib.hid (show dR ⟨rel, e⟩ = true from by unfold dR; simp only; rw [← HWS.out, decide_eq_true h64, Bool.true_or])
                          go_wp2_with fail
                          go_meet
                          exact ⟨by rw [HV.out]; rfl, HB16.out⟩
                        · have HV := Lib.hid (show dR ⟨rel, e⟩ = decide (8 < e.deep) from by unfold dR; simp only; rw [← HWS.out, decide_eq_false h64, Bool.false_or])
                          obtain ⟨k0, k1⟩ := HC7d.out w2 HB16.out
                          obtain ⟨q0, q1, q2, q3, q4⟩ := HC10.out w2 HB16.out
                          have hcall := refDeep_any e.size e _ w2 (Nat.le_refl _) HBR3.out.2.1 (HY.out w2 HB16.out)
                          go_simp
                          go_wp2_with fail
                          (with_reducible refine hcall.mono ?_)
                          clear hcall
                          clear k0 k1 q0 q1 q2 q3 q4
                          rintro e' w3 ⟨rfl, hb⟩
                          have HB17 := Lib.hid (Below.step HB16.out hb)
                          clear hb h64
                          by_cases h8 : 8 < e.deep
                          · have i8 : (8 : Int) < (e.deep : Int) := by omega
                            have HV2 := Lib.hid (decide_eq_true h8)
                            clear h8
                            go_simp
                            go_wp2_with fail
                            go_meet
                            exact ⟨by rw [HV.out, HV2.out]; rfl, HB17.out⟩
                          · have i8 : ¬ (8 : Int) < (e.deep : Int) := by omega
                            have HV2 := Lib.hid (decide_eq_false h8)
                            clear h8
                            go_simp
                            go_wp2_with fail
                            go_meet
                            exact ⟨by rw [HV.out, HV2.out]; rfl, HB17.out⟩
                    case rest =>
                      obtain ⟨rfl, hbe⟩ := hcut
                      clear k0 k1 q0 q1 q2 q3 q4
                      have HBE := Lib.hid hbe
                      clear hbe
                      obtain ⟨db, hdb⟩ : ∃ v, v = (da || dR ⟨rel, e⟩) := ⟨_, rfl⟩
                      rw [← hdb]
                      have HDB := Lib.hid hdb
                      clear hdb
                      generalize wc = wd2 at *
                      obtain ⟨k0, k1⟩ := HC7d.out wd2 HBE.out
                      obtain ⟨q0, q1, q2, q3, q4⟩ := HC10.out wd2 HBE.out
                      go_upto_region 17 with fail
                      go_cut [4] from 79 to 84 (fun s4 wx => s4 = .bool (fa && e.form) ∧ Below wd2.heap.size wd2 wx)
                      case first =>
                        cases fa with
                        | false =>
                          go_wp2_with fail
                          go_meet
                          exact ⟨by rw [Bool.false_and], Below.refl _ _⟩
                        | true =>
                          have hcall := refForm_any e.size e _ wd2 (Nat.le_refl _) (HY.out wd2 HBE.out)
                          obtain ⟨ef, hef⟩ : ∃ v, v = e.form := ⟨_, rfl⟩
                          rw [← hef] at hcall
                          have HEF := Lib.hid hef
                          clear hef
                          go_wp2_with fail
                          (with_reducible refine hcall.mono ?_)
                          clear hcall
                          clear k0 k1 q0 q1 q2 q3 q4
                          rintro e' w2 ⟨rfl, hb⟩
                          have HB16 := Lib.hid hb
                          clear hb
                          go_wp2_with fail
                          go_meet
                          exact ⟨by rw [Bool.true_and, HEF.out], HB16.out⟩
                      case rest =>
                        obtain ⟨rfl, hbf⟩ := hcut
                        clear k0 k1 q0 q1 q2 q3 q4
                        have HBF := Lib.hid (Below.step HBE.out hbf)
                        clear hbf
                        obtain ⟨fb, hfb⟩ : ∃ v, v = (fa && e.form) := ⟨_, rfl⟩
                        rw [← hfb]
                        have HFB := Lib.hid hfb
                        clear hfb
                        generalize wc = wd3 at *
                        obtain ⟨k0, k1⟩ := HC7d.out wd3 HBF.out
                        obtain ⟨q0, q1, q2, q3, q4⟩ := HC10.out wd3 HBF.out
                        go_upto_region 18 with fail
                        go_cut [5] from 85 to 96 (fun s5 wx => s5 = .bool (ra && (nameR rel && e.named ⟨nm, rs⟩)) ∧ Below wd3.heap.size wd3 wx)
                        case first =>
                          cases ra with
                          | false =>
                            go_wp2_with fail
                            go_meet
                            exact ⟨by rw [Bool.false_and], Below.refl _ _⟩
                          | true =>
                            obtain ⟨rn, hrn⟩ : ∃ v, v = nameR rel := ⟨_, rfl⟩
                            obtain ⟨en, hen⟩ : ∃ v, v = e.named ⟨nm, rs⟩ := ⟨_, rfl⟩
                            have HRN := Lib.hid hrn
                            have HEN := Lib.hid hen
                            clear hrn hen
                            have HNC := Lib.hid (fun (w' : World) => show Calls Tryd.prog 28 #[.string rel] w' fun e w'' => e = .returned (.bool rn) ∧ w' = w'' from by rw [HRN.out]; exact refName12_any rel w' HBR3.out.1)
                            have HMC := Lib.hid (fun (w' : World) (hw' : Below wd3.heap.size wd3 w') => show Calls Tryd.prog 30 #[.agg #[.string nm, .slice (some bd) rs.length c'], .agg #[.string e.op, .string e.nm, .string e.fo, .slice Z e.ps.length z]] w' fun r w'' => r = .returned (.bool en) ∧ Below w'.heap.size w' w'' from by rw [HEN.out]; exact refNamed_any ⟨nm, rs⟩ _ e.size e _ w' (Nat.le_refl _) HBR3.out.2.2 (HKLd.out w' (Below.step HBF.out hw')) (HY.out w' (Below.step HBF.out hw')))
                            have hcall := HNC.out wd3
                            go_wp2_with fail
                            (with_reducible refine hcall.mono ?_)
                            clear hcall
                            rintro e9 w9 ⟨rfl, rfl⟩
                            cases rn with
                            | false =>
                              go_wp2_with fail
                              go_meet
                              exact ⟨by rw [← HRN.out]; rfl, Below.refl _ _⟩
                            | true =>
                              have hcall := HMC.out wd3 (Below.refl _ _)
                              go_wp2_with fail
                              (with_reducible refine hcall.mono ?_)
                              clear hcall
                              clear k0 k1 q0 q1 q2 q3 q4
                              rintro e9 w9 ⟨rfl, hb⟩
                              have HQ := Lib.hid hb
                              clear hb
                              go_wp2_with fail
                              go_meet
                              exact ⟨by rw [← HRN.out, ← HEN.out]; rfl, HQ.out⟩
                        case rest =>
                          obtain ⟨rfl, hbg⟩ := hcut
                          clear k0 k1 q0 q1 q2 q3 q4
                          have HBG := Lib.hid (Below.step HBF.out hbg)
                          clear hbg
                          obtain ⟨rb, hrb⟩ : ∃ v, v = (ra && (nameR rel && e.named ⟨nm, rs⟩)) := ⟨_, rfl⟩
                          rw [← hrb]
                          have HRB := Lib.hid hrb
                          clear hrb
                          generalize wc = we at *
                          have HC7e := Lib.hid (fun (w' : World) (hw' : Below we.heap.size we w') => HC7d.out w' (Below.step HBG.out hw'))
                          have HC10e := Lib.hid (fun (w' : World) (hw' : Below we.heap.size we w') => HC10.out w' (Below.step HBG.out hw'))
                          have HRL2 := Lib.hid (fun (w' : World) (hw' : Below we.heap.size we w') => HRLd.out w' (Below.step HBG.out hw'))
                          go_wp2_with fail
                          go_loopw [5, 11] (fun r i wr => ∃ n : Nat, n ≤ m ∧ i = .int .i64 n ∧ r = .bool (rb && (rs.take n).all fun x => decide (x.rel ≠ rel)) ∧ Below we.heap.size we wr) (fun _ i _ => m - (intOf i).toNat)
                          case atStart => exact ⟨0, by omega, rfl, by simp, Below.refl _ _⟩
                          case round =>
                            obtain ⟨n, hn4, rfl, rfl, hB4⟩ := hrel
                            obtain ⟨u, hu⟩ : ∃ v, v = (rb && (rs.take n).all fun x => decide (x.rel ≠ rel)) := ⟨_, rfl⟩
                            rw [← hu]
                            have HU := Lib.hid hu
                            clear hu
                            have HB4 := Lib.hid hB4
                            by_cases hnm : n < m
                            rotate_left
                            · obtain rfl : n = m := by omega
                              have hni : ¬ (n : Int) < (n : Int) := by omega
                              clear hnm hn4
                              have HN3 := Lib.hid (show (r2 && rulesI ⟨nm, rs⟩ [] (rs.take (n + 1))) = u from by rw [HNR3.out, HU.out, HRB.out, okR]; simp only [Bool.and_assoc])
                              obtain ⟨k0, k1⟩ := HC7e.out wr HB4.out
                              have HBX := Lib.hid (Below.step HBD.out (Below.step HBG.out HB4.out))
                              go_wp2_with fail
                              go_roundw
                              case rel => exact ⟨trivial, trivial, n + 1, by have := HLM.out; omega, by go_num, by rw [HND3.out, HDB.out], by rw [HNF3.out, HFB.out], by rw [HN3.out], HBX.out⟩
                              case measure => have := HLM.out; simp [intOf]; omega
                            have hn9 : n < rs.length := by have := HLM.out; omega
                            obtain ⟨bd', y1, y2, y3, y4, he, hrs', _⟩ := rule_see (HRL2.out wr hB4) n hn9
                            obtain rfl := Option.some.inj he
                            clear he
                            have HNX4 := Lib.hid (show (rb && (rs.take (n + 1)).all fun x => decide (x.rel ≠ rel)) = (u && decide ((rs[n]).rel ≠ rel)) from by rw [all_take' _ _ _ hn9, ← Bool.and_assoc, HU.out])
                            have lnI : (n : Int) < (rs.length : Int) := by omega
                            generalize rs[n] = rn at *
                            obtain ⟨rel', e'⟩ := rn
                            simp only at hrs' HNX4
                            have HSV := Lib.hid (fun (w' : World) (hw' : Below wr.heap.size wr w') => show (w'.cell? ⟨g7, 0, none⟩ = some (.string nm) ∧ w'.cell? ⟨g7, 1, none⟩ = some (.slice (some bd) rs.length c')) ∧ w'.cell? (bd.add (n * 5)) = some (.string rel') ∧ w'.cell? ⟨g10, 0, none⟩ = some (.string rel) from ⟨HC7e.out w' (Below.step hB4 hw'), (hrs'.below hw').at0, (HC10e.out w' (Below.step hB4 hw')).1⟩)
                            have HLN := Lib.hid (Nat.not_le_of_lt hnm)
                            clear hrs' hB4 hn9
                            have hq := Str.ba_beq rel' rel
                            obtain ⟨⟨k0, k1⟩, t0, r0⟩ := HSV.out wr (Below.refl _ _)
                            cases u with
                            | false =>
                              go_upto_region 22 with fail
                              clear k0 k1 t0 r0
                              refine wp_region_any (by kernel_rfl) ?_
                              change wpAny _ _ _ _ _ _ _ (World.drew _)
                              refine Reg.take_at (i := 0) (d := 102) (v := ?_) rfl rfl (by kernel_rfl) (by kernel_rfl) (by kernel_rfl) (fun _ _ _ h => h) (Or.inl ⟨by rfl, ?_⟩) ?_
                              rotate_left 1
                              · intro w; go_simp <;> with_reducible rfl
                              simp only [Act.put, List.setIfInBounds_toArray, List.set_cons_zero, List.set_cons_succ]
                              refine Reg.take_at (i := 1) (d := 103) (v := ?_) rfl rfl (by kernel_rfl) (by kernel_rfl) (by kernel_rfl) (fun _ _ _ h => h) (Or.inl ⟨by rfl, ?_⟩) ?_
                              rotate_left 1
                              · intro w; go_simp <;> with_reducible rfl
                              simp only [Act.put, List.setIfInBounds_toArray, List.set_cons_zero, List.set_cons_succ]
                              refine Reg.take_at (i := 2) (d := 104) (v := undef) rfl rfl (by kernel_rfl) (by kernel_rfl) (by kernel_rfl) (fun _ _ _ h => h) (Or.inr ⟨by rfl, rfl⟩) ?_
                              simp only [Act.put, List.setIfInBounds_toArray, List.set_cons_zero, List.set_cons_succ]
                              refine Reg.take_at (i := 3) (d := 105) (v := undef) rfl rfl (by kernel_rfl) (by kernel_rfl) (by kernel_rfl) (fun _ _ _ h => h) (Or.inr ⟨by rfl, rfl⟩) ?_
                              simp only [Act.put, List.setIfInBounds_toArray, List.set_cons_zero, List.set_cons_succ]
                              refine Reg.take_at (i := 4) (d := 106) (v := undef) rfl rfl (by kernel_rfl) (by kernel_rfl) (by kernel_rfl) (fun _ _ _ h => h) (Or.inr ⟨by rfl, rfl⟩) ?_
                              simp only [Act.put, List.setIfInBounds_toArray, List.set_cons_zero, List.set_cons_succ]
                              refine Reg.take_at (i := 5) (d := 107) (v := undef) rfl rfl (by kernel_rfl) (by kernel_rfl) (by kernel_rfl) (fun _ _ _ h => h) (Or.inr ⟨by rfl, rfl⟩) ?_
                              simp only [Act.put, List.setIfInBounds_toArray, List.set_cons_zero, List.set_cons_succ]
                              refine Reg.take_at (i := 6) (d := 108) (v := undef) rfl rfl (by kernel_rfl) (by kernel_rfl) (by kernel_rfl) (fun _ _ _ h => h) (Or.inr ⟨by rfl, rfl⟩) ?_
                              simp only [Act.put, List.setIfInBounds_toArray, List.set_cons_zero, List.set_cons_succ]
                              refine Reg.take_at (i := 7) (d := 109) (v := undef) rfl rfl (by kernel_rfl) (by kernel_rfl) (by kernel_rfl) (fun _ _ _ h => h) (Or.inr ⟨by rfl, rfl⟩) ?_
                              simp only [Act.put, List.setIfInBounds_toArray, List.set_cons_zero, List.set_cons_succ]
                              refine Reg.take_at (i := 8) (d := 110) (v := undef) rfl rfl (by kernel_rfl) (by kernel_rfl) (by kernel_rfl) (fun _ _ _ h => h) (Or.inr ⟨by rfl, rfl⟩) ?_
                              simp only [Act.put, List.setIfInBounds_toArray, List.set_cons_zero, List.set_cons_succ]
                              refine Reg.take_at (i := 9) (d := 111) (v := undef) rfl rfl (by kernel_rfl) (by kernel_rfl) (by kernel_rfl) (fun _ _ _ h => h) (Or.inr ⟨by rfl, rfl⟩) ?_
                              simp only [Act.put, List.setIfInBounds_toArray, List.set_cons_zero, List.set_cons_succ]
                              refine Reg.take_at (i := 10) (d := 112) (v := undef) rfl rfl (by kernel_rfl) (by kernel_rfl) (by kernel_rfl) (fun _ _ _ h => h) (Or.inr ⟨by rfl, rfl⟩) ?_
                              simp only [Act.put, List.setIfInBounds_toArray, List.set_cons_zero, List.set_cons_succ]
                              refine Reg.take_at (i := 11) (d := 113) (v := ?_) rfl rfl (by kernel_rfl) (by kernel_rfl) (by kernel_rfl) (fun _ _ _ h => h) (Or.inl ⟨by rfl, ?_⟩) ?_
                              rotate_left 1
                              · intro w; go_simp <;> with_reducible rfl
                              simp only [Act.put, List.setIfInBounds_toArray, List.set_cons_zero, List.set_cons_succ]
                              refine Reg.take_at (i := 12) (d := 5) (v := ?_) rfl rfl (by kernel_rfl) (by kernel_rfl) (by kernel_rfl) (fun _ _ _ h => h) (Or.inl ⟨by rfl, ?_⟩) ?_
                              rotate_left 1
                              · intro w; go_simp <;> with_reducible rfl
                              simp only [Act.put, List.setIfInBounds_toArray, List.set_cons_zero, List.set_cons_succ]
                              refine wpAny_done (by kernel_rfl) ?_ _
                              have HBX := Lib.hid (Below.step HB4.out (show Below wr.heap.size wr (World.drew wr) from (Below.refl _ _).drew))
                              go_wp2_with fail
                              go_roundw
                              case rel => exact ⟨n + 1, by have := HLN.out; omega, by go_num, by rw [HNX4.out]; rfl, HBX.out⟩
                              case measure => have := HLN.out; simp [intOf]; omega
                            | true =>
                              by_cases he : rel' = rel
                              · rw [decide_eq_true he] at hq
                                go_upto_region 22 with fail
                                clear k0 k1 t0 r0
                                refine wp_region_any (by kernel_rfl) ?_
                                change wpAny _ _ _ _ _ _ _ (World.drew _)
                                refine Held.any_of_G (S := (fun w' : World => (w'.cell? ⟨g7, 0, none⟩ = some (.string nm) ∧ w'.cell? ⟨g7, 1, none⟩ = some (.slice (some bd) rs.length c')) ∧ w'.cell? (bd.add (n * 5)) = some (.string rel') ∧ w'.cell? ⟨g10, 0, none⟩ = some (.string rel))) (z := 12) _ _ _ _ ?_
                                refine Held.G_take (i := 0) (d := 102) (v := ?_) [0, 1, 2, 3, 4, 5, 6, 7, 8, 9, 10, 11, 12] rfl rfl (by kernel_rfl) (by kernel_rfl) (by kernel_rfl) (by kernel_rfl) (fun _ _ _ h => h) (Or.inl ⟨by rfl, ?_⟩) (HSV.out _ (show Below wr.heap.size wr (World.drew wr) from (Below.refl _ _).drew)) ?_
                                rotate_left 1
                                · intro w hSw; clear hSw; go_simp <;> with_reducible rfl
                                simp only [Act.put, List.setIfInBounds_toArray, List.set_cons_zero, List.set_cons_succ]
                                refine Held.G_take (i := 1) (d := 103) (v := ?_) [1, 2, 3, 4, 5, 6, 7, 8, 9, 10, 11, 12] rfl rfl (by kernel_rfl) (by kernel_rfl) (by kernel_rfl) (by kernel_rfl) (fun _ _ _ h => h) (Or.inl ⟨by rfl, ?_⟩) (HSV.out _ (show Below wr.heap.size wr (World.drew wr) from (Below.refl _ _).drew)) ?_
                                rotate_left 1
                                · intro w hSw; clear hSw; go_simp <;> with_reducible rfl
                                simp only [Act.put, List.setIfInBounds_toArray, List.set_cons_zero, List.set_cons_succ]
                                refine Held.G_take (i := 2) (d := 104) (v := ?_) [2, 3, 5, 6, 7, 10, 11, 12] rfl rfl (by kernel_rfl) (by kernel_rfl) (by kernel_rfl) (by kernel_rfl) (fun _ _ _ h => h) (Or.inl ⟨by rfl, ?_⟩) (HSV.out _ (show Below wr.heap.size wr (World.drew wr) from (Below.refl _ _).drew)) ?_
                                rotate_left 1
                                · intro w hSw; clear hSw; go_simp <;> with_reducible rfl
                                simp only [Act.put, List.setIfInBounds_toArray, List.set_cons_zero, List.set_cons_succ]
                                refine Held.G_take (i := 3) (d := 105) (v := ?_) [3, 5, 6, 7, 10, 11, 12] rfl rfl (by kernel_rfl) (by kernel_rfl) (by kernel_rfl) (by kernel_rfl) (fun _ _ _ h => h) (Or.inl ⟨by rfl, ?_⟩) (HSV.out _ (show Below wr.heap.size wr (World.drew wr) from (Below.refl _ _).drew)) ?_
                                rotate_left 1
                                · intro w hSw; obtain ⟨⟨k0, k1⟩, t0, r0⟩ := hSw; go_simp <;> with_reducible rfl
                                simp only [Act.put, List.setIfInBounds_toArray, List.set_cons_zero, List.set_cons_succ]
                                refine Held.G_take (i := 4) (d := 106) (v := ?_) [4, 5, 6, 7, 10, 11, 12] rfl rfl (by kernel_rfl) (by kernel_rfl) (by kernel_rfl) (by kernel_rfl) (fun _ _ _ h => h) (Or.inl ⟨by rfl, ?_⟩) (HSV.out _ (show Below wr.heap.size wr (World.drew wr) from (Below.refl _ _).drew)) ?_
                                rotate_left 1
                                · intro w hSw; clear hSw; go_simp <;> with_reducible rfl
                                simp only [Act.put, List.setIfInBounds_toArray, List.set_cons_zero, List.set_cons_succ]
                                refine Held.G_take (i := 5) (d := 107) (v := ?_) [5, 6, 7, 10, 11, 12] rfl rfl (by kernel_rfl) (by kernel_rfl) (by kernel_rfl) (by kernel_rfl) (fun _ _ _ h => h) (Or.inl ⟨by rfl, ?_⟩) (HSV.out _ (show Below wr.heap.size wr (World.drew wr) from (Below.refl _ _).drew)) ?_
                                rotate_left 1
                                · intro w hSw; clear hSw; go_simp <;> with_reducible rfl
                                simp only [Act.put, List.setIfInBounds_toArray, List.set_cons_zero, List.set_cons_succ]
                                refine Held.G_take (i := 6) (d := 108) (v := ?_) [6, 7, 10, 11, 12] rfl rfl (by kernel_rfl) (by kernel_rfl) (by kernel_rfl) (by kernel_rfl) (fun _ _ _ h => h) (Or.inl ⟨by rfl, ?_⟩) (HSV.out _ (show Below wr.heap.size wr (World.drew wr) from (Below.refl _ _).drew)) ?_
                                rotate_left 1
                                · intro w hSw; clear hSw; go_simp <;> with_reducible rfl
                                simp only [Act.put, List.setIfInBounds_toArray, List.set_cons_zero, List.set_cons_succ]
                                refine Held.G_take (i := 7) (d := 109) (v := ?_) [7, 10, 11, 12] rfl rfl (by kernel_rfl) (by kernel_rfl) (by kernel_rfl) (by kernel_rfl) (fun _ _ _ h => h) (Or.inl ⟨by rfl, ?_⟩) (HSV.out _ (show Below wr.heap.size wr (World.drew wr) from (Below.refl _ _).drew)) ?_
                                rotate_left 1
                                · intro w hSw; obtain ⟨⟨k0, k1⟩, t0, r0⟩ := hSw; go_simp <;> with_reducible rfl
                                simp only [Act.put, List.setIfInBounds_toArray, List.set_cons_zero, List.set_cons_succ]
                                refine Held.G_take (i := 8) (d := 110) (v := ?_) [8, 9, 10, 11, 12] rfl rfl (by kernel_rfl) (by kernel_rfl) (by kernel_rfl) (by kernel_rfl) (fun _ _ _ h => h) (Or.inl ⟨by rfl, ?_⟩) (HSV.out _ (show Below wr.heap.size wr (World.drew wr) from (Below.refl _ _).drew)) ?_
                                rotate_left 1
                                · intro w hSw; clear hSw; go_simp <;> with_reducible rfl
                                simp only [Act.put, List.setIfInBounds_toArray, List.set_cons_zero, List.set_cons_succ]
                                refine Held.G_take (i := 9) (d := 111) (v := ?_) [9, 10, 11, 12] rfl rfl (by kernel_rfl) (by kernel_rfl) (by kernel_rfl) (by kernel_rfl) (fun _ _ _ h => h) (Or.inl ⟨by rfl, ?_⟩) (HSV.out _ (show Below wr.heap.size wr (World.drew wr) from (Below.refl _ _).drew)) ?_
                                rotate_left 1
                                · intro w hSw; obtain ⟨⟨k0, k1⟩, t0, r0⟩ := hSw; go_simp <;> with_reducible rfl
                                simp only [Act.put, List.setIfInBounds_toArray, List.set_cons_zero, List.set_cons_succ]
                                refine Held.G_take (i := 10) (d := 112) (v := ?_) [10, 11, 12] rfl rfl (by kernel_rfl) (by kernel_rfl) (by kernel_rfl) (by kernel_rfl) (fun _ _ _ h => h) (Or.inl ⟨by rfl, ?_⟩) (HSV.out _ (show Below wr.heap.size wr (World.drew wr) from (Below.refl _ _).drew)) ?_
                                rotate_left 1
                                · intro w hSw; clear hSw; go_simp <;> with_reducible rfl
                                simp only [Act.put, List.setIfInBounds_toArray, List.set_cons_zero, List.set_cons_succ]
                                refine Held.G_take (i := 11) (d := 113) (v := ?_) [11, 12] rfl rfl (by kernel_rfl) (by kernel_rfl) (by kernel_rfl) (by kernel_rfl) (fun _ _ _ h => h) (Or.inl ⟨by rfl, ?_⟩) (HSV.out _ (show Below wr.heap.size wr (World.drew wr) from (Below.refl _ _).drew)) ?_
                                rotate_left 1
                                · intro w hSw; clear hSw; go_simp <;> with_reducible rfl
                                simp only [Act.put, List.setIfInBounds_toArray, List.set_cons_zero, List.set_cons_succ]
                                refine Held.G_ready (rs := [12]) (by decide +kernel) (by simp) ?_
                                refine Held.G_last rfl (fun KK hK => ?_) Held.G_nil
                                go_simp
                                refine hK _ _ ?_
                                clear hK KK
                                refine Held.G_done (by kernel_rfl) ?_ _
                                have HBX := Lib.hid (Below.step HB4.out (show Below wr.heap.size wr (World.drew wr) from (Below.refl _ _).drew))
                                go_wp2_with fail
                                go_roundw
                                case rel => exact ⟨n + 1, by have := HLN.out; omega, by go_num, by rw [HNX4.out]; rw [decide_eq_false fun h => h he]; rfl, HBX.out⟩
                                case measure => have := HLN.out; simp [intOf]; omega
                              · rw [decide_eq_false he] at hq
                                go_upto_region 22 with fail
                                clear k0 k1 t0 r0
                                refine wp_region_any (by kernel_rfl) ?_
                                change wpAny _ _ _ _ _ _ _ (World.drew _)
                                refine Held.any_of_G (S := (fun w' : World => (w'.cell? ⟨g7, 0, none⟩ = some (.string nm) ∧ w'.cell? ⟨g7, 1, none⟩ = some (.slice (some bd) rs.length c')) ∧ w'.cell? (bd.add (n * 5)) = some (.string rel') ∧ w'.cell? ⟨g10, 0, none⟩ = some (.string rel))) (z := 12) _ _ _ _ ?_
                                refine Held.G_take (i := 0) (d := 102) (v := ?_) [0, 1, 2, 3, 4, 5, 6, 7, 8, 9, 10, 11, 12] rfl rfl (by kernel_rfl) (by kernel_rfl) (by kernel_rfl) (by kernel_rfl) (fun _ _ _ h => h) (Or.inl ⟨by rfl, ?_⟩) (HSV.out _ (show Below wr.heap.size wr (World.drew wr) from (Below.refl _ _).drew)) ?_
                                rotate_left 1
                                · intro w hSw; clear hSw; go_simp <;> with_reducible rfl
                                simp only [Act.put, List.setIfInBounds_toArray, List.set_cons_zero, List.set_cons_succ]
                                refine Held.G_take (i := 1) (d := 103) (v := ?_) [1, 2, 3, 4, 5, 6, 7, 8, 9, 10, 11, 12] rfl rfl (by kernel_rfl) (by kernel_rfl) (by kernel_rfl) (by kernel_rfl) (fun _ _ _ h => h) (Or.inl ⟨by rfl, ?_⟩) (HSV.out _ (show Below wr.heap.size wr (World.drew wr) from (Below.refl _ _).drew)) ?_
                                rotate_left 1
                                · intro w hSw; clear hSw; go_simp <;> with_reducible rfl
                                simp only [Act.put, List.setIfInBounds_toArray, List.set_cons_zero, List.set_cons_succ]
                                refine Held.G_take (i := 2) (d := 104) (v := ?_) [2, 3, 5, 6, 7, 10, 11, 12] rfl rfl (by kernel_rfl) (by kernel_rfl) (by kernel_rfl) (by kernel_rfl) (fun _ _ _ h => h) (Or.inl ⟨by rfl, ?_⟩) (HSV.out _ (show Below wr.heap.size wr (World.drew wr) from (Below.refl _ _).drew)) ?_
                                rotate_left 1
                                · intro w hSw; clear hSw; go_simp <;> with_reducible rfl
                                simp only [Act.put, List.setIfInBounds_toArray, List.set_cons_zero, List.set_cons_succ]
                                refine Held.G_take (i := 3) (d := 105) (v := ?_) [3, 5, 6, 7, 10, 11, 12] rfl rfl (by kernel_rfl) (by kernel_rfl) (by kernel_rfl) (by kernel_rfl) (fun _ _ _ h => h) (Or.inl ⟨by rfl, ?_⟩) (HSV.out _ (show Below wr.heap.size wr (World.drew wr) from (Below.refl _ _).drew)) ?_
                                rotate_left 1
                                · intro w hSw; obtain ⟨⟨k0, k1⟩, t0, r0⟩ := hSw; go_simp <;> with_reducible rfl
                                simp only [Act.put, List.setIfInBounds_toArray, List.set_cons_zero, List.set_cons_succ]
                                refine Held.G_take (i := 4) (d := 106) (v := ?_) [4, 5, 6, 7, 10, 11, 12] rfl rfl (by kernel_rfl) (by kernel_rfl) (by kernel_rfl) (by kernel_rfl) (fun _ _ _ h => h) (Or.inl ⟨by rfl, ?_⟩) (HSV.out _ (show Below wr.heap.size wr (World.drew wr) from (Below.refl _ _).drew)) ?_
                                rotate_left 1
                                · intro w hSw; clear hSw; go_simp <;> with_reducible rfl
                                simp only [Act.put, List.setIfInBounds_toArray, List.set_cons_zero, List.set_cons_succ]
                                refine Held.G_take (i := 5) (d := 107) (v := ?_) [5, 6, 7, 10, 11, 12] rfl rfl (by kernel_rfl) (by kernel_rfl) (by kernel_rfl) (by kernel_rfl) (fun _ _ _ h => h) (Or.inl ⟨by rfl, ?_⟩) (HSV.out _ (show Below wr.heap.size wr (World.drew wr) from (Below.refl _ _).drew)) ?_
                                rotate_left 1
                                · intro w hSw; clear hSw; go_simp <;> with_reducible rfl
                                simp only [Act.put, List.setIfInBounds_toArray, List.set_cons_zero, List.set_cons_succ]
                                refine Held.G_take (i := 6) (d := 108) (v := ?_) [6, 7, 10, 11, 12] rfl rfl (by kernel_rfl) (by kernel_rfl) (by kernel_rfl) (by kernel_rfl) (fun _ _ _ h => h) (Or.inl ⟨by rfl, ?_⟩) (HSV.out _ (show Below wr.heap.size wr (World.drew wr) from (Below.refl _ _).drew)) ?_
                                rotate_left 1
                                · intro w hSw; clear hSw; go_simp <;> with_reducible rfl
                                simp only [Act.put, List.setIfInBounds_toArray, List.set_cons_zero, List.set_cons_succ]
                                refine Held.G_take (i := 7) (d := 109) (v := ?_) [7, 10, 11, 12] rfl rfl (by kernel_rfl) (by kernel_rfl) (by kernel_rfl) (by kernel_rfl) (fun _ _ _ h => h) (Or.inl ⟨by rfl, ?_⟩) (HSV.out _ (show Below wr.heap.size wr (World.drew wr) from (Below.refl _ _).drew)) ?_
                                rotate_left 1
                                · intro w hSw; obtain ⟨⟨k0, k1⟩, t0, r0⟩ := hSw; go_simp <;> with_reducible rfl
                                simp only [Act.put, List.setIfInBounds_toArray, List.set_cons_zero, List.set_cons_succ]
                                refine Held.G_take (i := 8) (d := 110) (v := ?_) [8, 9, 10, 11, 12] rfl rfl (by kernel_rfl) (by kernel_rfl) (by kernel_rfl) (by kernel_rfl) (fun _ _ _ h => h) (Or.inl ⟨by rfl, ?_⟩) (HSV.out _ (show Below wr.heap.size wr (World.drew wr) from (Below.refl _ _).drew)) ?_
                                rotate_left 1
                                · intro w hSw; clear hSw; go_simp <;> with_reducible rfl
                                simp only [Act.put, List.setIfInBounds_toArray, List.set_cons_zero, List.set_cons_succ]
                                refine Held.G_take (i := 9) (d := 111) (v := ?_) [9, 10, 11, 12] rfl rfl (by kernel_rfl) (by kernel_rfl) (by kernel_rfl) (by kernel_rfl) (fun _ _ _ h => h) (Or.inl ⟨by rfl, ?_⟩) (HSV.out _ (show Below wr.heap.size wr (World.drew wr) from (Below.refl _ _).drew)) ?_
                                rotate_left 1
                                · intro w hSw; obtain ⟨⟨k0, k1⟩, t0, r0⟩ := hSw; go_simp <;> with_reducible rfl
                                simp only [Act.put, List.setIfInBounds_toArray, List.set_cons_zero, List.set_cons_succ]
                                refine Held.G_take (i := 10) (d := 112) (v := ?_) [10, 11, 12] rfl rfl (by kernel_rfl) (by kernel_rfl) (by kernel_rfl) (by kernel_rfl) (fun _ _ _ h => h) (Or.inl ⟨by rfl, ?_⟩) (HSV.out _ (show Below wr.heap.size wr (World.drew wr) from (Below.refl _ _).drew)) ?_
                                rotate_left 1
                                · intro w hSw; clear hSw; go_simp <;> with_reducible rfl
                                simp only [Act.put, List.setIfInBounds_toArray, List.set_cons_zero, List.set_cons_succ]
                                refine Held.G_take (i := 11) (d := 113) (v := ?_) [11, 12] rfl rfl (by kernel_rfl) (by kernel_rfl) (by kernel_rfl) (by kernel_rfl) (fun _ _ _ h => h) (Or.inl ⟨by rfl, ?_⟩) (HSV.out _ (show Below wr.heap.size wr (World.drew wr) from (Below.refl _ _).drew)) ?_
                                rotate_left 1
                                · intro w hSw; clear hSw; go_simp <;> with_reducible rfl
                                simp only [Act.put, List.setIfInBounds_toArray, List.set_cons_zero, List.set_cons_succ]
                                refine Held.G_ready (rs := [12]) (by decide +kernel) (by simp) ?_
                                refine Held.G_last rfl (fun KK hK => ?_) Held.G_nil
                                go_simp
                                refine hK _ _ ?_
                                clear hK KK
                                refine Held.G_done (by kernel_rfl) ?_ _
                                have HBX := Lib.hid (Below.step HB4.out (show Below wr.heap.size wr (World.drew wr) from (Below.refl _ _).drew))
                                go_wp2_with fail
                                go_roundw
                                case rel => exact ⟨n + 1, by have := HLN.out; omega, by go_num, by rw [HNX4.out]; rw [decide_eq_true he]; rfl, HBX.out⟩
                                case measure => have := HLN.out; simp [intOf]; omega
              have hjl : j < l.length := by have := HLT.out; omega
              obtain ⟨ad', K', c2, he, hks', _, _⟩ := kind_see (HL.out wr (HBW.out.trans ((Below.step HBC.out hB2).mono HBW.out.size))) j hjl
              obtain rfl := Option.some.inj he
              clear he
              have HNX2 := Lib.hid (show (r1 && (l.take (j + 1)).all fun x => decide (x.name ≠ nm)) = (u && decide ((l[j]).name ≠ nm)) from by rw [all_take' _ _ _ hjl, ← Bool.and_assoc, HU.out])
              have ljI : (j : Int) < (l.length : Int) := by omega
              generalize l[j] = kj at *
              obtain ⟨nm', rs'⟩ := kj
              simp only at hks' HNX2
              have HSV := Lib.hid (fun (w' : World) (hw' : Below wr.heap.size wr w') => show w'.cell? (ad.add (j * 2)) = some (.string nm') ∧ w'.cell? ⟨g7, 0, none⟩ = some (.string nm) from ⟨(hks'.below hw').at0, (HC7.out w' (Below.step hB2 hw')).1⟩)
              have HLJ := Lib.hid (Nat.not_le_of_lt hjk)
              clear hks' hB2 hjl
              have hq := Str.ba_beq nm' nm
              obtain ⟨t0, k0⟩ := HSV.out wr (Below.refl _ _)
              cases u with
              | false =>
                go_upto_region 11 with fail
                clear t0 k0
                refine wp_region_any (by kernel_rfl) ?_
                change wpAny _ _ _ _ _ _ _ (World.drew _)
                refine Reg.take_at (i := 0) (d := 43) (v := ?_) rfl rfl (by kernel_rfl) (by kernel_rfl) (by kernel_rfl) (fun _ _ _ h => h) (Or.inl ⟨by rfl, ?_⟩) ?_
                rotate_left 1
                · intro w; go_simp <;> with_reducible rfl
                simp only [Act.put, List.setIfInBounds_toArray, List.set_cons_zero, List.set_cons_succ]
                refine Reg.take_at (i := 1) (d := 44) (v := ?_) rfl rfl (by kernel_rfl) (by kernel_rfl) (by kernel_rfl) (fun _ _ _ h => h) (Or.inl ⟨by rfl, ?_⟩) ?_
                rotate_left 1
                · intro w; go_simp <;> with_reducible rfl
                simp only [Act.put, List.setIfInBounds_toArray, List.set_cons_zero, List.set_cons_succ]
                refine Reg.take_at (i := 2) (d := 45) (v := undef) rfl rfl (by kernel_rfl) (by kernel_rfl) (by kernel_rfl) (fun _ _ _ h => h) (Or.inr ⟨by rfl, rfl⟩) ?_
                simp only [Act.put, List.setIfInBounds_toArray, List.set_cons_zero, List.set_cons_succ]
                refine Reg.take_at (i := 3) (d := 46) (v := undef) rfl rfl (by kernel_rfl) (by kernel_rfl) (by kernel_rfl) (fun _ _ _ h => h) (Or.inr ⟨by rfl, rfl⟩) ?_
                simp only [Act.put, List.setIfInBounds_toArray, List.set_cons_zero, List.set_cons_succ]
                refine Reg.take_at (i := 4) (d := 47) (v := undef) rfl rfl (by kernel_rfl) (by kernel_rfl) (by kernel_rfl) (fun _ _ _ h => h) (Or.inr ⟨by rfl, rfl⟩) ?_
                simp only [Act.put, List.setIfInBounds_toArray, List.set_cons_zero, List.set_cons_succ]
                refine Reg.take_at (i := 5) (d := 48) (v := undef) rfl rfl (by kernel_rfl) (by kernel_rfl) (by kernel_rfl) (fun _ _ _ h => h) (Or.inr ⟨by rfl, rfl⟩) ?_
                simp only [Act.put, List.setIfInBounds_toArray, List.set_cons_zero, List.set_cons_succ]
                refine Reg.take_at (i := 6) (d := 49) (v := undef) rfl rfl (by kernel_rfl) (by kernel_rfl) (by kernel_rfl) (fun _ _ _ h => h) (Or.inr ⟨by rfl, rfl⟩) ?_
                simp only [Act.put, List.setIfInBounds_toArray, List.set_cons_zero, List.set_cons_succ]
                refine Reg.take_at (i := 7) (d := 50) (v := undef) rfl rfl (by kernel_rfl) (by kernel_rfl) (by kernel_rfl) (fun _ _ _ h => h) (Or.inr ⟨by rfl, rfl⟩) ?_
                simp only [Act.put, List.setIfInBounds_toArray, List.set_cons_zero, List.set_cons_succ]
                refine Reg.take_at (i := 8) (d := 51) (v := undef) rfl rfl (by kernel_rfl) (by kernel_rfl) (by kernel_rfl) (fun _ _ _ h => h) (Or.inr ⟨by rfl, rfl⟩) ?_
                simp only [Act.put, List.setIfInBounds_toArray, List.set_cons_zero, List.set_cons_succ]
                refine Reg.take_at (i := 9) (d := 52) (v := undef) rfl rfl (by kernel_rfl) (by kernel_rfl) (by kernel_rfl) (fun _ _ _ h => h) (Or.inr ⟨by rfl, rfl⟩) ?_
                simp only [Act.put, List.setIfInBounds_toArray, List.set_cons_zero, List.set_cons_succ]
                refine Reg.take_at (i := 10) (d := 53) (v := ?_) rfl rfl (by kernel_rfl) (by kernel_rfl) (by kernel_rfl) (fun _ _ _ h => h) (Or.inl ⟨by rfl, ?_⟩) ?_
                rotate_left 1
                · intro w; go_simp <;> with_reducible rfl
                simp only [Act.put, List.setIfInBounds_toArray, List.set_cons_zero, List.set_cons_succ]
                refine Reg.take_at (i := 11) (d := 5) (v := ?_) rfl rfl (by kernel_rfl) (by kernel_rfl) (by kernel_rfl) (fun _ _ _ h => h) (Or.inl ⟨by rfl, ?_⟩) ?_
                rotate_left 1
                · intro w; go_simp <;> with_reducible rfl
                simp only [Act.put, List.setIfInBounds_toArray, List.set_cons_zero, List.set_cons_succ]
                refine wpAny_done (by kernel_rfl) ?_ _
                have HBX := Lib.hid (Below.step HB2.out (show Below wr.heap.size wr (World.drew wr) from (Below.refl _ _).drew))
                go_wp2_with fail
                go_roundw
                case rel => exact ⟨j + 1, by have := HLJ.out; omega, by go_num, by rw [HNX2.out]; rfl, HBX.out⟩
                case measure => have := HLJ.out; simp [intOf]; omega
              | true =>
                by_cases he : nm' = nm
                · rw [decide_eq_true he] at hq
                  go_upto_region 11 with fail
                  clear t0 k0
                  refine wp_region_any (by kernel_rfl) ?_
                  change wpAny _ _ _ _ _ _ _ (World.drew _)
                  refine Held.any_of_G (S := (fun w' : World => w'.cell? (ad.add (j * 2)) = some (.string nm') ∧ w'.cell? ⟨g7, 0, none⟩ = some (.string nm))) (z := 11) _ _ _ _ ?_
                  refine Held.G_take (i := 0) (d := 43) (v := ?_) [0, 1, 2, 3, 4, 5, 6, 7, 8, 9, 10, 11] rfl rfl (by kernel_rfl) (by kernel_rfl) (by kernel_rfl) (by kernel_rfl) (fun _ _ _ h => h) (Or.inl ⟨by rfl, ?_⟩) (HSV.out _ (show Below wr.heap.size wr (World.drew wr) from (Below.refl _ _).drew)) ?_
                  rotate_left 1
                  · intro w hSw; clear hSw; go_simp <;> with_reducible rfl
                  simp only [Act.put, List.setIfInBounds_toArray, List.set_cons_zero, List.set_cons_succ]
                  refine Held.G_take (i := 1) (d := 44) (v := ?_) [1, 2, 3, 4, 5, 6, 7, 8, 9, 10, 11] rfl rfl (by kernel_rfl) (by kernel_rfl) (by kernel_rfl) (by kernel_rfl) (fun _ _ _ h => h) (Or.inl ⟨by rfl, ?_⟩) (HSV.out _ (show Below wr.heap.size wr (World.drew wr) from (Below.refl _ _).drew)) ?_
                  rotate_left 1
                  · intro w hSw; clear hSw; go_simp <;> with_reducible rfl
                  simp only [Act.put, List.setIfInBounds_toArray, List.set_cons_zero, List.set_cons_succ]
                  refine Held.G_take (i := 2) (d := 45) (v := ?_) [2, 4, 5, 6, 9, 10, 11] rfl rfl (by kernel_rfl) (by kernel_rfl) (by kernel_rfl) (by kernel_rfl) (fun _ _ _ h => h) (Or.inl ⟨by rfl, ?_⟩) (HSV.out _ (show Below wr.heap.size wr (World.drew wr) from (Below.refl _ _).drew)) ?_
                  rotate_left 1
                  · intro w hSw; clear hSw; go_simp <;> with_reducible rfl
                  simp only [Act.put, List.setIfInBounds_toArray, List.set_cons_zero, List.set_cons_succ]
                  refine Held.G_take (i := 3) (d := 46) (v := ?_) [3, 4, 5, 6, 9, 10, 11] rfl rfl (by kernel_rfl) (by kernel_rfl) (by kernel_rfl) (by kernel_rfl) (fun _ _ _ h => h) (Or.inl ⟨by rfl, ?_⟩) (HSV.out _ (show Below wr.heap.size wr (World.drew wr) from (Below.refl _ _).drew)) ?_
                  rotate_left 1
                  · intro w hSw; clear hSw; go_simp <;> with_reducible rfl
                  simp only [Act.put, List.setIfInBounds_toArray, List.set_cons_zero, List.set_cons_succ]
                  refine Held.G_take (i := 4) (d := 47) (v := ?_) [4, 5, 6, 9, 10, 11] rfl rfl (by kernel_rfl) (by kernel_rfl) (by kernel_rfl) (by kernel_rfl) (fun _ _ _ h => h) (Or.inl ⟨by rfl, ?_⟩) (HSV.out _ (show Below wr.heap.size wr (World.drew wr) from (Below.refl _ _).drew)) ?_
                  rotate_left 1
                  · intro w hSw; clear hSw; go_simp <;> with_reducible rfl
                  simp only [Act.put, List.setIfInBounds_toArray, List.set_cons_zero, List.set_cons_succ]
                  refine Held.G_take (i := 5) (d := 48) (v := ?_) [5, 6, 9, 10, 11] rfl rfl (by kernel_rfl) (by kernel_rfl) (by kernel_rfl) (by kernel_rfl) (fun _ _ _ h => h) (Or.inl ⟨by rfl, ?_⟩) (HSV.out _ (show Below wr.heap.size wr (World.drew wr) from (Below.refl _ _).drew)) ?_
                  rotate_left 1
                  · intro w hSw; clear hSw; go_simp <;> with_reducible rfl
                  simp only [Act.put, List.setIfInBounds_toArray, List.set_cons_zero, List.set_cons_succ]
                  refine Held.G_take (i := 6) (d := 49) (v := ?_) [6, 9, 10, 11] rfl rfl (by kernel_rfl) (by kernel_rfl) (by kernel_rfl) (by kernel_rfl) (fun _ _ _ h => h) (Or.inl ⟨by rfl, ?_⟩) (HSV.out _ (show Below wr.heap.size wr (World.drew wr) from (Below.refl _ _).drew)) ?_
                  rotate_left 1
                  · intro w hSw; obtain ⟨t0, k0⟩ := hSw; go_simp <;> with_reducible rfl
                  simp only [Act.put, List.setIfInBounds_toArray, List.set_cons_zero, List.set_cons_succ]
                  refine Held.G_take (i := 7) (d := 50) (v := ?_) [7, 8, 9, 10, 11] rfl rfl (by kernel_rfl) (by kernel_rfl) (by kernel_rfl) (by kernel_rfl) (fun _ _ _ h => h) (Or.inl ⟨by rfl, ?_⟩) (HSV.out _ (show Below wr.heap.size wr (World.drew wr) from (Below.refl _ _).drew)) ?_
                  rotate_left 1
                  · intro w hSw; clear hSw; go_simp <;> with_reducible rfl
                  simp only [Act.put, List.setIfInBounds_toArray, List.set_cons_zero, List.set_cons_succ]
                  refine Held.G_take (i := 8) (d := 51) (v := ?_) [8, 9, 10, 11] rfl rfl (by kernel_rfl) (by kernel_rfl) (by kernel_rfl) (by kernel_rfl) (fun _ _ _ h => h) (Or.inl ⟨by rfl, ?_⟩) (HSV.out _ (show Below wr.heap.size wr (World.drew wr) from (Below.refl _ _).drew)) ?_
                  rotate_left 1
                  · intro w hSw; obtain ⟨t0, k0⟩ := hSw; go_simp <;> with_reducible rfl
                  simp only [Act.put, List.setIfInBounds_toArray, List.set_cons_zero, List.set_cons_succ]
                  refine Held.G_take (i := 9) (d := 52) (v := ?_) [9, 10, 11] rfl rfl (by kernel_rfl) (by kernel_rfl) (by kernel_rfl) (by kernel_rfl) (fun _ _ _ h => h) (Or.inl ⟨by rfl, ?_⟩) (HSV.out _ (show Below wr.heap.size wr (World.drew wr) from (Below.refl _ _).drew)) ?_
                  rotate_left 1
                  · intro w hSw; clear hSw; go_simp <;> with_reducible rfl
                  simp only [Act.put, List.setIfInBounds_toArray, List.set_cons_zero, List.set_cons_succ]
                  refine Held.G_take (i := 10) (d := 53) (v := ?_) [10, 11] rfl rfl (by kernel_rfl) (by kernel_rfl) (by kernel_rfl) (by kernel_rfl) (fun _ _ _ h => h) (Or.inl ⟨by rfl, ?_⟩) (HSV.out _ (show Below wr.heap.size wr (World.drew wr) from (Below.refl _ _).drew)) ?_
                  rotate_left 1
                  · intro w hSw; clear hSw; go_simp <;> with_reducible rfl
                  simp only [Act.put, List.setIfInBounds_toArray, List.set_cons_zero, List.set_cons_succ]
                  refine Held.G_ready (rs := [11]) (by decide +kernel) (by simp) ?_
                  refine Held.G_last rfl (fun KK hK => ?_) Held.G_nil
                  go_simp
                  refine hK _ _ ?_
                  clear hK KK
                  refine Held.G_done (by kernel_rfl) ?_ _
                  have HBX := Lib.hid (Below.step HB2.out (show Below wr.heap.size wr (World.drew wr) from (Below.refl _ _).drew))
                  go_wp2_with fail
                  go_roundw
                  case rel => exact ⟨j + 1, by have := HLJ.out; omega, by go_num, by rw [HNX2.out]; rw [decide_eq_false fun h => h he]; rfl, HBX.out⟩
                  case measure => have := HLJ.out; simp [intOf]; omega
                · rw [decide_eq_false he] at hq
                  go_upto_region 11 with fail
                  clear t0 k0
                  refine wp_region_any (by kernel_rfl) ?_
                  change wpAny _ _ _ _ _ _ _ (World.drew _)
                  refine Held.any_of_G (S := (fun w' : World => w'.cell? (ad.add (j * 2)) = some (.string nm') ∧ w'.cell? ⟨g7, 0, none⟩ = some (.string nm))) (z := 11) _ _ _ _ ?_
                  refine Held.G_take (i := 0) (d := 43) (v := ?_) [0, 1, 2, 3, 4, 5, 6, 7, 8, 9, 10, 11] rfl rfl (by kernel_rfl) (by kernel_rfl) (by kernel_rfl) (by kernel_rfl) (fun _ _ _ h => h) (Or.inl ⟨by rfl, ?_⟩) (HSV.out _ (show Below wr.heap.size wr (World.drew wr) from (Below.refl _ _).drew)) ?_
                  rotate_left 1
                  · intro w hSw; clear hSw; go_simp <;> with_reducible rfl
                  simp only [Act.put, List.setIfInBounds_toArray, List.set_cons_zero, List.set_cons_succ]
                  refine Held.G_take (i := 1) (d := 44) (v := ?_) [1, 2, 3, 4, 5, 6, 7, 8, 9, 10, 11] rfl rfl (by kernel_rfl) (by kernel_rfl) (by kernel_rfl) (by kernel_rfl) (fun _ _ _ h => h) (Or.inl ⟨by rfl, ?_⟩) (HSV.out _ (show Below wr.heap.size wr (World.drew wr) from (Below.refl _ _).drew)) ?_
                  rotate_left 1
                  · intro w hSw; clear hSw; go_simp <;> with_reducible rfl
                  simp only [Act.put, List.setIfInBounds_toArray, List.set_cons_zero, List.set_cons_succ]
                  refine Held.G_take (i := 2) (d := 45) (v := ?_) [2, 4, 5, 6, 9, 10, 11] rfl rfl (by kernel_rfl) (by kernel_rfl) (by kernel_rfl) (by kernel_rfl) (fun _ _ _ h => h) (Or.inl ⟨by rfl, ?_⟩) (HSV.out _ (show Below wr.heap.size wr (World.drew wr) from (Below.refl _ _).drew)) ?_
                  rotate_left 1
                  · intro w hSw; clear hSw; go_simp <;> with_reducible rfl
                  simp only [Act.put, List.setIfInBounds_toArray, List.set_cons_zero, List.set_cons_succ]
                  refine Held.G_take (i := 3) (d := 46) (v := ?_) [3, 4, 5, 6, 9, 10, 11] rfl rfl (by kernel_rfl) (by kernel_rfl) (by kernel_rfl) (by kernel_rfl) (fun _ _ _ h => h) (Or.inl ⟨by rfl, ?_⟩) (HSV.out _ (show Below wr.heap.size wr (World.drew wr) from (Below.refl _ _).drew)) ?_
                  rotate_left 1
                  · intro w hSw; clear hSw; go_simp <;> with_reducible rfl
                  simp only [Act.put, List.setIfInBounds_toArray, List.set_cons_zero, List.set_cons_succ]
                  refine Held.G_take (i := 4) (d := 47) (v := ?_) [4, 5, 6, 9, 10, 11] rfl rfl (by kernel_rfl) (by kernel_rfl) (by kernel_rfl) (by kernel_rfl) (fun _ _ _ h => h) (Or.inl ⟨by rfl, ?_⟩) (HSV.out _ (show Below wr.heap.size wr (World.drew wr) from (Below.refl _ _).drew)) ?_
                  rotate_left 1
                  · intro w hSw; clear hSw; go_simp <;> with_reducible rfl
                  simp only [Act.put, List.setIfInBounds_toArray, List.set_cons_zero, List.set_cons_succ]
                  refine Held.G_take (i := 5) (d := 48) (v := ?_) [5, 6, 9, 10, 11] rfl rfl (by kernel_rfl) (by kernel_rfl) (by kernel_rfl) (by kernel_rfl) (fun _ _ _ h => h) (Or.inl ⟨by rfl, ?_⟩) (HSV.out _ (show Below wr.heap.size wr (World.drew wr) from (Below.refl _ _).drew)) ?_
                  rotate_left 1
                  · intro w hSw; clear hSw; go_simp <;> with_reducible rfl
                  simp only [Act.put, List.setIfInBounds_toArray, List.set_cons_zero, List.set_cons_succ]
                  refine Held.G_take (i := 6) (d := 49) (v := ?_) [6, 9, 10, 11] rfl rfl (by kernel_rfl) (by kernel_rfl) (by kernel_rfl) (by kernel_rfl) (fun _ _ _ h => h) (Or.inl ⟨by rfl, ?_⟩) (HSV.out _ (show Below wr.heap.size wr (World.drew wr) from (Below.refl _ _).drew)) ?_
                  rotate_left 1
                  · intro w hSw; obtain ⟨t0, k0⟩ := hSw; go_simp <;> with_reducible rfl
                  simp only [Act.put, List.setIfInBounds_toArray, List.set_cons_zero, List.set_cons_succ]
                  refine Held.G_take (i := 7) (d := 50) (v := ?_) [7, 8, 9, 10, 11] rfl rfl (by kernel_rfl) (by kernel_rfl) (by kernel_rfl) (by kernel_rfl) (fun _ _ _ h => h) (Or.inl ⟨by rfl, ?_⟩) (HSV.out _ (show Below wr.heap.size wr (World.drew wr) from (Below.refl _ _).drew)) ?_
                  rotate_left 1
                  · intro w hSw; clear hSw; go_simp <;> with_reducible rfl
                  simp only [Act.put, List.setIfInBounds_toArray, List.set_cons_zero, List.set_cons_succ]
                  refine Held.G_take (i := 8) (d := 51) (v := ?_) [8, 9, 10, 11] rfl rfl (by kernel_rfl) (by kernel_rfl) (by kernel_rfl) (by kernel_rfl) (fun _ _ _ h => h) (Or.inl ⟨by rfl, ?_⟩) (HSV.out _ (show Below wr.heap.size wr (World.drew wr) from (Below.refl _ _).drew)) ?_
                  rotate_left 1
                  · intro w hSw; obtain ⟨t0, k0⟩ := hSw; go_simp <;> with_reducible rfl
                  simp only [Act.put, List.setIfInBounds_toArray, List.set_cons_zero, List.set_cons_succ]
                  refine Held.G_take (i := 9) (d := 52) (v := ?_) [9, 10, 11] rfl rfl (by kernel_rfl) (by kernel_rfl) (by kernel_rfl) (by kernel_rfl) (fun _ _ _ h => h) (Or.inl ⟨by rfl, ?_⟩) (HSV.out _ (show Below wr.heap.size wr (World.drew wr) from (Below.refl _ _).drew)) ?_
                  rotate_left 1
                  · intro w hSw; clear hSw; go_simp <;> with_reducible rfl
                  simp only [Act.put, List.setIfInBounds_toArray, List.set_cons_zero, List.set_cons_succ]
                  refine Held.G_take (i := 10) (d := 53) (v := ?_) [10, 11] rfl rfl (by kernel_rfl) (by kernel_rfl) (by kernel_rfl) (by kernel_rfl) (fun _ _ _ h => h) (Or.inl ⟨by rfl, ?_⟩) (HSV.out _ (show Below wr.heap.size wr (World.drew wr) from (Below.refl _ _).drew)) ?_
                  rotate_left 1
                  · intro w hSw; clear hSw; go_simp <;> with_reducible rfl
                  simp only [Act.put, List.setIfInBounds_toArray, List.set_cons_zero, List.set_cons_succ]
                  refine Held.G_ready (rs := [11]) (by decide +kernel) (by simp) ?_
                  refine Held.G_last rfl (fun KK hK => ?_) Held.G_nil
                  go_simp
                  refine hK _ _ ?_
                  clear hK KK
                  refine Held.G_done (by kernel_rfl) ?_ _
                  have HBX := Lib.hid (Below.step HB2.out (show Below wr.heap.size wr (World.drew wr) from (Below.refl _ _).drew))
                  go_wp2_with fail
                  go_roundw
                  case rel => exact ⟨j + 1, by have := HLJ.out; omega, by go_num, by rw [HNX2.out]; rw [decide_eq_true he]; rfl, HBX.out⟩
                  case measure => have := HLJ.out; simp [intOf]; omega
end Go.Proofs.YtkmnbdomikpakaaDoor.RuleCheck
