/- The walk of RuleReads. -/
import Derived.Test.YtkmnbdomikpakaaDoorKRuleAwake
import Derived.Test.YtkmnbdomikpakaaDoorKRuleCheck
import Derived.Test.YtkmnbdomikpakaaDoorKRuleOff
import Derived.Test.YtkmnbdomikpakaaDoorKRuleShow
import Derived.Test.YtkmnbdomikpakaaDoorKRuleTold
namespace Go.Proofs.YtkmnbdomikpakaaDoor.RuleReads
open Go.RowKit Base KeyPlain TuplePlain TupleRef RulePlain RuleMem RuleRec RuleFew RuleFind RuleCan RuleSpec RuleFacts RuleChk RuleCheck RuleShow RuleTold RuleGl RuleChkC RuleOff

theorem bl_extract (s : ByteArray) (a b : Nat) : bl (s.extract a b) = ((bl s).drop a).take (b - a) := by
  show (s.extract a b).data.toList = _
  rw [Lib.extract_data]
theorem byte_ten (s : ByteArray) (j : Nat) (h : j < s.size) : (((s[j]'h).toNat : Int) == 10) = decide ((bl s)[j]'(by rw [bl_size]; exact h) = 10) := by
  have e : s[j]'h = (bl s)[j]'(by rw [bl_size]; exact h) := rfl
  rw [e]
  generalize (bl s)[j]'_ = x
  by_cases hx : x = 10
  · rw [hx]; decide
  · rw [decide_eq_false hx, beq_eq_false_iff_ne]
    intro he
    exact hx (UInt8.toNat_inj.1 (by have : (10 : UInt8).toNat = 10 := rfl; omega))
set_option maxRecDepth 100000 in
set_option maxHeartbeats 25600000 in
theorem reads_any (X : Specs) (s : ByteArray) (W : World) (hG : Gl W) : Calls Tryd.prog 3 #[.string s] W (Law W) := by
  have HGL := Lib.hid (fun (w' : World) (hw' : Below W.heap.size W w') => hG.later hw')
  clear hG
  unfold Law
  go_enter Tryd.func3, Tryd.ntmps3
  have hcall := RuleAwake.awake_any X W (HGL.out W (Below.refl _ _))
  unfold Law at hcall
  go_wp2_with fail
  (with_reducible refine hcall.mono ?_)
  clear hcall
  rintro e w1 ⟨rfl, bb⟩
  have HB1 := Lib.hid bb
  clear bb
  by_cases hs : s.size ≤ 1500
  rotate_left
  · have is : (1500 : Int) < (s.size : Int) := by omega
    clear hs
    have hcall := RuleAwake.awake_any X w1 (HGL.out w1 HB1.out)
    unfold Law at hcall
    go_wp2_with fail
    (with_reducible refine hcall.mono ?_)
    clear hcall
    rintro e w8 ⟨rfl, bb⟩
    have HB8 := Lib.hid (HB1.out.trans (bb.mono HB1.out.size))
    clear bb
    go_wp2_with fail
    go_ret
    exact ⟨rfl, HB8.out⟩
  have is : ¬ (1500 : Int) < (s.size : Int) := by omega
  have hcall := X.cRead s w1 (by omega) (HGL.out w1 HB1.out)
  go_wp2_with fail
  (with_reducible refine hcall.mono ?_)
  clear hcall
  rintro e w2 (⟨l, A, c, h1, h2, h3, rfl, h5, h6⟩ | ⟨l, h1, h2, h3, he, h5⟩ | ⟨l, rest, h1, h2, h3, h4, rfl, h5⟩)
  · have h3 := (checkC_zero l).1 h3
    have HB2 := Lib.hid (HB1.out.trans (h6.mono HB1.out.size))
    have HSZ := Lib.hid (show (show_ l).length ≤ 1500 from by rw [h2, bl_size]; exact hs)
    have HLN := Lib.hid (show l.length ≤ maxLen from by have := (check_len h3).1; unfold maxLen; omega)
    have H3 := Lib.hid h3
    have H5 := Lib.hid h5
    have H2 := Lib.hid h2
    have hcall := refCheck_any A c l w2 h5 HLN.out (fit_check h3)
    rw [checkW_eq (sizes_check h3), h3] at hcall
    clear h1 h2 h3 h5 h6
    go_wp2_with fail
    (with_reducible refine hcall.mono ?_)
    clear hcall
    rintro e w3 ⟨rfl, bb⟩
    have hcall := refShow_any A c l w3 (H5.out.later bb) HLN.out (by have := HSZ.out; omega) (fun k hk r hr => by have := text_in hk hr; have := HSZ.out; omega)
    rw [show (⟨(show_ l).toArray⟩ : ByteArray) = s from ba_of (by rw [← H2.out])] at hcall
    have HB3 := Lib.hid (HB2.out.trans (bb.mono HB2.out.size))
    clear bb
    have hq := Str.ba_beq s s
    rw [decide_eq_true rfl] at hq
    go_wp2_with fail
    (with_reducible refine hcall.mono ?_)
    clear hcall
    rintro e w4 ⟨rfl, bb⟩
    have HB4 := Lib.hid (HB3.out.trans (bb.mono HB3.out.size))
    clear bb
    go_wp2_with fail
    go_ret
    exact ⟨rfl, HB4.out⟩
  · have HB2 := Lib.hid (HB1.out.trans (h5.mono HB1.out.size))
    clear h5 h2
    rcases can_offC h1 h3 with hc | hc
    · rw [hc] at he
      subst he
      clear hc h1 h3
      go_wp2_with fail
      go_ret
      exact ⟨rfl, HB2.out⟩
    · rw [hc] at he
      subst he
      clear hc h1 h3
      go_wp2_with fail
      go_ret
      exact ⟨rfl, HB2.out⟩
  · have HB2 := Lib.hid (HB1.out.trans (h5.mono HB1.out.size))
    obtain ⟨hM, hF⟩ := lines_at h1 h2
    have hMs : (show_ l).length < s.size := by have := congrArg List.length h2; rw [bl_size, List.length_append] at this; have : 0 < rest.length := List.length_pos_iff.2 h3; omega
    have hNM : (lines l).length ≤ (show_ l).length := by rw [← hM]; refine Nat.le_trans List.count_le_length ?_; rw [List.length_take]; omega
    have hTX : bl (s.extract 0 (show_ l).length) = show_ l := by rw [bl_extract, List.drop_zero, Nat.sub_zero, h2, List.take_left]
    have hRD := fun w hg => X.cRead (s.extract 0 (show_ l).length) w (by rw [← bl_size, hTX]; omega) hg
    have HNO := Lib.hid (fun (m : List Kd) (r : List UInt8) (hm : can m = true) (he : bl (s.extract 0 (show_ l).length) = show_ m ++ r) (hr : r ≠ []) => no_rest h1 hm (by rw [← hTX]; exact he) hr)
    obtain ⟨cnt, hcnt⟩ : ∃ f : Nat → Nat, ∀ j, f j = ((bl s).take j).count 10 := ⟨_, fun _ => rfl⟩
    simp only [← hcnt] at hM hF
    have HS := Lib.hid (fun j (h : j < (bl s).length) => show cnt (j + 1) = cnt j + if (bl s)[j] = 10 then 1 else 0 from by rw [hcnt, hcnt]; exact count_step _ _ h)
    obtain ⟨M, hMe⟩ : ∃ v, v = (show_ l).length := ⟨_, rfl⟩
    rw [← hMe] at hM hF hMs hNM hRD HNO
    obtain ⟨n, hn⟩ : ∃ v, v = (lines l).length + 1 := ⟨_, rfl⟩
    rw [← hn]
    have HM := Lib.hid (show cnt M + 1 = n from by omega)
    have HF := Lib.hid (fun j (hj : j < M) => show cnt j + 1 < n from by have h := hF j (by omega); have g : cnt j ≠ (lines l).length := (fun e => absurd (h.2 e) (by omega)); omega)
    have hn0 : ((n : Int) == 0) = false := by rw [beq_eq_false_iff_ne]; omega
    have hnz : n ≤ 1501 := by omega
    have hz0 : cnt 0 = 0 := by rw [hcnt]; rfl
    have HRD := Lib.hid hRD
    clear hRD h1 h2 h3 h4 h5 hM hF hNM hTX hcnt hMe hn
    go_wp2_with fail
    go_loopw [6, 7] (fun i k wr => w2 = wr ∧ ∃ j : Nat, j ≤ M ∧ i = .int .i64 j ∧ k = .int .i64 ((cnt j + 1 : Nat) : Int)) (fun i _ _ => s.size - (intOf i).toNat)
    case atStart => exact ⟨rfl, 0, by omega, rfl, by rw [hz0]; rfl⟩
    case round =>
      obtain ⟨rfl, j, hj, rfl, rfl⟩ := hrel
      have ijs : (j : Int) < (s.size : Int) := by omega
      by_cases hjm : j = M
      · subst hjm
        have hk := HM.out
        rw [hk]
        have hni : ¬ (n : Int) < (n : Int) := by omega
        have c1 : (0 : Int) ≤ (j : Int) := by omega
        have c2 : (j : Int) ≤ (s.size : Int) := by omega
        have hcall := HRD.out w2 (HGL.out w2 HB2.out)
        have hnn : ((n : Int) == (n : Int)) = true := beq_self_eq_true _
        clear hk hj
        go_wp2_with fail
        (with_reducible refine hcall.mono ?_)
        clear hcall
        rintro e w3 (⟨m, A, c, g1, g2, g3, rfl, g5, g6⟩ | ⟨m, g1, g2, g3, he, g5⟩ | ⟨m, r, g1, g2, g3, g4, he, g5⟩)
        · have HB3 := Lib.hid (HB2.out.trans (g6.mono HB2.out.size))
          clear g1 g2 g3 g5 g6
          go_wp2_with fail
          go_ret
          exact ⟨rfl, HB3.out⟩
        · have HB3 := Lib.hid (HB2.out.trans (g5.mono HB2.out.size))
          clear g5 g2
          rcases can_offC g1 g3 with hc | hc
          · rw [hc] at he
            subst he
            clear hc g1 g3
            go_wp2_with fail
            go_ret
            exact ⟨rfl, HB3.out⟩
          · rw [hc] at he
            subst he
            clear hc g1 g3
            go_wp2_with fail
            go_ret
            exact ⟨rfl, HB3.out⟩
        · exact absurd g4 (HNO.out m r g1 g2 g3)
      · have hjl : j < M := by omega
        have hfl := HF.out j hjl
        have hkl : ((cnt j + 1 : Nat) : Int) < (n : Int) := by omega
        have hst := HS.out j (by rw [bl_size]; omega)
        have HJ := Lib.hid hjl
        clear hjm hj hjl hfl
        have hq := byte_ten s j (by omega)
        by_cases hb : (bl s)[j]'(by rw [bl_size]; omega) = 10
        · rw [if_pos hb] at hst
          rw [decide_eq_true hb] at hq
          have HST := Lib.hid hst
          clear hst
          go_wp2_with fail
          go_roundw
          case rel => exact ⟨trivial, j + 1, by have := HJ.out; omega, by go_num, by rw [HST.out]; go_num⟩
          case measure => have := HJ.out; simp [intOf]; omega
        · rw [if_neg hb] at hst
          rw [decide_eq_false hb] at hq
          have HST := Lib.hid hst
          clear hst
          go_wp2_with fail
          go_roundw
          case rel => exact ⟨trivial, j + 1, by have := HJ.out; omega, by go_num, by rw [HST.out]⟩
          case measure => have := HJ.out; simp [intOf]; omega
end Go.Proofs.YtkmnbdomikpakaaDoor.RuleReads
