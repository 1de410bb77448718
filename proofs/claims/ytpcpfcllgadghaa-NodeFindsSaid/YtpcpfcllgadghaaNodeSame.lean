/- The contract of the document's Same of nodes. -/
import Derived.Test.YtpcpfcllgadghaaNodeBox
namespace Go.Proofs.Ytpcpfcllgadghaa.NodeSame
open Go.RowKit Base NodePlain NodeRead NodeSlice NodeCheck NodeBox

theorem nd_ext {n m : Nd} (h1 : n.leaf = m.leaf) (h2 : n.keys = m.keys) (h3 : n.vals = m.vals) (h4 : n.kids = m.kids) : n = m := by cases n; cases m; simp_all
set_option maxRecDepth 100000 in
set_option maxHeartbeats 3200000 in
theorem rsame_any (W : World) (a b : Nd) (h j : Hd) (hl : Lay W a h) (hm : Lay W b j) (hk1 : a.keys.length ≤ 1000) (hk2 : b.keys.length ≤ 1000) (hv1 : a.vals.length ≤ 1000) (hv2 : b.vals.length ≤ 1000) (hd1 : a.kids.length ≤ 1000) (r : Bool) (hr : r = true ↔ a = b) :
    Calls Try.prog 23 #[nv a h, nv b j] W fun e w' => e = .returned (.bool r) ∧ Below W.heap.size W w' := by
  have b0 := box_below W a h
  have b1 := box_below (box W a h) b j
  have hsz : (box W a h).heap.size = W.heap.size + 1 := by simp
  have bx0 := (bx_new W a h).below b1
  have by0 := bx_new (box W a h) b j
  rw [hsz] at by0
  have hb1 := Below.step b0 b1
  have hl1 := (hl.below b0).below b1
  have hm1 := (hm.below b0).below b1
  obtain ⟨w1, hw1⟩ : ∃ v, v = box (box W a h) b j := ⟨_, rfl⟩
  rw [← hw1] at bx0 by0 hb1 hl1 hm1
  unfold box at hw1
  have HW1 := Lib.hid hw1
  have HX := Lib.hid (fun w' (hb : Below w1.heap.size w1 w') => bx0.below hb)
  have HY := Lib.hid (fun w' (hb : Below w1.heap.size w1 w') => by0.below hb)
  have HB := Lib.hid hb1
  have HL := Lib.hid (fun w' (hb : Below w1.heap.size w1 w') => hl1.below hb)
  have HM := Lib.hid (fun w' (hb : Below w1.heap.size w1 w') => hm1.below hb)
  have HR := Lib.hid hr
  obtain ⟨c0, c1, c2, c3, _⟩ := bx0
  obtain ⟨d0, d1, d2, d3, _⟩ := by0
  clear hw1 b0 b1 hsz hl hm hb1 hl1 hm1 hr
  by_cases hlf : a.leaf = b.leaf
  · by_cases hkl : a.kids.length = b.kids.length
    · have HLF := Lib.hid hlf
      rw [hlf] at HW1
      have HKL := Lib.hid hkl
      have e0 : (a.leaf != b.leaf) = false := by simp [hlf]
      have e1 : ((a.kids.length : Int) != (b.kids.length : Int)) = false := by simp [hkl]
      clear hlf hkl
      go_enter Try.func23, Try.ntmps23
      go_wp2_with fail
      rw [← HW1.out]
      go_wp2_with fail
      clear c0 c1 c2 c3 d0 d1 d2 d3
      go_loopw [5] (fun i wr => ∃ k : Nat, k ≤ a.kids.length ∧ i = .int .i64 k ∧ a.kids.take k = b.kids.take k ∧ Below w1.heap.size w1 wr) (fun i _ => a.kids.length - (intOf i).toNat)
      case atStart => exact ⟨0, by omega, rfl, rfl, Below.refl _ _⟩
      case round =>
        obtain ⟨k, hk, rfl, hpre, hb⟩ := hrel
        have HP := Lib.hid hpre
        clear hpre
        obtain ⟨c0, c1, c2, c3, _⟩ := HX.out wr hb
        obtain ⟨d0, d1, d2, d3, _⟩ := HY.out wr hb
        by_cases hlt : k < a.kids.length
        · have hlt2 : k < b.kids.length := by have := HKL.out; omega
          obtain ⟨ad, hDe, hb1, hc1⟩ := ints_get (HL.out wr hb).d k hlt
          obtain ⟨bd, hEe, hb2, hc2⟩ := ints_get (HM.out wr hb).d k hlt2
          rw [hDe] at c3
          rw [hEe] at d3
          clear hDe hEe
          by_cases he : a.kids[k] = b.kids[k]
          · have HN := Lib.hid (show a.kids.take (k + 1) = b.kids.take (k + 1) by rw [List.take_succ_eq_append_getElem hlt, List.take_succ_eq_append_getElem hlt2, HP.out, he])
            have hne : (a.kids[k] != b.kids[k]) = false := by simp [he]
            clear he
            generalize a.kids[k] = p at *
            generalize b.kids[k] = q at *
            go_wp2_with fail
            go_quiet (fail)
            go_wp2_with fail
            go_roundw
            case rel => exact ⟨k + 1, by omega, by go_num, HN.out, hb.trans (Base.below_drewN _ _ _)⟩
            case measure => simp [intOf]; omega
          · have HN := Lib.hid (show r = false from Bool.eq_false_iff.2 fun q => he (by have := HR.out.1 q; subst this; rfl))
            have hne : (a.kids[k] != b.kids[k]) = true := by simpa using he
            clear he
            generalize a.kids[k] = p at *
            generalize b.kids[k] = q at *
            go_wp2_with fail
            go_quiet (fail)
            go_wp2_with fail
            go_ret
            exact ⟨ret_bool HN.out.symm, HB.out.trans ((hb.trans (Base.below_drewN _ _ _)).mono HB.out.size)⟩
        · obtain rfl : k = a.kids.length := by omega
          have HKK := Lib.hid (show a.kids = b.kids by
            have := HP.out
            rwa [List.take_of_length_le (Nat.le_refl _), List.take_of_length_le (by rw [HKL.out]; exact Nat.le_refl _)] at this)
          have hs1 := Same_b h.K j.K h.kc j.kc a.keys.length b.keys.length a.keys b.keys rfl rfl (HL.out wr hb).k (HM.out wr hb).k (by simp [maxLen]; omega) (by simp [maxLen]; omega)
          have HS2 := Lib.hid (fun w' (hb' : Below wr.heap.size wr w') => Same_b h.V j.V h.vc j.vc a.vals.length b.vals.length a.vals b.vals rfl rfl (HL.out w' (Below.step hb hb')).v (HM.out w' (Below.step hb hb')).v (by simp [maxLen]; omega) (by simp [maxLen]; omega))
          go_wp2_with fail
          refine hs1.mono ?_
          rintro e w2 ⟨rfl, b2⟩
          clear hs1 c0 c1 c2 c3 d0 d1 d2 d3
          obtain ⟨c0, c1, c2, c3, _⟩ := HX.out w2 (Below.step hb b2)
          obtain ⟨d0, d1, d2, d3, _⟩ := HY.out w2 (Below.step hb b2)
          have hb2 := Below.step HB.out (Below.step hb b2)
          by_cases hke : a.keys = b.keys
          · have HKE := Lib.hid hke
            rw [decide_eq_true hke]
            have hs2 := HS2.out w2 b2
            clear hke
            go_wp2_with fail
            refine hs2.mono ?_
            rintro e w3 ⟨rfl, b3⟩
            have HRR := Lib.hid (show decide (a.vals = b.vals) = r from Bool.eq_iff_iff.2 (by rw [decide_eq_true_iff, HR.out]; exact ⟨fun q => nd_ext HLF.out HKE.out q HKK.out, fun q => by rw [q]⟩))
            clear hs2
            rw [HRR.out]
            go_wp2_with fail
            go_ret
            exact ⟨rfl, Below.step hb2 b3⟩
          · have HN := Lib.hid (show r = false from Bool.eq_false_iff.2 fun q => hke (by rw [HR.out.1 q]))
            rw [decide_eq_false hke]
            clear hke
            go_wp2_with fail
            go_ret
            exact ⟨ret_bool HN.out.symm, hb2⟩
    · have HN := Lib.hid (show r = false from Bool.eq_false_iff.2 fun q => hkl (by rw [HR.out.1 q]))
      have e0 : (a.leaf != b.leaf) = false := by simp [hlf]
      have e1 : ((a.kids.length : Int) != (b.kids.length : Int)) = true := by simp; omega
      clear hkl
      go_enter Try.func23, Try.ntmps23
      clear c0 c1 c2 c3 d0 d1 d2 d3
      go_wp2_with fail
      go_ret
      exact ⟨ret_bool HN.out.symm, Below.step (al _ _) (al _ _)⟩
  · have HN := Lib.hid (show r = false from Bool.eq_false_iff.2 fun q => hlf (by rw [HR.out.1 q]))
    have e0 : (a.leaf != b.leaf) = true := by simpa using hlf
    go_enter Try.func23, Try.ntmps23
    clear c0 c1 c2 c3 d0 d1 d2 d3
    go_wp2_with fail
    go_ret
    exact ⟨ret_bool HN.out.symm, Below.step (al _ _) (al _ _)⟩
end Go.Proofs.Ytpcpfcllgadghaa.NodeSame
