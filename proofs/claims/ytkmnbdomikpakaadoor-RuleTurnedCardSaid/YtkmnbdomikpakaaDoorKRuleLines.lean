/- The walk of RuleLines. -/
import Derived.Test.YtkmnbdomikpakaaDoorKRuleAwake
import Derived.Test.YtkmnbdomikpakaaDoorKRuleChk
namespace Go.Proofs.YtkmnbdomikpakaaDoor.RuleLines
open Go.RowKit Base KeyPlain TuplePlain TupleRef RulePlain RuleMem RuleRec RuleFew RuleFind RuleCan RuleSpec RuleFacts RuleGl RuleChkC

theorem under_k : Tryd.prog.underlying 23 = some (.slice (Tryd.prog.elem 23)) := by kernel_rfl
set_option maxRecDepth 100000 in
theorem size_k (w : World) : (sizeOf (Tryd.prog.elem 23)).run Tryd.prog w = .ok 2 w := by
  have h : (Tryd.prog.info? (Tryd.prog.elem 23)).map (fun i => i.size) = some 2 := by kernel_rfl
  cases hi : Tryd.prog.info? (Tryd.prog.elem 23) with
  | none => rw [hi] at h; cases h
  | some i => rw [hi] at h; injection h with h; simp [sizeOf, typeInfo, hi, h]
theorem one_kind (ad : Addr) (n c i : Nat) (hi : i < c) (w : World) : (Instr.slice 23 (.slice (some ad) n c) (some (.int .i64 (i : Int))) (some (.int .i64 ((i : Int) + 1))) none).run Tryd.prog w = .ok (.slice (some (ad.add (i * 2))) 1 (c - i)) w := by
  rw [run_slice_lh w 23 (some ad) n c under_k .i64 .i64 (i : Int) ((i : Int) + 1) (by omega) (by omega) (by omega), size_k]
  have h1 : ¬ c = i := by omega
  have h2 : ((i : Int) + 1).toNat = i + 1 := by omega
  simp [sliced, Result.andThen, h1, h2]
theorem lay_one {w : World} {B i : Nat} {ad : Addr} {l : List Kd} (h : LayL w B (some ad) l) (hi : i < l.length) : LayL w B (some (ad.add (i * 2))) [l[i]] := by
  obtain ⟨q, hq⟩ := h
  obtain ⟨⟨ad', e, hs⟩, hp⟩ := hq i hi
  injection e with e
  subst e
  refine ⟨fun _ => q i, fun j hj => ?_⟩
  obtain rfl : j = 0 := by simpa using hj
  refine ⟨⟨_, rfl, ?_⟩, hp⟩
  rw [show (ad.add (i * 2)).add (0 * 2) = ad.add (i * 2) from by simp [Addr.add]]
  exact hs
theorem show_take (l : List Kd) (i : Nat) (h : i < l.length) : show_ (l.take (i + 1)) = show_ (l.take i) ++ show_ [l[i]] := by
  unfold show_
  rw [List.take_succ_eq_append_getElem h, List.flatMap_append]
theorem show_cut (l : List Kd) (i : Nat) : (show_ (l.take i)).length ≤ (show_ l).length := by
  have e : show_ l = show_ (l.take i) ++ show_ (l.drop i) := by
    unfold show_
    rw [← List.flatMap_append, List.take_append_drop]
  rw [e, List.length_append]
  omega
set_option maxRecDepth 100000 in
set_option maxHeartbeats 25600000 in
theorem lines_any (X : Specs) (A : Option Addr) (c : Nat) (l : List Kd) (hc : l.length ≤ c) (W : World) (hG : Gl W) (hL : LayL W W.heap.size A l) (hn : l.length ≤ maxLen) : Calls Tryd.prog 7 #[.slice A l.length c] W (Law W) := by
  have HL := Lib.hid (fun (w' : World) (hw' : Below W.heap.size W w') => hL.later hw')
  clear hL
  have HGL := Lib.hid (fun (w' : World) (hw' : Below W.heap.size W w') => hG.later hw')
  clear hG
  unfold Law
  go_enter Tryd.func7, Tryd.ntmps7
  have hcall := RuleAwake.awake_any X W (HGL.out W (Below.refl _ _))
  unfold Law at hcall
  go_wp2_with fail
  (with_reducible refine hcall.mono ?_)
  clear hcall
  rintro e w1 ⟨rfl, bb⟩
  have HB1 := Lib.hid bb
  clear bb
  have hcall := RuleFew.refFew_any A c l w1 (HL.out w1 HB1.out) hn
  obtain ⟨fb, hfb⟩ : ∃ v, few l = v := ⟨_, rfl⟩
  rw [hfb] at hcall
  have HF := Lib.hid hfb
  clear hfb
  go_wp2_with fail
  (with_reducible refine hcall.mono ?_)
  clear hcall
  rintro e w2 ⟨rfl, bb⟩
  have HB2 := Lib.hid (HB1.out.trans (bb.mono HB1.out.size))
  clear bb
  cases fb with
  | false =>
    have hcall := RuleAwake.awake_any X w2 (HGL.out w2 HB2.out)
    unfold Law at hcall
    go_wp2_with fail
    (with_reducible refine hcall.mono ?_)
    clear hcall
    rintro e w8 ⟨rfl, bb⟩
    have HB8 := Lib.hid (HB2.out.trans (bb.mono HB2.out.size))
    clear bb
    go_wp2_with fail
    go_ret
    exact ⟨rfl, HB8.out⟩
  | true =>
    have hcall := X.cShow A c l w2 HF.out (HGL.out w2 HB2.out) (HL.out w2 HB2.out)
    have hcc := checkC_cases l
    by_cases hz : checkC l = 0
    rotate_left
    · rw [if_neg hz] at hcall
      have hne : (checkC l != 0) = true := by rw [bne_iff_ne]; exact hz
      generalize checkC l = ck at *
      clear hz hcc
      go_wp2_with fail
      (with_reducible refine hcall.mono ?_)
      clear hcall
      rintro e w3 ⟨rfl, bb⟩
      have HB3 := Lib.hid (HB2.out.trans (bb.mono HB2.out.size))
      clear bb
      have hee : (⟨([] : List UInt8).toArray⟩ : ByteArray).toList.isEmpty = true := by rw [empty_eq]; decide
      go_wp2_with fail
      go_ret
      exact ⟨rfl, HB3.out⟩
    have HZ := Lib.hid ((checkC_zero l).1 hz)
    have HSL := Lib.hid (show_len HF.out ((checkC_zero l).1 hz))
    rw [if_pos hz, hz] at hcall
    clear hz hcc
    obtain ⟨ss, hss⟩ : ∃ v : ByteArray, v = ⟨(show_ l).toArray⟩ := ⟨_, rfl⟩
    rw [← hss] at hcall
    have HSS := Lib.hid hss
    clear hss
    go_wp2_with fail
    (with_reducible refine hcall.mono ?_)
    clear hcall
    rintro e w3 ⟨rfl, bb⟩
    have HB3 := Lib.hid (HB2.out.trans (bb.mono HB2.out.size))
    clear bb
    unfold maxLen at hn
    go_wp2_with fail
    go_loopw [5, 6, 7, 8] (fun t i b d wr => (b = b ∧ d = d) ∧ ∃ (k : Nat) (s0 : ByteArray), k ≤ l.length ∧ i = .int .i64 k ∧ t = .string s0 ∧ bl s0 = show_ (l.take k) ∧ Below W.heap.size W wr) (fun _ i _ _ _ => l.length - (intOf i).toNat)
    case atStart => exact ⟨⟨rfl, rfl⟩, 0, _, by omega, rfl, rfl, rfl, HB3.out⟩
    case round =>
      obtain ⟨_, k, s0, hk, rfl, rfl, hs0, hB⟩ := hrel
      have HBW := Lib.hid hB
      by_cases hlt : k < l.length
      rotate_left
      · have hni : ¬ (k : Int) < (l.length : Int) := by omega
        have hq : (ss.toList == s0.toList) = true := by rw [Str.ba_beq, decide_eq_true_eq, HSS.out]; rw [List.take_of_length_le (by omega)] at hs0; exact ba_of (by rw [hs0])
        clear hs0
        go_wp2_with fail
        go_ret
        exact ⟨rfl, HBW.out⟩
      have HLT := Lib.hid (Nat.not_le_of_lt hlt)
      have HKM := Lib.hid (List.getElem_mem hlt)
      obtain ⟨ad, hA⟩ : ∃ ad, A = some ad := by obtain ⟨q, hq⟩ := HL.out wr hB; obtain ⟨⟨ad, hA, _⟩, _⟩ := hq k hlt; exact ⟨ad, hA⟩
      subst hA
      have hcall := X.cShow (some (ad.add (k * 2))) (c - k) [l[k]] wr (few_one HF.out HKM.out) (HGL.out wr hB) (lay_one (HL.out wr hB) hlt)
      have hc1 := (checkC_zero _).2 (check_one HZ.out HKM.out)
      rw [if_pos hc1, hc1] at hcall
      simp only [List.length_cons, List.length_nil, Nat.zero_add] at hcall
      have hsl := fun w => one_kind ad l.length c k (by omega) w
      have hst := show_take l k hlt
      have hcut := show_cut l (k + 1)
      have hcu0 := show_cut l k
      have HSLo := HSL.out
      have z0 : s0.size ≤ 100000000 := by rw [← bl_size, hs0]; omega
      generalize htx : (⟨(show_ [l[k]]).toArray⟩ : ByteArray) = tx at *
      have e2 : bl tx = show_ [l[k]] := by rw [← htx]
      have z1 : tx.size ≤ 100000000 := by rw [← bl_size, e2]; rw [hst] at hcut; simp only [List.length_append] at hcut; omega
      have HM := Lib.hid (show bl (s0 ++ tx) = show_ (l.take (k + 1)) from by rw [hst, ← hs0, ← e2]; simp [bl])
      have hk1 : (k : Int) + 1 ≤ 9223372036854775807 := by omega
      clear htx e2 hst hcut hcu0 HSLo hs0 hc1 hB
      go_wp2_with fail
      (with_reducible refine hcall.mono ?_)
      clear hcall hsl
      rintro e w4 ⟨rfl, bb⟩
      have HB4 := Lib.hid (HBW.out.trans (bb.mono HBW.out.size))
      clear bb
      go_wp2_with fail
      go_roundw
      case rel => exact ⟨⟨trivial, trivial⟩, k + 1, _, by have := HLT.out; omega, by go_num, rfl, HM.out, HB4.out⟩
      case measure => have := HLT.out; simp [intOf]; omega
end Go.Proofs.YtkmnbdomikpakaaDoor.RuleLines
