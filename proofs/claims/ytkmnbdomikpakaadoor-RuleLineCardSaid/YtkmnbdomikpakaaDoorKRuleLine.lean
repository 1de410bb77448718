/- The walk of RuleLine. -/
import Derived.Test.YtkmnbdomikpakaaDoorKRuleReads
namespace Go.Proofs.YtkmnbdomikpakaaDoor.RuleLine
open Go.RowKit Base KeyPlain TuplePlain TupleRef RulePlain RuleMem RuleRec RuleFew RuleFind RuleCan RuleSpec RuleFacts RuleChk RuleCheck RuleShow RuleTold RuleReads RuleGl RuleChkC RuleOff

theorem text_len30 {e : Ex} (h : e.short 30 = true) (hs : e.size ≤ 64) : e.text.length ≤ 19840 := by
  have := text_len 30 e h
  have : 310 * e.size ≤ 310 * 64 := Nat.mul_le_mul_left _ hs
  omega
theorem low_wch {c : UInt8} (h : low c = true) : wch c = true := by simp [wch, h]
theorem name_word {s : ByteArray} (h : nameR s = true) : wordL (bl s) = true := by
  simp only [nameR, Bool.and_eq_true] at h
  have h := h.1
  cases hb : bl s with
  | nil => rw [hb] at h; cases h
  | cons c r =>
    rw [hb] at h
    simp only [nameL, Bool.and_eq_true, decide_eq_true_eq] at h
    simp only [wordL, List.all_cons, Bool.and_eq_true, decide_eq_true_eq, List.length_cons]
    exact ⟨by omega, low_wch h.1.1, h.1.2⟩
mutual
theorem can_told (k : Kd) (hk : ∀ s, k.has s = true → nameR s = true) : ∀ e : Ex, e.form = true → e.named k = true → Ex.can e = true
  | .mk op nm fo ps, hf, hn => by
    simp only [Ex.form, Ex.named, Bool.and_eq_true] at hf hn
    simp only [Ex.can, Bool.and_eq_true]
    refine ⟨⟨hf.1, ?_⟩, canL_told k hk ps hf.2 hn.2⟩
    have h := hn.1
    unfold canS
    by_cases h2 : op = kRel
    · rw [namedS, if_neg (by rw [h2]; decide), if_pos h2] at h
      have h3 := hk _ h
      rw [if_pos h2, name_word h3, Bool.true_and]
      simp only [nameR, Bool.and_eq_true, Bool.not_eq_true', Bool.or_eq_false_iff, decide_eq_false_iff_not] at h3
      simp only [Bool.not_eq_true', decide_eq_false_iff_not]
      exact h3.2.1.1.1.1.1
    · rw [if_neg h2]
      by_cases h3 : op = kFrom
      · rw [namedS, if_pos h3, Bool.and_eq_true] at h
        rw [if_pos h3, name_word (hk _ h.1), name_word h.2]
        rfl
      · rw [if_neg h3]
theorem canL_told (k : Kd) (hk : ∀ s, k.has s = true → nameR s = true) : ∀ l : List Ex, formL l = true → namedL k l = true → canL l = true
  | [], _, _ => by simp [canL]
  | e :: l, hf, hn => by
    simp only [formL, namedL, Bool.and_eq_true] at hf hn
    simp only [canL, Bool.and_eq_true]
    exact ⟨can_told k hk e hf.1 hn.1, canL_told k hk l hf.2 hn.2⟩
end
/-- rules that may be have a text that tells them -/
theorem can_check {l : List Kd} (h : check l = 0) : can l = true := by
  have h0 := (check_iff l).1 h
  have hr := h0.2.2
  simp only [rightK, Bool.and_eq_true, List.all_eq_true] at hr
  have hf := h0.2.1
  simp only [formK, List.all_eq_true] at hf
  simp only [can, List.all_eq_true]
  intro k hk
  have h1 := hr.2 k hk
  have hh : ∀ s, k.has s = true → nameR s = true := fun s hs => by
    simp only [Kd.has, List.any_eq_true, decide_eq_true_eq] at hs
    obtain ⟨r, hr, rfl⟩ := hs
    exact (h1.2.2 r hr).1
  simp only [Kd.can, Bool.and_eq_true, List.all_eq_true]
  refine ⟨name_word h1.1, fun r hr => ?_⟩
  simp only [Rl.can, Bool.and_eq_true]
  exact ⟨name_word (h1.2.2 r hr).1, can_told k hh r.e (hf k hk r hr) (h1.2.2 r hr).2⟩
theorem can_fit {l : List Kd} (_ : few l = true) (h : check l = 0) : can l = true := can_check h
theorem lf_all {l : List Kd} {b : List UInt8} {t : List (List UInt8)} (hl : can l = true) (hb : (10 : UInt8) ∉ b) (ht : ∀ x, x ∈ t → (10 : UInt8) ∉ x) : ∀ x, x ∈ lines l ++ b :: t → (10 : UInt8) ∉ x := fun x hx => by
  simp only [List.mem_append, List.mem_cons] at hx
  rcases hx with hx | rfl | hx
  · exact lines_lf hl x hx
  · exact hb
  · exact ht x hx
theorem pre_at {l m : List Kd} {b rest : List UInt8} {t : List (List UInt8)} (hl : can l = true) (hm : can m = true) (hb : (10 : UInt8) ∉ b) (ht : ∀ x, x ∈ t → (10 : UInt8) ∉ x) (h : flat (lines l ++ b :: t) = show_ m ++ rest) (hr : rest ≠ []) (hn : NoLine m.isEmpty rest) :
    ∃ x c, lines l ++ b :: t = lines m ++ x :: c ∧ ¬ Right m.isEmpty x ∧ (lines l).length ≤ (lines m).length := by
  rw [show_flat] at h
  obtain ⟨c, h1, h2⟩ := flat_pre (lines m) (lines l ++ b :: t) rest (lf_all hl hb ht) (lines_lf hm) h
  cases c with
  | nil => exact absurd (by simpa [flat] using h2) hr
  | cons x c =>
    have hx : x ∈ lines l ++ b :: t := by rw [h1]; simp
    have hno : ¬ Right m.isEmpty x := hn x (flat c) (by rw [h2]; simp [flat]) (lf_all hl hb ht x hx)
    refine ⟨x, c, h1, hno, ?_⟩
    rcases Nat.lt_or_ge (lines m).length (lines l).length with g | g
    · exfalso
      have hxl : (lines l)[(lines m).length]? = some x := by
        have e := congrArg (fun z => z[(lines m).length]?) h1
        simp only [List.getElem?_append_left g, List.getElem?_append_right (Nat.le_refl _), Nat.sub_self] at e
        simpa using e
      apply hno
      cases m with
      | nil =>
        cases l with
        | nil => simp [lines] at g
        | cons k l =>
          rw [lines_cons] at hxl
          simp only [lines, List.flatMap_nil, List.length_nil, List.getElem?_cons_zero, Option.some.injEq] at hxl
          exact Or.inl ⟨k, (can_cons.1 hl).1, hxl.symm⟩
      | cons k m => exact line_right hl x (List.mem_of_getElem? hxl)
    · exact g
theorem same_lines {l m : List Kd} {b x : List UInt8} {t c : List (List UInt8)} (hl : can l = true) (hm : can m = true) (h : lines l ++ b :: t = lines m ++ x :: c) (hn : (lines l).length = (lines m).length) : m = l ∧ x = b := by
  obtain ⟨h1, h2⟩ := List.append_inj h hn
  injection h2 with h2 _
  exact ⟨lines_one m l hm hl h1.symm, h2.symm⟩
theorem first_bad {l m : List Kd} {b rest : List UInt8} (hl : can l = true) (hm : can m = true) (hb : (10 : UInt8) ∉ b) (he : l.isEmpty = false) (h : flat (lines l ++ b :: []) = show_ m ++ rest) (hr : rest ≠ []) (hn : NoLine m.isEmpty rest) : l = m ∧ ¬ Right false b := by
  obtain ⟨x, c, h1, h2, h3⟩ := pre_at hl hm hb (by simp) h hr hn
  have h4 := congrArg List.length h1
  simp only [List.length_append, List.length_cons, List.length_nil] at h4
  obtain ⟨rfl, rfl⟩ := same_lines hl hm h1 (by omega)
  rw [he] at h2
  exact ⟨rfl, h2⟩
theorem bad_in {l m : List Kd} {b : List UInt8} (hl : can l = true) (hm : can m = true) (hb : (10 : UInt8) ∉ b) (h : flat (lines l ++ b :: lines l) = show_ m) : Right false b := by
  rw [show_flat] at h
  obtain ⟨c, h1, h2⟩ := flat_pre (lines m) (lines l ++ b :: lines l) [] (lf_all hl hb (lines_lf hl)) (lines_lf hm) (by rw [List.append_nil]; exact h)
  cases c with
  | nil =>
    rw [List.append_nil] at h1
    exact line_right hm b (by rw [← h1]; simp)
  | cons x c => simp [flat] at h2
theorem second_bad {l m : List Kd} {b rest : List UInt8} (hl : can l = true) (hm : can m = true) (hb : (10 : UInt8) ∉ b) (_ : l.isEmpty = false) (hbad : ¬ Right false b) (h : flat (lines l ++ b :: lines l) = show_ m ++ rest) (hr : rest ≠ []) (hn : NoLine m.isEmpty rest) : l = m := by
  obtain ⟨x, c, h1, _, h3⟩ := pre_at hl hm hb (lines_lf hl) h hr hn
  rcases Nat.lt_or_ge (lines l).length (lines m).length with g | g
  · exfalso
    have hxl : (lines m)[(lines l).length]? = some b := by
      have e := congrArg (fun z => z[(lines l).length]?) h1
      simp only [List.getElem?_append_left g, List.getElem?_append_right (Nat.le_refl _), Nat.sub_self] at e
      simpa using e.symm
    exact hbad (line_right hm b (List.mem_of_getElem? hxl))
  · exact (same_lines hl hm h1 (by omega)).1.symm
set_option maxRecDepth 100000 in
set_option maxHeartbeats 25600000 in
theorem line_any (X : Specs) (A : Option Addr) (c : Nat) (l : List Kd) (bad : ByteArray) (W : World) (hG : Gl W) (hL : LayL W W.heap.size A l) (hn : l.length ≤ maxLen) : Calls Tryd.prog 4 #[.slice A l.length c, .string bad] W (Law W) := by
  have HL := Lib.hid (fun (w' : World) (hw' : Below W.heap.size W w') => hL.later hw')
  clear hL
  have HGL := Lib.hid (fun (w' : World) (hw' : Below W.heap.size W w') => hG.later hw')
  clear hG
  unfold Law
  go_enter Tryd.func4, Tryd.ntmps4
  have hcall := RuleAwake.awake_any X W (HGL.out W (Below.refl _ _))
  unfold Law at hcall
  go_wp2_with fail
  (with_reducible refine hcall.mono ?_)
  clear hcall
  rintro e w1 ⟨rfl, bb⟩
  have HB1 := Lib.hid bb
  clear bb
  have hcall := RuleFew.refFew_any A c l w1 (HL.out w1 HB1.out) hn
  obtain ⟨fb, hfb⟩ : ∃ v, few l = v := ⟨_, rfl⟩
  rw [hfb] at hcall
  have HF := Lib.hid hfb
  clear hfb
  go_wp2_with fail
  (with_reducible refine hcall.mono ?_)
  clear hcall
  rintro e w2 ⟨rfl, bb⟩
  have HB2 := Lib.hid (HB1.out.trans (bb.mono HB1.out.size))
  clear bb
  cases fb with
  | false =>
    have hcall := RuleAwake.awake_any X w2 (HGL.out w2 HB2.out)
    unfold Law at hcall
    go_wp2_with fail
    (with_reducible refine hcall.mono ?_)
    clear hcall
    rintro e w8 ⟨rfl, bb⟩
    have HB8 := Lib.hid (HB2.out.trans (bb.mono HB2.out.size))
    clear bb
    go_wp2_with fail
    go_ret
    exact ⟨rfl, HB8.out⟩
  | true =>
    have hcall := refCheck_any A c l w2 (HL.out w2 HB2.out) hn (fit_few HF.out)
    rw [checkW_eq (few_sizes HF.out)] at hcall
    by_cases hz : check l = 0
    rotate_left
    · have hne : (check l != 0) = true := by rw [bne_iff_ne]; exact hz
      generalize check l = ck at *
      clear hz
      go_wp2_with fail
      (with_reducible refine hcall.mono ?_)
      clear hcall
      rintro e w3 ⟨rfl, bb⟩
      have HB3 := Lib.hid (HB2.out.trans (bb.mono HB2.out.size))
      clear bb
      have hcall := RuleAwake.awake_any X w3 (HGL.out w3 HB3.out)
      unfold Law at hcall
      go_wp2_with fail
      (with_reducible refine hcall.mono ?_)
      clear hcall
      rintro e w8 ⟨rfl, bb⟩
      have HB8 := Lib.hid (HB3.out.trans (bb.mono HB3.out.size))
      clear bb
      go_wp2_with fail
      go_ret
      exact ⟨rfl, HB8.out⟩
    rw [hz] at hcall
    have HZ := Lib.hid hz
    clear hz
    go_wp2_with fail
    (with_reducible refine hcall.mono ?_)
    clear hcall
    rintro e w3 ⟨rfl, bb⟩
    have HB3 := Lib.hid (HB2.out.trans (bb.mono HB2.out.size))
    clear bb
    by_cases hl0 : l.length = 0
    · have il : ((l.length : Int) == 0) = true := by rw [beq_iff_eq]; omega
      clear hl0
      have hcall := RuleAwake.awake_any X w3 (HGL.out w3 HB3.out)
      unfold Law at hcall
      go_wp2_with fail
      (with_reducible refine hcall.mono ?_)
      clear hcall
      rintro e w8 ⟨rfl, bb⟩
      have HB8 := Lib.hid (HB3.out.trans (bb.mono HB3.out.size))
      clear bb
      go_wp2_with fail
      go_ret
      exact ⟨rfl, HB8.out⟩
    have il : ((l.length : Int) == 0) = false := by rw [beq_eq_false_iff_ne]; omega
    have HL0 := Lib.hid (show l.isEmpty = false from by cases l with | nil => exact absurd rfl hl0 | cons a b => rfl)
    clear hl0
    by_cases hb3 : bad.size ≤ 300
    rotate_left
    · have ib : (300 : Int) < (bad.size : Int) := by omega
      clear hb3
      have hcall := RuleAwake.awake_any X w3 (HGL.out w3 HB3.out)
      unfold Law at hcall
      go_wp2_with fail
      (with_reducible refine hcall.mono ?_)
      clear hcall
      rintro e w8 ⟨rfl, bb⟩
      have HB8 := Lib.hid (HB3.out.trans (bb.mono HB3.out.size))
      clear bb
      go_wp2_with fail
      go_ret
      exact ⟨rfl, HB8.out⟩
    have ib : ¬ (300 : Int) < (bad.size : Int) := by omega
    have HB300 := Lib.hid hb3
    go_wp2_with fail
    go_loopw [5] (fun i wr => w3 = wr ∧ ∃ j : Nat, j ≤ bad.size ∧ i = .int .i64 j ∧ ∀ q (h : q < (bl bad).length), q < j → (bl bad)[q] ≠ 10) (fun i _ => bad.size - (intOf i).toNat)
    case atStart => exact ⟨rfl, 0, by omega, rfl, fun q _ h => by omega⟩
    case round =>
      obtain ⟨rfl, j, hj, rfl, hno⟩ := hrel
      have HNO := Lib.hid hno
      clear hno
      by_cases hjb : j < bad.size
      · have ijb : (j : Int) < (bad.size : Int) := by omega
        have HJ := Lib.hid hjb
        have hq := byte_ten bad j hjb
        by_cases hb : (bl bad)[j]'(by rw [bl_size]; omega) = 10
        · rw [decide_eq_true hb] at hq
          clear hb
          go_wp2_with fail
          go_ret
          exact ⟨rfl, HB3.out⟩
        · rw [decide_eq_false hb] at hq
          have HNX := Lib.hid (show ∀ q (h : q < (bl bad).length), q < j + 1 → (bl bad)[q] ≠ 10 from fun q h hq => by
    rcases Nat.lt_or_ge q j with g | g
    · exact HNO.out q h g
    · obtain rfl : q = j := by omega
      exact hb)
          clear hb
          go_wp2_with fail
          go_roundw
          case rel => exact ⟨trivial, j + 1, by have := HJ.out; omega, by go_num, HNX.out⟩
          case measure => have := HJ.out; simp [intOf]; omega
      · have HNB := Lib.hid (show (10 : UInt8) ∉ bl bad from fun hm => by
    obtain ⟨q, hq, he⟩ := List.mem_iff_getElem.1 hm
    exact HNO.out q hq (by rw [bl_size] at hq; omega) he)
        have hni : ¬ (j : Int) < (bad.size : Int) := by omega
        have HSL := Lib.hid (show_len HF.out HZ.out)
        have hcall := refShow_any A c l w3 (HL.out w3 HB3.out) hn HSL.out (fun k hk r hr => Nat.le_trans (text_len30 ((fewK_of HF.out hk).2 r hr).1 (check_size HZ.out hk hr).1) (by omega))
        obtain ⟨ss, hss⟩ : ∃ v : ByteArray, v = ⟨(show_ l).toArray⟩ := ⟨_, rfl⟩
        rw [← hss] at hcall
        have HSS := Lib.hid (show bl ss = show_ l from by rw [hss])
        have zs : ss.size ≤ 100000000 := by rw [← bl_size, HSS.out]; exact HSL.out
        have hCF := Lib.hid (can_fit HF.out HZ.out)
        clear hss hj hjb
        go_wp2_with fail
        (with_reducible refine hcall.mono ?_)
        clear hcall
        rintro e w4 ⟨rfl, bb⟩
        have HB4 := Lib.hid (HB3.out.trans (bb.mono HB3.out.size))
        clear bb
        have ht1 : bl (ss ++ bad ++ ⟨#[10]⟩) = flat (lines l ++ bl bad :: []) := by rw [flat_append, ← show_flat, ← HSS.out]; simp [flat, bl]
        have ht2 : bl (ss ++ bad ++ ⟨#[10]⟩ ++ ss) = flat (lines l ++ bl bad :: lines l) := by rw [flat_append, ← show_flat, show flat (bl bad :: lines l) = bl bad ++ (10 :: show_ l) from by rw [show_flat]; simp [flat], ← HSS.out]; simp [bl]
        have HT1 := Lib.hid ht1
        have HT2 := Lib.hid ht2
        clear ht1 ht2
        have hcall := X.cRead (ss ++ bad ++ ⟨#[10]⟩) w4 (by simp only [ByteArray.size_append]; have : (⟨#[10]⟩ : ByteArray).size = 1 := rfl; omega) (HGL.out w4 HB4.out)
        have hRD := Lib.hid (fun w hg => X.cRead (ss ++ bad ++ ⟨#[10]⟩ ++ ss) w (by simp only [ByteArray.size_append]; have : (⟨#[10]⟩ : ByteArray).size = 1 := rfl; omega) hg)
        go_wp2_with fail
        (with_reducible refine hcall.mono ?_)
        clear hcall
        rintro e w5 (⟨m, A5, c5, h1, h2, h3, rfl, h5, h6⟩ | ⟨m, h1, h2, h3, he, h5⟩ | ⟨m, rest, h1, h2, h3, h4, he, h5⟩)
        · have HB5 := Lib.hid (HB4.out.trans (h6.mono HB4.out.size))
          clear h1 h2 h3 h5 h6
          go_wp2_with fail
          go_ret
          exact ⟨rfl, HB5.out⟩
        · have HB5 := Lib.hid (HB4.out.trans (h5.mono HB4.out.size))
          clear h5 h2
          rcases can_offC h1 h3 with hc | hc
          · rw [hc] at he
            subst he
            clear hc h1 h3
            go_wp2_with fail
            go_ret
            exact ⟨rfl, HB5.out⟩
          · rw [hc] at he
            subst he
            clear hc h1 h3
            go_wp2_with fail
            go_ret
            exact ⟨rfl, HB5.out⟩
        · have HB5 := Lib.hid (HB4.out.trans (h5.mono HB4.out.size))
          obtain ⟨rfl, hbad⟩ := first_bad hCF.out h1 HNB.out HL0.out (by rw [← HT1.out]; exact h2) h3 h4
          have HBAD := Lib.hid hbad
          clear h1 h2 h3 h4 h5 hbad
          have hcl := flat_cnt _ (lines_lf hCF.out)
          rw [← show_flat, ← HSS.out] at hcl
          have hNs : (lines l).length ≤ ss.size := by rw [← hcl, ← bl_size]; exact List.count_le_length
          obtain ⟨N, hN⟩ : ∃ v, v = (lines l).length := ⟨_, rfl⟩
          rw [← hN] at hcl hNs he
          have HNN := Lib.hid hN
          clear hN
          obtain ⟨n, hne⟩ : ∃ v, v = N + 1 := ⟨_, rfl⟩
          rw [← hne] at he
          subst he
          have hnz : n ≤ 100000001 := by omega
          have hNz : N ≤ 100000000 := by omega
          have hn0 : ((n : Int) == 0) = false := by rw [beq_eq_false_iff_ne]; omega
          have hnn : ((n : Int) == (N : Int) + 1) = true := by rw [beq_iff_eq]; omega
          have HNE := Lib.hid hne
          clear hne
          obtain ⟨cnt, hcnt⟩ : ∃ f : Nat → Nat, ∀ j, f j = ((bl ss).take j).count 10 := ⟨_, fun _ => rfl⟩
          have HS := Lib.hid (fun j (h : j < (bl ss).length) => show cnt (j + 1) = cnt j + if (bl ss)[j] = 10 then 1 else 0 from by rw [hcnt, hcnt]; exact count_step _ _ h)
          have hz0 : cnt 0 = 0 := by rw [hcnt]; rfl
          have HCN := Lib.hid (show cnt ss.size = N from by rw [hcnt, ← bl_size, List.take_length]; exact hcl)
          have HCL := Lib.hid (fun j => show cnt j ≤ ss.size from by rw [hcnt]; exact Nat.le_trans ((List.take_sublist j (bl ss)).count_le 10) List.count_le_length)
          clear hcl hcnt hNs
          go_wp2_with fail
          go_loopw [10, 11] (fun k i wr => w5 = wr ∧ ∃ j : Nat, j ≤ ss.size ∧ i = .int .i64 j ∧ k = .int .i64 (cnt j : Int)) (fun _ i _ => ss.size - (intOf i).toNat)
          case atStart => exact ⟨rfl, 0, by omega, rfl, by rw [hz0]; rfl⟩
          case round =>
            obtain ⟨rfl, j2, hj2, rfl, rfl⟩ := hrel
            by_cases hjs : j2 < ss.size
            · have ijs : (j2 : Int) < (ss.size : Int) := by omega
              have HJ := Lib.hid hjs
              have hst := HS.out j2 (by rw [bl_size]; omega)
              have hcl := HCL.out j2
              have hq := byte_ten ss j2 hjs
              clear hj2
              by_cases hb : (bl ss)[j2]'(by rw [bl_size]; omega) = 10
              · rw [if_pos hb] at hst
                rw [decide_eq_true hb] at hq
                have HST := Lib.hid hst
                clear hst hb
                go_wp2_with fail
                go_roundw
                case rel => exact ⟨trivial, j2 + 1, by have := HJ.out; omega, by go_num, by rw [HST.out]; go_num⟩
                case measure => have := HJ.out; simp [intOf]; omega
              · rw [if_neg hb] at hst
                rw [decide_eq_false hb] at hq
                have HST := Lib.hid hst
                clear hst hb
                go_wp2_with fail
                go_roundw
                case rel => exact ⟨trivial, j2 + 1, by have := HJ.out; omega, by go_num, by rw [HST.out]; rfl⟩
                case measure => have := HJ.out; simp [intOf]; omega
            · have hni2 : ¬ (j2 : Int) < (ss.size : Int) := by omega
              have hk : cnt j2 = N := by rw [show j2 = ss.size from by omega]; exact HCN.out
              rw [hk]
              have hcall := hRD.out w5 (HGL.out w5 HB5.out)
              have hnm : ((n : Int) == (n : Int)) = true := beq_self_eq_true _
              clear hk hj2 hjs
              go_wp2_with fail
              (with_reducible refine hcall.mono ?_)
              clear hcall
              rintro e w6 (⟨m2, A6, c6, g1, g2, g3, rfl, g5, g6⟩ | ⟨m2, g1, g2, g3, he, g5⟩ | ⟨m2, r, g1, g2, g3, g4, he, g5⟩)
              · exact absurd (bad_in hCF.out g1 HNB.out (by rw [← HT2.out, g2])) HBAD.out
              · exact absurd (bad_in hCF.out g1 HNB.out (by rw [← HT2.out, g2])) HBAD.out
              · have HB6 := Lib.hid (HB5.out.trans (g5.mono HB5.out.size))
                obtain rfl := second_bad hCF.out g1 HNB.out HL0.out HBAD.out (by rw [← HT2.out]; exact g2) g3 g4
                rw [← HNN.out, ← HNE.out] at he
                subst he
                clear g1 g2 g3 g4 g5
                go_wp2_with fail
                go_ret
                exact ⟨rfl, HB6.out⟩
end Go.Proofs.YtkmnbdomikpakaaDoor.RuleLine
