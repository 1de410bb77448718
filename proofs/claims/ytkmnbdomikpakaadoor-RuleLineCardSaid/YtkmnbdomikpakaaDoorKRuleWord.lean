/- Reading piece by piece: what is told passed, a word passed. -/
import Derived.Test.YtkmnbdomikpakaaDoorKRuleCan
import Derived.Test.YtkmnbdomikpakaaDoorKRuleGl
import Derived.Test.YtkmnbdomikpakaaDoorKRuleLex
import Derived.Test.YtkmnbdomikpakaaDoorKShelf
import Derived.Test.YtkmnbdomikpakaaDoorKTurnB
namespace Go.Proofs.YtkmnbdomikpakaaDoor.RuleWord
open Go.RowKit Base KeyPlain TuplePlain TupleRef RulePlain RuleMem RuleRec RuleCan RuleLex RuleAlike TurnB TupleName

/-- a rune of a word -/
def wN (r : Nat) : Bool := lowN r || (digN r || decide (r = 95))
set_option maxHeartbeats 1600000 in
theorem ofWord_any (r : Nat) (w : World) : Calls Tryd.prog 70 #[.int .i32 (r : Int)] w fun e w' => e = .returned (.bool (wN r)) ∧ w' = w := by
  have H := Lib.hid (show wN r = ((decide (97 ≤ r) && decide (r ≤ 122)) || ((decide (48 ≤ r) && decide (r ≤ 57)) || decide (r = 95))) from rfl)
  go_enter Tryd.func70, Tryd.ntmps70
  go_wp2_with fail
  all_goals go_ret
  all_goals refine ⟨ret_bool ?_, rfl⟩
  all_goals rw [H.out]
  all_goals (first | (rw [Bool.eq_iff_iff]; simp only [Bool.or_eq_true, Bool.and_eq_true, decide_eq_true_eq, beq_iff_eq, true_iff]; omega) | (simp_all; omega))
theorem wN_hi (r : Nat) (h : 128 ≤ r) : wN r = false := by
  simp only [wN, lowN, digN, Bool.or_eq_false_iff, Bool.and_eq_false_iff, decide_eq_false_iff_not]; omega
theorem wN_wch (c : UInt8) : wN c.toNat = wch c := by
  rw [Bool.eq_iff_iff]
  simp only [wN, lowN, digN, wch, Bool.or_eq_true, Bool.and_eq_true, decide_eq_true_eq, low_iff, dig_iff, beq_iff_eq, or_assoc]
  rw [show (c = 95 ↔ c.toNat = 95) from ⟨fun h => by rw [h]; rfl, fun h => UInt8.toNat_inj.1 h⟩]
/-- where the word ends -/
theorem idx_word (s : ByteArray) : ∀ (f pos : Nat), pos ≤ s.size → s.size ≤ pos + f →
    (((bl s).drop pos).dropWhile wch = [] → Lib.idxFuncFrom wN false s f pos = -1) ∧ (((bl s).drop pos).dropWhile wch ≠ [] → Lib.idxFuncFrom wN false s f pos = ((pos + (((bl s).drop pos).takeWhile wch).length : Nat) : Int)) := by
  intro f
  induction f with
  | zero =>
    intro pos h1 h2
    have e : (bl s).drop pos = [] := List.drop_of_length_le (by rw [bl_size]; omega)
    rw [e]
    exact ⟨fun _ => rfl, fun h => absurd rfl h⟩
  | succ f ih =>
    intro pos h1 h2
    unfold Lib.idxFuncFrom
    by_cases hlt : pos < s.size
    · rw [if_pos hlt]
      have hd := dec_f (fun _ r => wN r) (fun _ r h => wN_hi r h) s 0
      have hd : wN (Utf8.decode s pos).1 = wN s[pos].toNat ∧ (wN s[pos].toNat = true → (Utf8.decode s pos).2 = 1) := dec_f (fun _ r => wN r) (fun _ r h => wN_hi r h) s pos hlt
      have hc : (bl s).drop pos = s[pos] :: (bl s).drop (pos + 1) := ba_drop_cons s pos hlt
      rw [hc, hd.1, wN_wch]
      cases hw : wch s[pos] with
      | false =>
        rw [if_pos rfl]
        simp only [List.dropWhile_cons, List.takeWhile_cons, hw]
        exact ⟨fun h => by simp at h, fun _ => by simp⟩
      | true =>
        rw [if_neg (by simp), hd.2 (by rw [wN_wch]; exact hw)]
        obtain ⟨i1, i2⟩ := ih (pos + 1) (by omega) (by omega)
        simp only [List.dropWhile_cons, List.takeWhile_cons, hw, if_true]
        refine ⟨i1, fun h => ?_⟩
        rw [i2 h, List.length_cons]
        congr 1
        omega
    · rw [if_neg hlt]
      have e : (bl s).drop pos = [] := List.drop_of_length_le (by rw [bl_size]; omega)
      rw [e]
      exact ⟨fun _ => rfl, fun h => absurd rfl h⟩
theorem trim_word (s : ByteArray) : bl (Lib.trimLeftF wN s) = (bl s).dropWhile wch := by
  obtain ⟨h1, h2⟩ := idx_word s s.size 0 (by omega) (by omega)
  rw [List.drop_zero] at h1 h2
  unfold Lib.trimLeftF Lib.idxFunc
  by_cases h : (bl s).dropWhile wch = []
  · rw [h1 h, if_pos rfl, h]
  · rw [h2 h, if_neg (by omega), Nat.zero_add, Int.toNat_natCast]
    have e := List.takeWhile_append_dropWhile (p := wch) (l := bl s)
    have e2 : bl (s.extract ((bl s).takeWhile wch).length s.size) = (bl s).drop ((bl s).takeWhile wch).length := by
      unfold bl
      rw [Lib.extract_data]
      exact List.take_of_length_le (by rw [List.length_drop]; exact Nat.le_refl _)
    rw [e2]
    have e3 := congrArg (List.drop ((bl s).takeWhile wch).length) e
    rw [List.drop_left] at e3
    exact e3.symm
/-- the text that is still to be read -/
def Left (S : Nat) (s : ByteArray) (w : World) : Prop := w.heap[S]? = some (.cells #[.string s] 9 (0, 0))
theorem Left.at0 {S : Nat} {s : ByteArray} {w : World} (h : Left S s w) : w.cell? ⟨S, 0, none⟩ = some (.string s) ∧ w.frozen? ⟨S, 0, none⟩ = false := by
  unfold Left at h
  constructor <;> simp [World.cell?, World.frozen?, h]
theorem Left.set {S : Nat} {s : ByteArray} {w : World} (h : Left S s w) (t : ByteArray) : Left S t (w.setCell ⟨S, 0, none⟩ (.string t)) := at_set h 0 _
theorem Left.later {S : Nat} {s : ByteArray} {w w' : World} (h : Left S s w) (hb : Below w.heap.size w w') : Left S s w' := (hb.block S (heap_lt h)).trans h
abbrev passV (S : Nat) : Value := .func (.func 66) #[] #[.pointer (some ⟨S, 0, none⟩)]
abbrev wordV (S : Nat) : Value := .func (.func 68) #[] #[.pointer (some ⟨S, 0, none⟩)]
/-- behind what was told, if it is next -/
def cut (p : List UInt8) (l : List UInt8) : List UInt8 := if p.isPrefixOf l then l.drop p.length else l
set_option maxHeartbeats 3200000 in
theorem pass_any (t s : ByteArray) (S : Nat) (w : World) (h : Left S s w) :
    Calls Tryd.prog 66 #[.string t, .pointer (some ⟨S, 0, none⟩)] w fun e w' => e = .returned (.bool ((bl t).isPrefixOf (bl s))) ∧ (∃ s', bl s' = cut (bl t) (bl s) ∧ Left S s' w') ∧ Turn (fun g => g = S) w w' := by
  have hcall := Tryd.strings_CutPrefix s t w
  have h0 := h.at0.1
  have h1 := h.at0.2
  have HT := Lib.hid (show bl (⟨(Lib.trimPrefix s.data.toList t.data.toList).toArray⟩ : ByteArray) = cut (bl t) (bl s) from rfl)
  have HP := Lib.hid (show Lib.hasPrefix s.data.toList t.data.toList = (bl t).isPrefixOf (bl s) from rfl)
  have HS := Lib.hid (h.set ⟨(Lib.trimPrefix s.data.toList t.data.toList).toArray⟩)
  generalize (⟨(Lib.trimPrefix s.data.toList t.data.toList).toArray⟩ : ByteArray) = s' at *
  generalize Lib.hasPrefix s.data.toList t.data.toList = pp at *
  clear h
  go_enter Tryd.func66, Tryd.ntmps66
  go_wp2_with fail
  (with_reducible refine hcall.mono ?_)
  clear hcall
  rintro e w2 ⟨rfl, rfl⟩
  go_wp2_with fail
  go_ret
  exact ⟨ret_bool HP.out, ⟨s', HT.out, HS.out⟩, Turn.set (Turn.refl (fun g => g = S) w2) ⟨S, 0, none⟩ (.inr rfl) _⟩
theorem ofWord_grows (w : World) : PredGrows Tryd.prog 70 #[] wN w := fun W x _ _ => by
  refine (ofWord_any x W).mono ?_
  rintro e w' ⟨rfl, rfl⟩
  exact ⟨rfl, Below.refl _ _⟩
set_option maxHeartbeats 3200000 in
theorem word_any (s : ByteArray) (S : Nat) (w : World) (h : Left S s w) (hz : s.size ≤ 1000000000) :
    Calls Tryd.prog 68 #[.pointer (some ⟨S, 0, none⟩)] w fun e w' => ∃ t s', e = .returned (.string t) ∧ bl t = (bl s).takeWhile wch ∧ bl s' = (bl s).dropWhile wch ∧ Left S s' w' ∧ Turn (fun g => g = S) w w' := by
  have hcall := Tryd.strings_TrimLeftFunc_grows 70 #[] (enters_of Tryd.func70 (by kernel_rfl) rfl) wN s w (ofWord_grows w)
  have h0 := h.at0.1
  have ht := trim_word s
  generalize Lib.trimLeftF wN s = s' at *
  have HT := Lib.hid ht
  have HL := Lib.hid h
  have hle : s'.size ≤ s.size := by rw [← bl_size s', ← bl_size s, ht]; exact (List.dropWhile_suffix wch).length_le
  have HLE := Lib.hid hle
  clear h ht hle
  go_enter Tryd.func68, Tryd.ntmps68
  go_wp2_with fail
  (with_reducible refine hcall.mono ?_)
  clear hcall
  rintro e w2 ⟨rfl, hb⟩
  have h2 := HL.out.later hb
  have c0 := h2.at0.1
  have c1 := h2.at0.2
  obtain ⟨n, hn⟩ : ∃ n, n = s.size - s'.size := ⟨_, rfl⟩
  have hle := HLE.out
  have hwr : wrap64 ((s.size : Int) - (s'.size : Int)) = (n : Int) := by simp only [wrap64]; omega
  have hn1 : (n : Int) ≤ (s.size : Int) := by omega
  have HN := Lib.hid (show bl (s.extract 0 n) = (bl s).takeWhile wch from by
    have e := List.takeWhile_append_dropWhile (p := wch) (l := bl s)
    have hl : n = ((bl s).takeWhile wch).length := by
      have h1 := congrArg List.length e
      rw [List.length_append, ← HT.out, bl_size, bl_size] at h1
      omega
    have h2 : bl (s.extract 0 n) = (bl s).take n := by
      unfold bl
      rw [Lib.extract_data, List.drop_zero, Nat.sub_zero]
    rw [h2, hl]
    have h3 := congrArg (List.take ((bl s).takeWhile wch).length) e
    rw [List.take_left] at h3
    exact h3.symm)
  have HX := Lib.hid (h2.set s')
  have HTU := Lib.hid ((Turn.ofBelow (F := fun g => g = S) hb).trans (Turn.set (Turn.refl (fun g => g = S) w2) ⟨S, 0, none⟩ (.inr rfl) (.string s')) fun _ _ h => h)
  clear hb h2 hle hn
  go_wp2_with fail
  go_ret
  exact ⟨_, _, rfl, HN.out, HT.out, HX.out, HTU.out⟩
end Go.Proofs.YtkmnbdomikpakaaDoor.RuleWord
