/- Contracts of the functions of layer 1, and of its answer, that only read. -/
import Derived.Test.YtilcnhdfdgmekaaGreatKReg
import Derived.Test.YtilcnhdfdgmekaaGreatKTuplePlain
import Derived.Test.YtilcnhdfdgmekaaGreatProg
import Derived.BigQuiet
import Derived.Deep.QuietTactic
import Derived.Lib.Hide
import Derived.WalkKit
import Derived.WalkLawsBesides
import Derived.WalkSpells
namespace Go.Proofs.YtilcnhdfdgmekaaGreat.KeyRead
open Go.RowKit KeyPlain Base

set_option maxHeartbeats 400000 in
theorem below_q (s t : ByteArray) (w : World) (hs : s.size ≤ maxLen) (ht : t.size ≤ maxLen) :
    Calls Tryz.prog 72 #[.string s, .string t] w fun e w' => e = .returned (.bool (Op.bytesLess s.data.toList t.data.toList)) ∧ ∃ n, w' = w.drewN n := by
  unfold maxLen at hs ht
  go_enter Tryz.func72, Tryz.ntmps72
  go_wp2
  go_loopw [5] (fun i wr => ∃ k n : Nat, k ≤ s.size ∧ k ≤ t.size ∧ i = .int .i64 k ∧ s.data.toList.take k = t.data.toList.take k ∧ wr = w.drewN n) (fun i _ => s.size - (intOf i).toNat)
  case atStart => exact ⟨0, 0, by omega, by omega, rfl, rfl, rfl⟩
  case round =>
    obtain ⟨k, n, hk1, hk2, rfl, hpre, rfl⟩ := hrel
    have HP := Lib.hid hpre
    clear hpre
    by_cases h1 : k < s.size
    · by_cases h2 : k < t.size
      · go_wp2
        go_quiet (fail)
        go_wp2
        · have hne : ((s[k].toNat : Int) != (t[k].toNat : Int)) = true := by assumption
          have HN := Lib.hid (bl_at HP.out h1 h2 hne)
          go_quiet (fail)
          go_wp2
          go_ret
          exact ⟨ret_bool HN.out.symm, by simp only [World.drewN_drewN]; exact ⟨_, rfl⟩⟩
        · have hne : ((s[k].toNat : Int) != (t[k].toNat : Int)) = false := by assumption
          go_roundw
          case rel => exact ⟨k + 1, _, by omega, by omega, by go_num, bl_step HP.out h1 h2 hne, rfl⟩
          case measure => simp [intOf]; omega
      · go_wp2
        go_ret
        exact ⟨ret_bool (bl_end HP.out hk1 hk2 (.inr h2)).symm, ⟨n, rfl⟩⟩
    · go_wp2
      go_ret
      exact ⟨ret_bool (bl_end HP.out hk1 hk2 (.inl h1)).symm, ⟨n, rfl⟩⟩

set_option maxHeartbeats 400000 in
theorem Below_q (s t : ByteArray) (w : World) (hs : s.size ≤ maxLen) (ht : t.size ≤ maxLen) :
    Calls Tryz.prog 69 #[.string s, .string t] w fun e w' => e = .returned (.bool (Op.bytesLess s.data.toList t.data.toList)) ∧ ∃ n, w' = w.drewN n := by
  go_enter Tryz.func69, Tryz.ntmps69
  go_wp2_with (go_at_call 72; refine (below_q _ _ _ hs ht).mono ?_; rintro e w' ⟨rfl, n, rfl⟩)
  go_ret
  exact ⟨rfl, n, rfl⟩

set_option maxHeartbeats 400000 in
theorem Same_q (A B : Option Addr) (c d : Nat) (ps qs : List ByteArray) (w : World) (hr : Row w w.heap.size A (ps.map .string)) (hq : Row w w.heap.size B (qs.map .string)) (hn : ps.length ≤ maxLen) (hm : qs.length ≤ maxLen) :
    Calls Tryz.prog 26 #[.slice A ps.length c, .slice B qs.length d] w fun e w' => e = .returned (.bool (decide (ps = qs))) ∧ ∃ n, w' = w.drewN n := by
  unfold maxLen at hn hm
  by_cases hl : ps.length = qs.length
  · have hl1 : ((ps.length : Int) != (qs.length : Int)) = false := by simp [hl]
    have HL := Lib.hid hl
    clear hl
    go_enter Tryz.func26, Tryz.ntmps26
    go_wp2
    go_loopw [5] (fun i wr => ∃ k n : Nat, k ≤ ps.length ∧ i = .int .i64 k ∧ ps.take k = qs.take k ∧ wr = w.drewN n) (fun i _ => ps.length - (intOf i).toNat)
    case atStart => exact ⟨0, 0, by omega, rfl, rfl, rfl⟩
    case round =>
      obtain ⟨k, n, hk1, rfl, hpre, rfl⟩ := hrel
      have HP := Lib.hid hpre
      clear hpre
      by_cases h1 : k < ps.length
      · have h2 : k < qs.length := by have := HL.out; omega
        obtain ⟨ad, rfl, hb, hc⟩ := hr.get k (by simpa using h1)
        obtain ⟨bd, rfl, hb2, hc2⟩ := hq.get k (by simpa using h2)
        simp only [List.getElem_map] at hc hc2
        go_wp2
        go_quiet (fail)
        go_wp2
        · have hne : (!(ps[k].toList == qs[k].toList)) = true := by assumption
          rw [ba_beq] at hne
          go_ret
          exact ⟨ret_bool (same_no h1 h2 (by simpa using hne)), by simp only [World.drewN_drewN]; exact ⟨_, rfl⟩⟩
        · have hne : (!(ps[k].toList == qs[k].toList)) = false := by assumption
          rw [ba_beq] at hne
          go_roundw
          case rel => exact ⟨k + 1, _, by omega, by go_num, same_step HP.out h1 h2 (by simpa using hne), rfl⟩
          case measure => simp [intOf]; omega
      · go_wp2
        go_ret
        exact ⟨ret_bool (same_yes HP.out HL.out h1), n, rfl⟩
  · have hl1 : ((ps.length : Int) != (qs.length : Int)) = true := by simp; omega
    have hl2 : false = decide (ps = qs) := by
      symm; rw [decide_eq_false_iff_not]; rintro rfl; exact hl rfl
    have HL := Lib.hid hl2
    clear hl hl2
    go_enter Tryz.func26, Tryz.ntmps26
    go_wp2
    go_ret
    exact ⟨ret_bool HL.out, 0, rfl⟩

set_option maxHeartbeats 400000 in
theorem isNaN_q (s : ByteArray) (w : World) :
    Calls Tryz.prog 122 #[.string s] w fun e w' => e = .returned (.bool false) ∧ w = w' := by
  go_enter Tryz.func122, Tryz.ntmps122
  go_wp2
  go_ret
  exact ⟨rfl, rfl⟩
set_option maxHeartbeats 400000 in
theorem cmp_lt (s t : ByteArray) (w : World) (h : Op.bytesLess s.data.toList t.data.toList = true) :
    Calls Tryz.prog 107 #[.string s, .string t] w fun e w' => e = .returned (.int .i64 (-1)) ∧ w = w' := by
  rw [← Lib.toList_data, ← Lib.toList_data] at h
  go_enter Tryz.func107, Tryz.ntmps107
  go_wp2_with (go_at_call 122; refine (isNaN_q _ _).mono ?_; rintro e w' ⟨rfl, rfl⟩)
  go_ret
  exact ⟨rfl, rfl⟩
set_option maxHeartbeats 400000 in
theorem cmp_gt (s t : ByteArray) (w : World) (h : Op.bytesLess s.data.toList t.data.toList = false) (hne : s ≠ t) :
    Calls Tryz.prog 107 #[.string s, .string t] w fun e w' => e = .returned (.int .i64 1) ∧ w = w' := by
  rw [← Lib.toList_data, ← Lib.toList_data] at h
  have h2 : (s.toList == t.toList) = false := by rw [ba_beq]; simpa using hne
  clear hne
  go_enter Tryz.func107, Tryz.ntmps107
  go_wp2_with (go_at_call 122; refine (isNaN_q _ _).mono ?_; rintro e w' ⟨rfl, rfl⟩)
  go_ret
  exact ⟨rfl, rfl⟩
set_option maxHeartbeats 400000 in
theorem cmp_eq (s : ByteArray) (w : World) :
    Calls Tryz.prog 107 #[.string s, .string s] w fun e w' => e = .returned (.int .i64 0) ∧ w = w' := by
  have h : Op.bytesLess s.toList s.toList = false := bl_irrefl _
  have h2 : (s.toList == s.toList) = true := by simp
  go_enter Tryz.func107, Tryz.ntmps107
  go_wp2_with (go_at_call 122; refine (isNaN_q _ _).mono ?_; rintro e w' ⟨rfl, rfl⟩)
  go_ret
  exact ⟨rfl, rfl⟩
theorem cmp_ne (s t : ByteArray) (w : World) (hne : s ≠ t) :
    Calls Tryz.prog 107 #[.string s, .string t] w fun e w' => e = .returned (.int .i64 (if Op.bytesLess s.data.toList t.data.toList = true then -1 else 1)) ∧ w = w' := by
  by_cases h : Op.bytesLess s.data.toList t.data.toList = true
  · simp only [if_pos h]; exact cmp_lt s t w h
  · simp only [if_neg h]; exact cmp_gt s t w (by simpa using h) hne

/-- what slices.Compare tells of two lists -/
def Told (ps qs : List ByteArray) (w : World) (e : Ending) (w' : World) : Prop := ∃ (r : Int), e = .returned (.int .i64 r) ∧ decide (r < 0) = less (lst ps) (lst qs) ∧ w = w'
theorem told {ps qs : List ByteArray} {w : World} (r : Int) (h : decide (r < 0) = less (lst ps) (lst qs)) : Told ps qs w (.returned (.int .i64 r)) w := ⟨r, rfl, h, rfl⟩
theorem told_at {ps qs : List ByteArray} {k : Nat} (h : ps.take k = qs.take k) (h1 : k < ps.length) (h2 : k < qs.length) (e : ps[k] ≠ qs[k]) :
    decide ((if Op.bytesLess ps[k].data.toList qs[k].data.toList = true then (-1 : Int) else 1) < 0) = less (lst ps) (lst qs) := by
  rw [less_at h h1 h2 e]
  by_cases g : Op.bytesLess ps[k].data.toList qs[k].data.toList = true
  · rw [if_pos g, g]; rfl
  · rw [if_neg g]; simp only [Bool.not_eq_true] at g; rw [g]; rfl
theorem told_ne (b : Prop) [Decidable b] : ((if b then (-1 : Int) else 1) != 0) = true := by split <;> rfl

set_option maxHeartbeats 400000 in
theorem slicesCompare_q (A B : Option Addr) (c d : Nat) (ps qs : List ByteArray) (w : World) (hr : Row w w.heap.size A (ps.map .string)) (hq : Row w w.heap.size B (qs.map .string)) (hn : ps.length ≤ maxLen) (hm : qs.length ≤ maxLen) :
    Calls Tryz.prog 84 #[.slice A ps.length c, .slice B qs.length d] w (Told ps qs w) := by
  unfold maxLen at hn hm
  go_enter Tryz.func84, Tryz.ntmps84
  go_wp2_with fail
  go_loop [11] (fun i => ∃ k : Nat, k ≤ ps.length ∧ k ≤ qs.length ∧ i = .int .i64 k ∧ ps.take k = qs.take k) (fun i => ps.length - (intOf i).toNat)
  case atStart => exact ⟨0, by omega, by omega, rfl, rfl⟩
  case round =>
    obtain ⟨k, hk1, hk2, rfl, hpre⟩ := hrel
    have HP := Lib.hid hpre
    clear hpre
    by_cases h1 : k < ps.length
    · obtain ⟨ad, rfl, hb, hc⟩ := hr.get k (by simpa using h1)
      simp only [List.getElem_map] at hc
      by_cases h2 : k < qs.length
      · obtain ⟨bd, rfl, hb2, hc2⟩ := hq.get k (by simpa using h2)
        simp only [List.getElem_map] at hc2
        by_cases he : ps[k] = qs[k]
        · have HE := Lib.hid he
          rw [he] at hc
          clear he
          go_wp2_with (go_at_call 107; refine (cmp_eq _ _).mono ?_; rintro e w' ⟨rfl, rfl⟩)
          go_round
          case rel => exact ⟨k + 1, by omega, by omega, by go_num, same_step HP.out h1 h2 HE.out⟩
          case measure => simp [intOf]; omega
        · have HT := Lib.hid (told_at HP.out h1 h2 he)
          have hz := told_ne (Op.bytesLess ps[k].data.toList qs[k].data.toList = true)
          have HC := Lib.hid (fun w => cmp_ne ps[k] qs[k] w he)
          clear he
          generalize (if Op.bytesLess ps[k].data.toList qs[k].data.toList = true then (-1 : Int) else 1) = r at HT hz HC
          go_wp2_with (go_at_call 107; refine (HC.out _).mono ?_; rintro e w' ⟨rfl, rfl⟩)
          go_ret
          exact told _ HT.out
      · go_wp2_with fail
        go_ret
        exact told _ (by rw [less_end HP.out hk1 hk2 (.inr h2)]; simp; omega)
    · by_cases h2 : ps.length < qs.length
      · go_wp2_with fail
        go_ret
        exact told _ (by rw [less_end HP.out hk1 hk2 (.inl h1)]; simp; omega)
      · go_wp2_with fail
        go_ret
        exact told _ (by rw [less_end HP.out hk1 hk2 (.inl h1)]; simp; omega)

set_option maxHeartbeats 400000 in
theorem Less_q (A B : Option Addr) (c d : Nat) (ps qs : List ByteArray) (w : World) (hr : Row w w.heap.size A (ps.map .string)) (hq : Row w w.heap.size B (qs.map .string)) (hn : ps.length ≤ maxLen) (hm : qs.length ≤ maxLen) :
    Calls Tryz.prog 64 #[.slice A ps.length c, .slice B qs.length d] w fun e w' => e = .returned (.bool (less (lst ps) (lst qs))) ∧ w = w' := by
  go_enter Tryz.func64, Tryz.ntmps64
  go_wp2_with (go_at_call 84; refine (slicesCompare_q _ _ _ _ _ _ _ hr hq hn hm).mono ?_; rintro e w' ⟨r, rfl, ht, rfl⟩; have HT := Lib.hid ht; clear ht)
  go_ret
  exact ⟨ret_bool HT.out, rfl⟩

set_option maxHeartbeats 400000 in
theorem refLess_q (A B : Option Addr) (c d : Nat) (ps qs : List ByteArray) (w : World) (hr : Row w w.heap.size A (ps.map .string)) (hq : Row w w.heap.size B (qs.map .string)) (hn : ps.length ≤ maxLen) (hm : qs.length ≤ maxLen)
    (hs : ∀ p ∈ ps, p.size ≤ maxLen) (ht : ∀ p ∈ qs, p.size ≤ maxLen) :
    Calls Tryz.prog 48 #[.slice A ps.length c, .slice B qs.length d] w fun e w' => e = .returned (.bool (less (lst ps) (lst qs))) ∧ ∃ n, w' = w.drewN n := by
  have HS := Lib.hid hs
  have HT := Lib.hid ht
  clear hs ht
  unfold maxLen at hn hm
  go_enter Tryz.func48, Tryz.ntmps48
  go_wp2_with fail
  go_loopw [5] (fun i wr => ∃ k n : Nat, k ≤ ps.length ∧ k ≤ qs.length ∧ i = .int .i64 k ∧ ps.take k = qs.take k ∧ wr = w.drewN n) (fun i _ => ps.length - (intOf i).toNat)
  case atStart => exact ⟨0, 0, by omega, by omega, rfl, rfl, rfl⟩
  case round =>
    obtain ⟨k, n, hk1, hk2, rfl, hpre, rfl⟩ := hrel
    have HP := Lib.hid hpre
    clear hpre
    by_cases h1 : k < ps.length
    · by_cases h2 : k < qs.length
      · obtain ⟨ad, rfl, hb, hc⟩ := hr.get k (by simpa using h1)
        obtain ⟨bd, rfl, hb2, hc2⟩ := hq.get k (by simpa using h2)
        simp only [List.getElem_map] at hc hc2
        have hz1 := HS.out _ (List.getElem_mem h1)
        have hz2 := HT.out _ (List.getElem_mem h2)
        go_wp2_with fail
        go_quiet (fail)
        go_wp2_with fail
        · have hne : (!(ps[k].toList == qs[k].toList)) = true := by assumption
          have HN := Lib.hid (less_at HP.out h1 h2 (by rw [ba_beq] at hne; simpa using hne))
          go_quiet ((go_at_call 72; refine quiet_any (below_q _ _ _ hz1 hz2) ?_; intro nn; simp only [World.drewN_drewN, Nat.add_assoc]; exact ⟨_, rfl⟩))
          go_wp2_with fail
          go_ret
          exact ⟨ret_bool HN.out.symm, by simp only [World.drewN_drewN]; exact ⟨_, rfl⟩⟩
        · have hne : (!(ps[k].toList == qs[k].toList)) = false := by assumption
          rw [ba_beq] at hne
          go_roundw
          case rel => exact ⟨k + 1, _, by omega, by omega, by go_num, same_step HP.out h1 h2 (by simpa using hne), rfl⟩
          case measure => simp [intOf]; omega
      · go_wp2_with fail
        go_ret
        exact ⟨ret_bool (less_end HP.out hk1 hk2 (.inr h2)).symm, n, rfl⟩
    · go_wp2_with fail
      go_ret
      exact ⟨ret_bool (less_end HP.out hk1 hk2 (.inl h1)).symm, n, rfl⟩
end Go.Proofs.YtilcnhdfdgmekaaGreat.KeyRead
