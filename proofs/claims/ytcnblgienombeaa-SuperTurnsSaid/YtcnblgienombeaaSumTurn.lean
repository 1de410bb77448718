/- One bit turned, and up to 32 in a row: plain facts (SumDiffers, without its law). -/
import Derived.Test.YtcnblgienombeaaSumOf
import Derived.Laws.BitsAllLaws
namespace Go.Proofs.Ytcnblgienombeaa.SumTurn
open Go.RowKit SumPlain Base SumLeft

/-- one bit turned -/
def turn (l : List UInt8) (i : Nat) : List UInt8 := l.set (i / 8) (l[i / 8]?.getD 0 ^^^ UInt8.ofNat (2 ^ (i % 8)))
def turnK (l : List UInt8) (at_ v : Nat) : Nat → List UInt8
  | 0 => l
  | k + 1 => if v.testBit k = true ∧ at_ + k < 8 * l.length then turn (turnK l at_ v k) (at_ + k) else turnK l at_ v k
def tur (n at_ v : Nat) : Nat → Bool
  | 0 => false
  | k + 1 => if v.testBit k = true ∧ at_ + k < 8 * n then true else tur n at_ v k
theorem turn_len (l : List UInt8) (i : Nat) : (turn l i).length = l.length := by simp [turn]
theorem turnK_len (l : List UInt8) (at_ v k : Nat) : (turnK l at_ v k).length = l.length := by
  induction k with
  | zero => rfl
  | succ k ih => unfold turnK; split <;> simp [turn_len, ih]
def bitOf (l : List UInt8) (i : Nat) : Bool := (l[i / 8]?.getD 0).toNat.testBit (i % 8)
theorem pow8 (j : Nat) (hj : j < 8) : (UInt8.ofNat (2 ^ j)).toNat = 2 ^ j := by
  have : 2 ^ j < 256 := Nat.pow_lt_pow_right (a := 2) (by omega) (n := 8) hj
  rw [UInt8.toNat_ofNat']
  exact Nat.mod_eq_of_lt this
theorem bit_turn (l : List UInt8) (i j : Nat) (hi : i / 8 < l.length) : bitOf (turn l i) j = xor (bitOf l j) (decide (i = j)) := by
  unfold bitOf turn
  by_cases e : i / 8 = j / 8
  · rw [← e, List.getElem?_set_self hi]
    simp only [Option.getD_some, UInt8.toNat_xor, Nat.testBit_xor]
    rw [pow8 _ (by omega), Nat.testBit_two_pow]
    have : decide (i % 8 = j % 8) = decide (i = j) := decide_eq_decide.2 (by omega)
    rw [this]
  · rw [List.getElem?_set_ne e]
    have : decide (i = j) = false := by simp; omega
    rw [this]
    simp
theorem bit_turnK (l : List UInt8) (at_ v k j : Nat) (hj : j < 8 * l.length) : bitOf (turnK l at_ v k) j = xor (bitOf l j) (decide (at_ ≤ j ∧ j < at_ + k) && v.testBit (j - at_)) := by
  induction k with
  | zero =>
    have : decide (at_ ≤ j ∧ j < at_ + 0) = false := decide_eq_false (by omega)
    rw [this]
    simp [turnK]
  | succ k ih =>
    by_cases hc : v.testBit k = true ∧ at_ + k < 8 * l.length
    · unfold turnK
      rw [if_pos hc, bit_turn _ _ _ (by rw [turnK_len]; omega), ih]
      by_cases e : at_ + k = j
      · subst e
        have h1 : decide (at_ ≤ at_ + k ∧ at_ + k < at_ + k) = false := by simp
        have h2 : decide (at_ ≤ at_ + k ∧ at_ + k < at_ + (k + 1)) = true := by simp
        rw [h1, h2]
        simp [hc.1]
      · have h1 : decide (at_ ≤ j ∧ j < at_ + (k + 1)) = decide (at_ ≤ j ∧ j < at_ + k) := decide_eq_decide.2 (by omega)
        rw [h1]
        simp [e]
    · unfold turnK
      rw [if_neg hc, ih]
      by_cases e : at_ + k = j
      · subst e
        have h1 : v.testBit k = false := by
          rcases Bool.eq_false_or_eq_true (v.testBit k) with q | q
          · exact absurd ⟨q, hj⟩ hc
          · exact q
        simp [h1]
      · have h1 : decide (at_ ≤ j ∧ j < at_ + (k + 1)) = decide (at_ ≤ j ∧ j < at_ + k) := decide_eq_decide.2 (by omega)
        rw [h1]
theorem tur_false (n at_ v k : Nat) : tur n at_ v k = false ↔ ∀ j, j < k → at_ + j < 8 * n → v.testBit j = false := by
  induction k with
  | zero => simp [tur]
  | succ k ih =>
    unfold tur
    by_cases hc : v.testBit k = true ∧ at_ + k < 8 * n
    · rw [if_pos hc]
      constructor
      · intro h; cases h
      · intro h
        have := h k (by omega) hc.2
        rw [hc.1] at this
        cases this
    · rw [if_neg hc, ih]
      constructor
      · intro h j hj hn
        by_cases e : j = k
        · subst e
          rcases Bool.eq_false_or_eq_true (v.testBit j) with q | q
          · exact absurd ⟨q, hn⟩ hc
          · exact q
        · exact h j (by omega) hn
      · intro h j hj hn
        exact h j (by omega) hn
theorem turn_end (l : List UInt8) (at_ v : Nat) (hat : at_ < 8 * l.length) : sum (turnK l at_ v 32) = sum l ↔ tur l.length at_ v 32 = false := by
  rw [tur_false]
  apply sum_differs l (turnK l at_ v 32) at_ v (turnK_len _ _ _ _) hat
  intro i hi
  have := bit_turnK l at_ v 32 i (by omega)
  unfold bitOf at this
  rw [List.getElem?_eq_getElem (by rw [turnK_len]; exact hi), List.getElem?_eq_getElem hi] at this
  exact this
theorem and_bit (v k : Nat) (hv : v < 4294967296) : bits .and .u32 ((v : Int) / 2 ^ k) 1 = (((v.testBit k).toNat : Nat) : Int) := by
  have e : ((v : Int) / 2 ^ k) = ((v / 2 ^ k : Nat) : Int) := by simp
  rw [e, and_one _ (Nat.lt_of_le_of_lt (Nat.div_le_self _ _) hv), Nat.testBit_eq_decide_div_mod_eq]
  have := Nat.mod_two_eq_zero_or_one (v / 2 ^ k)
  rcases this with h | h <;> simp [h]
theorem xor_pow (c : UInt8) (j : Nat) (hj : j < 8) : bits .xor .u8 (c.toNat : Int) (2 ^ j % 256) = ((c ^^^ UInt8.ofNat (2 ^ j)).toNat : Int) := by
  have h1 : 2 ^ j < 256 := Nat.pow_lt_pow_right (a := 2) (by omega) (n := 8) hj
  have e : ((2 : Int) ^ j % 256) = ((2 ^ j : Nat) : Int) := by
    rw [show ((2 : Int) ^ j) = ((2 ^ j : Nat) : Int) by simp]
    generalize 2 ^ j = m at h1 ⊢
    omega
  rw [e, u8_xor_nat _ _ (UInt8.toNat_lt c) h1, UInt8.toNat_xor, pow8 j hj]
theorem tur_same (l : List UInt8) (at_ v k : Nat) (h : tur l.length at_ v k = false) : turnK l at_ v k = l := by
  induction k with
  | zero => rfl
  | succ k ih =>
    unfold tur at h
    split at h
    · cases h
    · rename_i hc
      unfold turnK
      rw [if_neg hc, ih h]
end Go.Proofs.Ytcnblgienombeaa.SumTurn
