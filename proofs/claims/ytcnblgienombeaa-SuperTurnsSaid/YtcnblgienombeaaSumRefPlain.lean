/- The long division, bit by bit, leaves what the register leaves. No Go. -/
import Derived.Test.YtcnblgienombeaaSumPlain
namespace Go.Proofs.Ytcnblgienombeaa.SumRefPlain
open SumPlain

/-- the message's bits, noughts behind -/
def mb (l : List UInt8) (j : Nat) : Bool := (bitsL l)[j]?.getD false
/-- the register behind i bits -/
def reg (l : List UInt8) (i : Nat) : Nat := cb full ((bitsL l).take i)
/-- all bits behind i steps of the division -/
def st (l : List UInt8) (i j : Nat) : Bool := if j < i then false else xor ((reg l i).testBit (j - i)) (mb l j)
def pw : List Nat := [32, 26, 23, 22, 16, 12, 11, 10, 8, 7, 5, 4, 2, 1, 0]
def hit (i : Nat) : Nat → Nat → Bool
  | 0, _ => false
  | k + 1, j => xor (hit i k j) (decide (i + 32 - pw[k]?.getD 0 = j))
theorem mb_behind (l : List UInt8) (j : Nat) (h : 8 * l.length ≤ j) : mb l j = false := by
  unfold mb
  rw [List.getElem?_eq_none (by rw [bitsL_len]; exact h)]
  rfl
theorem reg_lt (l : List UInt8) (i : Nat) : reg l i < 2 ^ 32 := by
  unfold reg
  have : ∀ (p : List Bool) (r : Nat), r < 2 ^ 32 → cb r p < 2 ^ 32 := by
    intro p
    induction p with
    | nil => intro r h; exact h
    | cons b p ih => intro r h; exact ih _ (step1_lt (Nat.xor_lt_two_pow h (by have := Bool.toNat_le b; omega)))
  exact this _ _ full_lt
theorem reg_succ (l : List UInt8) (i : Nat) (h : i < 8 * l.length) : reg l (i + 1) = step1 (reg l i ^^^ (mb l i).toNat) := by
  have hi : i < (bitsL l).length := by rw [bitsL_len]; exact h
  unfold reg mb
  rw [List.take_succ_eq_append_getElem hi, cb_append, List.getElem?_eq_getElem hi]
  rfl
theorem reg_end (l : List UInt8) : reg l (8 * l.length) = crc full l := by
  unfold reg
  rw [List.take_of_length_le (by rw [bitsL_len]; exact Nat.le_refl _), cb_bytes]
theorem full_bit (j : Nat) : full.testBit j = decide (j < 32) := by
  have : full = 2 ^ 32 - 1 := by decide
  rw [this, Nat.testBit_two_pow_sub_one]
theorem st_zero (l : List UInt8) (j : Nat) : st l 0 j = xor (decide (j < 32)) (mb l j) := by
  unfold st
  rw [if_neg (by omega), show reg l 0 = full from rfl, Nat.sub_zero, full_bit]
theorem toNat_bit (b : Bool) (q : Nat) : b.toNat.testBit (q + 1) = false := by cases b <;> simp [Nat.testBit_succ]
theorem toNat_bit0 (b : Bool) : b.toNat.testBit 0 = b := by cases b <;> rfl
theorem st_here (l : List UInt8) (i : Nat) : st l i i = (reg l i ^^^ (mb l i).toNat).testBit 0 := by
  unfold st
  rw [if_neg (by omega), Nat.sub_self, Nat.testBit_xor, toNat_bit0]
theorem reg_bit (l : List UInt8) (i q : Nat) (h : i < 8 * l.length) : (reg l (i + 1)).testBit q = xor ((reg l i).testBit (q + 1)) (st l i i && D.testBit q) := by
  rw [reg_succ l i h, st_here]
  unfold step1
  rw [Nat.testBit_xor, Nat.testBit_shiftRight, Nat.testBit_xor, Nat.add_comm 1 q, toNat_bit]
  split
  · rename_i hb; rw [hb]; simp
  · rename_i hb; rw [Bool.eq_false_iff.2 hb]; simp
theorem st_no (l : List UInt8) (i j : Nat) (h : i < 8 * l.length) (hb : st l i i = false) : st l i j = st l (i + 1) j := by
  by_cases h1 : j < i
  · unfold st; rw [if_pos h1, if_pos (by omega)]
  · by_cases h2 : j = i
    · subst h2
      rw [hb]
      unfold st
      rw [if_pos (by omega)]
    · have e1 : st l i j = xor ((reg l i).testBit (j - i)) (mb l j) := by unfold st; rw [if_neg h1]
      have e2 : st l (i + 1) j = xor ((reg l (i + 1)).testBit (j - (i + 1))) (mb l j) := by unfold st; rw [if_neg (by omega)]
      rw [e1, e2, reg_bit l i _ h, hb, show j - (i + 1) + 1 = j - i by omega]
      simp
theorem hit_low (i k j : Nat) (h : j < i) : hit i k j = false := by
  induction k with
  | zero => rfl
  | succ k ih =>
    have hp : pw[k]?.getD 0 ≤ 32 := by
      rcases Nat.lt_or_ge k 15 with q | q
      · have : ∀ k : Fin 15, pw[k.val]?.getD 0 ≤ 32 := by decide
        exact this ⟨k, q⟩
      · rw [List.getElem?_eq_none (by simpa [pw] using q)]; simp
    unfold hit
    rw [ih]
    simp
    omega
theorem pw_le (k : Nat) : pw[k]?.getD 0 ≤ 32 := by
  rcases Nat.lt_or_ge k 15 with q | q
  · have : ∀ k : Fin 15, pw[k.val]?.getD 0 ≤ 32 := by decide
    exact this ⟨k, q⟩
  · rw [List.getElem?_eq_none (by simpa [pw] using q)]; simp
theorem hit_shift (i k q : Nat) : hit i k (i + q) = hit 0 k q := by
  induction k with
  | zero => rfl
  | succ k ih =>
    unfold hit
    rw [ih]
    congr 1
    have := pw_le k
    exact decide_eq_decide.2 (by omega)
theorem hit_far (k q : Nat) (h : 32 < q) : hit 0 k q = false := by
  induction k with
  | zero => rfl
  | succ k ih =>
    unfold hit
    rw [ih]
    simp
    omega
theorem hit_all (q : Nat) : hit 0 15 q = (2 * D + 1).testBit q := by
  rcases Nat.lt_or_ge q 33 with h | h
  · have : ∀ q : Fin 33, hit 0 15 q.val = (2 * D + 1).testBit q.val := by decide +kernel
    exact this ⟨q, h⟩
  · rw [hit_far 15 q (by omega)]
    have hl : 2 * D + 1 < 2 ^ q := Nat.lt_of_lt_of_le (show 2 * D + 1 < 2 ^ 33 by decide) (Nat.pow_le_pow_right (by omega) h)
    exact (Nat.testBit_lt_two_pow hl).symm
theorem hit_zero : hit 0 15 0 = true := by decide +kernel
theorem hit_succ (q : Nat) : hit 0 15 (q + 1) = D.testBit q := by
  rw [hit_all, Nat.testBit_succ]
  congr 1
theorem st_yes (l : List UInt8) (i j : Nat) (h : i < 8 * l.length) (hb : st l i i = true) : xor (st l i j) (hit i 15 j) = st l (i + 1) j := by
  by_cases h1 : j < i
  · rw [hit_low i 15 j h1]
    unfold st; rw [if_pos h1, if_pos (by omega)]; rfl
  · by_cases h2 : j = i
    · subst h2
      rw [hb, show hit j 15 j = hit 0 15 0 from hit_shift j 15 0, hit_zero]
      unfold st
      rw [if_pos (by omega)]; rfl
    · have e1 : st l i j = xor ((reg l i).testBit (j - i)) (mb l j) := by unfold st; rw [if_neg h1]
      have e2 : st l (i + 1) j = xor ((reg l (i + 1)).testBit (j - (i + 1))) (mb l j) := by unfold st; rw [if_neg (by omega)]
      have e3 : hit i 15 j = D.testBit (j - (i + 1)) := by
        have := hit_shift i 15 (j - i)
        rw [show i + (j - i) = j by omega] at this
        rw [this, show j - i = (j - (i + 1)) + 1 by omega, hit_succ]
      rw [e1, e2, e3, reg_bit l i _ h, hb, show j - (i + 1) + 1 = j - i by omega]
      cases (reg l i).testBit (j - i) <;> cases mb l j <;> cases D.testBit (j - (i + 1)) <;> rfl
theorem st_end (l : List UInt8) (k : Nat) : st l (8 * l.length) (8 * l.length + k) = (crc full l).testBit k := by
  unfold st
  rw [if_neg (by omega), mb_behind l _ (by omega), reg_end, Nat.add_sub_cancel_left]
  simp
theorem sum_step (l : List UInt8) (k : Nat) (hk : k < 32) : 2 * (sum l >>> (k + 1)) + (!(crc full l).testBit k).toNat = sum l >>> k := by
  have hb : (sum l).testBit k = !(crc full l).testBit k := by
    unfold sum
    rw [Nat.testBit_xor, full_bit]
    simp [hk]
  have h1 : sum l >>> (k + 1) = (sum l >>> k) / 2 := by rw [Nat.shiftRight_succ]
  have h2 : (sum l >>> k) % 2 = ((sum l).testBit k).toNat := by
    rw [Nat.testBit_eq_decide_div_mod_eq, Nat.shiftRight_eq_div_pow]
    have := Nat.mod_two_eq_zero_or_one (sum l / 2 ^ k)
    rcases this with h | h <;> simp [h]
  rw [h1, ← hb, ← h2]
  omega
theorem sum_top (l : List UInt8) : sum l >>> 32 = 0 := by
  rw [Nat.shiftRight_eq_div_pow]
  exact Nat.div_eq_of_lt (sum_lt l)
end Go.Proofs.Ytcnblgienombeaa.SumRefPlain
