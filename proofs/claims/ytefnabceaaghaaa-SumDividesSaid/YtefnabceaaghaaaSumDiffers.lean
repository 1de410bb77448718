/- The walk of SumDiffers. -/
import Derived.Test.YtefnabceaaghaaaSumXor
namespace Go.Proofs.Ytefnabceaaghaaa.SumDiffers
open Go.RowKit SumPlain Base SumLeft SumMem SumFill SumOf SumAwake SumLaws SumAlone SumBlk SumXor

/-- one bit turned -/
def turn (l : List UInt8) (i : Nat) : List UInt8 := l.set (i / 8) (l[i / 8]?.getD 0 ^^^ UInt8.ofNat (2 ^ (i % 8)))
def turnK (l : List UInt8) (at_ v : Nat) : Nat → List UInt8
  | 0 => l
  | k + 1 => if v.testBit k = true ∧ at_ + k < 8 * l.length then turn (turnK l at_ v k) (at_ + k) else turnK l at_ v k
def tur (n at_ v : Nat) : Nat → Bool
  | 0 => false
  | k + 1 => if v.testBit k = true ∧ at_ + k < 8 * n then true else tur n at_ v k
theorem turn_len (l : List UInt8) (i : Nat) : (turn l i).length = l.length := by simp [turn]
theorem turnK_len (l : List UInt8) (at_ v k : Nat) : (turnK l at_ v k).length = l.length := by
  induction k with
  | zero => rfl
  | succ k ih => unfold turnK; split <;> simp [turn_len, ih]
def bitOf (l : List UInt8) (i : Nat) : Bool := (l[i / 8]?.getD 0).toNat.testBit (i % 8)
theorem pow8 (j : Nat) (hj : j < 8) : (UInt8.ofNat (2 ^ j)).toNat = 2 ^ j := by
  have : 2 ^ j < 256 := Nat.pow_lt_pow_right (a := 2) (by omega) (n := 8) hj
  rw [UInt8.toNat_ofNat']
  exact Nat.mod_eq_of_lt this
theorem bit_turn (l : List UInt8) (i j : Nat) (hi : i / 8 < l.length) : bitOf (turn l i) j = xor (bitOf l j) (decide (i = j)) := by
  unfold bitOf turn
  by_cases e : i / 8 = j / 8
  · rw [← e, List.getElem?_set_self hi]
    simp only [Option.getD_some, UInt8.toNat_xor, Nat.testBit_xor]
    rw [pow8 _ (by omega), Nat.testBit_two_pow]
    have : decide (i % 8 = j % 8) = decide (i = j) := decide_eq_decide.2 (by omega)
    rw [this]
  · rw [List.getElem?_set_ne e]
    have : decide (i = j) = false := by simp; omega
    rw [this]
    simp
theorem bit_turnK (l : List UInt8) (at_ v k j : Nat) (hj : j < 8 * l.length) : bitOf (turnK l at_ v k) j = xor (bitOf l j) (decide (at_ ≤ j ∧ j < at_ + k) && v.testBit (j - at_)) := by
  induction k with
  | zero =>
    have : decide (at_ ≤ j ∧ j < at_ + 0) = false := decide_eq_false (by omega)
    rw [this]
    simp [turnK]
  | succ k ih =>
    by_cases hc : v.testBit k = true ∧ at_ + k < 8 * l.length
    · unfold turnK
      rw [if_pos hc, bit_turn _ _ _ (by rw [turnK_len]; omega), ih]
      by_cases e : at_ + k = j
      · subst e
        have h1 : decide (at_ ≤ at_ + k ∧ at_ + k < at_ + k) = false := by simp
        have h2 : decide (at_ ≤ at_ + k ∧ at_ + k < at_ + (k + 1)) = true := by simp
        rw [h1, h2]
        simp [hc.1]
      · have h1 : decide (at_ ≤ j ∧ j < at_ + (k + 1)) = decide (at_ ≤ j ∧ j < at_ + k) := decide_eq_decide.2 (by omega)
        rw [h1]
        simp [e]
    · unfold turnK
      rw [if_neg hc, ih]
      by_cases e : at_ + k = j
      · subst e
        have h1 : v.testBit k = false := by
          rcases Bool.eq_false_or_eq_true (v.testBit k) with q | q
          · exact absurd ⟨q, hj⟩ hc
          · exact q
        simp [h1]
      · have h1 : decide (at_ ≤ j ∧ j < at_ + (k + 1)) = decide (at_ ≤ j ∧ j < at_ + k) := decide_eq_decide.2 (by omega)
        rw [h1]
theorem tur_false (n at_ v k : Nat) : tur n at_ v k = false ↔ ∀ j, j < k → at_ + j < 8 * n → v.testBit j = false := by
  induction k with
  | zero => simp [tur]
  | succ k ih =>
    unfold tur
    by_cases hc : v.testBit k = true ∧ at_ + k < 8 * n
    · rw [if_pos hc]
      constructor
      · intro h; cases h
      · intro h
        have := h k (by omega) hc.2
        rw [hc.1] at this
        cases this
    · rw [if_neg hc, ih]
      constructor
      · intro h j hj hn
        by_cases e : j = k
        · subst e
          rcases Bool.eq_false_or_eq_true (v.testBit j) with q | q
          · exact absurd ⟨q, hn⟩ hc
          · exact q
        · exact h j (by omega) hn
      · intro h j hj hn
        exact h j (by omega) hn
theorem turn_end (l : List UInt8) (at_ v : Nat) (hat : at_ < 8 * l.length) : sum (turnK l at_ v 32) = sum l ↔ tur l.length at_ v 32 = false := by
  rw [tur_false]
  apply sum_differs l (turnK l at_ v 32) at_ v (turnK_len _ _ _ _) hat
  intro i hi
  have := bit_turnK l at_ v 32 i (by omega)
  unfold bitOf at this
  rw [List.getElem?_eq_getElem (by rw [turnK_len]; exact hi), List.getElem?_eq_getElem hi] at this
  exact this
theorem and_bit (v k : Nat) (hv : v < 4294967296) : bits .and .u32 ((v : Int) / 2 ^ k) 1 = (((v.testBit k).toNat : Nat) : Int) := by
  have e : ((v : Int) / 2 ^ k) = ((v / 2 ^ k : Nat) : Int) := by simp
  rw [e, and_one _ (Nat.lt_of_le_of_lt (Nat.div_le_self _ _) hv), Nat.testBit_eq_decide_div_mod_eq]
  have := Nat.mod_two_eq_zero_or_one (v / 2 ^ k)
  rcases this with h | h <;> simp [h]
theorem xor_pow (c : UInt8) (j : Nat) (hj : j < 8) : bits .xor .u8 (c.toNat : Int) (2 ^ j % 256) = ((c ^^^ UInt8.ofNat (2 ^ j)).toNat : Int) := by
  have h1 : 2 ^ j < 256 := Nat.pow_lt_pow_right (a := 2) (by omega) (n := 8) hj
  have e : ((2 : Int) ^ j % 256) = ((2 ^ j : Nat) : Int) := by
    rw [show ((2 : Int) ^ j) = ((2 ^ j : Nat) : Int) by simp]
    generalize 2 ^ j = m at h1 ⊢
    omega
  rw [e, u8_xor_nat _ _ (UInt8.toNat_lt c) h1, UInt8.toNat_xor, pow8 j hj]
structure DRel (W : World) (g x : Nat) (l : List UInt8) (wr : World) : Prop where
  r : Ready wr g 0
  b : Below W.heap.size W wr
  xg : x ≠ g
  xW : W.heap.size ≤ x
  bx : Blk8 wr x l

set_option maxRecDepth 100000 in
set_option maxHeartbeats 3200000 in
theorem SumDiffers_walk (a : ByteArray) (f v : Nat) (W : World) (ha : a.size ≤ maxLen) (hf : f < 65536) (hv : v < 4294967296) :
    Calls Try.prog 5 #[.string a, .int .u16 f, .int .u32 v] W (Law W) := by
  unfold maxLen at ha
  have hnot : ∀ (x : Bool) (w : World), (Op.unary .not (.bool x)).run Try.prog w = .ok (.bool (!x)) w := fun _ _ => rfl
  by_cases hl : a.size ≤ 500 ∧ a.size ≠ 0
  · obtain ⟨hl1, hl2⟩ := hl
    have hl2' : ((a.size : Int) == 0) = false := beq_eq_false_iff_ne.2 (by omega)
    have hl0 : 0 < a.size := by omega
    have hrem : ¬ (8 * (a.size : Int) = 0) := by omega
    have hm : (f : Int) % (8 * (a.size : Int)) = ((f % (8 * a.size) : Nat) : Int) := by simp
    have hml : f % (8 * a.size) < 8 * a.size := Nat.mod_lt _ (Nat.mul_pos (by decide) hl0)
    generalize f % (8 * a.size) = p at *
    go_enter Try.func5, Try.ntmps5
    go_wp2_with fail
    refine (new_g _).mono ?_
    rintro e w1 ⟨g, rfl, hg, hx1, s1, b1⟩
    go_wp2_with fail
    refine (awakeL b1).mono ?_
    rintro e w2 ⟨rfl, b2, b3⟩
    have s2 := s1.below b2
    have hx2 : g < w2.heap.size := Nat.lt_of_lt_of_le hx1 b2.size
    clear s1 b1 b2 hx1
    have hcv := cv_run w2 a
    have R0 : DRel W g w2.heap.size (turnK (bl a) p v 0) (cv w2 a) := ⟨s2.below (cv_below w2 a), Below.step b3 (cv_below w2 a), by omega, b3.size, cv_blk w2 a⟩
    have hW2 := b3.size
    clear s2 b3
    go_wp2_with fail
    simp only [hm]
    clear hcv hm hrem
    generalize w2.heap.size = x at *
    generalize cp w2 a = cx at *
    generalize cv w2 a = wc at *
    go_loopw [10, 11] (fun t i wr => ∃ k : Nat, k ≤ 32 ∧ i = .int .i64 k ∧ t = .bool (tur a.size p v k) ∧ DRel W g x (turnK (bl a) p v k) wr) (fun _ i _ => 32 - (intOf i).toNat)
    case atStart => exact ⟨0, by omega, rfl, rfl, R0⟩
    case round =>
      clear R0
      obtain ⟨k, hk, rfl, rfl, hrel⟩ := hrel
      by_cases hlt : k < 32
      · have hand := and_bit v k hv
        by_cases hbit : v.testBit k = true
        · have hb1 : (bits .and .u32 ((v : Int) / 2 ^ k) 1 == 1) = true := by rw [hand, hbit]; rfl
          by_cases hin : p + k < 8 * a.size
          · have HT := Lib.hid (show turnK (bl a) p v (k + 1) = turn (turnK (bl a) p v k) (p + k) by rw [turnK, if_pos ⟨hbit, hin⟩])
            have HU := Lib.hid (show tur a.size p v (k + 1) = true by rw [tur, if_pos ⟨hbit, hin⟩])
            have hq : (p + k) / 8 < (turnK (bl a) p v k).length := by rw [turnK_len, bl_len]; omega
            have hc := hrel.bx.cell ((p + k) / 8) hq
            have hfz := hrel.bx.frozen ((p + k) / 8) hq
            have HS := Lib.hid (hrel.bx.set ((p + k) / 8) hq ((turnK (bl a) p v k)[(p + k) / 8] ^^^ UInt8.ofNat (2 ^ ((p + k) % 8))))
            have HTU := Lib.hid (show turn (turnK (bl a) p v k) (p + k) = (turnK (bl a) p v k).set ((p + k) / 8) ((turnK (bl a) p v k)[(p + k) / 8] ^^^ UInt8.ofNat (2 ^ ((p + k) % 8))) by
              unfold turn; rw [List.getElem?_eq_getElem hq]; rfl)
            generalize (turnK (bl a) p v k)[(p + k) / 8] = c at *
            clear hq hand hbit
            have hi8 : (p + k) / 8 < a.size := by omega
            go_wp2_with fail
            go_roundw
            case rel =>
              refine ⟨k + 1, by omega, by go_num, by rw [HU.out], ?_⟩
              rw [HT.out, HTU.out, xor_pow c _ (by omega)]
              exact ⟨ready_set hrel.r (fun e => hrel.xg e.symm), hrel.b.setCell (by exact hrel.xW) _, hrel.xg, hrel.xW, HS.out⟩
            case measure => simp [intOf]; omega
          · have hin' : ¬ ((p : Int) + k < 8 * a.size) := by omega
            have HT := Lib.hid (show turnK (bl a) p v (k + 1) = turnK (bl a) p v k by rw [turnK, if_neg (fun q => hin q.2)])
            have HU := Lib.hid (show tur a.size p v (k + 1) = tur a.size p v k by rw [tur, if_neg (fun q => hin q.2)])
            clear hand hbit
            go_wp2_with fail
            go_roundw
            case rel => exact ⟨k + 1, by omega, by go_num, by rw [HU.out], by rw [HT.out]; exact hrel⟩
            case measure => simp [intOf]; omega
        · have hb1 : (bits .and .u32 ((v : Int) / 2 ^ k) 1 == 1) = false := by rw [hand, Bool.eq_false_iff.2 hbit]; rfl
          have HT := Lib.hid (show turnK (bl a) p v (k + 1) = turnK (bl a) p v k by rw [turnK, if_neg (fun q => hbit q.1)])
          have HU := Lib.hid (show tur a.size p v (k + 1) = tur a.size p v k by rw [tur, if_neg (fun q => hbit q.1)])
          clear hand hbit
          go_wp2_with fail
          go_roundw
          case rel => exact ⟨k + 1, by omega, by go_num, by rw [HU.out], by rw [HT.out]; exact hrel⟩
          case measure => simp [intOf]; omega
      · obtain rfl : k = 32 := by omega
        have HE := Lib.hid (turn_end (bl a) p v hml)
        have hlen : (turnK (bl a) p v 32).length = a.size := by rw [turnK_len, bl_len]
        have HL := Lib.hid hlen
        clear hlen
        generalize turnK (bl a) p v 32 = l at *
        generalize ht : tur a.size p v 32 = t at *
        have HE2 := Lib.hid (show sum l = sum (bl a) ↔ t = false by rw [← ht]; exact HE.out)
        clear HE ht
        go_wp2_with fail
        refine (of_any g 0 _ _ a.size cx l hrel.r (by omega) (by omega) (by rw [HL.out]; omega) HL.out.symm (hrel.bx.rowX hrel.xg) (Ready.lt hrel.r)).mono ?_
        rintro e w3 ⟨rfl, d3, o3⟩
        rw [HL.out] at d3
        have hb3 : Below W.heap.size W w3 := hrel.b.trans (o3.below hg (Ready.lt hrel.r))
        clear hrel o3
        have hcv := cv_run w3 a
        go_wp2_with fail
        refine (of_str g (0 + a.size) _ _ a (cp w3 a) (ready_of (d3.below (cv_below w3 a))) (by omega) (by omega) (by omega) ((cv_blk w3 a).rowX (by have := d3.lt; omega))).mono ?_
        rintro e w4 ⟨rfl, d4, o4⟩
        have hb4 : Below W.heap.size W w4 := (Below.step hb3 (cv_below w3 a)).trans (o4.below hg (Nat.lt_of_lt_of_le d3.lt (cv_below w3 a).size))
        clear hcv d3 hb3 o4 d4
        go_wp2_with fail
        go_ret
        refine ⟨ret_bool ?_, hb4⟩
        have h := HE2.out
        cases t
        · have := h.2 rfl
          rw [this]
          simp
        · have : ¬ sum l = sum (bl a) := fun q => by have := h.1 q; cases this
          simp
          omega
  · have hcase : ¬ a.size ≤ 500 ∨ (a.size ≤ 500 ∧ a.size = 0) := by omega
    clear hl
    rcases hcase with hl | ⟨hl1, hl⟩
    · have hl' : (500 : Int) < (a.size : Int) := by omega
      go_enter Try.func5, Try.ntmps5
      go_wp2_with fail
      refine (new_g _).mono ?_
      rintro e w1 ⟨g1, rfl, hg1, hx1, s1, b1⟩
      go_wp2_with fail
      refine (awakeL b1).mono ?_
      rintro e w3 ⟨rfl, b3, b4⟩
      go_wp2_with fail
      refine (awakeL b4).mono ?_
      rintro e w4 ⟨rfl, b5, b6⟩
      go_wp2_with fail
      go_ret
      exact ⟨rfl, b6⟩
    · have hl' : ((a.size : Int) == 0) = true := by simp [hl]
      go_enter Try.func5, Try.ntmps5
      go_wp2_with fail
      refine (new_g _).mono ?_
      rintro e w1 ⟨g1, rfl, hg1, hx1, s1, b1⟩
      go_wp2_with fail
      refine (awakeL b1).mono ?_
      rintro e w3 ⟨rfl, b3, b4⟩
      go_wp2_with fail
      refine (awakeL b4).mono ?_
      rintro e w4 ⟨rfl, b5, b6⟩
      go_wp2_with fail
      go_ret
      exact ⟨rfl, b6⟩
end Go.Proofs.Ytefnabceaaghaaa.SumDiffers
