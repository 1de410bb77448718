/- Numbers as four bytes: the contracts of numberText, number, and the document's four. -/
import Derived.Test.YtffbmabhlgfjkaaFreeMem
import Derived.Test.YtffbmabhlgfjkaaStr
namespace Go.Proofs.Ytffbmabhlgfjkaa.FreeText
open Go.RowKit Base FreePlain FreeMem

theorem conv_row {w : World} {B : Nat} {A : Option Addr} {l : List UInt8} (hr : Row w B A (bv l)) (n c : Nat) (hn : n = l.length) : (convert 70 9 (.slice A n c)).run Try.prog w = .ok (.string ⟨l.toArray⟩) w := by
  subst hn
  exact conv_bytes (P := Try.prog) Try.underlying70 Try.underlying5 Try.underlying9 c hr
/-- a number as four bytes -/
def four (n : Nat) : ByteArray := ⟨[UInt8.ofNat (n / 16777216), UInt8.ofNat (n / 65536), UInt8.ofNat (n / 256), UInt8.ofNat n].toArray⟩
theorem four_conv (w : World) (n : Nat) (h : n ≤ 4294967295) : (convert 70 9 (.slice (some ⟨w.heap.size, 0, none⟩) 4 4)).run Try.prog (w.alloc (.cells #[.int .u8 ((n : Int) / 16777216), .int .u8 ((n : Int) / 65536 % 256), .int .u8 ((n : Int) / 256 % 256), .int .u8 ((n : Int) % 256)] 5)) = .ok (.string (four n)) (w.alloc (.cells #[.int .u8 ((n : Int) / 16777216), .int .u8 ((n : Int) / 65536 % 256), .int .u8 ((n : Int) / 256 % 256), .int .u8 ((n : Int) % 256)] 5)) := by
  have e0 : (n : Int) / 16777216 = ((UInt8.ofNat (n / 16777216)).toNat : Int) := by rw [UInt8.toNat_ofNat']; omega
  have e1 : (n : Int) / 65536 % 256 = ((UInt8.ofNat (n / 65536)).toNat : Int) := by rw [UInt8.toNat_ofNat']; omega
  have e2 : (n : Int) / 256 % 256 = ((UInt8.ofNat (n / 256)).toNat : Int) := by rw [UInt8.toNat_ofNat']; omega
  have e3 : (n : Int) % 256 = ((UInt8.ofNat n).toNat : Int) := by rw [UInt8.toNat_ofNat']; omega
  rw [e0, e1, e2, e3]
  exact conv_row (l := [UInt8.ofNat (n / 16777216), UInt8.ofNat (n / 65536), UInt8.ofNat (n / 256), UInt8.ofNat n]) (row_of_block (heap_alloc_new w _)) 4 4 rfl
set_option maxRecDepth 100000 in
set_option maxHeartbeats 3200000 in
theorem rfour_any (w : World) (n : Nat) (h : n ≤ 4294967295) :
    Calls Try.prog 34 #[.int .i64 (n : Int)] w fun e w' => e = .returned (.string (four n)) ∧ Below w.heap.size w w' := by
  have hcv := four_conv w n h
  have HB := Lib.hid (al w (.cells #[.int .u8 ((n : Int) / 16777216), .int .u8 ((n : Int) / 65536 % 256), .int .u8 ((n : Int) / 256 % 256), .int .u8 ((n : Int) % 256)] 5))
  go_enter Try.func34, Try.ntmps34
  go_wp2_with fail
  go_ret
  exact ⟨rfl, HB.out⟩
set_option maxRecDepth 100000 in
set_option maxHeartbeats 3200000 in
theorem text_any (w : World) (n : Nat) (h : n ≤ 4294967295) :
    Calls Try.prog 42 #[.int .i64 (n : Int)] w fun e w' => e = .returned (.string (four n)) ∧ Below w.heap.size w w' := by
  have hcv := four_conv w n h
  have HB := Lib.hid (al w (.cells #[.int .u8 ((n : Int) / 16777216), .int .u8 ((n : Int) / 65536 % 256), .int .u8 ((n : Int) / 256 % 256), .int .u8 ((n : Int) % 256)] 5))
  go_enter Try.func42, Try.ntmps42
  go_wp2_with fail
  go_ret
  exact ⟨rfl, HB.out⟩
/-- the number of bytes -/
def nb (l : List UInt8) : Nat := l.foldl (fun n b => n * 256 + b.toNat) 0
theorem nb_snoc (l : List UInt8) (b : UInt8) : nb (l ++ [b]) = nb l * 256 + b.toNat := by simp [nb]
theorem or_nat (a b : Nat) (h1 : b < 256) (h3 : a * 256 < 4294967296) : bits .or .i64 ((a : Int) * 256) (b : Int) = ((a * 256 + b : Nat) : Int) := by
  have hx : (a * 256) ||| b < 2 ^ 32 := Nat.or_lt_two_pow (by omega) (by omega)
  have e : (a * 256) ||| b = a * 256 + b := by
    have := Nat.shiftLeft_add_eq_or_of_lt (show b < 2 ^ 8 by omega) a
    rw [Nat.shiftLeft_eq] at this
    exact this.symm
  have o : ∀ n : Nat, n < 4294967296 → (BitVec.ofInt 64 (n : Int)).toNat = n := fun n hn => by simp; omega
  show IntKind.i64.wrap ((BitVec.ofInt 64 ((a : Int) * 256) ||| BitVec.ofInt 64 (b : Int)).toNat : Int) = _
  rw [show (a : Int) * 256 = ((a * 256 : Nat) : Int) by omega, BitVec.toNat_or, o (a * 256) h3, o b (by omega), ← e]
  exact IntWalk.i64_in _ (by omega)
theorem nb_lt : ∀ (k : Nat) (l : List UInt8), l.length = k → nb l < 256 ^ k
  | 0, l, h => by rw [List.length_eq_zero_iff.1 h]; simp [nb]
  | k + 1, l, h => by
    have hne : l ≠ [] := by intro e; subst e; cases h
    rw [← List.dropLast_concat_getLast hne, nb_snoc]
    have h1 := nb_lt k l.dropLast (by simp [h])
    have h2 := UInt8.toNat_lt (l.getLast hne)
    rw [Nat.pow_succ]
    omega
theorem nb_four (n : Nat) (h : n ≤ 4294967295) : nb (four n).data.toList = n := by
  show (((0 * 256 + (UInt8.ofNat (n / 16777216)).toNat) * 256 + (UInt8.ofNat (n / 65536)).toNat) * 256 + (UInt8.ofNat (n / 256)).toNat) * 256 + (UInt8.ofNat n).toNat = n
  simp only [UInt8.toNat_ofNat']
  omega
theorem four_nb : ∀ (l : List UInt8), l.length = 4 → (four (nb l)).data.toList = l
  | [a, b, c, d], _ => by
    have ha := UInt8.toNat_lt a
    have hb := UInt8.toNat_lt b
    have hc := UInt8.toNat_lt c
    have hd := UInt8.toNat_lt d
    have f : ∀ (m : Nat) (x : UInt8), m % 256 = x.toNat → UInt8.ofNat m = x := fun m x hm => by
      apply UInt8.toNat_inj.1
      rw [UInt8.toNat_ofNat']
      exact hm
    show [UInt8.ofNat (((((0 * 256 + a.toNat) * 256 + b.toNat) * 256 + c.toNat) * 256 + d.toNat) / 16777216), UInt8.ofNat (((((0 * 256 + a.toNat) * 256 + b.toNat) * 256 + c.toNat) * 256 + d.toNat) / 65536), UInt8.ofNat (((((0 * 256 + a.toNat) * 256 + b.toNat) * 256 + c.toNat) * 256 + d.toNat) / 256), UInt8.ofNat ((((0 * 256 + a.toNat) * 256 + b.toNat) * 256 + c.toNat) * 256 + d.toNat)] = [a, b, c, d]
    simp only [List.cons.injEq, and_true]
    exact ⟨f _ _ (by omega), f _ _ (by omega), f _ _ (by omega), f _ _ (by omega)⟩
set_option maxRecDepth 100000 in
set_option maxHeartbeats 3200000 in
theorem number_any (w : World) (q : ByteArray) (h : q.size = 4) :
    Calls Try.prog 38 #[.string q] w fun e w' => e = .returned (.int .i64 (nb q.data.toList)) ∧ w' = w := by
  have h4 : (q.size : Int) = 4 := by omega
  go_enter Try.func38, Try.ntmps38
  go_wp2_with fail
  go_loopw [3, 4, 7] (fun n _ i wr => ∃ k : Nat, k ≤ 4 ∧ i = .int .i64 k ∧ n = .int .i64 (nb (q.data.toList.take k)) ∧ wr = w) (fun _ _ i _ => 4 - (intOf i).toNat)
  case atStart => exact ⟨0, by omega, rfl, rfl, rfl⟩
  case round =>
    obtain ⟨k, hk, rfl, rfl, hw⟩ := hrel
    have hw := hw.symm
    subst hw
    by_cases hlt : k < 4
    · have hkq : k < q.size := by omega
      have hkl : k < q.data.toList.length := hkq
      have hlt' := nb_lt k (q.data.toList.take k) (by rw [List.length_take]; omega)
      have hb : nb (q.data.toList.take k) < 16777216 := by
        have : k = 0 ∨ k = 1 ∨ k = 2 ∨ k = 3 := by omega
        rcases this with rfl | rfl | rfl | rfl <;> simp at hlt' ⊢ <;> omega
      have HT := Lib.hid (show nb (q.data.toList.take (k + 1)) = nb (q.data.toList.take k) * 256 + (q[k]).toNat by
        rw [List.take_succ_eq_append_getElem hkl, nb_snoc]
        rfl)
      have hq2 := UInt8.toNat_lt q[k]
      have ho := or_nat (nb (q.data.toList.take k)) (q[k]).toNat (by omega) (by omega)
      clear hlt'
      generalize nb (q.data.toList.take k) = m at *
      go_wp2_with fail
      go_roundw
      case rel => exact ⟨k + 1, by omega, by go_num, by rw [HT.out]; simp, trivial⟩
      case measure => simp [intOf]; omega
    · obtain rfl : k = 4 := by omega
      have HT := Lib.hid (show nb (q.data.toList.take 4) = nb q.data.toList by rw [List.take_of_length_le (by show q.size ≤ 4; omega)])
      rw [HT.out]
      go_wp2_with fail
      go_ret
      exact ⟨rfl, rfl⟩
end Go.Proofs.Ytffbmabhlgfjkaa.FreeText
