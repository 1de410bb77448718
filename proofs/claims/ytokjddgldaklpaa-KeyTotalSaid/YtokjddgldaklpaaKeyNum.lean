/- Contracts of key.Num, key.Of and of the answer's Num. -/
import Derived.Test.YtokjddgldaklpaaKeyRead
namespace Go.Proofs.Ytokjddgldaklpaa.KeyNum
open Go.RowKit KeyPlain Base

/-- the array's cells behind k rounds -/
def arr (n k : Nat) : Array Value := (bv (List.replicate (8 - k) 0 ++ be k n)).toArray
theorem arr_size (n k : Nat) (hk : k ≤ 8) : (arr n k).size = 8 := by simp [arr, bv, be_len]; omega
theorem arr_eight (n : Nat) : arr n 8 = (bv (be 8 n)).toArray := by simp [arr]
theorem byte_of (m : Nat) : Value.int .u8 ((m % 256 : Nat) : Int) = Value.int .u8 (((UInt8.ofNat (m % 256)).toNat : Nat) : Int) := by simp
theorem arr_set (n k : Nat) (hk : k < 8) : (arr n k).setIfInBounds (7 - k) (.int .u8 ((n / 256 ^ k % 256 : Nat) : Int)) = arr n (k + 1) := by
  have h8 : 8 - k = (7 - k) + 1 := by omega
  have h7 : 8 - (k + 1) = 7 - k := by omega
  have hl : (List.replicate (7 - k) (0 : UInt8)).length = 7 - k := by simp
  rw [byte_of]
  simp only [arr, h8, h7, be_cons, List.replicate_succ', bv, List.map_append, List.map_cons, List.map_nil]
  simp
theorem arr_zero (n : Nat) : arr n 0 = #[.int .u8 0, .int .u8 0, .int .u8 0, .int .u8 0, .int .u8 0, .int .u8 0, .int .u8 0, .int .u8 0] := by
  simp [arr, be, bv, List.replicate]

/-- the loop's relation: the array holds what was told -/
def Rel (w : World) (n k : Nat) (wr : World) : Prop := wr = w.alloc (.cells (arr n k) 49)

set_option maxHeartbeats 400000 in
theorem Num_any (n : Nat) (w : World) (hn : n < 18446744073709551616) :
    Calls Try.prog 25 #[.int .u64 n] w fun e w' => e = .returned (.string ⟨(be 8 n).toArray⟩) ∧ Below w.heap.size w w' := by
  go_enter Try.func25, Try.ntmps25
  go_wp2_with fail
  go_loopw [0, 5] (fun v i wr => ∃ k : Nat, k ≤ 8 ∧ i = .int .i64 k ∧ v = .int .u64 (n / 256 ^ k : Nat) ∧ Rel w n k wr) (fun _ i _ => 8 - (intOf i).toNat)
  case atStart => exact ⟨0, by omega, rfl, by simp, by unfold Rel; rw [arr_zero]⟩
  case round =>
    obtain ⟨k, hk, rfl, rfl, rfl⟩ := hrel
    by_cases hlt : k < 8
    · have hsz := arr_size n k hk
      have hc : ∃ u, (w.alloc (.cells (arr n k) 49)).cell? ⟨w.heap.size, 7 - k, none⟩ = some u := ⟨(arr n k)[7 - k]'(by omega), by rw [cell_new]; exact Array.getElem?_eq_getElem _⟩
      obtain ⟨u, hc⟩ := hc
      have hx : n / 256 ^ k < 18446744073709551616 := Nat.lt_of_le_of_lt (Nat.div_le_self _ _) hn
      have HA := Lib.hid (arr_set n k hlt)
      have HD := Lib.hid (show n / 256 ^ (k + 1) = n / 256 ^ k / 256 by rw [Nat.pow_succ, Nat.div_div_eq_div_mul])
      have HZ := Lib.hid hsz
      clear hsz
      generalize hm : n / 256 ^ k = m at hx HA HD
      clear hm
      go_wp2_with fail
      go_roundw
      case rel =>
        refine ⟨k + 1, by omega, by go_num, by rw [HD.out]; rfl, ?_⟩
        unfold Rel; rw [← HA.out]; rfl
      case measure => simp [intOf]; omega
    · obtain rfl : k = 8 := by omega
      have hrow : Row (w.alloc (.cells (arr n 8) 49)) (w.heap.size + 1) (some ⟨w.heap.size, 0, none⟩) (bv (be 8 n)) := by
        have := row_of_block (w := w.alloc (.cells (arr n 8) 49)) (g := w.heap.size) (heap_alloc_new w _)
        simpa [arr_eight] using this
      have hconv := conv_bytes (P := Try.prog) Try.underlying43 Try.underlying5 Try.underlying9 8 hrow
      rw [be_len] at hconv
      clear hrow
      generalize arr n 8 = cs at *
      go_wp2_with fail
      go_ret
      exact ⟨rfl, (Below.refl _ _).alloc (Nat.le_refl _) _⟩

theorem take_val (s : ByteArray) (k : Nat) (h : k < s.size) : val (s.data.toList.take (k + 1)) = val (s.data.toList.take k) * 256 + s[k].toNat := by
  rw [ba_take_snoc s k h, val_snoc]
theorem take_lt (s : ByteArray) (k : Nat) (hk : k < 8) : val (s.data.toList.take k) < 72057594037927936 := by
  have h := val_lt (s.data.toList.take k)
  have h2 : 256 ^ (s.data.toList.take k).length ≤ 256 ^ 7 := Nat.pow_le_pow_right (by omega) (by have := List.length_take_le k s.data.toList; omega)
  omega
theorem or_step (m : Nat) (c : UInt8) (hm : m < 72057594037927936) :
    Value.int IntKind.u64 (bits BinOp.or IntKind.u64 (↑m * 256) (IntKind.u64.wrap ↑c.toNat)) = .int .u64 ((m * 256 + c.toNat : Nat) : Int) := by
  have hc : c.toNat < 256 := UInt8.toNat_lt c
  have e1 : ((m : Int) * 256) = ((m * 256 : Nat) : Int) := by omega
  have e2 : IntKind.u64.wrap (c.toNat : Int) = (c.toNat : Int) := by simp [IntKind.wrap, IntKind.signed, IntKind.bits]; omega
  rw [e1, e2, u64_or_nat _ _ (by omega) (by omega), or_byte]

set_option maxHeartbeats 400000 in
theorem Of_no (s : ByteArray) (w : World) (hs : s.size ≠ 8) :
    Calls Try.prog 26 #[.string s] w fun e w' => e = .returned (.tuple #[.int .u64 0, .int .i64 10]) ∧ w = w' := by
  have h8 : ((s.size : Int) != 8) = true := by simp; omega
  clear hs
  go_enter Try.func26, Try.ntmps26
  go_wp2_with fail
  go_ret2
  exact ⟨rfl, rfl⟩
set_option maxHeartbeats 400000 in
theorem Of_yes (s : ByteArray) (w : World) (hs : s.size = 8) :
    Calls Try.prog 26 #[.string s] w fun e w' => e = .returned (.tuple #[.int .u64 (val s.data.toList), .int .i64 0]) ∧ w = w' := by
  have h8 : ((s.size : Int) != 8) = false := by simp [hs]
  have HS := Lib.hid hs
  clear hs
  go_enter Try.func26, Try.ntmps26
  go_wp2_with fail
  go_loop [4, 9] (fun v i => ∃ k : Nat, k ≤ 8 ∧ i = .int .i64 k ∧ v = .int .u64 (val (s.data.toList.take k))) (fun _ i => 8 - (intOf i).toNat)
  case atStart => exact ⟨0, by omega, rfl, rfl⟩
  case round =>
    obtain ⟨k, hk, rfl, rfl⟩ := hrel
    by_cases hlt : k < 8
    · have hk2 : k < s.size := by have := HS.out; omega
      have HV := Lib.hid (take_val s k hk2)
      have hm := take_lt s k hlt
      generalize val (s.data.toList.take k) = m at *
      go_wp2_with fail
      go_round
      case rel => exact ⟨k + 1, by omega, by go_num, by rw [HV.out]; exact or_step m _ hm⟩
      case measure => simp [intOf]; omega
    · have HV := Lib.hid (show s.data.toList.take k = s.data.toList from List.take_of_length_le (by rw [ba_len]; have := HS.out; omega))
      go_wp2_with fail
      go_ret2
      exact ⟨by rw [HV.out]; rfl, rfl⟩

set_option maxHeartbeats 400000 in
theorem refNum_any (n : Nat) (w : World) (hn : n < 18446744073709551616) :
    Calls Try.prog 27 #[.int .u64 n] w fun e w' => e = .returned (.string ⟨(be 8 n).toArray⟩) ∧ Below w.heap.size w w' := by
  have hconv : ∀ (W : World) (m : Nat), (convert 43 9 (.slice (some ⟨W.heap.size, 0, none⟩) 1 1)).run Try.prog (W.alloc (.cells #[.int .u8 ((m : Int) % 256)] 5)) = .ok (.string ⟨#[UInt8.ofNat (m % 256)]⟩) (W.alloc (.cells #[.int .u8 ((m : Int) % 256)] 5)) := fun W m => by
    have hr := row_of_block (heap_alloc_new W (.cells #[.int .u8 ((m : Int) % 256)] 5))
    exact conv_bytes (P := Try.prog) Try.underlying43 Try.underlying5 Try.underlying9 (l := [UInt8.ofNat (m % 256)]) 1 (by simpa [bv] using hr)
  go_enter Try.func27, Try.ntmps27
  go_wp2_with fail
  go_loopw [0, 3, 4] (fun v s i wr => ∃ (k : Nat) (x : ByteArray), k ≤ 8 ∧ i = .int .i64 k ∧ v = .int .u64 (n / 256 ^ k : Nat) ∧ s = .string x ∧ x = ⟨(be k n).toArray⟩ ∧ Below w.heap.size w wr) (fun _ _ i _ => 8 - (intOf i).toNat)
  case atStart => exact ⟨0, _, by omega, rfl, by simp, rfl, rfl, Below.refl _ _⟩
  case round =>
    obtain ⟨k, x, hk, rfl, rfl, rfl, hx, hb⟩ := hrel
    by_cases hlt : k < 8
    · have hxs : x.size ≤ 8 := by rw [hx]; simp [ByteArray.size, be_len]; omega
      have hlt2 : n / 256 ^ k < 18446744073709551616 := Nat.lt_of_le_of_lt (Nat.div_le_self _ _) hn
      have HX := Lib.hid hx
      have HC := Lib.hid (be_cons k n)
      have HD := Lib.hid (show n / 256 ^ (k + 1) = n / 256 ^ k / 256 by rw [Nat.pow_succ, Nat.div_div_eq_div_mul])
      clear hx
      generalize hm : n / 256 ^ k = m at hlt2 HC HD
      clear hm
      go_wp2_with fail
      go_roundw
      case rel => exact ⟨k + 1, _, by omega, by go_num, by rw [HD.out]; rfl, rfl, by apply ba_ext; rw [HC.out, HX.out]; simp, hb.alloc hb.size _⟩
      case measure => simp [intOf]; omega
    · obtain rfl : k = 8 := by omega
      have HX := Lib.hid hx
      clear hx
      go_wp2_with fail
      go_ret
      exact ⟨ret_str HX.out, hb⟩
end Go.Proofs.Ytokjddgldaklpaa.KeyNum
