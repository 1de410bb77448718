/- Contracts of key.Num, key.Of and of the answer's Num. -/
import Derived.Test.YtpiojnphbanggaaKeyRead
namespace Go.Proofs.Ytpiojnphbanggaa.KeyNum
open Go.RowKit KeyPlain Base

/-- the array's cells behind k rounds -/
def arr (n k : Nat) : Array Value := (bv (List.replicate (8 - k) 0 ++ be k n)).toArray
theorem arr_size (n k : Nat) (hk : k ≤ 8) : (arr n k).size = 8 := by simp [arr, bv, be_len]; omega
theorem arr_eight (n : Nat) : arr n 8 = (bv (be 8 n)).toArray := by simp [arr]
theorem byte_of (m : Nat) : Value.int .u8 ((m % 256 : Nat) : Int) = Value.int .u8 (((UInt8.ofNat (m % 256)).toNat : Nat) : Int) := by simp
theorem arr_set (n k : Nat) (hk : k < 8) : (arr n k).setIfInBounds (7 - k) (.int .u8 ((n / 256 ^ k % 256 : Nat) : Int)) = arr n (k + 1) := by
  have h8 : 8 - k = (7 - k) + 1 := by omega
  have h7 : 8 - (k + 1) = 7 - k := by omega
  have hl : (List.replicate (7 - k) (0 : UInt8)).length = 7 - k := by simp
  rw [byte_of]
  simp only [arr, h8, h7, be_cons, List.replicate_succ', bv, List.map_append, List.map_cons, List.map_nil]
  simp
theorem arr_zero (n : Nat) : arr n 0 = #[.int .u8 0, .int .u8 0, .int .u8 0, .int .u8 0, .int .u8 0, .int .u8 0, .int .u8 0, .int .u8 0] := by
  simp [arr, be, bv, List.replicate]

/-- the loop's relation: the array holds what was told -/
theorem take_val (s : ByteArray) (k : Nat) (h : k < s.size) : val (s.data.toList.take (k + 1)) = val (s.data.toList.take k) * 256 + s[k].toNat := by
  rw [ba_take_snoc s k h, val_snoc]
theorem take_lt (s : ByteArray) (k : Nat) (hk : k < 8) : val (s.data.toList.take k) < 72057594037927936 := by
  have h := val_lt (s.data.toList.take k)
  have h2 : 256 ^ (s.data.toList.take k).length ≤ 256 ^ 7 := Nat.pow_le_pow_right (by omega) (by have := List.length_take_le k s.data.toList; omega)
  omega
theorem or_step (m : Nat) (c : UInt8) (hm : m < 72057594037927936) :
    Value.int IntKind.u64 (bits BinOp.or IntKind.u64 (↑m * 256) (IntKind.u64.wrap ↑c.toNat)) = .int .u64 ((m * 256 + c.toNat : Nat) : Int) := by
  have hc : c.toNat < 256 := UInt8.toNat_lt c
  have e1 : ((m : Int) * 256) = ((m * 256 : Nat) : Int) := by omega
  have e2 : IntKind.u64.wrap (c.toNat : Int) = (c.toNat : Int) := by simp [IntKind.wrap, IntKind.signed, IntKind.bits]; omega
  rw [e1, e2, u64_or_nat _ _ (by omega) (by omega), or_byte]

end Go.Proofs.Ytpiojnphbanggaa.KeyNum
