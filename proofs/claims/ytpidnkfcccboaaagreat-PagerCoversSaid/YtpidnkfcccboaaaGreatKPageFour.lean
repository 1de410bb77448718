/- The contract of the document's four. -/
import Derived.Test.YtpidnkfcccboaaaGreatKPageRef
import Derived.Test.YtpidnkfcccboaaaGreatKSumRef
namespace Go.Proofs.YtpidnkfcccboaaaGreat.PageFour
open Go.RowKit Base PagePlain PageSmall Str

def tx (l : List UInt8) : ByteArray := ⟨l.toArray⟩
theorem tx_size (l : List UInt8) : (tx l).size = l.length := by show l.toArray.size = _; simp
theorem tx_append (l m : List UInt8) : tx l ++ tx m = tx (l ++ m) := append_mk l m
theorem tx_bl (s : ByteArray) : tx (bl s) = s := mk_bl s
theorem str_tx (s : ByteArray) (m : List UInt8) : s ++ tx m = tx (bl s ++ m) := by
 have := tx_append (bl s) m
 rwa [tx_bl] at this
/-- string([]byte{..}) of a block made just now -/
theorem conv_new (w : World) (l : List UInt8) (vs : Array Value) (n c : Nat) (hv : vs = (bv l).toArray) (hn : n = l.length) : (convert 96 9 (.slice (some ⟨w.heap.size, 0, none⟩) n c)).run Tryz.prog (w.alloc (.cells vs 5)) = .ok (.string (tx l)) (w.alloc (.cells vs 5)) := by
 subst hv hn
 have h : Row (w.alloc (.cells (bv l).toArray 5)) (w.heap.size + 1) (some ⟨w.heap.size, 0, none⟩) (bv l) := by
  have := row_of_block (heap_alloc_new w (.cells (bv l).toArray 5))
  simpa using this
 exact conv_bytes (P := Tryz.prog) Tryz.underlying96 Tryz.underlying5 Tryz.underlying9 c h
theorem four_any (w : World) (n : Nat) (hn : n < 4294967296) : Calls Tryz.prog 61 #[.int .i64 (n : Int)] w fun e w' => e = .returned (.string (tx (be4 n))) ∧ Below w.heap.size w w' := by
 have e0 : ((b8 (n / 16777216)).toNat : Int) = (n : Int) / 16777216 % 256 := by rw [b8_nat]; omega
 have e1 : ((b8 (n / 65536)).toNat : Int) = (n : Int) / 65536 % 256 := by rw [b8_nat]; omega
 have e2 : ((b8 (n / 256)).toNat : Int) = (n : Int) / 256 % 256 := by rw [b8_nat]; omega
 have e3 : ((b8 n).toNat : Int) = (n : Int) % 256 := by rw [b8_nat]; omega
 have hcv := conv_new w (be4 n) #[.int .u8 ((n : Int) / 16777216 % 256), .int .u8 ((n : Int) / 65536 % 256), .int .u8 ((n : Int) / 256 % 256), .int .u8 ((n : Int) % 256)] 4 4 (by simp [be4, bv, e0, e1, e2, e3]) rfl
 have q0 : 0 ≤ (n : Int) / 16777216 := by omega
 have q1 : 0 ≤ (n : Int) / 65536 := by omega
 have q2 : 0 ≤ (n : Int) / 256 := by omega
 clear e0 e1 e2 e3
 generalize tx (be4 n) = s at *
 go_enter Tryz.func61, Tryz.ntmps61
 go_wp2_with fail
 go_ret
 exact ⟨rfl, (Below.refl _ _).alloc (Nat.le_refl _) _⟩
end Go.Proofs.YtpidnkfcccboaaaGreat.PageFour
