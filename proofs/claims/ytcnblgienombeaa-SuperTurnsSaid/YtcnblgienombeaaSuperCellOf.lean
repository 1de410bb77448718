/- The contract of cellOf: a super's three numbers as twelve bytes. -/
import Derived.Test.YtcnblgienombeaaSuperCode
import Derived.Test.YtcnblgienombeaaPageFour
import Derived.Laws.BitsAllLaws
namespace Go.Proofs.Ytcnblgienombeaa.SuperCellOf
open Go.RowKit Base SumPlain SumMem SumFill SumOf PagePlain PageSmall PageBytes PageLay SuperPlain SuperRefCheck SuperSpec SuperCode

/-- the twelve bytes -/
def B12 (x : Sp) : List UInt8 := be4 x.root.toNat ++ be4 x.free.toNat ++ be4 x.pages.toNat
theorem b12_len (x : Sp) : (B12 x).length = 12 := rfl
/-- so many of them written -/
def wr (x : Sp) (k : Nat) : List UInt8 := (B12 x).take k ++ zs (12 - k)
theorem wr_set {x : Sp} {k : Nat} {v : UInt8} (hv : (B12 x)[k]? = some v) : (wr x k).set k v = wr x (k + 1) := by
  have h : (B12 x).length = 12 := b12_len x
  have hk : k < 12 := by
    rcases Nat.lt_or_ge k 12 with q | q
    · exact q
    · rw [List.getElem?_eq_none (by omega)] at hv; cases hv
  unfold wr zs
  rw [List.set_append_right _ _ (by rw [List.length_take]; omega), List.length_take, h, Nat.min_eq_left (by omega), Nat.sub_self,
    show 12 - k = (12 - (k + 1)) + 1 from by omega, List.replicate_succ, List.set_cons_zero, List.take_add_one, hv]
  simp
theorem wr_len (x : Sp) (k : Nat) (hk : k ≤ 12) : (wr x k).length = 12 := by
  unfold wr zs
  rw [List.length_append, List.length_take, b12_len, List.length_replicate]
  omega
structure CL (W : World) (x : Sp) (k : Nat) (w : World) : Prop where
  nums : At w (W.heap.size + 1) 93 #[.int .i64 x.root, .int .i64 x.free, .int .i64 x.pages]
  arr : Arr w (W.heap.size + 1 + 1) 99 (wr x k)
  base : Below W.heap.size W w
theorem CL.set {W w : World} {x : Sp} {k : Nat} (h : CL W x k w) {v : UInt8} (hv : (B12 x)[k]? = some v) : CL W x (k + 1) (w.setCell ⟨W.heap.size + 1 + 1, k, none⟩ (.int .u8 (v.toNat : Int))) := by
  have ha := Arr.set h.arr k v
  rw [wr_set hv] at ha
  exact ⟨(Below.heap_setCell w ⟨W.heap.size + 1 + 1, k, none⟩ _ _ (by simp)).trans h.nums, ha, h.base.setCell (p := ⟨W.heap.size + 1 + 1, k, none⟩) (by simp only []; omega) _⟩
theorem CL.put {W w : World} {x : Sp} {k : Nat} {z : Int} (h : CL W x k w) {v : UInt8} (hv : (B12 x)[k]? = some v) (hz : z = (v.toNat : Int)) : CL W x (k + 1) (w.setCell ⟨W.heap.size + 1 + 1, k, none⟩ (.int .u8 z)) := by
  subst hz
  exact h.set hv
theorem cl_new (W : World) (x : Sp) : CL W x 0 (((W.alloc (.cells #[.int .i64 x.ep, .int .i64 x.root, .int .i64 x.free, .int .i64 x.pages] 23)).alloc (.cells #[.int .i64 x.root, .int .i64 x.free, .int .i64 x.pages] 93)).alloc
    (.cells #[.int .u8 0, .int .u8 0, .int .u8 0, .int .u8 0, .int .u8 0, .int .u8 0, .int .u8 0, .int .u8 0, .int .u8 0, .int .u8 0, .int .u8 0, .int .u8 0] 99)) := by
  refine ⟨?_, ?_, Below.step (Below.step (al _ _) (al _ _)) (al _ _)⟩
  · have h := heap_alloc_new (W.alloc (.cells #[.int .i64 x.ep, .int .i64 x.root, .int .i64 x.free, .int .i64 x.pages] 23)) (.cells #[.int .i64 x.root, .int .i64 x.free, .int .i64 x.pages] 93)
    rw [show (W.alloc (.cells #[.int .i64 x.ep, .int .i64 x.root, .int .i64 x.free, .int .i64 x.pages] 23)).heap.size = W.heap.size + 1 from Array.size_push _] at h
    exact (Below.heap_alloc _ _ _ (by rw [show ((W.alloc _).alloc _).heap.size = (W.alloc _).heap.size + 1 from Array.size_push _, show (W.alloc _).heap.size = W.heap.size + 1 from Array.size_push _]; omega)).trans h
  · have h := heap_alloc_new ((W.alloc (.cells #[.int .i64 x.ep, .int .i64 x.root, .int .i64 x.free, .int .i64 x.pages] 23)).alloc (.cells #[.int .i64 x.root, .int .i64 x.free, .int .i64 x.pages] 93)) (.cells #[.int .u8 0, .int .u8 0, .int .u8 0, .int .u8 0, .int .u8 0, .int .u8 0, .int .u8 0, .int .u8 0, .int .u8 0, .int .u8 0, .int .u8 0, .int .u8 0] 99)
    rw [show ((W.alloc _).alloc _).heap.size = (W.alloc _).heap.size + 1 from Array.size_push _, show (W.alloc _).heap.size = W.heap.size + 1 from Array.size_push _] at h
    exact h
set_option maxRecDepth 100000 in
set_option maxHeartbeats 6400000 in
theorem cell_any (W : World) (x : Sp) (hx : Ok x) : Calls Try.prog 33 #[sv x] W fun e w' => e = .returned (.string (cell x)) ∧ Below W.heap.size W w' := by
  obtain ⟨_, _, hp0, hp1, hr, hf⟩ := hx
  have j0 := cl_new W x
  go_enter Try.func33, Try.ntmps33
  go_wp2_with fail
  go_loopw [14] (fun i wr => ∃ k : Nat, k ≤ 12 ∧ i = .int .i64 k ∧ CL W x k wr) (fun i _ => 12 - (intOf i).toNat)
  case atStart => exact ⟨0, by omega, rfl, j0⟩
  case round =>
    clear j0
    obtain ⟨k, hk, rfl, hj⟩ := hrel
    rcases Nat.lt_or_ge k 12 with hlt | hge
    · have hc : k = 0 ∨ k = 1 ∨ k = 2 ∨ k = 3 ∨ k = 4 ∨ k = 5 ∨ k = 6 ∨ k = 7 ∨ k = 8 ∨ k = 9 ∨ k = 10 ∨ k = 11 := by omega
      have n0 : wr.cell? ⟨W.heap.size + 1, 0, none⟩ = some (.int .i64 x.root) := by rw [At.cell hj.nums]; rfl
      have n1 : wr.cell? ⟨W.heap.size + 1, 1, none⟩ = some (.int .i64 x.free) := by rw [At.cell hj.nums]; rfl
      have n2 : wr.cell? ⟨W.heap.size + 1, 2, none⟩ = some (.int .i64 x.pages) := by rw [At.cell hj.nums]; rfl
      have hz := fun j => At.frozen hj.arr j
      obtain ⟨v, hv⟩ : ∃ v, wr.cell? ⟨W.heap.size + 1 + 1, k, none⟩ = some v := ⟨_, Arr.cell hj.arr k (by rw [wr_len _ _ hk]; exact hlt)⟩
      have hcl := Lib.hid hj
      clear hj
      rcases hc with rfl | rfl | rfl | rfl | rfl | rfl | rfl | rfl | rfl | rfl | rfl | rfl
      all_goals
        go_wp2_with fail
        go_roundw
      · exact ⟨1, by omega, rfl, hcl.out.put (v := b8 (x.root.toNat / 16777216)) rfl (by rw [b8_nat]; omega)⟩
      · simp [intOf]
      · exact ⟨2, by omega, rfl, hcl.out.put (v := b8 (x.root.toNat / 65536)) rfl (by rw [b8_nat]; omega)⟩
      · simp [intOf]
      · exact ⟨3, by omega, rfl, hcl.out.put (v := b8 (x.root.toNat / 256)) rfl (by rw [b8_nat]; omega)⟩
      · simp [intOf]
      · exact ⟨4, by omega, rfl, hcl.out.put (v := b8 (x.root.toNat)) rfl (by rw [b8_nat]; omega)⟩
      · simp [intOf]
      · exact ⟨5, by omega, rfl, hcl.out.put (v := b8 (x.free.toNat / 16777216)) rfl (by rw [b8_nat]; omega)⟩
      · simp [intOf]
      · exact ⟨6, by omega, rfl, hcl.out.put (v := b8 (x.free.toNat / 65536)) rfl (by rw [b8_nat]; omega)⟩
      · simp [intOf]
      · exact ⟨7, by omega, rfl, hcl.out.put (v := b8 (x.free.toNat / 256)) rfl (by rw [b8_nat]; omega)⟩
      · simp [intOf]
      · exact ⟨8, by omega, rfl, hcl.out.put (v := b8 (x.free.toNat)) rfl (by rw [b8_nat]; omega)⟩
      · simp [intOf]
      · exact ⟨9, by omega, rfl, hcl.out.put (v := b8 (x.pages.toNat / 16777216)) rfl (by rw [b8_nat]; omega)⟩
      · simp [intOf]
      · exact ⟨10, by omega, rfl, hcl.out.put (v := b8 (x.pages.toNat / 65536)) rfl (by rw [b8_nat]; omega)⟩
      · simp [intOf]
      · exact ⟨11, by omega, rfl, hcl.out.put (v := b8 (x.pages.toNat / 256)) rfl (by rw [b8_nat]; omega)⟩
      · simp [intOf]
      · exact ⟨12, by omega, rfl, hcl.out.put (v := b8 (x.pages.toNat)) rfl (by rw [b8_nat]; omega)⟩
      · simp [intOf]
    · obtain rfl : k = 12 := by omega
      have hl : SuperCellOf.wr x 12 = B12 x := by unfold SuperCellOf.wr zs; rw [← b12_len x, List.take_length]; simp
      have hrow := Arr.row hj.arr
      rw [hl] at hrow
      have hcv := conv_bytes (P := Try.prog) (src := 27) (dst := 9) Try.underlying27 Try.underlying5 Try.underlying9 12 hrow
      rw [show (B12 x).length = 12 from rfl] at hcv
      have hcut : (Instr.sliceAt 99 (.pointer (some ⟨W.heap.size + 1 + 1, 0, none⟩)) none none none).run Try.prog wr = .ok (.slice (some ⟨W.heap.size + 1 + 1, 0, none⟩) 12 12) wr := by
        kernel_rfl
      clear hl hrow
      go_wp2_with fail
      go_ret
      exact ⟨rfl, hj.base⟩
end Go.Proofs.Ytcnblgienombeaa.SuperCellOf
