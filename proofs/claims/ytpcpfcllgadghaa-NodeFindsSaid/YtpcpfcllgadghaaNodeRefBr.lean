/- The contracts of the document's Put and Drop of a branch. -/
import Derived.Test.YtpcpfcllgadghaaNodeIns
namespace Go.Proofs.Ytpcpfcllgadghaa.NodeRefBr
open Go.RowKit Base NodePlain NodeRead NodeSlice NodeCheck NodeBox

set_option maxRecDepth 100000 in
set_option maxHeartbeats 3200000 in
theorem rput_br (W : World) (n : Nd) (h : Hd) (key value : ByteArray) (hl : Lay W n h) (hleaf : n.leaf = false) :
    Calls Try.prog 27 #[nv n h, .string key, .string value] W fun e w' => ∃ v, e = .returned v ∧ Nv n v w' ∧ Below W.heap.size W w' := by
  have hb := Below.step (box_below W n h) (box_below (box W n h) n h)
  have hat := at_new (box W n h) #[.bool n.leaf, .slice h.K n.keys.length h.kc, .slice h.V n.vals.length h.vc, .slice h.D n.kids.length h.dc] 25
  have s1 : (box W n h).heap.size = W.heap.size + 1 := by simp
  rw [s1] at hat
  have HV := Lib.hid (show Nv n (.agg #[.bool false, .slice h.K n.keys.length h.kc, .slice h.V n.vals.length h.vc, .slice h.D n.kids.length h.dc]) (box (box W n h) n h) from ⟨h, by simp only [nv, hleaf], hl.below hb⟩)
  have HB := Lib.hid hb
  unfold box at HV HB hat
  rw [hleaf] at HV HB hat
  have HA := Lib.hid hat
  clear hat hb hl s1
  go_enter Try.func27, Try.ntmps27
  go_wp2_with fail
  refine bodyPost_ret (results_cell_row rfl _ _ (W.heap.size + 1) 25 _ (0, 0) _ rfl HA.out Try.underlying25 rfl (by kernel_rfl)) rfl ?_
  exact ⟨_, rfl, HV.out, HB.out⟩
set_option maxRecDepth 100000 in
set_option maxHeartbeats 3200000 in
theorem rdrop_br (W : World) (n : Nd) (h : Hd) (key : ByteArray) (hl : Lay W n h) (hleaf : n.leaf = false) :
    Calls Try.prog 29 #[nv n h, .string key] W fun e w' => ∃ v, e = .returned v ∧ Nv n v w' ∧ Below W.heap.size W w' := by
  have hb := Below.step (box_below W n h) (box_below (box W n h) n h)
  have hat := at_new (box W n h) #[.bool n.leaf, .slice h.K n.keys.length h.kc, .slice h.V n.vals.length h.vc, .slice h.D n.kids.length h.dc] 25
  have s1 : (box W n h).heap.size = W.heap.size + 1 := by simp
  rw [s1] at hat
  have HV := Lib.hid (show Nv n (.agg #[.bool false, .slice h.K n.keys.length h.kc, .slice h.V n.vals.length h.vc, .slice h.D n.kids.length h.dc]) (box (box W n h) n h) from ⟨h, by simp only [nv, hleaf], hl.below hb⟩)
  have HB := Lib.hid hb
  unfold box at HV HB hat
  rw [hleaf] at HV HB hat
  have HA := Lib.hid hat
  clear hat hb hl s1
  go_enter Try.func29, Try.ntmps29
  go_wp2_with fail
  refine bodyPost_ret (results_cell_row rfl _ _ (W.heap.size + 1) 25 _ (0, 0) _ rfl HA.out Try.underlying25 rfl (by kernel_rfl)) rfl ?_
  exact ⟨_, rfl, HV.out, HB.out⟩
end Go.Proofs.Ytpcpfcllgadghaa.NodeRefBr
