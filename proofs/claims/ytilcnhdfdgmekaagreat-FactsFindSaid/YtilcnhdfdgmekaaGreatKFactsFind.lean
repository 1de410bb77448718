/- All tuples, and those that a filter means. -/
import Derived.Test.YtilcnhdfdgmekaaGreatKFactsOrder
namespace Go.Proofs.YtilcnhdfdgmekaaGreat.FactsFind
open Go.RowKit Base KeyPlain TuplePlain TupleRef TupleSpec TupleCut FMap FactsPlain FactsMem FactsNew FactsMeant FactsOrder

def zf : Tp := ⟨⟨#[]⟩, ⟨#[]⟩, ⟨#[]⟩, ⟨⟨#[]⟩, ⟨#[]⟩, ⟨#[]⟩⟩⟩
theorem told_e (b : ByteArray) : told ⟨#[]⟩ b = true := by
  unfold told
  rw [decide_eq_true (show (⟨#[]⟩ : ByteArray).size = 0 from rfl)]
  rfl
theorem means_zf (t : Tp) : means zf t = true := by simp only [means, zf, told_e, Bool.and_self]
theorem mk_up_new (l : List Tp) : (mk ltT l).filter (means zf) = mk ltT l := List.filter_eq_self.2 fun t _ => means_zf t
set_option maxHeartbeats 6400000 in
theorem all_any {fb gm : Nat} {G : List Grp} {lo : Nat} {w0 : World} (h : Fx lo w0 fb gm G) (hn : (alls G).length * 96 ≤ 140737488355328) :
    Calls Tryz.prog 20 #[.pointer (some ⟨fb, 0, none⟩)] w0 (InPost w0 (mk ltT (alls G))) := by
  have HM := Lib.hid (meant_any zf w0)
  have HO := Lib.hid (fun w (hb : Below w0.heap.size w0 w) bi bf bu (hu : Mu w bi bf bu zf) => inOrder_any (h.below hb) hu hn)
  rw [mk_up_new] at HO
  unfold tc zf at HM
  clear h hn
  go_enter Tryz.func20, Tryz.ntmps20
  go_wp2_with fail
  (with_reducible refine HM.out.mono ?_)
  rintro e w1 hq
  unfold MeantPost at hq
  obtain ⟨bi, bf, bu, rfl, hu, hlo, hb⟩ := hq
  have hin := HO.out w1 hb bi bf bu hu
  have HB := Lib.hid hb
  clear hu hlo hb
  go_wp2_with fail
  (with_reducible refine hin.mono ?_)
  rintro e w2 hq
  unfold InPost at hq
  obtain ⟨A, c, n, hn, rfl, hA, hc, ht, hb⟩ := hq
  have HF := Lib.hid (show InPost w0 (mk ltT (alls G)) (.returned (.slice A n c)) w2 from ⟨A, c, n, hn, rfl, hA, hc, ht, Below.step HB.out hb⟩)
  clear hn hA hc ht hb hin
  go_wp2_with fail
  go_ret
  exact HF.out
set_option maxRecDepth 100000 in
theorem size_t (w : World) : (sizeOf (Tryz.prog.elem 22)).run Tryz.prog w = .ok 6 w := by
  have h : (Tryz.prog.info? (Tryz.prog.elem 22)).map (fun i => i.size) = some 6 := by kernel_rfl
  cases hi : Tryz.prog.info? (Tryz.prog.elem 22) with
  | none => rw [hi] at h; cases h
  | some i => rw [hi] at h; injection h with h; simp [sizeOf, typeInfo, hi, h]
theorem under_t : Tryz.prog.underlying 22 = some (.slice (Tryz.prog.elem 22)) := by kernel_rfl
theorem cut_t (A : Option Addr) (n c k : Nat) (hA : (A = none ∧ c = 0) ∨ ∃ g, A = some ⟨g, 0, none⟩) (hk : k ≤ c) (w : World) : (Instr.slice 22 (.slice A n c) none (some (.int .i64 (k : Int))) none).run Tryz.prog w = .ok (.slice A k c) w := by
  rw [run_slice_h w 22 A n c under_t .i64 k (by omega) (by omega), size_t]
  simp only [sliced, Result.andThen, Int.toNat_natCast, Nat.sub_zero, Nat.zero_mul]
  congr 2
  split
  · rfl
  · rcases hA with ⟨rfl, _⟩ | ⟨g, rfl⟩ <;> simp [Addr.add]
/-- the first ones that a filter means -/
def FindPost (w0 : World) (m : List Tp) (x : Tp) (most : Int) (e : Ending) (w' : World) : Prop :=
  ∃ (A : Option Addr) (c n : Nat), n = (find m x most).length ∧ e = .returned (.slice A n c) ∧ TRow w' A (find m x most) ∧ Below w0.heap.size w0 w'
theorem trow_take {w : World} {A : Option Addr} {l : List Tp} (h : TRow w A l) (k : Nat) : TRow w A (l.take k) := fun i hi => by
  rw [List.length_take] at hi
  obtain ⟨g, o, h1, h2, h3⟩ := h i (by omega)
  exact ⟨g, o, h1, h2, by simpa using h3⟩
set_option maxRecDepth 100000 in
set_option maxHeartbeats 6400000 in
theorem find_any {fb gm : Nat} {G : List Grp} {lo : Nat} {w0 : World} (h : Fx lo w0 fb gm G) (hn : (alls G).length * 96 ≤ 140737488355328) (x : Tp) (most : Int) :
    Calls Tryz.prog 21 #[.pointer (some ⟨fb, 0, none⟩), .agg (tc x), .int .i64 most] w0 (FindPost w0 (mk ltT (alls G)) x most) := by
  obtain ⟨w1, hw1⟩ : ∃ v, v = w0.alloc (.cells (tc x) 43) := ⟨_, rfl⟩
  obtain ⟨b, hbe⟩ : ∃ v, v = w0.heap.size := ⟨_, rfl⟩
  have b1 : Below w0.heap.size w0 w1 := by rw [hw1]; exact al _ _
  have a1 : w1.heap[b]? = some (.cells (tc x) 43 (0, 0)) := by rw [hw1, hbe]; exact heap_alloc_new w0 _
  have HM := Lib.hid (meant_any x w1)
  have HO := Lib.hid (fun w (hb : Below w0.heap.size w0 w) bi bf bu (hu : Mu w bi bf bu x) => inOrder_any (h.below hb) hu hn)
  generalize mk ltT (alls G) = m at *
  have HB1 := Lib.hid b1
  unfold tc at HM a1 hw1 ⊢
  obtain ⟨d0, d1, d2, d3, d4, d5⟩ := six_at a1
  have HW1 := Lib.hid hw1
  have HBE := Lib.hid hbe
  clear h hn hw1 hbe a1 b1
  by_cases hmo : most < 1
  · have HZ := Lib.hid (show find m x most = [] from by unfold find; rw [show most.toNat = 0 from by omega]; rfl)
    go_enter Tryz.func21, Tryz.ntmps21
    go_upto_region 1 with fail
    rw [← HW1.out, ← HBE.out]
    go_wp2_with fail
    go_ret
    exact ⟨none, 0, 0, by rw [HZ.out]; rfl, rfl, by rw [HZ.out]; exact fun i hi => by simp at hi, HB1.out⟩
  · go_enter Tryz.func21, Tryz.ntmps21
    go_upto_region 1 with fail
    rw [← HW1.out, ← HBE.out]
    go_wp2_with fail
    (with_reducible refine HM.out.mono ?_)
    rintro e w2 hq
    unfold MeantPost at hq
    obtain ⟨bi, bf, bu, rfl, hu, hlo, hb⟩ := hq
    have hin := HO.out w2 (Below.step HB1.out hb) bi bf bu hu
    have HB := Lib.hid (Below.step HB1.out hb)
    clear hu hlo hb d0 d1 d2 d3 d4 d5
    go_wp2_with fail
    (with_reducible refine hin.mono ?_)
    rintro e w3 hq
    unfold InPost at hq
    obtain ⟨A, c, n, hn, rfl, hA, hc, ht, hb⟩ := hq
    have HB3 := Lib.hid (Below.step HB.out hb)
    have HT := Lib.hid ht
    have HN := Lib.hid hn
    have hc1 : 0 ≤ min most (n : Int) := by omega
    have hc2 : min most (n : Int) ≤ (c : Int) := by omega
    have hk : (min most (n : Int)).toNat = min most.toNat n := by omega
    have hcut := cut_t A n c (min most (n : Int)).toNat hA (by omega) w3
    rw [Int.toNat_of_nonneg hc1] at hcut
    have HF := Lib.hid (show FindPost w0 m x most (.returned (.slice A (min most (n : Int)).toNat c)) w3 from ⟨A, c, _, by unfold find; rw [List.length_take, ← hn, hk], rfl, by unfold find; exact trow_take ht _, HB3.out⟩)
    clear hn hA hc ht hb hin hk
    go_wp2_with fail
    go_ret
    exact HF.out
end Go.Proofs.YtilcnhdfdgmekaaGreat.FactsFind
