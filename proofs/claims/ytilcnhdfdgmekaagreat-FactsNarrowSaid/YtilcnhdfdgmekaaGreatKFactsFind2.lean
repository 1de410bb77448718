/- Find, with the shape of the slice that it answers. -/
import Derived.Test.YtilcnhdfdgmekaaGreatKFactsIs
namespace Go.Proofs.YtilcnhdfdgmekaaGreat.FactsFind2
open Go.RowKit Base KeyPlain TuplePlain TupleRef TupleSpec TupleCut FMap FactsPlain FactsMem FactsNew FactsMeant FactsOrder FactsFind FactsIs TurnB

def FindPost2 (w0 : World) (m : List Tp) (x : Tp) (most : Int) (e : Ending) (w' : World) : Prop :=
  ∃ (A : Option Addr) (c n : Nat), n = (find m x most).length ∧ e = .returned (.slice A n c) ∧ ((A = none ∧ c = 0) ∨ ∃ g, A = some ⟨g, 0, none⟩) ∧ n ≤ c ∧ TRow w' A (find m x most) ∧ Below w0.heap.size w0 w'
set_option maxRecDepth 100000 in
set_option maxHeartbeats 6400000 in
theorem find_any2 {fb gm : Nat} {G : List Grp} {lo : Nat} {w0 : World} (h : Fx lo w0 fb gm G) (hn : (alls G).length * 96 ≤ 140737488355328) (x : Tp) (most : Int) :
    Calls Tryz.prog 21 #[.pointer (some ⟨fb, 0, none⟩), .agg (tc x), .int .i64 most] w0 (FindPost2 w0 (mk ltT (alls G)) x most) := by
  obtain ⟨w1, hw1⟩ : ∃ v, v = w0.alloc (.cells (tc x) 43) := ⟨_, rfl⟩
  obtain ⟨b, hbe⟩ : ∃ v, v = w0.heap.size := ⟨_, rfl⟩
  have b1 : Below w0.heap.size w0 w1 := by rw [hw1]; exact al _ _
  have a1 : w1.heap[b]? = some (.cells (tc x) 43 (0, 0)) := by rw [hw1, hbe]; exact heap_alloc_new w0 _
  have HM := Lib.hid (meant_any x w1)
  have HO := Lib.hid (fun w (hb : Below w0.heap.size w0 w) bi bf bu (hu : Mu w bi bf bu x) => inOrder_any (h.below hb) hu hn)
  generalize mk ltT (alls G) = m at *
  have HB1 := Lib.hid b1
  unfold tc at HM a1 hw1 ⊢
  obtain ⟨d0, d1, d2, d3, d4, d5⟩ := six_at a1
  have HW1 := Lib.hid hw1
  have HBE := Lib.hid hbe
  clear h hn hw1 hbe a1 b1
  by_cases hmo : most < 1
  · have HZ := Lib.hid (show find m x most = [] from by unfold find; rw [show most.toNat = 0 from by omega]; rfl)
    go_enter Tryz.func21, Tryz.ntmps21
    go_upto_region 1 with fail
    rw [← HW1.out, ← HBE.out]
    go_wp2_with fail
    go_ret
    exact ⟨none, 0, 0, by rw [HZ.out]; rfl, rfl, .inl ⟨rfl, rfl⟩, Nat.le_refl _, by rw [HZ.out]; exact fun i hi => by simp at hi, HB1.out⟩
  · go_enter Tryz.func21, Tryz.ntmps21
    go_upto_region 1 with fail
    rw [← HW1.out, ← HBE.out]
    go_wp2_with fail
    (with_reducible refine HM.out.mono ?_)
    rintro e w2 hq
    unfold MeantPost at hq
    obtain ⟨bi, bf, bu, rfl, hu, hlo, hb⟩ := hq
    have hin := HO.out w2 (Below.step HB1.out hb) bi bf bu hu
    have HB := Lib.hid (Below.step HB1.out hb)
    clear hu hlo hb d0 d1 d2 d3 d4 d5
    go_wp2_with fail
    (with_reducible refine hin.mono ?_)
    rintro e w3 hq
    unfold InPost at hq
    obtain ⟨A, c, n, hn, rfl, hA, hc, ht, hb⟩ := hq
    have HB3 := Lib.hid (Below.step HB.out hb)
    have HT := Lib.hid ht
    have HN := Lib.hid hn
    have hc1 : 0 ≤ min most (n : Int) := by omega
    have hc2 : min most (n : Int) ≤ (c : Int) := by omega
    have hk : (min most (n : Int)).toNat = min most.toNat n := by omega
    have hcut := cut_t A n c (min most (n : Int)).toNat hA (by omega) w3
    rw [Int.toNat_of_nonneg hc1] at hcut
    have HF := Lib.hid (show FindPost2 w0 m x most (.returned (.slice A (min most (n : Int)).toNat c)) w3 from ⟨A, c, _, by unfold find; rw [List.length_take, ← hn, hk], rfl, hA, by omega, by unfold find; exact trow_take ht _, HB3.out⟩)
    clear hn hA hc ht hb hin hk
    go_wp2_with fail
    go_ret
    exact HF.out
theorem is_find2 {lo : Nat} {w : World} {fb : Nat} {m : List Tp} (h : Is lo w fb m) (hn : m.length * 96 ≤ 140737488355328) (x : Tp) (most : Int) :
    Calls Tryz.prog 21 #[.pointer (some ⟨fb, 0, none⟩), .agg (tc x), .int .i64 most] w (FindPost2 w m x most) := by
  obtain ⟨gm, G, hf, hm⟩ := h.ex
  have h1 := find_any2 hf (by rw [len_of hf h.up hm]; exact hn) x most
  rw [mk_of h.up hm] at h1
  exact h1
end Go.Proofs.YtilcnhdfdgmekaaGreat.FactsFind2
