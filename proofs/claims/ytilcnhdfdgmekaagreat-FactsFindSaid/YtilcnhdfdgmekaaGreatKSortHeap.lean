/- sort.heapSort_func, with a less that makes memory. -/
import Derived.Test.YtilcnhdfdgmekaaGreatKSortSift
import Derived.Sort.WalkB3
namespace Go.Proofs.YtilcnhdfdgmekaaGreat.SortHeap
open Go.RowKit Base SortKit SortIns SortSift
open Go.Sort (swp size_swp heapBuild heapPop size_siftDown)
variable {α : Type} [Inhabited α] {lt : α → α → Bool} {g : Nat} {lb : Array Value} {sf : Nat} {sb : Array Value} {n blk : Nat} {G : Array α → World → Prop}
set_option maxHeartbeats 2000000 in
set_option maxRecDepth 100000 in
theorem heap_any (S : Srt Tryz.prog lt g lb sf sb n blk G) (a b : Nat) (d : Array α) (w : World) (hG : G d w) (hs : d.size = n) (hab : a ≤ b) (hb : b ≤ n) :
    Calls Tryz.prog 100 #[LS g lb sf sb, .int .i64 a, .int .i64 b] w fun e w' => e = .returned (.tuple #[]) ∧ G (Go.Sort.heapSort lt d a b) w' ∧ Onl blk w w' := by
  have h0 := boxed S hG
  have few := S.few
  have eg := S.enter
  obtain ⟨w0, hw0⟩ : ∃ v, v = w.alloc (.cells #[.func (.func g) #[] lb, .func (.func sf) #[] sb] 113) := ⟨_, rfl⟩
  obtain ⟨B, hB⟩ : ∃ v, v = w.heap.size := ⟨_, rfl⟩
  rw [← hw0, ← hB] at h0
  have HW := Lib.hid hw0
  have HB := Lib.hid hB
  have HS := Lib.hid hs
  clear hw0 hB hs hG
  go_enter Tryz.func100, Tryz.ntmps100
  go_upto_region 1 with fail
  rw [← HW.out, ← HB.out]
  go_wp2
  have ecast : ((b - a : Nat) : Int) = (b : Int) - (a : Int) := by omega
  go_loopg [9] ((b - a - 1) / 2 + 1) (fun kx s9 wr => s9 = .int .i64 ((kx : Int) - 1) ∧ kx ≤ (b - a - 1) / 2 + 1 ∧ ∃ (dk : Array α), dk.size = n ∧ At G blk B (.func (.func g) #[] lb) (.func (.func sf) #[] sb) w dk wr ∧ Hid (heapBuild lt (b - a) a kx dk = heapBuild lt (b - a) a ((b - a - 1) / 2 + 1) d))
  case atStart => exact ⟨by rw [half_start hab], Nat.le_refl _, d, HS.out, h0, rfl⟩
  case round =>
    obtain ⟨rfl, hkk, dk, hds, hA, HE⟩ := hrel
    obtain ⟨c0, c1, c2, c3⟩ := hA.cells S
    have HA := Lib.hid hA
    have HD := Lib.hid hds
    clear hA hds h0
    cases gk with
    | zero =>
      have HB2 := Lib.hid (show dk = heapBuild lt (b - a) a ((b - a - 1) / 2 + 1) d from HE.out)
      clear HE hkk
      go_wp2
      go_loopg [10] (b - a) (fun kx s10 wr2 => s10 = .int .i64 ((kx : Int) - 1) ∧ kx ≤ b - a ∧ ∃ (dj : Array α), dj.size = n ∧ At G blk B (.func (.func g) #[] lb) (.func (.func sf) #[] sb) w dj wr2 ∧ Hid (heapPop lt a kx dj = heapPop lt a (b - a) dk))
      case atStart => exact ⟨by rw [ecast], Nat.le_refl _, dk, HD.out, HA.out, rfl⟩
      case round =>
        clear c0 c1 c2 c3 HA HD
        obtain ⟨rfl, hkk, dj, hdj, hA, HE2⟩ := hrel
        obtain ⟨c0, c1, c2, c3⟩ := hA.cells S
        have HA := Lib.hid hA
        have HD := Lib.hid hdj
        clear hA hdj
        cases gk with
        | zero =>
          go_wp2
          go_end0
          have e : dj = Go.Sort.heapSort lt d a b := by rw [Go.Sort.heapSort, ← HB2.out, ← HE2.out]; rfl
          rw [← e]
          exact ⟨rfl, HA.out.row, HA.out.onl⟩
        | succ kx =>
          obtain ⟨w4, hrun, hA4⟩ := HA.out.swap S HD.out (i := a) (j := a + kx) (by omega) (by omega) (x := (a : Int)) (y := (a : Int) + (kx : Int)) rfl (by omega)
          obtain ⟨c4, c5, c6, c7⟩ := hA4.cells S
          have hd2 : (swp dj a (a + kx)).size = n := by rw [size_swp]; exact HD.out
          have hcall := sift_any S 0 kx a (swp dj a (a + kx)) w4 hA4.row hd2 (Nat.zero_le _) (by omega)
          have HA4 := Lib.hid hA4
          have HD2 := Lib.hid hd2
          clear hA4 hd2
          go_wp2_with (go_at_call 117; refine hcall.mono ?_; rintro e w1 ⟨rfl, hG5, hO5⟩)
          go_roundg kx
          case measure => omega
          case rel =>
            exact ⟨by simp, by omega, Go.Sort.siftDown lt kx a 0 (swp dj a (a + kx)), by rw [size_siftDown lt _ _ _ _ _ (Nat.le_refl _), HD2.out], HA4.out.turn hG5 hO5, HE2⟩
    | succ kx =>
      have hcall := sift_any S kx (b - a) a dk wr HA.out.row HD.out (by omega) (by omega)
      rw [ecast] at hcall
      go_wp2_with (go_at_call 117; refine hcall.mono ?_; rintro e w1 ⟨rfl, hG5, hO5⟩)
      go_roundg kx
      case measure => omega
      case rel =>
        exact ⟨by simp, by omega, Go.Sort.siftDown lt (b - a) a kx dk, by rw [size_siftDown lt _ _ _ _ _ (Nat.le_refl _), HD.out], HA.out.turn hG5 hO5, HE⟩
end Go.Proofs.YtilcnhdfdgmekaaGreat.SortHeap
