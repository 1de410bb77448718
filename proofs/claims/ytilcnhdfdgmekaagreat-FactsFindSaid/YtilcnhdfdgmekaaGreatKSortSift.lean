/- sort.siftDown_func, with a less that makes memory. -/
import Derived.Test.YtilcnhdfdgmekaaGreatKSortRev
import Derived.Sort.WalkB2
namespace Go.Proofs.YtilcnhdfdgmekaaGreat.SortSift
open Go.RowKit Base SortKit SortIns
open Go.Sort (swp size_swp)
open Go.Sort (sd_end sd_right_go sd_right_stop sd_left_go sd_left_stop)
variable {α : Type} [Inhabited α] {lt : α → α → Bool} {g : Nat} {lb : Array Value} {sf : Nat} {sb : Array Value} {n blk : Nat} {G : Array α → World → Prop}
set_option maxHeartbeats 2000000 in
set_option maxRecDepth 100000 in
theorem sift_any (S : Srt Tryz.prog lt g lb sf sb n blk G) (lo hi first : Nat) (d : Array α) (w : World) (hG : G d w) (hs : d.size = n) (hlo : lo ≤ hi) (hb : first + hi ≤ n) :
    Calls Tryz.prog 117 #[LS g lb sf sb, .int .i64 lo, .int .i64 hi, .int .i64 first] w fun e w' => e = .returned (.tuple #[]) ∧ G (Go.Sort.siftDown lt hi first lo d) w' ∧ Onl blk w w' := by
  have h0 := boxed S hG
  have few := S.few
  have eg := S.enter
  obtain ⟨w0, hw0⟩ : ∃ v, v = w.alloc (.cells #[.func (.func g) #[] lb, .func (.func sf) #[] sb] 113) := ⟨_, rfl⟩
  obtain ⟨B, hB⟩ : ∃ v, v = w.heap.size := ⟨_, rfl⟩
  rw [← hw0, ← hB] at h0
  have HW := Lib.hid hw0
  have HB := Lib.hid hB
  have HS := Lib.hid hs
  clear hw0 hB hs hG
  go_enter Tryz.func117, Tryz.ntmps117
  go_upto_region 1 with fail
  rw [← HW.out, ← HB.out]
  go_wp2
  go_loopg [8] (hi - lo) (fun kx s8 wr => ∃ (root : Nat) (dk : Array α), s8 = .int .i64 root ∧ root ≤ hi ∧ hi - root ≤ kx ∧ dk.size = n ∧ At G blk B (.func (.func g) #[] lb) (.func (.func sf) #[] sb) w dk wr ∧ Hid (Go.Sort.siftDown lt hi first root dk = Go.Sort.siftDown lt hi first lo d))
  case atStart => exact ⟨lo, d, rfl, hlo, Nat.le_refl _, HS.out, h0, rfl⟩
  case round =>
    obtain ⟨root, dk, rfl, hr, hkx, hds, hA, HE⟩ := hrel
    obtain ⟨c0, c1, c2, c3⟩ := hA.cells S
    have HA := Lib.hid hA
    have HD := Lib.hid hds
    clear hA hds h0
    by_cases h0 : hi ≤ 2 * root + 1
    · have h0z : (hi : Int) ≤ 2 * (root : Int) + 1 := by omega
      go_wp2
      go_end0
      exact ⟨rfl, by rw [← HE.out, sd_end lt dk h0]; exact HA.out.row, HA.out.onl⟩
    · have h0z : ¬ ((hi : Int) ≤ 2 * (root : Int) + 1) := by omega
      by_cases h1 : 2 * root + 2 < hi
      · have h1z : 2 * (root : Int) + 1 + 1 < (hi : Int) := by omega
        cases hL : lt dk[first + (2 * root + 1)]! dk[first + (2 * root + 2)]! with
        | true =>
          have hl1 := HA.out.less S HD.out (i := first + (2 * root + 1)) (j := first + (2 * root + 2)) (by omega) (by omega) (x := (first : Int) + (2 * (root : Int) + 1)) (y := (first : Int) + (2 * (root : Int) + 1) + 1) (by omega) (by omega) hL
          cases hG : lt dk[first + root]! dk[first + (2 * root + 2)]! with
          | true =>
            go_wp2_with fail
            (with_reducible refine hl1.mono ?_)
            rintro e w2 ⟨rfl, hA2⟩
            clear hl1
            obtain ⟨c4, c5, c6, c7⟩ := hA2.cells S
            have hl2 := hA2.less S HD.out (i := first + root) (j := first + (2 * root + 2)) (by omega) (by omega) (x := (first : Int) + (root : Int)) (y := (first : Int) + (2 * (root : Int) + 1 + 1)) (by omega) (by omega) hG
            clear hA2
            go_wp2_with fail
            (with_reducible refine hl2.mono ?_)
            rintro e w3 ⟨rfl, hA3⟩
            clear hl2
            obtain ⟨c8, c9, c10, c11⟩ := hA3.cells S
            obtain ⟨w4, hrun, hA4⟩ := hA3.swap S HD.out (i := first + root) (j := first + (2 * root + 2)) (by omega) (by omega) (x := (first : Int) + (root : Int)) (y := (first : Int) + (2 * (root : Int) + 1 + 1)) (by omega) (by omega)
            clear hA3
            go_wp2
            go_roundg (hi - (2 * root + 2))
            case measure => omega
            case rel => exact ⟨2 * root + 2, swp dk (first + root) (first + (2 * root + 2)), by go_num, by omega, Nat.le_refl _, by rw [size_swp]; exact HD.out, hA4, Lib.hid (by rw [← HE.out, sd_right_go lt dk h1 hL hG])⟩
          | false =>
            go_wp2_with fail
            (with_reducible refine hl1.mono ?_)
            rintro e w2 ⟨rfl, hA2⟩
            clear hl1
            obtain ⟨c4, c5, c6, c7⟩ := hA2.cells S
            have hl2 := hA2.less S HD.out (i := first + root) (j := first + (2 * root + 2)) (by omega) (by omega) (x := (first : Int) + (root : Int)) (y := (first : Int) + (2 * (root : Int) + 1 + 1)) (by omega) (by omega) hG
            clear hA2
            go_wp2_with fail
            (with_reducible refine hl2.mono ?_)
            rintro e w3 ⟨rfl, hA3⟩
            clear hl2
            go_wp2
            (try simp only [Exit.inBlock, Exit.then])
            refine bodyPost_ret (results_none rfl _ _ _) rfl ?_
            exact ⟨rfl, by rw [← HE.out, sd_right_stop lt dk h1 hL hG]; exact hA3.row, hA3.onl⟩
        | false =>
          have hl1 := HA.out.less S HD.out (i := first + (2 * root + 1)) (j := first + (2 * root + 2)) (by omega) (by omega) (x := (first : Int) + (2 * (root : Int) + 1)) (y := (first : Int) + (2 * (root : Int) + 1) + 1) (by omega) (by omega) hL
          cases hG : lt dk[first + root]! dk[first + (2 * root + 1)]! with
          | true =>
            go_wp2_with fail
            (with_reducible refine hl1.mono ?_)
            rintro e w2 ⟨rfl, hA2⟩
            clear hl1
            obtain ⟨c4, c5, c6, c7⟩ := hA2.cells S
            have hl2 := hA2.less S HD.out (i := first + root) (j := first + (2 * root + 1)) (by omega) (by omega) (x := (first : Int) + (root : Int)) (y := (first : Int) + (2 * (root : Int) + 1)) (by omega) (by omega) hG
            clear hA2
            go_wp2_with fail
            (with_reducible refine hl2.mono ?_)
            rintro e w3 ⟨rfl, hA3⟩
            clear hl2
            obtain ⟨c8, c9, c10, c11⟩ := hA3.cells S
            obtain ⟨w4, hrun, hA4⟩ := hA3.swap S HD.out (i := first + root) (j := first + (2 * root + 1)) (by omega) (by omega) (x := (first : Int) + (root : Int)) (y := (first : Int) + (2 * (root : Int) + 1)) (by omega) (by omega)
            clear hA3
            go_wp2
            go_roundg (hi - (2 * root + 1))
            case measure => omega
            case rel => exact ⟨2 * root + 1, swp dk (first + root) (first + (2 * root + 1)), by go_num, by omega, Nat.le_refl _, by rw [size_swp]; exact HD.out, hA4, Lib.hid (by rw [← HE.out, sd_left_go lt dk (by omega) (fun _ => hL) hG])⟩
          | false =>
            go_wp2_with fail
            (with_reducible refine hl1.mono ?_)
            rintro e w2 ⟨rfl, hA2⟩
            clear hl1
            obtain ⟨c4, c5, c6, c7⟩ := hA2.cells S
            have hl2 := hA2.less S HD.out (i := first + root) (j := first + (2 * root + 1)) (by omega) (by omega) (x := (first : Int) + (root : Int)) (y := (first : Int) + (2 * (root : Int) + 1)) (by omega) (by omega) hG
            clear hA2
            go_wp2_with fail
            (with_reducible refine hl2.mono ?_)
            rintro e w3 ⟨rfl, hA3⟩
            clear hl2
            go_wp2
            (try simp only [Exit.inBlock, Exit.then])
            refine bodyPost_ret (results_none rfl _ _ _) rfl ?_
            exact ⟨rfl, by rw [← HE.out, sd_left_stop lt dk (by omega) (fun _ => hL) hG]; exact hA3.row, hA3.onl⟩
      · have h1z : ¬ (2 * (root : Int) + 1 + 1 < (hi : Int)) := by omega
        cases hG : lt dk[first + root]! dk[first + (2 * root + 1)]! with
        | true =>
          have hA2 := HA.out
          obtain ⟨c4, c5, c6, c7⟩ := hA2.cells S
          have hl2 := hA2.less S HD.out (i := first + root) (j := first + (2 * root + 1)) (by omega) (by omega) (x := (first : Int) + (root : Int)) (y := (first : Int) + (2 * (root : Int) + 1)) (by omega) (by omega) hG
          clear hA2
          go_wp2_with fail
          (with_reducible refine hl2.mono ?_)
          rintro e w3 ⟨rfl, hA3⟩
          clear hl2
          obtain ⟨c8, c9, c10, c11⟩ := hA3.cells S
          obtain ⟨w4, hrun, hA4⟩ := hA3.swap S HD.out (i := first + root) (j := first + (2 * root + 1)) (by omega) (by omega) (x := (first : Int) + (root : Int)) (y := (first : Int) + (2 * (root : Int) + 1)) (by omega) (by omega)
          clear hA3
          go_wp2
          go_roundg (hi - (2 * root + 1))
          case measure => omega
          case rel => exact ⟨2 * root + 1, swp dk (first + root) (first + (2 * root + 1)), by go_num, by omega, Nat.le_refl _, by rw [size_swp]; exact HD.out, hA4, Lib.hid (by rw [← HE.out, sd_left_go lt dk (by omega) (fun h => absurd h h1) hG])⟩
        | false =>
          have hA2 := HA.out
          obtain ⟨c4, c5, c6, c7⟩ := hA2.cells S
          have hl2 := hA2.less S HD.out (i := first + root) (j := first + (2 * root + 1)) (by omega) (by omega) (x := (first : Int) + (root : Int)) (y := (first : Int) + (2 * (root : Int) + 1)) (by omega) (by omega) hG
          clear hA2
          go_wp2_with fail
          (with_reducible refine hl2.mono ?_)
          rintro e w3 ⟨rfl, hA3⟩
          clear hl2
          go_wp2
          (try simp only [Exit.inBlock, Exit.then])
          refine bodyPost_ret (results_none rfl _ _ _) rfl ?_
          exact ⟨rfl, by rw [← HE.out, sd_left_stop lt dk (by omega) (fun h => absurd h h1) hG]; exact hA3.row, hA3.onl⟩
end Go.Proofs.YtilcnhdfdgmekaaGreat.SortSift
