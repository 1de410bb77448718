/- sort.partialInsertionSort_func, with a less that makes memory. -/
import Derived.Test.YtilcnhdfdgmekaaGreatKSortRev
import Derived.Sort.WalkA6
namespace Go.Proofs.YtilcnhdfdgmekaaGreat.SortPins
open Go.RowKit Base SortKit SortIns
open Go.Sort (swp size_swp)
variable {α : Type} [Inhabited α] {lt : α → α → Bool} {g : Nat} {lb : Array Value} {sf : Nat} {sb : Array Value} {n blk : Nat} {G : Array α → World → Prop}
set_option maxHeartbeats 4000000 in
set_option maxRecDepth 100000 in
theorem pins_any (S : Srt Tryz.prog lt g lb sf sb n blk G) (a b : Nat) (d : Array α) (w : World) (hG : G d w) (hs : d.size = n) (hab : a < b) (hb : b ≤ n) :
    Calls Tryz.prog 104 #[LS g lb sf sb, .int .i64 a, .int .i64 b] w fun e w' => e = .returned (.bool (Go.Sort.partialInsertionSort lt d a b).2) ∧ G (Go.Sort.partialInsertionSort lt d a b).1 w' ∧ Onl blk w w' := by
  have h0 := boxed S hG
  have few := S.few
  have eg := S.enter
  obtain ⟨w0, hw0⟩ : ∃ v, v = w.alloc (.cells #[.func (.func g) #[] lb, .func (.func sf) #[] sb] 113) := ⟨_, rfl⟩
  obtain ⟨B, hB⟩ : ∃ v, v = w.heap.size := ⟨_, rfl⟩
  rw [← hw0, ← hB] at h0
  have HW := Lib.hid hw0
  have HB := Lib.hid hB
  have HS := Lib.hid hs
  clear hw0 hB hs hG
  go_enter Tryz.func104, Tryz.ntmps104
  go_upto_region 1 with fail
  rw [← HW.out, ← HB.out]
  go_wp2
  go_loopw [7, 8] (fun vi vs wr => ∃ (i s : Nat) (dk : Array α), vi = .int .i64 i ∧ vs = .int .i64 s ∧ s ≤ 5 ∧ a < i ∧ i ≤ b ∧ dk.size = n ∧ At G blk B (.func (.func g) #[] lb) (.func (.func sf) #[] sb) w dk wr ∧ Hid (Go.Sort.partialIns lt a b (5 - s) i dk = Go.Sort.partialIns lt a b 5 (a + 1) d)) (fun _ vs _ => 5 - (intOf vs).toNat)
  case atStart => exact ⟨a + 1, 0, d, by go_num, rfl, by omega, by omega, by omega, HS.out, h0, rfl⟩
  case round =>
    obtain ⟨i, s, dk, rfl, rfl, hs5, hai, hib, hds, hA, HO⟩ := hrel
    have HA := Lib.hid hA
    have HD := Lib.hid hds
    clear hA hds h0
    by_cases h5 : s < 5
    · have h5z : (s : Int) < 5 := by omega
      go_upto_block 2 with fail
      have H5 := Lib.hid h5
      clear h5 h5z
      go_cut [7] from 17 to 30 (fun v wx => ∃ k : Nat, v = .int .i64 k ∧ i ≤ k ∧ k ≤ b ∧ At G blk B (.func (.func g) #[] lb) (.func (.func sf) #[] sb) w dk wx ∧ Hid (Go.Sort.scanSorted lt dk b i = k))
      case first =>
        go_wp2_with fail
        go_loopw [7] (fun vi wr => ∃ k' : Nat, vi = .int .i64 k' ∧ i ≤ k' ∧ k' ≤ b ∧ At G blk B (.func (.func g) #[] lb) (.func (.func sf) #[] sb) w dk wr ∧ Hid (Go.Sort.scanSorted lt dk b k' = Go.Sort.scanSorted lt dk b i)) (fun vi _ => b - (intOf vi).toNat)
        case atStart => exact ⟨i, rfl, by omega, by omega, HA.out, rfl⟩
        case round =>
          obtain ⟨k', rfl, hk1, hk2, hA, HE⟩ := hrel
          obtain ⟨c0, c1, c2, c3⟩ := hA.cells S
          have HA2 := Lib.hid hA
          clear hA
          by_cases hle : k' < b
          · cases hlv : lt dk[k']! dk[k' - 1]! with
            | false =>
              have hl := HA2.out.less S HD.out (i := k') (j := k' - 1) (by omega) (by omega) (x := (k' : Int)) (y := (k' : Int) - 1) rfl (by omega) hlv
              go_wp2_with (go_at_fn g; refine hl.mono ?_; rintro e w2 ⟨rfl, hA3⟩)
              go_roundw
              case rel => exact ⟨k' + 1, by go_num, by omega, by omega, hA3, Lib.hid ((scanSorted_go lt dk b k' hle hlv).symm.trans HE.out)⟩
              case measure => simp [intOf]; omega
            | true =>
              have hl := HA2.out.less S HD.out (i := k') (j := k' - 1) (by omega) (by omega) (x := (k' : Int)) (y := (k' : Int) - 1) rfl (by omega) hlv
              go_wp2_with (go_at_fn g; refine hl.mono ?_; rintro e w2 ⟨rfl, hA3⟩)
              go_meet
              exact ⟨k', rfl, by omega, by omega, hA3, Lib.hid (by rw [← HE.out, scanSorted_stop lt dk b k' (Or.inr hlv)])⟩
          · go_wp2_with fail
            go_meet
            exact ⟨k', rfl, by omega, by omega, HA2.out, Lib.hid (by rw [← HE.out, scanSorted_stop lt dk b k' (Or.inl hle)])⟩
      case rest =>
        obtain ⟨k, rfl, hk1, hk2, hA, HK⟩ := hcut
        obtain ⟨c0, c1, c2, c3⟩ := hA.cells S
        have HA2 := Lib.hid hA
        clear hA HA
        by_cases hkb : k = b
        · subst hkb
          go_wp2_with fail
          (try simp only [Exit.inBlock, Exit.then])
          go_ret
          have e : Go.Sort.partialInsertionSort lt d a k = (dk, true) := by unfold Go.Sort.partialInsertionSort; rw [← HO.out, pi_true lt a k s i dk H5.out HK.out]
          rw [e]
          exact ⟨rfl, HA2.out.row, HA2.out.onl⟩
        have hkz : ((k : Int) == (b : Int)) = false := by simp; omega
        by_cases h50 : b - a < 50
        · have h50z : (b : Int) - (a : Int) < 50 := by omega
          go_wp2_with fail
          (try simp only [Exit.inBlock, Exit.then])
          go_ret
          have e : Go.Sort.partialInsertionSort lt d a b = (dk, false) := by unfold Go.Sort.partialInsertionSort; rw [← HO.out, pi_short lt a b s i dk H5.out (by rw [HK.out]; exact hkb) h50]
          rw [e]
          exact ⟨rfl, HA2.out.row, HA2.out.onl⟩
        have h50z : ¬ ((b : Int) - (a : Int) < 50) := by omega
        obtain ⟨w4, hrun, hA4⟩ := HA2.out.swap S HD.out (i := k) (j := k - 1) (by omega) (by omega) (x := (k : Int)) (y := (k : Int) - 1) rfl (by omega)
        obtain ⟨d1, hd1⟩ : ∃ v, v = swp dk k (k - 1) := ⟨_, rfl⟩
        rw [← hd1] at hA4
        have HDd1 := Lib.hid (show d1.size = n by rw [hd1, size_swp]; exact HD.out)
        have HF1 := Lib.hid hd1
        have Hd1 := Lib.hid hA4
        clear hA4 hd1
        go_upto_region 12 with fail
        clear hrun c0 c1 c2 c3 hkz h50z
        go_upto_if 47 with fail
        go_cut [9, 47] from 48 to 66 (fun s q wx => s = s ∧ q = q ∧ ∃ d2 : Array α, d2.size = n ∧ At G blk B (.func (.func g) #[] lb) (.func (.func sf) #[] sb) w d2 wx ∧ Hid (d2 = Go.Sort.fixDown lt a k d1))
        case first =>
          by_cases hc : 2 ≤ k - a
          · have hcz : (2 : Int) ≤ (k : Int) - (a : Int) := by omega
            go_wp2_with fail
            clear hcz
            go_loopw [9] (fun vj wr => ∃ (j : Nat) (dj : Array α), vj = .int .i64 j ∧ j ≤ k - 1 ∧ dj.size = n ∧ At G blk B (.func (.func g) #[] lb) (.func (.func sf) #[] sb) w dj wr ∧ Hid (Go.Sort.shiftDown lt j dj = Go.Sort.shiftDown lt (k - 1) d1)) (fun vj _ => (intOf vj).toNat)
            case atStart => exact ⟨(k - 1), d1, by go_num, by omega, HDd1.out, Hd1.out, rfl⟩
            case round =>
              obtain ⟨j, dj, rfl, hj1, hds, hA, HE⟩ := hrel
              obtain ⟨c0, c1, c2, c3⟩ := hA.cells S
              have HA := Lib.hid hA
              have HD := Lib.hid hds
              clear hA hds
              by_cases hj : 1 ≤ j
              · cases hlv : lt dj[j]! dj[j - 1]! with
                | true =>
                  have hl := HA.out.less S HD.out (i := j) (j := j - 1) (by omega) (by omega) (x := (j : Int)) (y := (j : Int) - 1) rfl (by omega) hlv
                  go_wp2_with (go_at_fn g; refine hl.mono ?_; rintro e w2 ⟨rfl, hA3⟩; obtain ⟨c4, c5, c6, c7⟩ := hA3.cells S; obtain ⟨w3, hrun, hA4⟩ := hA3.swap S HD.out (i := j) (j := j - 1) (by omega) (by omega) (x := (j : Int)) (y := (j : Int) - 1) rfl (by omega))
                  go_roundw
                  case rel => exact ⟨j - 1, swp dj j (j - 1), by go_num, by omega, by rw [size_swp]; exact HD.out, hA4, Lib.hid (by rw [← HE.out, shiftDown_go lt j dj hj hlv])⟩
                  case measure => simp [intOf]; omega
                | false =>
                  have hl := HA.out.less S HD.out (i := j) (j := j - 1) (by omega) (by omega) (x := (j : Int)) (y := (j : Int) - 1) rfl (by omega) hlv
                  go_wp2_with (go_at_fn g; refine hl.mono ?_; rintro e w2 ⟨rfl, hA3⟩)
                  go_meet
                  exact ⟨trivial, trivial, dj, HD.out, hA3, Lib.hid (by unfold Go.Sort.fixDown; rw [if_pos (by omega), ← HE.out, shiftDown_stop lt j dj (Or.inr hlv)])⟩
              · go_wp2_with fail
                go_meet
                exact ⟨trivial, trivial, dj, HD.out, HA.out, Lib.hid (by unfold Go.Sort.fixDown; rw [if_pos (by omega), ← HE.out, shiftDown_stop lt j dj (Or.inl (by omega))])⟩
          · have hcz : ¬ ((2 : Int) ≤ (k : Int) - (a : Int)) := by omega
            go_wp2_with fail
            go_meet
            exact ⟨trivial, trivial, d1, HDd1.out, Hd1.out, Lib.hid (by unfold Go.Sort.fixDown; rw [if_neg (by omega)])⟩
        case rest =>
          obtain ⟨_, _, d2, hds, hA, HFd2⟩ := hcut
          have Hd2 := Lib.hid hA
          have HDd2 := Lib.hid hds
          clear hA hds Hd1
          go_upto_if 70 with fail
          by_cases hc : 2 ≤ b - k
          · have hcz : (2 : Int) ≤ (b : Int) - (k : Int) := by omega
            go_wp2_with fail
            have HC := Lib.hid hc
            clear hcz hc
            go_loopw [10] (fun vj wr => ∃ (j : Nat) (dj : Array α), vj = .int .i64 j ∧ k + 1 ≤ j ∧ j ≤ b ∧ dj.size = n ∧ At G blk B (.func (.func g) #[] lb) (.func (.func sf) #[] sb) w dj wr ∧ Hid (Go.Sort.shiftUp lt b j dj = Go.Sort.shiftUp lt b (k + 1) d2)) (fun vj _ => b - (intOf vj).toNat)
            case atStart => exact ⟨(k + 1), d2, by go_num, by omega, by have := HC.out; omega, HDd2.out, Hd2.out, rfl⟩
            case round =>
              obtain ⟨j, dj, rfl, hj1, hj2, hds, hA, HE⟩ := hrel
              obtain ⟨c0, c1, c2, c3⟩ := hA.cells S
              have HA := Lib.hid hA
              have HD := Lib.hid hds
              clear hA hds
              by_cases hj : j < b
              · cases hlv : lt dj[j]! dj[j - 1]! with
                | true =>
                  have hl := HA.out.less S HD.out (i := j) (j := j - 1) (by omega) (by omega) (x := (j : Int)) (y := (j : Int) - 1) rfl (by omega) hlv
                  go_wp2_with (go_at_fn g; refine hl.mono ?_; rintro e w2 ⟨rfl, hA3⟩; obtain ⟨c4, c5, c6, c7⟩ := hA3.cells S; obtain ⟨w3, hrun, hA4⟩ := hA3.swap S HD.out (i := j) (j := j - 1) (by omega) (by omega) (x := (j : Int)) (y := (j : Int) - 1) rfl (by omega))
                  go_roundw
                  case rel => exact ⟨j + 1, swp dj j (j - 1), by go_num, by omega, by omega, by rw [size_swp]; exact HD.out, hA4, Lib.hid (by rw [← HE.out, shiftUp_go lt b j dj hj hlv])⟩
                  case measure => simp [intOf]; omega
                | false =>
                  have hl := HA.out.less S HD.out (i := j) (j := j - 1) (by omega) (by omega) (x := (j : Int)) (y := (j : Int) - 1) rfl (by omega) hlv
                  go_wp2_with (go_at_fn g; refine hl.mono ?_; rintro e w2 ⟨rfl, hA3⟩)
                  go_roundw
                  case rel => exact ⟨k, s + 1, dj, by first | rfl | go_num, by go_num, by have := H5.out; omega, by omega, by omega, HD.out, hA3, Lib.hid (by rw [← HO.out, pi_go lt a b s i k dk H5.out HK.out hkb h50, ← HF1.out, ← HFd2.out, show Go.Sort.fixUp lt b k d2 = dj by unfold Go.Sort.fixUp; rw [if_pos (by have := HC.out; omega), ← HE.out, shiftUp_stop lt b j dj (Or.inr hlv)]])⟩
                  case measure => have := H5.out; simp [intOf]; omega
              · go_wp2_with fail
                go_roundw
                case rel => exact ⟨k, s + 1, dj, by first | rfl | go_num, by go_num, by have := H5.out; omega, by omega, by omega, HD.out, HA.out, Lib.hid (by rw [← HO.out, pi_go lt a b s i k dk H5.out HK.out hkb h50, ← HF1.out, ← HFd2.out, show Go.Sort.fixUp lt b k d2 = dj by unfold Go.Sort.fixUp; rw [if_pos (by have := HC.out; omega), ← HE.out, shiftUp_stop lt b j dj (Or.inl hj)]])⟩
                case measure => have := H5.out; simp [intOf]; omega
          · have hcz : ¬ ((2 : Int) ≤ (b : Int) - (k : Int)) := by omega
            go_wp2_with fail
            go_roundw
            case rel => exact ⟨k, s + 1, d2, by first | rfl | go_num, by go_num, by have := H5.out; omega, by omega, by omega, HDd2.out, Hd2.out, Lib.hid (by rw [← HO.out, pi_go lt a b s i k dk H5.out HK.out hkb h50, ← HF1.out, ← HFd2.out, show Go.Sort.fixUp lt b k d2 = d2 by unfold Go.Sort.fixUp; rw [if_neg (by omega)]])⟩
            case measure => have := H5.out; simp [intOf]; omega
    · obtain rfl : s = 5 := by omega
      go_wp2_with fail
      (try simp only [Exit.inBlock, Exit.then])
      go_ret
      have e : Go.Sort.partialInsertionSort lt d a b = (dk, false) := by unfold Go.Sort.partialInsertionSort; rw [← HO.out, pi_end lt a b i dk]
      rw [e]
      exact ⟨rfl, HA.out.row, HA.out.onl⟩
end Go.Proofs.YtilcnhdfdgmekaaGreat.SortPins
