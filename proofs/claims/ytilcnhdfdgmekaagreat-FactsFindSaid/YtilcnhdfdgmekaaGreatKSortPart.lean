/- sort.partition_func, with a less that makes memory. -/
import Derived.Test.YtilcnhdfdgmekaaGreatKSortRev
import Derived.Sort.WalkC4
namespace Go.Proofs.YtilcnhdfdgmekaaGreat.SortPart
open Go.RowKit Base SortKit SortIns
open Go.Sort (swp size_swp)
variable {α : Type} [Inhabited α] {lt : α → α → Bool} {g : Nat} {lb : Array Value} {sf : Nat} {sb : Array Value} {n blk : Nat} {G : Array α → World → Prop}
set_option maxHeartbeats 4000000 in
set_option maxRecDepth 100000 in
theorem part_any (S : Srt Tryz.prog lt g lb sf sb n blk G) (a b pivot : Nat) (d : Array α) (w : World) (hG : G d w) (hs : d.size = n) (hap : a ≤ pivot) (hpb : pivot < b) (hb : b ≤ n) :
    Calls Tryz.prog 106 #[LS g lb sf sb, .int .i64 a, .int .i64 b, .int .i64 pivot] w fun e w' => e = .returned (.tuple #[.int .i64 (Go.Sort.partition lt d a b pivot).1, .bool (Go.Sort.partition lt d a b pivot).2.1]) ∧ G (Go.Sort.partition lt d a b pivot).2.2 w' ∧ Onl blk w w' := by
  have h0 := boxed S hG
  have few := S.few
  have eg := S.enter
  obtain ⟨w0, hw0⟩ : ∃ v, v = w.alloc (.cells #[.func (.func g) #[] lb, .func (.func sf) #[] sb] 113) := ⟨_, rfl⟩
  obtain ⟨B, hB⟩ : ∃ v, v = w.heap.size := ⟨_, rfl⟩
  rw [← hw0, ← hB] at h0
  have HW := Lib.hid hw0
  have HB := Lib.hid hB
  have HS := Lib.hid hs
  clear hw0 hB hs hG
  go_enter Tryz.func106, Tryz.ntmps106
  go_upto_region 1 with fail
  rw [← HW.out, ← HB.out]
  obtain ⟨w4, hrun, hA⟩ := h0.swap S HS.out (i := a) (j := pivot) (by omega) (by omega) (x := (a : Int)) (y := (pivot : Int)) rfl rfl
  obtain ⟨c0, c1, c2, c3⟩ := h0.cells S
  obtain ⟨d1, hd1⟩ : ∃ v, v = swp d a pivot := ⟨_, rfl⟩
  rw [← hd1] at hA
  have HD := Lib.hid (show d1.size = n by rw [hd1, size_swp]; exact HS.out)
  have HD1 := Lib.hid hd1
  have HA := Lib.hid hA
  clear hA h0 hd1
  go_upto_block 0 with fail
  go_cut [10] from 21 to 32 (fun s wx => ∃ i2 : Nat, s = .int .i64 i2 ∧ (a + 1) ≤ i2 ∧ i2 ≤ (b - 1) + 1 ∧ At G blk B (.func (.func g) #[] lb) (.func (.func sf) #[] sb) w d1 wx ∧ Hid (i2 = Go.Sort.scanUp (fun x => lt x d1[a]!) d1 (b - 1) (a + 1)))
  case first =>
    go_wp2_with fail
    go_loopw [10] (fun vi wr => ∃ k' : Nat, vi = .int .i64 k' ∧ (a + 1) ≤ k' ∧ k' ≤ (b - 1) + 1 ∧ At G blk B (.func (.func g) #[] lb) (.func (.func sf) #[] sb) w d1 wr ∧ Hid (Go.Sort.scanUp (fun x => lt x d1[a]!) d1 (b - 1) k' = Go.Sort.scanUp (fun x => lt x d1[a]!) d1 (b - 1) (a + 1))) (fun vi _ => (b - 1) + 1 - (intOf vi).toNat)
    case atStart => exact ⟨(a + 1), by go_num, by omega, by omega, HA.out, rfl⟩
    case round =>
      obtain ⟨k', rfl, hk1, hk2, hA, HE⟩ := hrel
      obtain ⟨c0, c1, c2, c3⟩ := hA.cells S
      have HA2 := Lib.hid hA
      clear hA
      by_cases hle : k' ≤ (b - 1)
      · cases hlv : lt d1[k']! d1[a]! with
        | true =>
          have hl := HA2.out.less S HD.out (i := k') (j := a) (by omega) (by omega) (x := ((k' : Nat) : Int)) (y := ((a : Nat) : Int)) rfl rfl hlv
          go_wp2_with (go_at_fn g; refine hl.mono ?_; rintro e w2 ⟨rfl, hA3⟩)
          go_roundw
          case rel => exact ⟨k' + 1, by go_num, by omega, by omega, hA3, Lib.hid ((scanUp_go (fun x => lt x d1[a]!) d1 (b - 1) k' hle (by simp [hlv])).symm.trans HE.out)⟩
          case measure => simp [intOf]; omega
        | false =>
          have hl := HA2.out.less S HD.out (i := k') (j := a) (by omega) (by omega) (x := ((k' : Nat) : Int)) (y := ((a : Nat) : Int)) rfl rfl hlv
          go_wp2_with (go_at_fn g; refine hl.mono ?_; rintro e w2 ⟨rfl, hA3⟩)
          go_meet
          exact ⟨k', rfl, by omega, by omega, hA3, Lib.hid (by rw [← HE.out, scanUp_end (fun x => lt x d1[a]!) d1 (b - 1) k' (Or.inr (by simp [hlv]))])⟩
      · go_wp2_with fail
        go_meet
        exact ⟨k', rfl, by omega, by omega, HA2.out, Lib.hid (by rw [← HE.out, scanUp_end (fun x => lt x d1[a]!) d1 (b - 1) k' (Or.inl hle)])⟩
  case rest =>
    obtain ⟨i2, rfl, hi2a, hi2b, hA, Hi2⟩ := hcut
    clear HA
    clear c0 c1 c2 c3 hrun
    have HB2 := Lib.hid hA
    clear hA
    go_upto_block 2 with fail
    go_cut [11] from 33 to 45 (fun s wx => ∃ j2 : Nat, s = .int .i64 j2 ∧ j2 ≤ (b - 1) ∧ i2 ≤ j2 + 1 ∧ At G blk B (.func (.func g) #[] lb) (.func (.func sf) #[] sb) w d1 wx ∧ Hid (j2 = Go.Sort.scanDown (fun x => !lt x d1[a]!) d1 i2 (b - 1)))
    case first =>
      go_wp2_with fail
      go_loopw [11] (fun vi wr => ∃ k' : Nat, vi = .int .i64 k' ∧ k' ≤ (b - 1) ∧ i2 ≤ k' + 1 ∧ At G blk B (.func (.func g) #[] lb) (.func (.func sf) #[] sb) w d1 wr ∧ Hid (Go.Sort.scanDown (fun x => !lt x d1[a]!) d1 i2 k' = Go.Sort.scanDown (fun x => !lt x d1[a]!) d1 i2 (b - 1))) (fun vi _ => (intOf vi).toNat)
      case atStart => exact ⟨(b - 1), by go_num, by omega, by omega, HB2.out, rfl⟩
      case round =>
        obtain ⟨k', rfl, hk1, hk2, hA, HE⟩ := hrel
        obtain ⟨c0, c1, c2, c3⟩ := hA.cells S
        have HA2 := Lib.hid hA
        clear hA
        by_cases hle : i2 ≤ k'
        · cases hlv : lt d1[k']! d1[a]! with
          | false =>
            have hl := HA2.out.less S HD.out (i := k') (j := a) (by omega) (by omega) (x := ((k' : Nat) : Int)) (y := ((a : Nat) : Int)) rfl rfl hlv
            go_wp2_with (go_at_fn g; refine hl.mono ?_; rintro e w2 ⟨rfl, hA3⟩)
            go_roundw
            case rel => exact ⟨k' - 1, by go_num, by omega, by omega, hA3, Lib.hid ((scanDown_go (fun x => !lt x d1[a]!) d1 i2 k' hle (by omega) (by simp [hlv])).symm.trans HE.out)⟩
            case measure => simp [intOf]; omega
          | true =>
            have hl := HA2.out.less S HD.out (i := k') (j := a) (by omega) (by omega) (x := ((k' : Nat) : Int)) (y := ((a : Nat) : Int)) rfl rfl hlv
            go_wp2_with (go_at_fn g; refine hl.mono ?_; rintro e w2 ⟨rfl, hA3⟩)
            go_meet
            exact ⟨k', rfl, by omega, by omega, hA3, Lib.hid (by rw [← HE.out, scanDown_end (fun x => !lt x d1[a]!) d1 i2 k' (Or.inr (by simp [hlv]))])⟩
        · go_wp2_with fail
          go_meet
          exact ⟨k', rfl, by omega, by omega, HA2.out, Lib.hid (by rw [← HE.out, scanDown_end (fun x => !lt x d1[a]!) d1 i2 k' (Or.inl hle)])⟩
    case rest =>
      obtain ⟨j2, rfl, hj2a, hj2b, hA, Hj2⟩ := hcut
      clear HB2
      obtain ⟨c0, c1, c2, c3⟩ := hA.cells S
      have HA := Lib.hid hA
      clear hA
      by_cases hle : i2 ≤ j2
      rotate_left
      · have e := part_first_break lt d a b pivot rfl rfl HD1.out Hi2.out Hj2.out (by omega)
        have HE := Lib.hid e
        clear e
        obtain ⟨w5, hrun, hA5⟩ := HA.out.swap S HD.out (i := j2) (j := a) (by omega) (by omega) (x := (j2 : Int)) (y := (a : Int)) rfl rfl
        go_wp2
        (try simp only [Exit.inBlock, Exit.then])
        go_ret2
        rw [HE.out]
        exact ⟨rfl, hA5.row, hA5.onl⟩
      have e := part_first_go lt d a b pivot rfl rfl HD1.out Hi2.out Hj2.out (by omega)
      have hlt3 := part_scans_lt lt a (a + 1) (b - 1) d1 (by omega) Hi2.out Hj2.out hle
      have HE := Lib.hid e
      clear e
      obtain ⟨w5, hrun, hA5⟩ := HA.out.swap S HD.out (i := i2) (j := j2) (by omega) (by omega) (x := (i2 : Int)) (y := (j2 : Int)) rfl rfl
      have HA5 := Lib.hid hA5
      clear hA5 HA
      have HBB := Lib.hid (And.intro hi2a (And.intro hi2b (And.intro hj2a (And.intro hj2b hlt3))))
      go_upto_block 4 with fail
      clear hrun c0 c1 c2 c3 hle hlt3 hi2a hi2b hj2a hj2b
      rename ¬j2 < i2 => hz
      clear hz
      go_wp2
      go_loopw [10, 11] (fun vi vj wr => ∃ (i j : Nat) (dk : Array α), vi = .int .i64 i ∧ vj = .int .i64 j ∧ a < i ∧ i ≤ j + 1 ∧ j < b ∧ dk.size = n ∧ At G blk B (.func (.func g) #[] lb) (.func (.func sf) #[] sb) w dk wr ∧ Hid (Go.Sort.partLoop lt a i j dk = Go.Sort.partLoop lt a (i2 + 1) (j2 - 1) (swp d1 i2 j2)))
        (fun vi vj _ => (intOf vj).toNat + 1 - (intOf vi).toNat)
      case atStart => exact ⟨i2 + 1, j2 - 1, swp d1 i2 j2, by go_num, by have := HBB.out; go_num, by have := HBB.out; omega, by have := HBB.out; omega, by have := HBB.out; omega, by rw [size_swp]; exact HD.out, HA5.out, rfl⟩
      case round =>
        obtain ⟨i, j, dk, rfl, rfl, hai, hij, hjb, hds, hA, HO⟩ := hrel
        have HA := Lib.hid hA
        have HDK := Lib.hid hds
        clear hA hds HA5
        go_upto_block 6 with fail
        go_cut [10] from 64 to 75 (fun s wx => ∃ i3 : Nat, s = .int .i64 i3 ∧ i ≤ i3 ∧ i3 ≤ j + 1 ∧ At G blk B (.func (.func g) #[] lb) (.func (.func sf) #[] sb) w dk wx ∧ Hid (i3 = Go.Sort.scanUp (fun x => lt x dk[a]!) dk j i))
        case first =>
          go_wp2_with fail
          go_loopw [10] (fun vi wr => ∃ k' : Nat, vi = .int .i64 k' ∧ i ≤ k' ∧ k' ≤ j + 1 ∧ At G blk B (.func (.func g) #[] lb) (.func (.func sf) #[] sb) w dk wr ∧ Hid (Go.Sort.scanUp (fun x => lt x dk[a]!) dk j k' = Go.Sort.scanUp (fun x => lt x dk[a]!) dk j i)) (fun vi _ => j + 1 - (intOf vi).toNat)
          case atStart => exact ⟨i, rfl, by omega, by omega, HA.out, rfl⟩
          case round =>
            obtain ⟨k', rfl, hk1, hk2, hA, HE⟩ := hrel
            obtain ⟨c0, c1, c2, c3⟩ := hA.cells S
            have HA2 := Lib.hid hA
            clear hA
            by_cases hle : k' ≤ j
            · cases hlv : lt dk[k']! dk[a]! with
              | true =>
                have hl := HA2.out.less S HDK.out (i := k') (j := a) (by omega) (by omega) (x := ((k' : Nat) : Int)) (y := ((a : Nat) : Int)) rfl rfl hlv
                go_wp2_with (go_at_fn g; refine hl.mono ?_; rintro e w2 ⟨rfl, hA3⟩)
                go_roundw
                case rel => exact ⟨k' + 1, by go_num, by omega, by omega, hA3, Lib.hid ((scanUp_go (fun x => lt x dk[a]!) dk j k' hle (by simp [hlv])).symm.trans HE.out)⟩
                case measure => simp [intOf]; omega
              | false =>
                have hl := HA2.out.less S HDK.out (i := k') (j := a) (by omega) (by omega) (x := ((k' : Nat) : Int)) (y := ((a : Nat) : Int)) rfl rfl hlv
                go_wp2_with (go_at_fn g; refine hl.mono ?_; rintro e w2 ⟨rfl, hA3⟩)
                go_meet
                exact ⟨k', rfl, by omega, by omega, hA3, Lib.hid (by rw [← HE.out, scanUp_end (fun x => lt x dk[a]!) dk j k' (Or.inr (by simp [hlv]))])⟩
            · go_wp2_with fail
              go_meet
              exact ⟨k', rfl, by omega, by omega, HA2.out, Lib.hid (by rw [← HE.out, scanUp_end (fun x => lt x dk[a]!) dk j k' (Or.inl hle)])⟩
        case rest =>
          obtain ⟨i3, rfl, hi3a, hi3b, hA, Hi3⟩ := hcut
          clear HA
          have HB3 := Lib.hid hA
          clear hA
          go_upto_block 8 with fail
          go_cut [11] from 76 to 88 (fun s wx => ∃ j3 : Nat, s = .int .i64 j3 ∧ j3 ≤ j ∧ i3 ≤ j3 + 1 ∧ At G blk B (.func (.func g) #[] lb) (.func (.func sf) #[] sb) w dk wx ∧ Hid (j3 = Go.Sort.scanDown (fun x => !lt x dk[a]!) dk i3 j))
          case first =>
            go_wp2_with fail
            go_loopw [11] (fun vi wr => ∃ k' : Nat, vi = .int .i64 k' ∧ k' ≤ j ∧ i3 ≤ k' + 1 ∧ At G blk B (.func (.func g) #[] lb) (.func (.func sf) #[] sb) w dk wr ∧ Hid (Go.Sort.scanDown (fun x => !lt x dk[a]!) dk i3 k' = Go.Sort.scanDown (fun x => !lt x dk[a]!) dk i3 j)) (fun vi _ => (intOf vi).toNat)
            case atStart => exact ⟨j, rfl, by omega, by omega, HB3.out, rfl⟩
            case round =>
              obtain ⟨k', rfl, hk1, hk2, hA, HE⟩ := hrel
              obtain ⟨c0, c1, c2, c3⟩ := hA.cells S
              have HA2 := Lib.hid hA
              clear hA
              by_cases hle : i3 ≤ k'
              · cases hlv : lt dk[k']! dk[a]! with
                | false =>
                  have hl := HA2.out.less S HDK.out (i := k') (j := a) (by omega) (by omega) (x := ((k' : Nat) : Int)) (y := ((a : Nat) : Int)) rfl rfl hlv
                  go_wp2_with (go_at_fn g; refine hl.mono ?_; rintro e w2 ⟨rfl, hA3⟩)
                  go_roundw
                  case rel => exact ⟨k' - 1, by go_num, by omega, by omega, hA3, Lib.hid ((scanDown_go (fun x => !lt x dk[a]!) dk i3 k' hle (by omega) (by simp [hlv])).symm.trans HE.out)⟩
                  case measure => simp [intOf]; omega
                | true =>
                  have hl := HA2.out.less S HDK.out (i := k') (j := a) (by omega) (by omega) (x := ((k' : Nat) : Int)) (y := ((a : Nat) : Int)) rfl rfl hlv
                  go_wp2_with (go_at_fn g; refine hl.mono ?_; rintro e w2 ⟨rfl, hA3⟩)
                  go_meet
                  exact ⟨k', rfl, by omega, by omega, hA3, Lib.hid (by rw [← HE.out, scanDown_end (fun x => !lt x dk[a]!) dk i3 k' (Or.inr (by simp [hlv]))])⟩
              · go_wp2_with fail
                go_meet
                exact ⟨k', rfl, by omega, by omega, HA2.out, Lib.hid (by rw [← HE.out, scanDown_end (fun x => !lt x dk[a]!) dk i3 k' (Or.inl hle)])⟩
          case rest =>
            obtain ⟨j3, rfl, hj3a, hj3b, hA, Hj3⟩ := hcut
            clear HB3
            obtain ⟨c0, c1, c2, c3⟩ := hA.cells S
            have HA := Lib.hid hA
            clear hA
            by_cases hle3 : i3 ≤ j3
            · have hlt3 := part_scans_lt lt a i j dk (by omega) Hi3.out Hj3.out hle3
              obtain ⟨w6, hrun, hA5⟩ := HA.out.swap S HDK.out (i := i3) (j := j3) (by omega) (by omega) (x := (i3 : Int)) (y := (j3 : Int)) rfl rfl
              go_wp2
              go_roundw
              case rel => exact ⟨i3 + 1, j3 - 1, swp dk i3 j3, by go_num, by go_num, by omega, by omega, by omega, by rw [size_swp]; exact HDK.out, hA5, Lib.hid (by rw [← HO.out]; exact (part_go lt a i j dk Hi3.out Hj3.out (by omega)).symm)⟩
              case measure => simp [intOf]; omega
            · obtain ⟨w6, hrun, hA5⟩ := HA.out.swap S HDK.out (i := j3) (j := a) (by omega) (by omega) (x := (j3 : Int)) (y := (a : Int)) rfl rfl
              go_wp2
              (try simp only [Exit.inBlock, Exit.then])
              go_ret2
              have e := (part_break lt a i j dk Hi3.out Hj3.out (by omega)).symm.trans HO.out
              rw [HE.out, ← e]
              exact ⟨rfl, hA5.row, hA5.onl⟩
end Go.Proofs.YtilcnhdfdgmekaaGreat.SortPart
