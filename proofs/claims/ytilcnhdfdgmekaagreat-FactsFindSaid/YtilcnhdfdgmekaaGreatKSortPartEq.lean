/- sort.partitionEqual_func, with a less that makes memory. -/
import Derived.Test.YtilcnhdfdgmekaaGreatKSortRev
import Derived.Sort.WalkC
namespace Go.Proofs.YtilcnhdfdgmekaaGreat.SortPartEq
open Go.RowKit Base SortKit SortIns
open Go.Sort (swp size_swp)
variable {α : Type} [Inhabited α] {lt : α → α → Bool} {g : Nat} {lb : Array Value} {sf : Nat} {sb : Array Value} {n blk : Nat} {G : Array α → World → Prop}
set_option maxHeartbeats 2000000 in
set_option maxRecDepth 100000 in
theorem partEq_any (S : Srt Tryz.prog lt g lb sf sb n blk G) (a b pivot : Nat) (d : Array α) (w : World) (hG : G d w) (hs : d.size = n) (hap : a ≤ pivot) (hpb : pivot < b) (hb : b ≤ n) :
    Calls Tryz.prog 105 #[LS g lb sf sb, .int .i64 a, .int .i64 b, .int .i64 pivot] w fun e w' => e = .returned (.int .i64 (Go.Sort.partitionEqual lt d a b pivot).1) ∧ G (Go.Sort.partitionEqual lt d a b pivot).2 w' ∧ Onl blk w w' := by
  have h0 := boxed S hG
  have few := S.few
  have eg := S.enter
  obtain ⟨w0, hw0⟩ : ∃ v, v = w.alloc (.cells #[.func (.func g) #[] lb, .func (.func sf) #[] sb] 113) := ⟨_, rfl⟩
  obtain ⟨B, hB⟩ : ∃ v, v = w.heap.size := ⟨_, rfl⟩
  rw [← hw0, ← hB] at h0
  have HW := Lib.hid hw0
  have HB := Lib.hid hB
  have HS := Lib.hid hs
  clear hw0 hB hs hG
  go_enter Tryz.func105, Tryz.ntmps105
  go_upto_region 1 with fail
  rw [← HW.out, ← HB.out]
  obtain ⟨w4, hrun, hA4⟩ := h0.swap S HS.out (i := a) (j := pivot) (by omega) (by omega) (x := (a : Int)) (y := (pivot : Int)) rfl rfl
  obtain ⟨c0, c1, c2, c3⟩ := h0.cells S
  have HA4 := Lib.hid hA4
  clear hA4 h0
  go_wp2
  go_loopw [9, 10] (fun vi vj wr => ∃ (i j : Nat) (dk : Array α), vi = .int .i64 i ∧ vj = .int .i64 j ∧ a < i ∧ i ≤ j + 1 ∧ j < b ∧ dk.size = n ∧ At G blk B (.func (.func g) #[] lb) (.func (.func sf) #[] sb) w dk wr ∧ Hid (Go.Sort.partEqLoop lt a i j dk = Go.Sort.partEqLoop lt a (a + 1) (b - 1) (swp d a pivot)))
    (fun vi vj _ => (intOf vj).toNat + 1 - (intOf vi).toNat)
  case atStart => exact ⟨a + 1, b - 1, swp d a pivot, by go_num, by go_num, by omega, by omega, by omega, by rw [size_swp]; exact HS.out, HA4.out, rfl⟩
  case round =>
    obtain ⟨i, j, dk, rfl, rfl, hai, hij, hjb, hds, hA, HO⟩ := hrel
    have HA := Lib.hid hA
    have HD := Lib.hid hds
    clear hA hds HA4 c0 c1 c2 c3
    go_upto_block 2 with fail
    go_cut [9] from 20 to 32 (fun s wx => ∃ i2 : Nat, s = .int .i64 i2 ∧ i ≤ i2 ∧ i2 ≤ j + 1 ∧ At G blk B (.func (.func g) #[] lb) (.func (.func sf) #[] sb) w dk wx ∧ Hid (i2 = Go.Sort.scanUp (fun x => !lt dk[a]! x) dk j i))
    case first =>
      go_wp2_with fail
      go_loopw [9] (fun vi wr => ∃ k' : Nat, vi = .int .i64 k' ∧ i ≤ k' ∧ k' ≤ j + 1 ∧ At G blk B (.func (.func g) #[] lb) (.func (.func sf) #[] sb) w dk wr ∧ Hid (Go.Sort.scanUp (fun x => !lt dk[a]! x) dk j k' = Go.Sort.scanUp (fun x => !lt dk[a]! x) dk j i)) (fun vi _ => j + 1 - (intOf vi).toNat)
      case atStart => exact ⟨i, rfl, by omega, by omega, HA.out, rfl⟩
      case round =>
        obtain ⟨k', rfl, hk1, hk2, hA, HE⟩ := hrel
        obtain ⟨c0, c1, c2, c3⟩ := hA.cells S
        have HA2 := Lib.hid hA
        clear hA
        by_cases hle : k' ≤ j
        · cases hlv : lt dk[a]! dk[k']! with
          | false =>
            have hl := HA2.out.less S HD.out (i := a) (j := k') (by omega) (by omega) (x := ((a : Nat) : Int)) (y := ((k' : Nat) : Int)) rfl rfl hlv
            go_wp2_with (go_at_fn g; refine hl.mono ?_; rintro e w2 ⟨rfl, hA3⟩)
            go_roundw
            case rel => exact ⟨k' + 1, by go_num, by omega, by omega, hA3, Lib.hid ((scanUp_go (fun x => !lt dk[a]! x) dk j k' hle (by simp [hlv])).symm.trans HE.out)⟩
            case measure => simp [intOf]; omega
          | true =>
            have hl := HA2.out.less S HD.out (i := a) (j := k') (by omega) (by omega) (x := ((a : Nat) : Int)) (y := ((k' : Nat) : Int)) rfl rfl hlv
            go_wp2_with (go_at_fn g; refine hl.mono ?_; rintro e w2 ⟨rfl, hA3⟩)
            go_meet
            exact ⟨k', rfl, by omega, by omega, hA3, Lib.hid (by rw [← HE.out, scanUp_end (fun x => !lt dk[a]! x) dk j k' (Or.inr (by simp [hlv]))])⟩
        · go_wp2_with fail
          go_meet
          exact ⟨k', rfl, by omega, by omega, HA2.out, Lib.hid (by rw [← HE.out, scanUp_end (fun x => !lt dk[a]! x) dk j k' (Or.inl hle)])⟩
    case rest =>
      obtain ⟨i2, rfl, hi2a, hi2b, hA, Hi2⟩ := hcut
      clear HA
      have HB2 := Lib.hid hA
      clear hA
      go_upto_block 4 with fail
      go_cut [10] from 33 to 44 (fun s wx => ∃ j2 : Nat, s = .int .i64 j2 ∧ j2 ≤ j ∧ i2 ≤ j2 + 1 ∧ At G blk B (.func (.func g) #[] lb) (.func (.func sf) #[] sb) w dk wx ∧ Hid (j2 = Go.Sort.scanDown (fun x => lt dk[a]! x) dk i2 j))
      case first =>
        go_wp2_with fail
        go_loopw [10] (fun vi wr => ∃ k' : Nat, vi = .int .i64 k' ∧ k' ≤ j ∧ i2 ≤ k' + 1 ∧ At G blk B (.func (.func g) #[] lb) (.func (.func sf) #[] sb) w dk wr ∧ Hid (Go.Sort.scanDown (fun x => lt dk[a]! x) dk i2 k' = Go.Sort.scanDown (fun x => lt dk[a]! x) dk i2 j)) (fun vi _ => (intOf vi).toNat)
        case atStart => exact ⟨j, rfl, by omega, by omega, HB2.out, rfl⟩
        case round =>
          obtain ⟨k', rfl, hk1, hk2, hA, HE⟩ := hrel
          obtain ⟨c0, c1, c2, c3⟩ := hA.cells S
          have HA2 := Lib.hid hA
          clear hA
          by_cases hle : i2 ≤ k'
          · cases hlv : lt dk[a]! dk[k']! with
            | true =>
              have hl := HA2.out.less S HD.out (i := a) (j := k') (by omega) (by omega) (x := ((a : Nat) : Int)) (y := ((k' : Nat) : Int)) rfl rfl hlv
              go_wp2_with (go_at_fn g; refine hl.mono ?_; rintro e w2 ⟨rfl, hA3⟩)
              go_roundw
              case rel => exact ⟨k' - 1, by go_num, by omega, by omega, hA3, Lib.hid ((scanDown_go (fun x => lt dk[a]! x) dk i2 k' hle (by omega) (by simp [hlv])).symm.trans HE.out)⟩
              case measure => simp [intOf]; omega
            | false =>
              have hl := HA2.out.less S HD.out (i := a) (j := k') (by omega) (by omega) (x := ((a : Nat) : Int)) (y := ((k' : Nat) : Int)) rfl rfl hlv
              go_wp2_with (go_at_fn g; refine hl.mono ?_; rintro e w2 ⟨rfl, hA3⟩)
              go_meet
              exact ⟨k', rfl, by omega, by omega, hA3, Lib.hid (by rw [← HE.out, scanDown_end (fun x => lt dk[a]! x) dk i2 k' (Or.inr (by simp [hlv]))])⟩
          · go_wp2_with fail
            go_meet
            exact ⟨k', rfl, by omega, by omega, HA2.out, Lib.hid (by rw [← HE.out, scanDown_end (fun x => lt dk[a]! x) dk i2 k' (Or.inl hle)])⟩
      case rest =>
        obtain ⟨j2, rfl, hj2a, hj2b, hA, Hj2⟩ := hcut
        clear HB2
        obtain ⟨c0, c1, c2, c3⟩ := hA.cells S
        have HA := Lib.hid hA
        clear hA
        by_cases hle : i2 ≤ j2
        · have hlt3 := scans_lt lt a i j dk (by omega) Hi2.out Hj2.out hle
          obtain ⟨w5, hrun, hA5⟩ := HA.out.swap S HD.out (i := i2) (j := j2) (by omega) (by omega) (x := (i2 : Int)) (y := (j2 : Int)) rfl rfl
          go_wp2
          go_roundw
          case rel => exact ⟨i2 + 1, j2 - 1, swp dk i2 j2, by go_num, by go_num, by omega, by omega, by omega, by rw [size_swp]; exact HD.out, hA5, Lib.hid (by rw [← HO.out]; exact (partEq_go lt a i j dk Hi2.out Hj2.out (by omega)).symm)⟩
          case measure => simp [intOf]; omega
        · go_wp2
          go_ret
          have e := (partEq_break lt a i j dk Hi2.out Hj2.out (by omega)).symm.trans HO.out
          exact ⟨by unfold Go.Sort.partitionEqual; rw [← e]; rfl, by unfold Go.Sort.partitionEqual; rw [← e]; exact HA.out.row, HA.out.onl⟩
end Go.Proofs.YtilcnhdfdgmekaaGreat.SortPartEq
