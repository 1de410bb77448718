/- SortIns, SortRev. -/
import Derived.Test.YtilcnhdfdgmekaaGreatChecked
import Derived.Test.YtilcnhdfdgmekaaGreatKSortKit
import Derived.Deep.CutBlock
import Derived.Shelf.Abstract
import Derived.Sort.WalkA
namespace Go.Proofs.YtilcnhdfdgmekaaGreat.SortIns
open Go.RowKit Base SortKit
open Go.Sort (swp size_swp insInner insOuter)
variable {α : Type} [Inhabited α] {lt : α → α → Bool} {g : Nat} {lb : Array Value} {sf : Nat} {sb : Array Value} {n blk : Nat} {G : Array α → World → Prop}

abbrev LS (g : Nat) (lb : Array Value) (sf : Nat) (sb : Array Value) : Value := .agg #[.func (.func g) #[] lb, .func (.func sf) #[] sb]
/-- the box that a function lays its pair in -/
theorem boxed (S : Srt Tryz.prog lt g lb sf sb n blk G) {d : Array α} {w : World} (hG : G d w) : At G blk w.heap.size (.func (.func g) #[] lb) (.func (.func sf) #[] sb) w d (w.alloc (.cells #[.func (.func g) #[] lb, .func (.func sf) #[] sb] 113)) :=
  have hb : Below w.heap.size w (w.alloc (.cells #[.func (.func g) #[] lb, .func (.func sf) #[] sb] 113)) := (Below.refl _ _).alloc (Nat.le_refl _) _
  ⟨S.below _ _ _ hG hb, .ofBelow hb, Nat.ne_of_gt (S.inb _ _ hG), by simp, by simp, by simp⟩
set_option maxHeartbeats 2000000 in
set_option maxRecDepth 100000 in
theorem ins_any (S : Srt Tryz.prog lt g lb sf sb n blk G) (a b : Nat) (d : Array α) (w : World) (hG : G d w) (hs : d.size = n) (hab : a ≤ b) (hb : b ≤ n) :
    Calls Tryz.prog 99 #[LS g lb sf sb, .int .i64 a, .int .i64 b] w fun e w' => e = .returned (.tuple #[]) ∧ G (Go.Sort.insertionSort lt d a b) w' ∧ Onl blk w w' := by
  have h0 := boxed S hG
  have few := S.few
  have eg := S.enter
  obtain ⟨w0, hw0⟩ : ∃ v, v = w.alloc (.cells #[.func (.func g) #[] lb, .func (.func sf) #[] sb] 113) := ⟨_, rfl⟩
  obtain ⟨B, hB⟩ : ∃ v, v = w.heap.size := ⟨_, rfl⟩
  rw [← hw0, ← hB] at h0
  have HW := Lib.hid hw0
  have HB := Lib.hid hB
  have HS := Lib.hid hs
  clear hw0 hB hs hG
  go_enter Tryz.func99, Tryz.ntmps99
  go_upto_region 1 with fail
  rw [← HW.out, ← HB.out]
  go_wp2
  go_loopw [6] (fun vi wr => ∃ (i : Nat) (dk : Array α), vi = .int .i64 i ∧ a < i ∧ i ≤ b + 1 ∧ dk.size = n ∧ At G blk B (.func (.func g) #[] lb) (.func (.func sf) #[] sb) w dk wr ∧
      insOuter lt a b i dk = insOuter lt a b (a + 1) d) (fun vi _ => b + 1 - (intOf vi).toNat)
  case atStart => exact ⟨a + 1, d, by go_num, by omega, by omega, HS.out, h0, rfl⟩
  case round =>
    obtain ⟨i, dk, rfl, hai, hib, hsk, hA, hO⟩ := hrel
    have HO := Lib.hid hO
    have HSK := Lib.hid hsk
    clear hO hsk h0
    go_wp2
    · rename i < b => hlt
      have HLT := Lib.hid hlt
      clear hlt
      go_loopw [7] (fun vj wr2 => ∃ (j : Nat) (dj : Array α), vj = .int .i64 j ∧ a ≤ j ∧ j ≤ i ∧ dj.size = n ∧ At G blk B (.func (.func g) #[] lb) (.func (.func sf) #[] sb) w dj wr2 ∧
          insInner lt a j dj = insInner lt a i dk) (fun vj _ => (intOf vj).toNat)
      case atStart => exact ⟨i, dk, rfl, by omega, Nat.le_refl _, HSK.out, hA, rfl⟩
      case round =>
        obtain ⟨j, dj, rfl, haj, hji, hsj, hA2, hI⟩ := hrel
        obtain ⟨c0, c1, c2, c3⟩ := hA2.cells S
        have HI := Lib.hid hI
        have HSJ := Lib.hid hsj
        have HA2 := Lib.hid hA2
        clear hI hsj hA2 hA
        by_cases hja : a < j
        · cases hlv : lt dj[j]! dj[j - 1]! with
          | true =>
            have hl := HA2.out.less S HSJ.out (i := j) (j := j - 1) (by have := HLT.out; omega) (by have := HLT.out; omega) (x := (j : Int)) (y := (j : Int) - 1) rfl (by omega) hlv
            go_wp2_with (go_at_fn g; refine hl.mono ?_; rintro e w2 ⟨rfl, hA3⟩; obtain ⟨c4, c5, c6, c7⟩ := hA3.cells S; obtain ⟨w3, hrun, hA4⟩ := hA3.swap S HSJ.out (i := j) (j := j - 1) (by have := HLT.out; omega) (by have := HLT.out; omega) (x := (j : Int)) (y := (j : Int) - 1) rfl (by omega))
            go_roundw
            case rel => exact ⟨j - 1, swp dj j (j - 1), by go_num, by omega, by omega, by rw [size_swp]; exact HSJ.out, hA4, by rw [← HI.out, insInner_go lt a j dj hja hlv]⟩
            case measure => have := HLT.out; simp [intOf]; omega
          | false =>
            have hl := HA2.out.less S HSJ.out (i := j) (j := j - 1) (by have := HLT.out; omega) (by have := HLT.out; omega) (x := (j : Int)) (y := (j : Int) - 1) rfl (by omega) hlv
            go_wp2_with (go_at_fn g; refine hl.mono ?_; rintro e w2 ⟨rfl, hA3⟩)
            go_roundw
            case rel => exact ⟨i + 1, dj, by go_num, by omega, by have := HLT.out; omega, HSJ.out, hA3, by rw [← HO.out, insOuter_go _ _ _ _ _ HLT.out, ← HI.out, insInner_stop _ _ _ _ (Or.inr hlv)]⟩
            case measure => have := HLT.out; simp [intOf]; omega
        · go_wp2
          go_roundw
          case rel => exact ⟨i + 1, dj, by go_num, by omega, by have := HLT.out; omega, HSJ.out, HA2.out, by rw [← HO.out, insOuter_go _ _ _ _ _ HLT.out, ← HI.out, insInner_stop _ _ _ _ (Or.inl (by omega))]⟩
          case measure => have := HLT.out; simp [intOf]; omega
    · have hge : ¬ i < b := by assumption
      go_end0
      exact ⟨rfl, by unfold Go.Sort.insertionSort; rw [← HO.out, insOuter_stop _ _ _ _ _ hge]; exact hA.row, hA.onl⟩
end Go.Proofs.YtilcnhdfdgmekaaGreat.SortIns
namespace Go.Proofs.YtilcnhdfdgmekaaGreat.SortRev
open Go.RowKit Base SortKit SortIns
open Go.Sort (swp size_swp)
variable {α : Type} [Inhabited α] {lt : α → α → Bool} {g : Nat} {lb : Array Value} {sf : Nat} {sb : Array Value} {n blk : Nat} {G : Array α → World → Prop}
set_option maxHeartbeats 2000000 in
set_option maxRecDepth 100000 in
theorem rev_any (S : Srt Tryz.prog lt g lb sf sb n blk G) (a b : Nat) (d : Array α) (w : World) (hG : G d w) (hs : d.size = n) (hab : a < b) (hb : b ≤ n) :
    Calls Tryz.prog 103 #[LS g lb sf sb, .int .i64 a, .int .i64 b] w fun e w' => e = .returned (.tuple #[]) ∧ G (Go.Sort.reverseRange d a b) w' ∧ Onl blk w w' := by
  have h0 := boxed S hG
  have few := S.few
  have eg := S.enter
  obtain ⟨w0, hw0⟩ : ∃ v, v = w.alloc (.cells #[.func (.func g) #[] lb, .func (.func sf) #[] sb] 113) := ⟨_, rfl⟩
  obtain ⟨B, hB⟩ : ∃ v, v = w.heap.size := ⟨_, rfl⟩
  rw [← hw0, ← hB] at h0
  have HW := Lib.hid hw0
  have HB := Lib.hid hB
  have HS := Lib.hid hs
  clear hw0 hB hs hG
  go_enter Tryz.func103, Tryz.ntmps103
  go_upto_region 1 with fail
  rw [← HW.out, ← HB.out]
  go_wp2
  go_loopw [6, 7] (fun vi vj wr => ∃ (i j : Nat) (dk : Array α), vi = .int .i64 i ∧ vj = .int .i64 j ∧ a ≤ i ∧ i ≤ j + 1 ∧ j < b ∧ dk.size = n ∧ At G blk B (.func (.func g) #[] lb) (.func (.func sf) #[] sb) w dk wr ∧ Hid (Go.Sort.reverseLoop i j dk = Go.Sort.reverseLoop a (b - 1) d))
    (fun vi vj _ => (intOf vj).toNat + 1 - (intOf vi).toNat)
  case atStart => exact ⟨a, b - 1, d, rfl, by go_num, by omega, by omega, by omega, HS.out, h0, rfl⟩
  case round =>
    obtain ⟨i, j, dk, rfl, rfl, hai, hij, hjb, hds, hA, HO⟩ := hrel
    obtain ⟨c0, c1, c2, c3⟩ := hA.cells S
    have HA := Lib.hid hA
    have HD := Lib.hid hds
    clear hA hds h0
    by_cases hlt : i < j
    · obtain ⟨w4, hrun, hA4⟩ := HA.out.swap S HD.out (i := i) (j := j) (by omega) (by omega) (x := (i : Int)) (y := (j : Int)) rfl rfl
      go_wp2
      go_roundw
      case rel => exact ⟨i + 1, j - 1, swp dk i j, by go_num, by go_num, by omega, by omega, by omega, by rw [size_swp]; exact HD.out, hA4, Lib.hid (by rw [← HO.out, Go.Sort.reverseLoop.eq_def i j dk, if_pos hlt])⟩
      case measure => simp [intOf]; omega
    · go_wp2
      go_end0
      exact ⟨rfl, by unfold Go.Sort.reverseRange; rw [← HO.out, Go.Sort.reverseLoop, if_neg hlt]; exact HA.out.row, HA.out.onl⟩
end Go.Proofs.YtilcnhdfdgmekaaGreat.SortRev
