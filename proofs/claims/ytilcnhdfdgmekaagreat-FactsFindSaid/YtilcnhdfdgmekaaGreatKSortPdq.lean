/- sort.pdqsort_func, with a less that makes memory. -/
import Derived.Test.YtilcnhdfdgmekaaGreatKSortBreak
import Derived.Test.YtilcnhdfdgmekaaGreatKSortHeap
import Derived.Test.YtilcnhdfdgmekaaGreatKSortPart
import Derived.Test.YtilcnhdfdgmekaaGreatKSortPartEq
import Derived.Test.YtilcnhdfdgmekaaGreatKSortPins
import Derived.Test.YtilcnhdfdgmekaaGreatKSortPiv
import Derived.Test.YtilcnhdfdgmekaaGreatKSortRev
import Derived.Sort.AssemblyPlain
import Derived.Sort.Walk13
namespace Go.Proofs.YtilcnhdfdgmekaaGreat.SortPdq
open Go.RowKit Base SortKit SortIns SortHeap SortPart SortPartEq SortRev SortPiv SortBreak SortPins
open Go.Sort (swp size_swp)
variable {α : Type} [Inhabited α] {lt : α → α → Bool} {g : Nat} {lb : Array Value} {sf : Nat} {sb : Array Value} {n blk : Nat} {G : Array α → World → Prop}
set_option maxHeartbeats 12800000 in
set_option maxRecDepth 1000000 in
theorem pdq_any (S : Srt Tryz.prog lt g lb sf sb n blk G) (hO : Go.Sort.SWO lt) : ∀ (N a b limit : Nat) (d : Array α) (w : World), b - a < N → G d w → d.size = n → a ≤ b → b ≤ n → limit < 4611686018427387904 → Go.Sort.Below lt a b d →
    Calls Tryz.prog 82 #[LS g lb sf sb, .int .i64 a, .int .i64 b, .int .i64 limit] w fun e w' => e = .returned (.tuple #[]) ∧ G (Go.Sort.pdq lt d a b limit true true) w' ∧ Onl blk w w' := by
  intro N
  induction N with
  | zero => intro _ _ _ _ _ h; exact absurd h (Nat.not_lt_zero _)
  | succ N ih =>
    intro a b limit d w hN hG hs hab hb hlimit hBel0
    have h0 := boxed S hG
    have few := S.few
    have eg := S.enter
    obtain ⟨w0, hw0⟩ : ∃ v, v = w.alloc (.cells #[.func (.func g) #[] lb, .func (.func sf) #[] sb] 113) := ⟨_, rfl⟩
    obtain ⟨B, hB⟩ : ∃ v, v = w.heap.size := ⟨_, rfl⟩
    rw [← hw0, ← hB] at h0
    have HW := Lib.hid hw0
    have HB := Lib.hid hB
    have HS := Lib.hid hs
    clear hw0 hB hs hG
    go_enter Tryz.func82, Tryz.ntmps82
    go_upto_region 1 with fail
    rw [← HW.out, ← HB.out]
    go_wp2
    go_loopg [1, 2, 3, 8, 9] (b - a) (fun kx s1 s2 s3 s8 s9 wr => ∃ (a' b' lim : Nat) (wb wp : Bool) (dk : Array α), s1 = .int .i64 a' ∧ s2 = .int .i64 b' ∧ s3 = .int .i64 lim ∧ s8 = .bool wb ∧ s9 = .bool wp ∧
      a' ≤ b' ∧ b' ≤ n ∧ b' - a' ≤ kx ∧ kx ≤ b - a ∧ lim ≤ limit ∧ dk.size = n ∧ Go.Sort.Below lt a' b' dk ∧ At G blk B (.func (.func g) #[] lb) (.func (.func sf) #[] sb) w dk wr ∧ Hid (Go.Sort.pdq lt dk a' b' lim wb wp = Go.Sort.pdq lt d a b limit true true))
    case atStart => exact ⟨a, b, limit, true, true, d, rfl, rfl, rfl, rfl, rfl, hab, hb, Nat.le_refl _, Nat.le_refl _, Nat.le_refl _, HS.out, hBel0, h0, rfl⟩
    case round =>
      obtain ⟨a', b', lim, wb, wp, dk, rfl, rfl, rfl, rfl, rfl, hab', hb', hkx, hkN, hlim, hds, hBel, hA, A⟩ := hrel
      clear h0
      by_cases h12 : b' - a' ≤ 12
      · have h12z : (b' : Int) - (a' : Int) ≤ 12 := by omega
        have hc := ins_any S a' b' dk wr hA.row hds hab' hb'
        obtain ⟨c0, c1, c2, c3⟩ := hA.cells S
        have HA := Lib.hid hA
        clear hA hds
        go_wp2_with (go_at_call 99; refine hc.mono ?_; rintro e w1 ⟨rfl, hG1, hO1⟩)
        (try simp only [Exit.inBlock, Exit.then])
        refine bodyPost_ret (results_none rfl _ _ _) rfl ?_
        exact ⟨rfl, by rw [← A.out, Go.Sort.pdq_small h12]; exact hG1, HA.out.onl.trans hO1⟩
      have h12z : ¬ ((b' : Int) - (a' : Int) ≤ 12) := by omega
      by_cases hl0 : lim = 0
      · subst hl0
        have hc := heap_any S a' b' dk wr hA.row hds hab' hb'
        obtain ⟨c0, c1, c2, c3⟩ := hA.cells S
        have HA := Lib.hid hA
        clear hA hds
        go_wp2_with (go_at_call 100; refine hc.mono ?_; rintro e w1 ⟨rfl, hG1, hO1⟩)
        (try simp only [Exit.inBlock, Exit.then])
        refine bodyPost_ret (results_none rfl _ _ _) rfl ?_
        exact ⟨rfl, by rw [← A.out, Go.Sort.pdq_heap h12 rfl]; exact hG1, HA.out.onl.trans hO1⟩
      have hl0z : ((lim : Int) == 0) = false := by simp; omega
      obtain ⟨s1, B1, hc1, s2, B2, hpv, s3, B3⟩ := Go.Sort.rd_facts (lt := lt) (limit := lim) (wb := wb) (wp := wp) hO Go.Sort.partialInsertionSort_holds Go.Sort.reverseRange_holds (show a' < b' by omega) (show b' ≤ dk.size by omega) hBel
      rw [hds] at s1 s2 s3
      have HS1 := Lib.hid s1
      have HS2 := Lib.hid s2
      have HS3 := Lib.hid s3
      have HPV := Lib.hid hpv
      have HB3 := Lib.hid B3
      have HDS := Lib.hid hds
      clear s1 s2 s3 B1 B2 B3 hc1 hpv hds hBel
      obtain ⟨c0, c1, c2, c3⟩ := hA.cells S
      have HA := Lib.hid hA
      clear hA
      go_upto_if 35 with fail
      go_cut [3] from 19 (fun s3 wc => s3 = .int .i64 (Go.Sort.rd lt dk a' b' lim wb wp).lim ∧ At G blk B (.func (.func g) #[] lb) (.func (.func sf) #[] sb) w (Go.Sort.rd lt dk a' b' lim wb wp).d1 wc)
      case first =>
        cases wb
        · have hc := brk_any S a' (b' - a') dk wr HA.out.row HDS.out (by omega) (by omega)
          rw [show (a' : Int) + ((b' - a' : Nat) : Int) = (b' : Int) by omega, show a' + (b' - a') = b' by omega] at hc
          go_wp2_with (go_at_call 101; refine hc.mono ?_; rintro e w1 ⟨rfl, hG1, hO1⟩)
          go_meet
          case rel =>
            refine ⟨?_, HA.out.turn hG1 hO1⟩
            show Value.int .i64 ((lim : Int) - 1) = Value.int .i64 ((lim - 1 : Nat) : Int)
            congr 1
            omega
        · go_wp2_with fail
          go_meet
          case rel => exact ⟨rfl, HA.out⟩
      case rest =>
        obtain ⟨rfl, hA1⟩ := hcut
        clear c0 c1 c2 c3 HA
        have hc17 : Calls Tryz.prog 102 #[LS g lb sf sb, .int .i64 a', .int .i64 b'] wc fun e w' => e = .returned (.tuple #[.int .i64 (Go.Sort.rd lt dk a' b' lim wb wp).c.1, .int .i64 (Go.Sort.hintCode (Go.Sort.rd lt dk a' b' lim wb wp).c.2)]) ∧ G (Go.Sort.rd lt dk a' b' lim wb wp).d1 w' ∧ Below wc.heap.size wc w' :=
          piv_any S a' b' (Go.Sort.rd lt dk a' b' lim wb wp).d1 wc hA1.row HS1.out (by omega) hb'
        obtain ⟨c0, c1, c2, c3⟩ := hA1.cells S
        have HA1 := Lib.hid hA1
        clear hA1
        go_upto_if 50 with (go_at_call 102; refine hc17.mono ?_; rintro e w2 ⟨rfl, hG2, hb2⟩)
        have hA2 := HA1.out.below S.below hb2
        clear c0 c1 c2 c3 hc17 hG2
        obtain ⟨c0, c1, c2, c3⟩ := hA2.cells S
        have HA2 := Lib.hid hA2
        clear hA2 hb2 HA1
        go_cut [11, 12] from 19 (fun s11 s12 wc => s11 = .int .i64 (Go.Sort.rd lt dk a' b' lim wb wp).pivot ∧ s12 = .int .i64 (Go.Sort.hintCode (Go.Sort.rd lt dk a' b' lim wb wp).hint) ∧ At G blk B (.func (.func g) #[] lb) (.func (.func sf) #[] sb) w (Go.Sort.rd lt dk a' b' lim wb wp).d2 wc)
        case first =>
          by_cases hh : (Go.Sort.rd lt dk a' b' lim wb wp).c.2 = .decreasing
          · have hcode : Go.Sort.hintCode (Go.Sort.rd lt dk a' b' lim wb wp).c.2 = 2 := by rw [hh]; rfl
            obtain ⟨e2, epv, eht⟩ := Go.Sort.rd_dec hh
            have hpv := HPV.out
            have hc1 : a' ≤ (Go.Sort.rd lt dk a' b' lim wb wp).c.1 ∧ (Go.Sort.rd lt dk a' b' lim wb wp).c.1 < b' := Go.Sort.choosePivot_holds lt (Go.Sort.rd lt dk a' b' lim wb wp).d1 a' b' (by omega)
            have hc18 := rev_any S a' b' (Go.Sort.rd lt dk a' b' lim wb wp).d1 w2 HA2.out.row HS1.out (by omega) hb'
            go_wp2_with (go_at_call 103; refine hc18.mono ?_; rintro e w3 ⟨rfl, hG3, hO3⟩)
            go_meet
            case rel =>
              refine ⟨?_, by rw [eht]; rfl, by rw [e2]; exact HA2.out.turn hG3 hO3⟩
              rw [epv]
              congr 1
              omega
          · have hcode : (Go.Sort.hintCode (Go.Sort.rd lt dk a' b' lim wb wp).c.2 == 2) = false := by simpa using fun h => hh (hintCode_two h)
            obtain ⟨e2, epv, eht⟩ := Go.Sort.rd_not hh
            go_wp2_with fail
            go_meet
            case rel => exact ⟨by rw [epv], by rw [eht], by rw [e2]; exact HA2.out⟩
        case rest =>
          obtain ⟨rfl, rfl, hA3⟩ := hcut
          clear c0 c1 c2 c3 HA2
          obtain ⟨c0, c1, c2, c3⟩ := hA3.cells S
          have HA3 := Lib.hid hA3
          clear hA3
          go_upto_region 16 with fail
          go_cut [12, 68] from 19 (fun s12 s68 wx => s12 = .int .i64 (Go.Sort.hintCode (Go.Sort.rd lt dk a' b' lim wb wp).hint) ∧ s68 = .bool (wb && wp && decide ((Go.Sort.rd lt dk a' b' lim wb wp).hint = .increasing)) ∧ wx = wc)
          case first =>
            cases wb <;> cases wp <;> cases hh3 : (Go.Sort.rd lt dk a' b' lim _ _).hint <;>
              (have hcode3 := congrArg Go.Sort.hintCode hh3
               simp only [Go.Sort.hintCode] at hcode3
               go_wp2_with fail
               go_meet
               exact ⟨by simp [hh3, Go.Sort.hintCode], by simp [hh3, Go.Sort.hintCode], rfl⟩)
          case rest =>
            obtain ⟨rfl, rfl, rfl⟩ := hcut
            go_upto_if 68 with fail
            go_cut [] from 19 (fun wx => (Go.Sort.rd lt dk a' b' lim wb wp).pi.2 = false ∧ At G blk B (.func (.func g) #[] lb) (.func (.func sf) #[] sb) w (Go.Sort.rd lt dk a' b' lim wb wp).pi.1 wx)
            case first =>
              cases h68 : (wb && wp && decide ((Go.Sort.rd lt dk a' b' lim wb wp).hint = .increasing))
              · have epi := Go.Sort.rd_pi_no h68
                go_wp2_with fail
                go_meet
                case rel => exact ⟨by rw [epi], by rw [epi]; exact HA3.out⟩
              · have epi := Go.Sort.rd_pi_yes h68
                have hc19 := pins_any S a' b' (Go.Sort.rd lt dk a' b' lim wb wp).d2 wc HA3.out.row HS2.out (by omega) hb'
                rw [← epi] at hc19
                cases hp2 : (Go.Sort.rd lt dk a' b' lim wb wp).pi.2
                · rw [hp2] at hc19
                  go_wp2_with (go_at_call 104; refine hc19.mono ?_; rintro e w4 ⟨rfl, hG4, hO4⟩)
                  go_meet
                  exact ⟨hp2, HA3.out.turn hG4 hO4⟩
                · rw [hp2] at hc19
                  go_wp2_with (go_at_call 104; refine hc19.mono ?_; rintro e w4 ⟨rfl, hG4, hO4⟩)
                  (try simp only [Exit.inBlock, Exit.then])
                  refine bodyPost_ret (results_none rfl _ _ _) rfl ?_
                  exact ⟨rfl, by rw [← A.out, Go.Sort.pdq_done h12 hl0 hp2]; exact hG4, HA3.out.onl.trans hO4⟩
            case rest =>
              obtain ⟨hp2, hA5⟩ := hcut
              clear c0 c1 c2 c3 HA3
              have HP2 := Lib.hid hp2
              clear hp2
              obtain ⟨c0, c1, c2, c3⟩ := hA5.cells S
              have HA5 := Lib.hid hA5
              clear hA5
              go_upto_region 18 with fail
              go_cut [83] from 19 (fun s83 wx => s83 = .bool (decide (a' > 0) && !lt (Go.Sort.rd lt dk a' b' lim wb wp).pi.1[a' - 1]! (Go.Sort.rd lt dk a' b' lim wb wp).pi.1[(Go.Sort.rd lt dk a' b' lim wb wp).pivot]!) ∧ At G blk B (.func (.func g) #[] lb) (.func (.func sf) #[] sb) w (Go.Sort.rd lt dk a' b' lim wb wp).pi.1 wx)
              case first =>
                rcases Nat.eq_zero_or_pos a' with ha0 | ha0
                · have ha0z : decide ((a' : Int) > 0) = false := decide_eq_false (by omega)
                  go_wp2_with fail
                  go_meet
                  case rel => exact ⟨by simp [ha0], HA5.out⟩
                · have ha0z : (a' : Int) > 0 := by omega
                  cases hlv : lt (Go.Sort.rd lt dk a' b' lim wb wp).pi.1[a' - 1]! (Go.Sort.rd lt dk a' b' lim wb wp).pi.1[(Go.Sort.rd lt dk a' b' lim wb wp).pivot]! <;>
                    (have hl := HA5.out.less S HS3.out (i := a' - 1) (j := (Go.Sort.rd lt dk a' b' lim wb wp).pivot) (by omega) (by have := HPV.out; omega) (x := (a' : Int) - 1) (y := ((Go.Sort.rd lt dk a' b' lim wb wp).pivot : Int)) (by omega) rfl hlv
                     go_wp2_with (go_at_fn g; refine hl.mono ?_; rintro e w' ⟨rfl, hA6⟩)
                     go_meet
                     exact ⟨by simp [ha0, hlv], hA6⟩)
              case rest =>
                obtain ⟨rfl, hA6⟩ := hcut
                clear c0 c1 c2 c3 HA5
                have hp2 := HP2.out
                have hpv := HPV.out
                cases h87 : (decide (a' > 0) && !lt (Go.Sort.rd lt dk a' b' lim wb wp).pi.1[a' - 1]! (Go.Sort.rd lt dk a' b' lim wb wp).pi.1[(Go.Sort.rd lt dk a' b' lim wb wp).pivot]!)
                · obtain ⟨mid, ap, d4, hx⟩ : ∃ mid ap d4, Go.Sort.partition lt (Go.Sort.rd lt dk a' b' lim wb wp).pi.1 a' b' (Go.Sort.rd lt dk a' b' lim wb wp).pivot = (mid, ap, d4) := ⟨_, _, _, rfl⟩
                  obtain ⟨r1, r2, r3, r4, r5, r6, r7⟩ := Go.Sort.round_part hO (Go.Sort.partition_holds lt) hpv.1 hpv.2 (show b' ≤ (Go.Sort.rd lt dk a' b' lim wb wp).pi.1.size by rw [HS3.out]; exact hb') HB3.out hx
                  have hc22 := part_any S a' b' (Go.Sort.rd lt dk a' b' lim wb wp).pivot (Go.Sort.rd lt dk a' b' lim wb wp).pi.1 wc hA6.row HS3.out hpv.1 hpv.2 hb'
                  rw [hx] at hc22
                  have X := Lib.hid hx
                  have HP := Lib.hid hp2
                  have H87 := Lib.hid h87
                  have R4 := Lib.hid r4
                  have R5 := Lib.hid r5
                  have R6 := Lib.hid r6
                  have R7 := Lib.hid r7
                  have hs4 : d4.size = n := r3.trans HS3.out
                  have HD4 := Lib.hid hs4
                  obtain ⟨c0, c1, c2, c3⟩ := hA6.cells S
                  have HA6 := Lib.hid hA6
                  clear hx hp2 r3 r4 r5 r6 r7 hs4 hA6
                  go_upto_if 109 with (go_at_call 106; refine hc22.mono ?_; rintro e w7 ⟨rfl, hG7, hO7⟩)
                  have hA7 := HA6.out.turn hG7 hO7
                  clear c0 c1 c2 c3 hc22 hG7 hO7 HA6
                  obtain ⟨c0, c1, c2, c3⟩ := hA7.cells S
                  have HA7 := Lib.hid hA7
                  clear hA7
                  by_cases h4 : mid - a' < b' - mid
                  · have h4z : (mid : Int) - (a' : Int) < (b' : Int) - (mid : Int) := by omega
                    have hih := ih a' mid (Go.Sort.rd lt dk a' b' lim wb wp).lim d4 w7 (by omega) HA7.out.row HD4.out r1 (by omega) (Nat.lt_of_le_of_lt (Nat.le_trans Go.Sort.rd_lim_le hlim) hlimit) R4.out
                    obtain ⟨pL, sL⟩ := Go.Sort.pdq_sorts lt hO d4 a' mid (Go.Sort.rd lt dk a' b' lim wb wp).lim true true r1 (by rw [HD4.out]; omega) R4.out
                    have PL := Lib.hid pL
                    have SL := Lib.hid sL
                    clear pL sL
                    go_wp2_with (go_at_call 82; refine hih.mono ?_; rintro e w8 ⟨rfl, hG8, hO8⟩)
                    go_roundg (b' - (mid + 1))
                    case measure => omega
                    case rel =>
                      have hx := X.out
                      refine ⟨mid + 1, b', (Go.Sort.rd lt dk a' b' lim wb wp).lim, decide (mid - a' ≥ (b' - a') / 8), ap, Go.Sort.pdq lt d4 a' mid (Go.Sort.rd lt dk a' b' lim wb wp).lim true true, by simp, rfl, rfl, ?_, rfl, by omega, by omega, Nat.le_refl _, by omega, Nat.le_trans Go.Sort.rd_lim_le hlim, by rw [PL.out.1, HD4.out], (R6.out _ PL.out SL.out).1, HA7.out.turn hG8 hO8, Lib.hid ?_⟩
                      · exact congrArg Value.bool (eighth (by omega) (by omega))
                      · rw [← A.out, Go.Sort.pdq_left h12 hl0 HP.out H87.out (by rw [hx]; exact ⟨r1, r2⟩) (by rw [hx]; exact h4), hx]
                  · have h4z : ¬ ((mid : Int) - (a' : Int) < (b' : Int) - (mid : Int)) := by omega
                    have hih := ih (mid + 1) b' (Go.Sort.rd lt dk a' b' lim wb wp).lim d4 w7 (by omega) HA7.out.row HD4.out (by omega) hb' (Nat.lt_of_le_of_lt (Nat.le_trans Go.Sort.rd_lim_le hlim) hlimit) R5.out
                    rw [show ((mid + 1 : Nat) : Int) = (mid : Int) + 1 by omega] at hih
                    obtain ⟨pL, sL⟩ := Go.Sort.pdq_sorts lt hO d4 (mid + 1) b' (Go.Sort.rd lt dk a' b' lim wb wp).lim true true (by omega) (by rw [HD4.out]; omega) R5.out
                    have PL := Lib.hid pL
                    have SL := Lib.hid sL
                    clear pL sL
                    go_wp2_with (go_at_call 82; refine hih.mono ?_; rintro e w8 ⟨rfl, hG8, hO8⟩)
                    go_roundg (mid - a')
                    case measure => omega
                    case rel =>
                      have hx := X.out
                      refine ⟨a', mid, (Go.Sort.rd lt dk a' b' lim wb wp).lim, decide (b' - mid ≥ (b' - a') / 8), ap, Go.Sort.pdq lt d4 (mid + 1) b' (Go.Sort.rd lt dk a' b' lim wb wp).lim true true, rfl, rfl, rfl, ?_, rfl, r1, by omega, Nat.le_refl _, by omega, Nat.le_trans Go.Sort.rd_lim_le hlim, by rw [PL.out.1, HD4.out], (R7.out _ PL.out SL.out).1, HA7.out.turn hG8 hO8, Lib.hid ?_⟩
                      · exact congrArg Value.bool (eighth (by omega) (by omega))
                      · rw [← A.out, Go.Sort.pdq_right h12 hl0 HP.out H87.out (by rw [hx]; exact ⟨r1, r2⟩) (by rw [hx]; exact h4), hx]
                · have h87' := h87
                  simp only [Bool.and_eq_true, decide_eq_true_eq, Bool.not_eq_true'] at h87'
                  obtain ⟨mid, d4, hx⟩ : ∃ mid d4, Go.Sort.partitionEqual lt (Go.Sort.rd lt dk a' b' lim wb wp).pi.1 a' b' (Go.Sort.rd lt dk a' b' lim wb wp).pivot = (mid, d4) := ⟨_, _, rfl⟩
                  obtain ⟨r1, r2, r3, r4, _⟩ := Go.Sort.round_eq hO (Go.Sort.partitionEqual_holds lt) h87'.1 hpv.1 hpv.2 (show b' ≤ (Go.Sort.rd lt dk a' b' lim wb wp).pi.1.size by rw [HS3.out]; exact hb') HB3.out h87'.2 hx
                  have hc21 := partEq_any S a' b' (Go.Sort.rd lt dk a' b' lim wb wp).pivot (Go.Sort.rd lt dk a' b' lim wb wp).pi.1 wc hA6.row HS3.out hpv.1 hpv.2 hb'
                  rw [hx] at hc21
                  have X := Lib.hid hx
                  have HP := Lib.hid hp2
                  have H87 := Lib.hid h87
                  have R3 := Lib.hid r3
                  have R4 := Lib.hid r4
                  obtain ⟨c0, c1, c2, c3⟩ := hA6.cells S
                  have HA6 := Lib.hid hA6
                  clear hx hp2 h87' r3 r4 hA6
                  go_wp2_with (go_at_call 105; refine hc21.mono ?_; rintro e w7 ⟨rfl, hG7, hO7⟩)
                  go_roundg (b' - mid)
                  case measure => omega
                  case rel =>
                    have hx := X.out
                    exact ⟨mid, b', (Go.Sort.rd lt dk a' b' lim wb wp).lim, wb, wp, d4, rfl, rfl, rfl, rfl, rfl, r2, hb', Nat.le_refl _, by omega, Nat.le_trans Go.Sort.rd_lim_le hlim, R3.out.trans HS3.out, R4.out, HA6.out.turn hG7 hO7, Lib.hid (by rw [← A.out, Go.Sort.pdq_eq h12 hl0 HP.out H87.out (by rw [hx]; exact ⟨r1, r2⟩), hx])⟩
end Go.Proofs.YtilcnhdfdgmekaaGreat.SortPdq
