/- The walk of SuperGets, by what the calls are asked for. -/
import Derived.Test.YtcnblgienombeaaSuperAwake
import Derived.Test.YtcnblgienombeaaSuperRput
import Derived.Test.YtcnblgienombeaaBlk
namespace Go.Proofs.Ytcnblgienombeaa.SuperGets
open Go.RowKit Base SumPlain SumMem SumFill SumOf PagePlain PageSmall PageBytes PageLay PagePut PageFour PageAwake SuperPlain SuperRefCheck SuperPlumb SuperSpec SuperAwake SuperRefPut SuperRput
open Blk (cp cv cv_run cv_below cv_blk Blk8)

theorem cp_ge (w : World) (s : ByteArray) : s.size ≤ cp w s := grownCap_ge w s.size 0 _
/-- what a page's own bytes tell -/
theorem gets_page (s : Int) (p : Pg) (h : err p = 0) : getS s (page p) = .inl 70 ∨ ∃ x, getS s (page p) = .inr x ∧ Ok x ∧ sbytes x = page p ∧ x.ep % 2 = s := by
  cases hg : getS s (page p) with
  | inr x =>
    obtain ⟨h1, h2, h3⟩ := getS_out hg
    rw [gotE_page p h] at h2
    injection h2 with h2
    exact .inr ⟨x, rfl, h1, by rw [h2]; rfl, h3⟩
  | inl e =>
    unfold getS at hg
    rw [gotE_page p h] at hg
    simp only at hg
    split at hg
    · split at hg
      · cases hg
      · injection hg with hg; exact .inl (by rw [← hg])
    · injection hg with hg; exact .inl (by rw [← hg])
set_option maxRecDepth 100000 in
set_option maxHeartbeats 12800000 in
theorem gets_any (S : Specs) (W : World) (s : Int) (p : Pg) (A : Option Addr) (c : Nat) (hr : Row W W.heap.size A (strs p.cells)) (hl : p.cells.length ≤ maxLen) : Calls Try.prog 4 #[.int .i64 s, pv p A c] W (Law W) := by
  have HS := Lib.hid S
  clear S
  unfold maxLen at hl
  have x0 : At (W.alloc (.cells #[.int .i64 p.kind, .int .i64 p.no, .int .i64 p.epoch, .int .i64 p.link, .slice A p.cells.length c] 37)) W.heap.size 37 #[.int .i64 p.kind, .int .i64 p.no, .int .i64 p.epoch, .int .i64 p.link, .slice A p.cells.length c] := heap_alloc_new W _
  have h0 := al' W (.cells #[.int .i64 p.kind, .int .i64 p.no, .int .i64 p.epoch, .int .i64 p.link, .slice A p.cells.length c] 37)
  obtain ⟨w1, hw1⟩ : ∃ v, v = W.alloc (.cells #[.int .i64 p.kind, .int .i64 p.no, .int .i64 p.epoch, .int .i64 p.link, .slice A p.cells.length c] 37) := ⟨_, rfl⟩
  rw [← hw1] at x0 h0
  have r0 := hr.belowSize h0
  have HW1 := Lib.hid hw1
  clear hw1 hr
  unfold Law
  go_enter Try.func4, Try.ntmps4
  go_upto_region 1 with fail
  rw [← HW1.out]
  obtain ⟨bx, hbx⟩ : ∃ n, n = W.heap.size := ⟨_, rfl⟩
  rw [← hbx] at x0 ⊢
  have hbxW : W.heap.size ≤ bx := by omega
  clear hbx HW1
  have hcall := new_t h0
  go_wp2_with fail
  (with_reducible refine hcall.mono ?_)
  clear hcall
  rintro e w2 ⟨g, rfl, s2, b2, hg⟩
  have hxg : bx ≠ g := by have := At.lt x0; omega
  have x2 := at_below x0 b2
  have r2 := r0.belowSize b2
  clear x0 r0 b2 hg h0
  have hcall := awake_any HS.out w2
  unfold Law at hcall
  go_wp2_with fail
  (with_reducible refine hcall.mono ?_)
  clear hcall
  rintro e w3 ⟨rfl, b3⟩
  have x3 := at_below x2 b3
  have r3 := r2.belowSize b3
  have s3 := s2.below b3
  clear x2 r2 s2 b3
  obtain ⟨c0, c1, c2, c3, c4⟩ := five x3
  by_cases h100 : p.cells.length ≤ 100
  case neg =>
    have hlt : (100 : Int) < (p.cells.length : Int) := by omega
    have hcall := awake_any HS.out w3
    unfold Law at hcall
    generalize p.cells.length = n at *
    go_wp2_with fail
    (with_reducible refine hcall.mono ?_)
    clear hcall
    rintro e w4 ⟨rfl, b4⟩
    have s4 := s3.below b4
    go_wp2_with fail
    go_ret
    exact ⟨rfl, s4.base⟩
  case pos =>
    have hnlt : ¬ (100 : Int) < (p.cells.length : Int) := by omega
    have hcall := rput_all w3 p A c r3 (by omega)
    go_wp2_with fail
    (with_reducible refine hcall.mono ?_)
    clear hcall c0 c1 c2 c3 c4 hnlt
    rintro e w4 ⟨hcase, b4⟩
    have s4 := s3.below b4
    clear s3 r3 x3 b4
    rcases hcase with ⟨he, rfl⟩ | ⟨he, rfl⟩
    · have hg := gets_page s p he
      have hpl : (tx (page p)).size = 256 := page_len p ((err_zero p).1 he).1
      have hpl2 : (page p).length = 256 := page_len p ((err_zero p).1 he).1
      have hcv := cv_run w4 (tx (page p))
      have hbb := cv_blk w4 (tx (page p))
      have hcb := cv_below w4 (tx (page p))
      have hcp := cp_ge w4 (tx (page p))
      have hbl : Blk.bl (tx (page p)) = page p := rfl
      rw [hbl] at hbb
      rw [hpl] at hcv hcp
      have s5 := s4.below hcb
      have hbg : w4.heap.size ≠ g := by have := s4.lt; omega
      clear hcb hbl hpl s4 he
      generalize cv w4 (tx (page p)) = w5 at *
      generalize cp w4 (tx (page p)) = C at *
      have hcall := get_s HS.out s5 (by omega) s ⟨w4.heap.size, 0, none⟩ C (page p) (hbb.rowX hbg) hpl2 hcp
      rcases hg with hg | ⟨x, hg, hok, hsb, hev⟩
      · rw [hg, show ansOf (.inl 70) = .tuple #[.agg #[.int .i64 0, .int .i64 0, .int .i64 0, .int .i64 0], .int .i64 70] from rfl] at hcall
        clear hg
        generalize tx (page p) = T at *
        go_wp2_with fail
        (with_reducible refine hcall.mono ?_)
        clear hcall hcv
        rintro e w6 ⟨rfl, s6, o6⟩
        have hb7 := al' w6 (.cells #[.int .i64 0, .int .i64 0, .int .i64 0, .int .i64 0] 23)
        have z7 := bs_new w6 ⟨0, 0, 0, 0⟩
        have s7 := s6.below hb7
        simp only at z7
        obtain ⟨c0, c1, c2, c3⟩ := z7.cells
        go_wp2_with fail
        go_ret
        exact ⟨rfl, s7.base⟩
      · obtain ⟨ep, root, free, pages⟩ := x
        have HOK := Lib.hid hok
        have em : ep.tmod 2 = s := (Int.tmod_eq_emod_of_nonneg hok.1).trans hev
        rw [hg, show ansOf (.inr ⟨ep, root, free, pages⟩) = .tuple #[.agg #[.int .i64 ep, .int .i64 root, .int .i64 free, .int .i64 pages], .int .i64 0] from rfl] at hcall
        clear hg hok hev
        have HSB := Lib.hid hsb
        clear hsb
        generalize hT : tx (page p) = T at *
        have HT := Lib.hid hT
        clear hT
        go_wp2_with fail
        (with_reducible refine hcall.mono ?_)
        clear hcall hcv
        rintro e w6 ⟨rfl, s6, o6⟩
        obtain ⟨w7, hw7⟩ : ∃ v, v = w6.alloc (.cells #[.int .i64 ep, .int .i64 root, .int .i64 free, .int .i64 pages] 23) := ⟨_, rfl⟩
        have hb7 : Below w6.heap.size w6 w7 := by rw [hw7]; exact al' _ _
        have z7 : Bs w7 w6.heap.size ⟨ep, root, free, pages⟩ := by rw [hw7]; exact bs_new w6 ⟨ep, root, free, pages⟩
        have s7 := s6.below hb7
        have HW7 := Lib.hid hw7
        clear hw7 hb7 o6 s6 hbb s5
        generalize hbz : w6.heap.size = z at *
        obtain ⟨c0, c1, c2, c3⟩ := z7.cells
        have hcall := rcheck_any w7 ⟨ep, root, free, pages⟩
        rw [decide_eq_true HOK.out] at hcall
        go_upto_region 8 with fail
        try rw [← HW7.out]
        try rw [hbz]
        go_wp2_with fail
        (with_reducible refine hcall.mono ?_)
        clear hcall
        rintro e w8 ⟨rfl, b8⟩
        have z8 := z7.below b8
        have s8 := s7.below b8
        clear z7 s7 b8 c0 c1 c2 c3 HW7
        obtain ⟨c0, c1, c2, c3⟩ := z8.cells
        have hcall := rput_any w8 ⟨ep, root, free, pages⟩ HOK.out
        rw [HSB.out, HT.out] at hcall
        go_wp2_with fail
        (with_reducible refine hcall.mono ?_)
        clear hcall
        rintro e w9 ⟨rfl, b9⟩
        have z9 := z8.below b9
        have s9 := s8.below b9
        clear z8 s8 b9 c0 c1 c2 c3
        obtain ⟨c0, c1, c2, c3⟩ := z9.cells
        go_wp2_with fail
        go_ret
        exact ⟨rfl, s9.base⟩
    · have hne : ¬ err p = 0 := he
      clear he
      generalize err p = E at *
      go_wp2_with fail
      go_ret
      exact ⟨rfl, s4.base⟩
end Go.Proofs.Ytcnblgienombeaa.SuperGets
