/- sort.order2_func, median_func, choosePivot_func, with a less that makes memory. -/
import Derived.Test.YtilcnhdfdgmekaaGreatKSortRev
import Derived.Sort.LotD1
import Derived.Sort.LotD4
namespace Go.Proofs.YtilcnhdfdgmekaaGreat.SortPiv
open Go.RowKit Base SortKit SortIns
open Go.Sort (swp size_swp)
variable {α : Type} [Inhabited α] {lt : α → α → Bool} {g : Nat} {lb : Array Value} {sf : Nat} {sb : Array Value} {n blk : Nat} {G : Array α → World → Prop}
/-- the count of swaps lies in block cb, which the row doesn't hang on -/
structure Cnt (G : Array α → World → Prop) (cb : Nat) (d : Array α) (s : Nat) (w : World) : Prop where
  row : G d w
  keep : ∀ d w w', G d w → Below cb w w' → G d w'
  cell : w.cell? ⟨cb, 0, none⟩ = some (.int .i64 s)
  fr : w.frozen? ⟨cb, 0, none⟩ = false
  hlt : cb < w.heap.size
omit [Inhabited α] in
theorem Cnt.below {cb : Nat} {d : Array α} {s : Nat} {w w' : World} (h : Cnt G cb d s w) (hb : Below w.heap.size w w') : Cnt G cb d s w' :=
  ⟨h.keep _ _ _ h.row (hb.mono (Nat.le_of_lt h.hlt)), h.keep, (hb.cell h.hlt).trans h.cell, (hb.frozen h.hlt).trans h.fr, Nat.lt_of_lt_of_le h.hlt hb.size⟩
omit [Inhabited α] in
theorem Cnt.set {cb : Nat} {d : Array α} {s : Nat} {w : World} (h : Cnt G cb d s w) (t : Nat) {x : Int} (hx : x = t) : Cnt G cb d t (w.setCell ⟨cb, 0, none⟩ (.int .i64 x)) := by
  subst hx
  exact ⟨h.keep _ _ _ h.row (Below.setCell (p := ⟨cb, 0, none⟩) (Below.refl cb w) (Nat.le_refl cb) _), h.keep, World.cell?_setCell_same w _ _ h.cell, by simp [h.fr], by simpa [World.setCell] using h.hlt⟩
omit [Inhabited α] in
theorem Cnt.facts {cb : Nat} {d : Array α} {s : Nat} {w : World} (h : Cnt G cb d s w) : w.cell? ⟨cb, 0, none⟩ = some (.int .i64 s) ∧ w.frozen? ⟨cb, 0, none⟩ = false := ⟨h.cell, h.fr⟩
theorem onl_set (w : World) (cb : Nat) (v : Value) : Onl cb w (w.setCell ⟨cb, 0, none⟩ v) :=
  ⟨rfl, rfl, rfl, by simp [World.setCell], fun i _ hne => Below.heap_setCell w ⟨cb, 0, none⟩ v i (by rintro rfl; exact hne rfl)⟩
set_option maxHeartbeats 2000000 in
set_option maxRecDepth 100000 in
theorem ord_any (S : Srt Tryz.prog lt g lb sf sb n blk G) {cb : Nat} {d : Array α} {s : Nat} {w : World} (hc : Cnt G cb d s w) (a b : Nat) (hs : d.size = n) (ha : a < n) (hb : b < n) (hsn : s ≤ 1000) :
    Calls Tryz.prog 128 #[LS g lb sf sb, .int .i64 a, .int .i64 b, .pointer (some ⟨cb, 0, none⟩)] w fun e w' => e = .returned (.tuple #[.int .i64 (Go.Sort.order2 lt d a b s).1, .int .i64 (Go.Sort.order2 lt d a b s).2.1]) ∧ Cnt G cb d (Go.Sort.order2 lt d a b s).2.2 w' ∧ Onl cb w w' := by
  have hne : w.heap.size ≠ cb := Nat.ne_of_gt hc.hlt
  have eg := S.enter
  have few := S.few
  have hb0 : Below w.heap.size w (w.alloc (.cells #[.func (.func g) #[] lb, .func (.func sf) #[] sb] 113)) := (Below.refl _ _).alloc (Nat.le_refl _) _
  have h0 := hc.below hb0
  have c0 : (w.alloc (.cells #[.func (.func g) #[] lb, .func (.func sf) #[] sb] 113)).cell? ⟨w.heap.size, 0, none⟩ = some (.func (.func g) #[] lb) := by simp
  have hlB : w.heap.size < (w.alloc (.cells #[.func (.func g) #[] lb, .func (.func sf) #[] sb] 113)).heap.size := by simp
  obtain ⟨w0, hw0⟩ : ∃ v, v = w.alloc (.cells #[.func (.func g) #[] lb, .func (.func sf) #[] sb] 113) := ⟨_, rfl⟩
  obtain ⟨B, hB⟩ : ∃ v, v = w.heap.size := ⟨_, rfl⟩
  rw [← hw0] at h0 hb0 c0 hlB
  rw [← hB] at c0 hlB hne
  have HW := Lib.hid hw0
  have HB := Lib.hid hB
  have HB0 := Lib.hid hb0
  have H0 := Lib.hid h0
  clear hw0 hB hc hb0 h0
  have c1 : ∀ q, (w0.drewN q).cell? ⟨B, 0, none⟩ = some (.func (.func g) #[] lb) := fun q => c0
  go_enter Tryz.func128, Tryz.ntmps128
  go_upto_region 1 with fail
  rw [← HW.out, ← HB.out]
  cases hlv : lt d[b]! d[a]! with
  | true =>
    have hl := S.less d w0 H0.out.row hs b a hb ha
    rw [hlv] at hl
    go_wp2_with (go_at_fn g; refine hl.mono ?_; rintro e w2 ⟨rfl, hb2⟩; have h2 := H0.out.below hb2; obtain ⟨f0, f1⟩ := h2.facts)
    (try simp only [Exit.inBlock, Exit.then])
    go_ret2
    have e : Go.Sort.order2 lt d a b s = (b, a, s + 1) := by unfold Go.Sort.order2; rw [if_pos hlv]
    rw [e]
    exact ⟨rfl, h2.set (s + 1) (by omega), ((Onl.ofBelow HB0.out).trans (Onl.ofBelow hb2)).trans (onl_set _ _ _)⟩
  | false =>
    have hl := S.less d w0 H0.out.row hs b a hb ha
    rw [hlv] at hl
    go_wp2_with (go_at_fn g; refine hl.mono ?_; rintro e w2 ⟨rfl, hb2⟩)
    (try simp only [Exit.inBlock, Exit.then])
    go_ret2
    have e : Go.Sort.order2 lt d a b s = (a, b, s) := by unfold Go.Sort.order2; rw [if_neg (by simp [hlv])]
    rw [e]
    exact ⟨rfl, H0.out.below hb2, (Onl.ofBelow HB0.out).trans (Onl.ofBelow hb2)⟩
theorem LS_load {w : World} {B : Nat} (h0 : w.cell? ⟨B, 0, none⟩ = some (.func (.func g) #[] lb)) (h1 : w.cell? ⟨B, 1, none⟩ = some (.func (.func sf) #[] sb)) : w.cell? ⟨B, 0, none⟩ = some (.func (.func g) #[] lb) ∧ w.cell? ⟨B, 1, none⟩ = some (.func (.func sf) #[] sb) := ⟨h0, h1⟩
set_option maxHeartbeats 2000000 in
set_option maxRecDepth 100000 in
theorem med_any (S : Srt Tryz.prog lt g lb sf sb n blk G) {cb : Nat} {d : Array α} {s : Nat} {w : World} (hc : Cnt G cb d s w) (a b c : Nat) (hs : d.size = n) (ha : a < n) (hb : b < n) (hcn : c < n) (hsn : s ≤ 900) :
    Calls Tryz.prog 121 #[LS g lb sf sb, .int .i64 a, .int .i64 b, .int .i64 c, .pointer (some ⟨cb, 0, none⟩)] w fun e w' => e = .returned (.int .i64 (Go.Sort.median lt d a b c s).1) ∧ Cnt G cb d (Go.Sort.median lt d a b c s).2 w' ∧ Onl cb w w' := by
  have hne : w.heap.size ≠ cb := Nat.ne_of_gt hc.hlt
  have hb0 : Below w.heap.size w (w.alloc (.cells #[.func (.func g) #[] lb, .func (.func sf) #[] sb] 113)) := (Below.refl _ _).alloc (Nat.le_refl _) _
  have h0 := hc.below hb0
  have c0 : (w.alloc (.cells #[.func (.func g) #[] lb, .func (.func sf) #[] sb] 113)).cell? ⟨w.heap.size, 0, none⟩ = some (.func (.func g) #[] lb) := by simp
  have c1 : (w.alloc (.cells #[.func (.func g) #[] lb, .func (.func sf) #[] sb] 113)).cell? ⟨w.heap.size, 1, none⟩ = some (.func (.func sf) #[] sb) := by simp
  have hlB : w.heap.size < (w.alloc (.cells #[.func (.func g) #[] lb, .func (.func sf) #[] sb] 113)).heap.size := by simp
  obtain ⟨w0, hw0⟩ : ∃ v, v = w.alloc (.cells #[.func (.func g) #[] lb, .func (.func sf) #[] sb] 113) := ⟨_, rfl⟩
  obtain ⟨B, hB⟩ : ∃ v, v = w.heap.size := ⟨_, rfl⟩
  rw [← hw0] at h0 hb0 c0 c1 hlB
  rw [← hB] at c0 c1 hlB hne
  have HW := Lib.hid hw0
  have HB := Lib.hid hB
  have HB0 := Lib.hid hb0
  clear hw0 hB hc hb0
  have hm1 := Go.Sort.order2_mem lt d a b s
  have hq1 := Go.Sort.order2_count (lt := lt) d a b s
  have hcall := ord_any S h0 a b hs ha hb (by omega)
  obtain ⟨r1, hr1⟩ : ∃ v, v = Go.Sort.order2 lt d a b s := ⟨_, rfl⟩
  rw [← hr1] at hcall hm1 hq1
  have hm2 := Go.Sort.order2_mem lt d r1.2.1 c r1.2.2
  have hq2 := Go.Sort.order2_count (lt := lt) d r1.2.1 c r1.2.2
  obtain ⟨r2, hr2⟩ : ∃ v, v = Go.Sort.order2 lt d r1.2.1 c r1.2.2 := ⟨_, rfl⟩
  rw [← hr2] at hm2 hq2
  obtain ⟨r3, hr3⟩ : ∃ v, v = Go.Sort.order2 lt d r1.1 r2.1 r2.2.2 := ⟨_, rfl⟩
  have he : Go.Sort.median lt d a b c s = (r3.2.1, r3.2.2) := by unfold Go.Sort.median; rw [hr3, hr2, hr1]
  have HE := Lib.hid he
  have HR2 := Lib.hid hr2
  have HR3 := Lib.hid hr3
  have l1 : r1.1 < n ∧ r1.2.1 < n := by omega
  have l2 : r2.1 < n ∧ r2.2.1 < n := by omega
  have L1 := Lib.hid l1
  have L2 := Lib.hid l2
  have Q := Lib.hid (And.intro hq1 hq2)
  clear he hr1 hr2 hr3 hm1 hm2 l1 l2 hq1 hq2 h0
  obtain ⟨x1, y1, s1⟩ := r1
  obtain ⟨x2, y2, s2⟩ := r2
  go_enter Tryz.func121, Tryz.ntmps121
  go_upto_region 1 with fail
  rw [← HW.out, ← HB.out]
  go_wp2_with fail
  (with_reducible refine hcall.mono ?_)
  clear hcall
  rintro e w1 ⟨rfl, hc1, ho1⟩
  have c4 := (ho1.cell (p := ⟨B, 0, none⟩) hlB hne).trans c0
  have c5 := (ho1.cell (p := ⟨B, 1, none⟩) hlB hne).trans c1
  have hl1 := Nat.lt_of_lt_of_le hlB ho1.size
  have hcall := ord_any S hc1 y1 c hs L1.out.2 hcn (Nat.le_trans Q.out.1 (by omega))
  rw [← HR2.out] at hcall
  clear c0 c1 hlB hc1
  go_wp2_with fail
  (with_reducible refine hcall.mono ?_)
  clear hcall
  rintro e w2 ⟨rfl, hc2, ho2⟩
  have c6 := (ho2.cell (p := ⟨B, 0, none⟩) hl1 hne).trans c4
  have c7 := (ho2.cell (p := ⟨B, 1, none⟩) hl1 hne).trans c5
  have hl2 := Nat.lt_of_lt_of_le hl1 ho2.size
  have hcall := ord_any S hc2 x1 x2 hs L1.out.1 L2.out.1 (Nat.le_trans Q.out.2 (Nat.le_trans (Nat.succ_le_succ Q.out.1) (by omega)))
  rw [← HR3.out] at hcall
  clear c4 c5 hl1 hc2
  go_wp2_with fail
  (with_reducible refine hcall.mono ?_)
  clear hcall
  rintro e w3 ⟨rfl, hc3, ho3⟩
  go_wp2_with fail
  go_ret
  rw [HE.out]
  exact ⟨rfl, hc3, (((Onl.ofBelow HB0.out).trans ho1).trans ho2).trans ho3⟩
set_option maxHeartbeats 2000000 in
set_option maxRecDepth 100000 in
theorem adj_any (S : Srt Tryz.prog lt g lb sf sb n blk G) {cb : Nat} {d : Array α} {s : Nat} {w : World} (hc : Cnt G cb d s w) (a : Nat) (hs : d.size = n) (ha : 0 < a) (hb : a + 1 < n) (hsn : s ≤ 900) :
    Calls Tryz.prog 120 #[LS g lb sf sb, .int .i64 a, .pointer (some ⟨cb, 0, none⟩)] w fun e w' => e = .returned (.int .i64 (Go.Sort.medianAdjacent lt d a s).1) ∧ Cnt G cb d (Go.Sort.medianAdjacent lt d a s).2 w' ∧ Onl cb w w' := by
  have few := S.few
  have hb0 : Below w.heap.size w (w.alloc (.cells #[.func (.func g) #[] lb, .func (.func sf) #[] sb] 113)) := (Below.refl _ _).alloc (Nat.le_refl _) _
  have h0 := hc.below hb0
  have hcall := med_any S h0 (a - 1) a (a + 1) hs (by omega) (by omega) hb hsn
  rw [show ((a - 1 : Nat) : Int) = (a : Int) - 1 by omega, show ((a + 1 : Nat) : Int) = (a : Int) + 1 by omega] at hcall
  have HC := Lib.hid hcall
  have HB0 := Lib.hid hb0
  clear hcall hb0 h0 hc
  go_enter Tryz.func120, Tryz.ntmps120
  go_wp2_with fail
  (with_reducible refine HC.out.mono ?_)
  rintro e w1 ⟨rfl, hc1, ho1⟩
  go_wp2_with fail
  go_ret
  exact ⟨rfl, hc1, (Onl.ofBelow HB0.out).trans ho1⟩
set_option maxHeartbeats 4000000 in
set_option maxRecDepth 100000 in
theorem piv_any (S : Srt Tryz.prog lt g lb sf sb n blk G) (a b : Nat) (d : Array α) (w : World) (hG : G d w) (hs : d.size = n) (hab : a + 12 < b) (hb : b ≤ n) :
    Calls Tryz.prog 102 #[LS g lb sf sb, .int .i64 a, .int .i64 b] w fun e w' => e = .returned (.tuple #[.int .i64 (Go.Sort.choosePivot lt d a b).1, .int .i64 (Go.Sort.hintCode (Go.Sort.choosePivot lt d a b).2)]) ∧ G d w' ∧ Below w.heap.size w w' := by
  have hA := boxed S hG
  have few := S.few
  obtain ⟨m, _, hm1, hm2⟩ := S.base
  have hmw := hm1 _ _ hG
  obtain ⟨w0, hw0⟩ : ∃ v, v = w.alloc (.cells #[.func (.func g) #[] lb, .func (.func sf) #[] sb] 113) := ⟨_, rfl⟩
  obtain ⟨w1, hw1⟩ : ∃ v, v = w0.alloc (.cells #[.int .i64 0] 3) := ⟨_, rfl⟩
  obtain ⟨B, hB⟩ : ∃ v, v = w.heap.size := ⟨_, rfl⟩
  obtain ⟨cb, hcb⟩ : ∃ v, v = w0.heap.size := ⟨_, rfl⟩
  have hb0 : Below w.heap.size w w0 := by rw [hw0]; exact (Below.refl _ _).alloc (Nat.le_refl _) _
  have hb1 : Below w0.heap.size w0 w1 := by rw [hw1]; exact (Below.refl _ _).alloc (Nat.le_refl _) _
  have hsz : cb = B + 1 := by rw [hcb, hB, hw0]; simp
  rw [← hw0, ← hB] at hA
  have hA1 := hA.below S.below hb1
  have hc : Cnt G cb d 0 w1 := ⟨hA1.row, fun d w w' h hb => hm2 d w w' h (hb.mono (by omega)), by rw [hw1, hcb]; simp, by rw [hw1, hcb]; simp, by rw [hw1, hcb]; simp⟩
  have c0 := hA1.l
  have c1 := hA1.s
  have hlB := hA1.inw
  have hne : B ≠ cb := by omega
  have HON0 := Lib.hid (show Below B w w1 from (hB ▸ hb0).trans (hb1.mono (by rw [← hcb]; omega)))
  have hBcb : B ≤ cb := by omega
  have HW := Lib.hid hw0
  have HW1 := Lib.hid hw1
  have HB := Lib.hid hB
  have HCB := Lib.hid hcb
  clear hw0 hw1 hB hcb hb0 hb1 hsz hA hA1 hG hm1 hm2 hmw
  have hdiv : ((b : Int) - (a : Int)).tdiv 4 = (((b - a) / 4 : Nat) : Int) := by rw [show (b : Int) - (a : Int) = ((b - a : Nat) : Int) by omega]; rfl
  have hq : 4 * ((b - a) / 4) ≤ b - a ∧ 3 ≤ (b - a) / 4 := by omega
  obtain ⟨q, hqe⟩ : ∃ v, v = (b - a) / 4 := ⟨_, rfl⟩
  rw [← hqe] at hdiv hq
  have HQ := Lib.hid hqe
  clear hqe
  go_enter Tryz.func102, Tryz.ntmps102
  go_upto_region 2 with fail
  rw [← HW.out, ← HB.out]
  go_upto_region 3 with fail
  rw [← HW1.out, ← HCB.out]
  go_upto_region 6 with fail
  have hl0 := hlB
  have hcbw := hc.hlt
  by_cases h50 : 50 ≤ b - a
  · have h50z : (50 : Int) ≤ (b : Int) - (a : Int) := by omega
    have h8z : (8 : Int) ≤ (b : Int) - (a : Int) := by omega
    have hn1 := Go.Sort.medianAdjacent_mem lt d (a + q * 1) 0
    have hk1 := Go.Sort.medianAdjacent_count (lt := lt) d (a + q * 1) 0
    have hcall := adj_any S hc (a + q * 1) hs (by omega) (by omega) (by omega)
    rw [show ((a + q * 1 : Nat) : Int) = (a : Int) + (q : Int) by omega] at hcall
    obtain ⟨r1, hr1⟩ : ∃ v, v = Go.Sort.medianAdjacent lt d (a + q * 1) 0 := ⟨_, rfl⟩
    rw [← hr1] at hcall hn1 hk1
    have hn2 := Go.Sort.medianAdjacent_mem lt d (a + q * 2) r1.2
    have hk2 := Go.Sort.medianAdjacent_count (lt := lt) d (a + q * 2) r1.2
    obtain ⟨r2, hr2⟩ : ∃ v, v = Go.Sort.medianAdjacent lt d (a + q * 2) r1.2 := ⟨_, rfl⟩
    rw [← hr2] at hn2 hk2
    have hn3 := Go.Sort.medianAdjacent_mem lt d (a + q * 3) r2.2
    have hk3 := Go.Sort.medianAdjacent_count (lt := lt) d (a + q * 3) r2.2
    obtain ⟨r3, hr3⟩ : ∃ v, v = Go.Sort.medianAdjacent lt d (a + q * 3) r2.2 := ⟨_, rfl⟩
    rw [← hr3] at hn3 hk3
    obtain ⟨r4, hr4⟩ : ∃ v, v = Go.Sort.median lt d r1.1 r2.1 r3.1 r3.2 := ⟨_, rfl⟩
    have RP := Lib.hid (show Go.Sort.rawPivot lt d a b = r4 by unfold Go.Sort.rawPivot; rw [if_pos (by omega), if_pos h50, ← HQ.out, ← hr1, ← hr2, ← hr3, ← hr4])
    obtain ⟨x1, s1⟩ := r1
    obtain ⟨x2, s2⟩ := r2
    obtain ⟨x3, s3⟩ := r3
    obtain ⟨x4, s4⟩ := r4
    simp only at hn1 hk1 hn2 hk2 hn3 hk3 hcall hr2 hr3 hr4
    have HR2 := Lib.hid hr2
    have HR3 := Lib.hid hr3
    have HR4 := Lib.hid hr4
    have HK := Lib.hid (show s1 ≤ 100 ∧ s2 ≤ 100 ∧ s3 ≤ 100 by omega)
    have HN := Lib.hid (show x1 < n ∧ x2 < n ∧ x3 < n by omega)
    clear hr1 hr2 hr3 hr4 hn1 hn2 hn3 hk1 hk2 hk3 hc
    go_wp2_with fail
    (with_reducible refine hcall.mono ?_)
    clear hcall
    rintro e w2 ⟨rfl, hc1, ho1⟩
    have c2 := (ho1.cell (p := ⟨B, 0, none⟩) hl0 hne).trans c0
    have c3 := (ho1.cell (p := ⟨B, 1, none⟩) hl0 hne).trans c1
    have hl1 := Nat.lt_of_lt_of_le hl0 ho1.size
    have hcall := adj_any S hc1 (a + q * 2) hs (by omega) (by omega) (by have := HK.out; omega)
    rw [show ((a + q * 2 : Nat) : Int) = (a : Int) + (q : Int) * 2 by omega, ← HR2.out] at hcall
    clear hc1
    go_wp2_with fail
    (with_reducible refine hcall.mono ?_)
    clear hcall
    rintro e w3 ⟨rfl, hc2, ho2⟩
    have c4 := (ho2.cell (p := ⟨B, 0, none⟩) hl1 hne).trans c2
    have c5 := (ho2.cell (p := ⟨B, 1, none⟩) hl1 hne).trans c3
    have hl2 := Nat.lt_of_lt_of_le hl1 ho2.size
    have hcall := adj_any S hc2 (a + q * 3) hs (by omega) (by omega) (by have := HK.out; omega)
    rw [show ((a + q * 3 : Nat) : Int) = (a : Int) + (q : Int) * 3 by omega, ← HR3.out] at hcall
    clear hc2
    go_wp2_with fail
    (with_reducible refine hcall.mono ?_)
    clear hcall
    rintro e w4 ⟨rfl, hc3, ho3⟩
    have c6 := (ho3.cell (p := ⟨B, 0, none⟩) hl2 hne).trans c4
    have c7 := (ho3.cell (p := ⟨B, 1, none⟩) hl2 hne).trans c5
    have hl3 := Nat.lt_of_lt_of_le hl2 ho3.size
    have hcall := med_any S hc3 x1 x2 x3 hs HN.out.1 HN.out.2.1 HN.out.2.2 (by have := HK.out; omega)
    rw [← HR4.out] at hcall
    clear hc3
    go_wp2_with fail
    (with_reducible refine hcall.mono ?_)
    clear hcall
    rintro e w5 ⟨rfl, hc4, ho4⟩
    have c8 := (ho4.cell (p := ⟨B, 0, none⟩) hl3 hne).trans c6
    have c9 := (ho4.cell (p := ⟨B, 1, none⟩) hl3 hne).trans c7
    have hl4 := Nat.lt_of_lt_of_le hl3 ho4.size
    have HOS := Lib.hid (show Below cb w1 w5 from by have h := (((ho1.trans ho2).trans ho3).trans ho4); exact ⟨h.os, h.tape, h.output, h.size, fun i hi => h.block i (by omega) (fun e => by injection e with e; omega)⟩)
    have HC9 := Lib.hid hc4
    have f0 := hc4.cell
    have HON := Lib.hid (HB.out ▸ (HON0.out.trans (HOS.out.mono hBcb)) : Below w.heap.size w w5)
    clear hc4 ho1 hl1 ho2 hl2 ho3 hl3 ho4 hl4 hl0 c0 c1 c2 c3 c4 c5 c6 c7 c8 c9
    rcases (show s4 = 0 ∨ s4 = 12 ∨ ((s4 : Int) ≠ 0 ∧ (s4 : Int) ≠ 12) by omega) with h | h | ⟨h1, h2⟩
    · subst h
      go_wp2_with fail
      go_ret2
      rw [Go.Sort.choosePivot_eq, RP.out]
      refine ⟨?_, HC9.out.row, HON.out⟩
      unfold Go.Sort.hintOf
      rfl
    · subst h
      go_wp2_with fail
      go_ret2
      rw [Go.Sort.choosePivot_eq, RP.out]
      refine ⟨?_, HC9.out.row, HON.out⟩
      unfold Go.Sort.hintOf
      rfl
    · have h3 : s4 ≠ 0 ∧ s4 ≠ 12 := by omega
      go_wp2_with fail
      go_ret2
      rw [Go.Sort.choosePivot_eq, RP.out]
      refine ⟨?_, HC9.out.row, HON.out⟩
      unfold Go.Sort.hintOf
      rw [if_neg h3.1, if_neg h3.2]; rfl
  · have h50z : ¬ ((50 : Int) ≤ (b : Int) - (a : Int)) := by omega
    have h8z : (8 : Int) ≤ (b : Int) - (a : Int) := by omega
    have hcall := med_any S hc (a + q * 1) (a + q * 2) (a + q * 3) hs (by omega) (by omega) (by omega) (by omega)
    rw [show ((a + q * 1 : Nat) : Int) = (a : Int) + (q : Int) by omega, show ((a + q * 2 : Nat) : Int) = (a : Int) + (q : Int) * 2 by omega, show ((a + q * 3 : Nat) : Int) = (a : Int) + (q : Int) * 3 by omega] at hcall
    obtain ⟨r1, hr1⟩ : ∃ v, v = Go.Sort.median lt d (a + q * 1) (a + q * 2) (a + q * 3) 0 := ⟨_, rfl⟩
    rw [← hr1] at hcall
    have RP := Lib.hid (show Go.Sort.rawPivot lt d a b = r1 by unfold Go.Sort.rawPivot; rw [if_pos (by omega), if_neg h50, ← HQ.out, ← hr1])
    obtain ⟨x1, s1⟩ := r1
    simp only at hcall
    clear hr1 hc
    go_wp2_with fail
    (with_reducible refine hcall.mono ?_)
    clear hcall
    rintro e w2 ⟨rfl, hc1, ho1⟩
    have c2 := (ho1.cell (p := ⟨B, 0, none⟩) hl0 hne).trans c0
    have c3 := (ho1.cell (p := ⟨B, 1, none⟩) hl0 hne).trans c1
    have hl1 := Nat.lt_of_lt_of_le hl0 ho1.size
    have HOS := Lib.hid (show Below cb w1 w2 from by have h := ho1; exact ⟨h.os, h.tape, h.output, h.size, fun i hi => h.block i (by omega) (fun e => by injection e with e; omega)⟩)
    have HC9 := Lib.hid hc1
    have f0 := hc1.cell
    have HON := Lib.hid (HB.out ▸ (HON0.out.trans (HOS.out.mono hBcb)) : Below w.heap.size w w2)
    clear hc1 ho1 hl1 hl0 c0 c1 c2 c3
    rcases (show s1 = 0 ∨ s1 = 12 ∨ ((s1 : Int) ≠ 0 ∧ (s1 : Int) ≠ 12) by omega) with h | h | ⟨h1, h2⟩
    · subst h
      go_wp2_with fail
      go_ret2
      rw [Go.Sort.choosePivot_eq, RP.out]
      refine ⟨?_, HC9.out.row, HON.out⟩
      unfold Go.Sort.hintOf
      rfl
    · subst h
      go_wp2_with fail
      go_ret2
      rw [Go.Sort.choosePivot_eq, RP.out]
      refine ⟨?_, HC9.out.row, HON.out⟩
      unfold Go.Sort.hintOf
      rfl
    · have h3 : s1 ≠ 0 ∧ s1 ≠ 12 := by omega
      go_wp2_with fail
      go_ret2
      rw [Go.Sort.choosePivot_eq, RP.out]
      refine ⟨?_, HC9.out.row, HON.out⟩
      unfold Go.Sort.hintOf
      rw [if_neg h3.1, if_neg h3.2]; rfl
end Go.Proofs.YtilcnhdfdgmekaaGreat.SortPiv
