/- sort.breakPatterns_func, with a less that makes memory. -/
import Derived.Test.YtilcnhdfdgmekaaGreatKShelf
import Derived.Test.YtilcnhdfdgmekaaGreatKSortRev
import Derived.Sort.Walk7
namespace Go.Proofs.YtilcnhdfdgmekaaGreat.SortBreak
open Go.RowKit Base SortKit SortIns
open Go.Sort (swp size_swp)
variable {α : Type} [Inhabited α] {lt : α → α → Bool} {g : Nat} {lb : Array Value} {sf : Nat} {sb : Array Value} {n blk : Nat} {G : Array α → World → Prop}
/-- a block that lies above all that the row hangs on is written -/
theorem spare {P : Program} (S : Srt P lt g lb sf sb n blk G) {B : Nat} {x y : Value} {W w w' : World} {d0 d : Array α} (h : At G blk B x y W d w) {rb : Nat} (hr : W.heap.size ≤ rb) (hB : B ≠ rb) (hG : G d0 W) (ho : Onl rb w w') : At G blk B x y W d w' := by
  obtain ⟨m, _, h2, h3⟩ := S.base
  have hm := h2 _ _ hG
  refine ⟨h3 _ _ _ h.row ⟨ho.os, ho.tape, ho.output, ho.size, fun i hi => ?_⟩, ⟨ho.os.trans h.onl.os, ho.tape.trans h.onl.tape, ho.output.trans h.onl.output, Nat.le_trans h.onl.size ho.size, fun i hi hne => ?_⟩, h.ne, (ho.cell h.inw hB).trans h.l, (ho.cell h.inw hB).trans h.s, Nat.lt_of_lt_of_le h.inw ho.size⟩
  · have := h2 _ _ h.row
    exact ho.block i (by omega) (fun e => by injection e with e; omega)
  · have := h.onl.size
    exact (ho.block i (by omega) (fun e => by injection e with e; omega)).trans (h.onl.block i hi hne)
/-- the generator's block -/
structure Rnd (rb : Nat) (r : UInt64) (w : World) : Prop where
  cell : w.cell? ⟨rb, 0, none⟩ = some (.int .u64 (r.toNat : Int))
  fr : w.frozen? ⟨rb, 0, none⟩ = false
  hlt : rb < w.heap.size
theorem Rnd.onl {rb gb : Nat} {r : UInt64} {w w' : World} (h : Rnd rb r w) (ho : Onl gb w w') (hne : rb ≠ gb) : Rnd rb r w' :=
  ⟨(ho.cell h.hlt hne).trans h.cell, (World.frozen?_of_block (w := w) (ho.block rb h.hlt (fun e => hne (Option.some.inj e)))).trans h.fr, Nat.lt_of_lt_of_le h.hlt ho.size⟩
theorem onl_next (w : World) (rb : Nat) (v : Value) (q : Nat) : Onl rb w ((w.setCell ⟨rb, 0, none⟩ v).drewN q) :=
  ⟨rfl, rfl, rfl, by simp [World.setCell], fun i _ hne => Below.heap_setCell w ⟨rb, 0, none⟩ v i (by rintro rfl; exact hne rfl)⟩
theorem Rnd.next {rb : Nat} {r r' : UInt64} {w : World} (h : Rnd rb r w) {x : Int} (hx : x = (r'.toNat : Int)) (q : Nat) : Rnd rb r' ((w.setCell ⟨rb, 0, none⟩ (.int .u64 x)).drewN q) := by
  subst hx
  exact ⟨by rw [World.cell?_drewN]; exact World.cell?_setCell_same w _ _ h.cell, by rw [World.frozen?_drewN]; simpa using h.fr, by simpa [World.setCell] using h.hlt⟩
set_option maxHeartbeats 4000000 in
set_option maxRecDepth 1000000 in
theorem brk_any (S : Srt Tryz.prog lt g lb sf sb n blk G) (a L : Nat) (d : Array α) (w : World) (hG : G d w) (hs : d.size = n) (h8 : 8 ≤ L) (hb : a + L ≤ n) :
    Calls Tryz.prog 101 #[LS g lb sf sb, .int .i64 a, .int .i64 ((a : Int) + (L : Int))] w fun e w' => e = .returned (.tuple #[]) ∧ G (Go.Sort.breakPatterns d a (a + L)) w' ∧ Onl blk w w' := by
  have hA := boxed S hG
  have few := S.few
  have hGW := hG
  rw [breakPatterns_eq d a L h8]
  obtain ⟨M, hM⟩ : ∃ M : Nat, M = 1 <<< Go.Sort.bitsLen L := ⟨_, rfl⟩
  have hM1 : 1 ≤ M := by rw [hM, Nat.one_shiftLeft]; exact Nat.two_pow_pos _
  have hM2 : M ≤ 2 * L := by rw [hM, Nat.one_shiftLeft]; exact Go.Sort.two_pow_bitsLen_le (by omega)
  have hNP : ∀ w, Calls Tryz.prog 118 #[.int .i64 (L : Int)] w fun e w' => e = .returned (.int .u64 (M : Int)) ∧ w' = w := by rw [hM]; exact fun w => Tryz.nextPowerOfTwo L (by omega) w
  rw [← hM]
  clear hM
  have hLz : ((a : Int) + (L : Int) - (a : Int)) = (L : Int) := by omega
  have h8z : (8 : Int) ≤ (L : Int) := by omega
  have hBb := hA.ne
  have hbb := S.inb _ _ hG
  obtain ⟨w0, hw0⟩ : ∃ v, v = w.alloc (.cells #[.func (.func g) #[] lb, .func (.func sf) #[] sb] 113) := ⟨_, rfl⟩
  obtain ⟨w1, hw1⟩ : ∃ v, v = w0.alloc (.cells #[.int .u64 (L : Int)] 140) := ⟨_, rfl⟩
  obtain ⟨B, hB⟩ : ∃ v, v = w.heap.size := ⟨_, rfl⟩
  obtain ⟨rb, hrb⟩ : ∃ v, v = w0.heap.size := ⟨_, rfl⟩
  have hb1 : Below w0.heap.size w0 w1 := by rw [hw1]; exact (Below.refl _ _).alloc (Nat.le_refl _) _
  have hsz : rb = B + 1 := by rw [hrb, hB, hw0]; simp
  rw [← hw0, ← hB] at hA
  have hA1 := hA.below S.below hb1
  have hR0 : Rnd rb (UInt64.ofNat L) w1 := ⟨by rw [hw1, hrb, show (UInt64.ofNat L).toNat = L from by simp; omega]; simp, by rw [hw1, hrb]; simp, by rw [hw1, hrb]; simp⟩
  have hrw : w.heap.size ≤ rb := by omega
  have hBr : B ≠ rb := by omega
  have hrbk : rb ≠ blk := by omega
  have HW := Lib.hid hw0
  have HW1 := Lib.hid hw1
  have HB := Lib.hid hB
  have HRB := Lib.hid hrb
  have HS := Lib.hid hs
  have HGW := Lib.hid hGW
  clear hw0 hw1 hB hrb hs hG hGW hb1 hsz hA hbb hBb
  go_enter Tryz.func101, Tryz.ntmps101
  go_upto_region 1 with fail
  rw [← HW.out, ← HB.out]
  go_upto_region 4 with fail
  rw [← HW1.out, ← HRB.out]
  go_wp2_with (first | (go_at_call 118; refine (hNP _).mono ?_; rintro e w' ⟨rfl, rfl⟩))
  go_loopg [9] 3 (fun g1 vi wr => ∃ (t : Nat) (r : UInt64) (dk : Array α), vi = .int .i64 ((a : Int) + (L : Int) / 4 * 2 - 1 + (t : Int)) ∧ t ≤ 3 ∧ 3 - t ≤ g1 ∧ dk.size = n ∧ At G blk B (.func (.func g) #[] lb) (.func (.func sf) #[] sb) w dk wr ∧ Rnd rb r wr ∧
      Hid (bpRest a L M (a + L / 4 * 2 - 1) (3 - t) t (r, dk) = bpRest a L M (a + L / 4 * 2 - 1) 3 0 (UInt64.ofNat L, d)))
  case atStart => exact ⟨0, UInt64.ofNat L, d, by simp, by omega, by omega, HS.out, hA1, hR0, rfl⟩
  case round =>
    obtain ⟨t, r, dk, rfl, ht, hg1, hds, hA, hRn, HR⟩ := hrel
    clear hA1 hR0
    by_cases ht3 : t < 3
    · have hle : (a : Int) + (L : Int) / 4 * 2 - 1 + (t : Int) ≤ (a : Int) + (L : Int) / 4 * 2 + 1 := by omega
      obtain ⟨R, hRr⟩ : ∃ R : Nat, R = r.toNat := ⟨_, rfl⟩
      have lR : R < 18446744073709551616 := by rw [hRr]; exact r.toNat_lt
      obtain ⟨R', hR'⟩ : ∃ R' : Nat, R' = Go.Sort.xorNextN R := ⟨_, rfl⟩
      have lR' : R' < 18446744073709551616 := by rw [hR']; exact Go.Sort.xorNextN_lt R lR
      obtain ⟨O, hO⟩ : ∃ O : Nat, O = R' &&& (M - 1) := ⟨_, rfl⟩
      have lO : O ≤ M - 1 := by rw [hO]; exact Nat.and_le_right
      have eAnd : bits .and .u64 (R' : Int) ((M : Int) - 1) = (O : Int) := by
        rw [show ((M : Int) - 1) = ((M - 1 : Nat) : Int) by omega, bits_and_u64_nat _ _ lR' (by omega), hO]
      have hNext : Calls Tryz.prog 119 #[.pointer (some ⟨rb, 0, none⟩)] wr fun e w' => e = .returned (.int .u64 (R' : Int)) ∧ w' = (wr.setCell ⟨rb, 0, none⟩ (.int .u64 (R' : Int))).drewN 3 := by
        rw [hR']; exact Tryz.xorshift_Next rb 0 R lR wr (hRr ▸ hRn.cell) hRn.fr
      have e1 : R' = (Go.Sort.xorNext r).toNat := by rw [hR', hRr, Go.Sort.xorNext_toNat]
      have HN : Hid (R' = (Go.Sort.xorNext r).toNat ∧ O = (Go.Sort.xorNext r).toNat &&& (M - 1)) := ⟨e1, by rw [hO, e1]⟩
      have hA2 := spare S hA hrw hBr HGW.out (onl_next wr rb (.int .u64 (R' : Int)) 3)
      have hR2 := hRn.next (r' := Go.Sort.xorNext r) (x := (R' : Int)) (by rw [e1]) 3
      clear hRr hR' hO e1
      generalize hwe : (wr.setCell ⟨rb, 0, none⟩ (.int .u64 (R' : Int))).drewN 3 = w2 at hNext hA2 hR2
      clear hwe
      have HD := Lib.hid hds
      clear hds hA hRn
      by_cases hLO : L ≤ O
      · have hLOz : (L : Int) ≤ (O : Int) := by omega
        obtain ⟨w3, hrun, hA3⟩ := hA2.swap S HD.out (i := a + L / 4 * 2 - 1 + t) (j := a + (O - L)) (by omega) (by omega) (x := (a : Int) + (L : Int) / 4 * 2 - 1 + (t : Int)) (y := (a : Int) + ((O : Int) - (L : Int))) (by omega) (by omega)
        obtain ⟨c0, c1, c2, c3⟩ := hA2.cells S
        have HA3 := Lib.hid hA3
        have HR3 := Lib.hid hR2
        have ho3 : Onl blk w2 w3 := by
          obtain ⟨w4, hr4, _, ho4⟩ := S.swap dk w2 hA2.row HD.out (a + L / 4 * 2 - 1 + t) (a + (O - L)) (by omega) (by omega)
          rw [show ((a + L / 4 * 2 - 1 + t : Nat) : Int) = (a : Int) + (L : Int) / 4 * 2 - 1 + (t : Int) by omega, show ((a + (O - L) : Nat) : Int) = (a : Int) + ((O : Int) - (L : Int)) by omega, hrun] at hr4
          injection hr4 with _ hr4
          subst hr4
          exact ho4
        have HO3 := Lib.hid ho3
        clear hA3 hR2 hA2 ho3
        go_wp2_with (go_at_call 119; refine hNext.mono ?_; rintro e w' ⟨rfl, rfl⟩)
        go_roundg (3 - (t + 1))
        case measure => omega
        case rel => exact ⟨t + 1, Go.Sort.xorNext r, swp dk (a + L / 4 * 2 - 1 + t) (a + (O - L)), by congr 1; push_cast; omega, by omega, Nat.le_refl _, by rw [size_swp]; exact HD.out, HA3.out, HR3.out.onl HO3.out hrbk,
          Lib.hid (by rw [← HR.out, bp_step a L M _ t r dk ((O - L)) ht3 (by rw [← HN.out.2, if_pos (by omega)])])⟩
      · have hLOz : ¬ (L : Int) ≤ (O : Int) := by omega
        obtain ⟨w3, hrun, hA3⟩ := hA2.swap S HD.out (i := a + L / 4 * 2 - 1 + t) (j := a + O) (by omega) (by omega) (x := (a : Int) + (L : Int) / 4 * 2 - 1 + (t : Int)) (y := (a : Int) + (O : Int)) (by omega) (by omega)
        obtain ⟨c0, c1, c2, c3⟩ := hA2.cells S
        have HA3 := Lib.hid hA3
        have HR3 := Lib.hid hR2
        have ho3 : Onl blk w2 w3 := by
          obtain ⟨w4, hr4, _, ho4⟩ := S.swap dk w2 hA2.row HD.out (a + L / 4 * 2 - 1 + t) (a + O) (by omega) (by omega)
          rw [show ((a + L / 4 * 2 - 1 + t : Nat) : Int) = (a : Int) + (L : Int) / 4 * 2 - 1 + (t : Int) by omega, show ((a + O : Nat) : Int) = (a : Int) + (O : Int) by omega, hrun] at hr4
          injection hr4 with _ hr4
          subst hr4
          exact ho4
        have HO3 := Lib.hid ho3
        clear hA3 hR2 hA2 ho3
        go_wp2_with (go_at_call 119; refine hNext.mono ?_; rintro e w' ⟨rfl, rfl⟩)
        go_roundg (3 - (t + 1))
        case measure => omega
        case rel => exact ⟨t + 1, Go.Sort.xorNext r, swp dk (a + L / 4 * 2 - 1 + t) (a + O), by congr 1; push_cast; omega, by omega, Nat.le_refl _, by rw [size_swp]; exact HD.out, HA3.out, HR3.out.onl HO3.out hrbk,
          Lib.hid (by rw [← HR.out, bp_step a L M _ t r dk (O) ht3 (by rw [← HN.out.2, if_neg (by omega)])])⟩
    · obtain rfl : t = 3 := by omega
      have hle : ¬ ((a : Int) + (L : Int) / 4 * 2 - 1 + ((3 : Nat) : Int) ≤ (a : Int) + (L : Int) / 4 * 2 + 1) := by omega
      go_wp2
      go_end0
      exact ⟨rfl, by rw [← HR.out]; exact hA.row, hA.onl⟩
end Go.Proofs.YtilcnhdfdgmekaaGreat.SortBreak
