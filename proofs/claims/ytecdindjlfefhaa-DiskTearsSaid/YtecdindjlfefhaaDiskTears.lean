/- DiskTears, walked. -/
import Derived.Test.YtecdindjlfefhaaDiskLaw
import Derived.Deep.RegionWith
namespace Go.Proofs.Ytecdindjlfefhaa.DiskTears
open Go.RowKit Base DiskPlain DiskMem DiskSmall DiskRead DiskGrow DiskWrite DiskSync DiskCrash DiskSpoil DiskCopy DiskLaw Go.Maps

/-- string(b) of a block that is a page's -/
theorem conv_page {w : World} {b : Nat} {l : Pg} (hl : l.length = 256) (h : w.heap[b]? = some (.cells (pcell l) 5 (0, 0))) (c : Nat) : (convert 45 9 (.slice (some ⟨b, 0, none⟩) 256 c)).run Try.prog w = .ok (.string ⟨l.toArray⟩) w := by
  have := conv_bytes (P := Try.prog) (w := w) (B := b + 1) (src := 45) (e := 5) (dst := 9) Try.underlying45 Try.underlying5 Try.underlying9 (A := some ⟨b, 0, none⟩) (l := l) c (row_of_block h)
  rwa [hl] at this
def TearRel (w : World) (x y : Nat) (X Y : Array Value) (wr : World) : Prop := wr.heap[x]? = some (.cells X 5 (0, 0)) ∧ wr.heap[y]? = some (.cells Y 5 (0, 0)) ∧ Below w.heap.size w wr
set_option maxRecDepth 100000 in
set_option maxHeartbeats 1600000 in
theorem DiskTears_walk (a b z : Nat) (w : World) (ha : a < 256) (hb : b < 256) (hz : z < 256) : Calls Try.prog 8 #[.int .u8 (a : Int), .int .u8 (b : Int), .int .u8 (z : Int)] w fun e w' => e = .returned (.bool true) ∧ Below w.heap.size w w' := by
  obtain ⟨g1, g2⟩ := st_grow 3 (by omega)
  obtain ⟨a1, a2⟩ := st_write [zeros, zeros] 3 1 a (by simp)
  have s1 := st_sync [zeros, zeros] 3 1 (rep a)
  obtain ⟨b1, b2⟩ := st_write [zeros, rep a] 3 1 b (by simp)
  have k1 := st_crash [zeros, rep a] 3 1 (rep b) z
  have G := Lib.hid (And.intro g1 (And.intro g2 (And.intro a1 (And.intro a2 (And.intro s1 (And.intro b1 (And.intro b2 k1)))))))
  clear g1 g2 a1 a2 s1 b1 b2 k1
  go_enter Try.func8, Try.ntmps8
  go_wp2_with fail
  refine (m_new w 3 (by omega) (by omega)).mono ?_
  rintro e w1 ⟨rfl, m0⟩
  go_wp2_with fail
  refine (awake_any _).mono ?_
  rintro e w1a ⟨rfl, hb1⟩
  have m1 := m0.step hb1
  clear hb1 m0
  go_wp2_with fail
  refine (m_grow m1 2).mono ?_
  rintro e w2 ⟨rfl, m2⟩
  rw [G.out.1] at m2
  rw [G.out.2.1]
  go_wp2_with fail
  refine (page_any _ a ha).mono ?_
  rintro e w3 ⟨rfl, rfl⟩
  have m3 := m2.alloc (.cells (pcell (rep a)) 5)
  go_wp2_with fail
  refine (m_write m3 1 (some ⟨w2.heap.size, 0, none⟩) 256 (rep a) 256 (rep_len a) (by simp [st0]) (row_of_block (heap_alloc_new w2 _) |>.more (by simp))).mono ?_
  rintro e w4 ⟨rfl, m4⟩
  rw [show (st0 3).writeE 1 (rep a) = 0 from G.out.2.2.2.1]
  rw [show (st0 3).write 1 (rep a) = wr1 [zeros, zeros] 3 1 (rep a) from G.out.2.2.1] at m4
  clear m1 m2 m3
  go_wp2_with fail
  refine (m_sync m4 (by simp [wr1])).mono ?_
  rintro e w5 ⟨rfl, m5⟩
  rw [G.out.2.2.2.2.1] at m5
  go_wp2_with fail
  refine (page_any _ b hb).mono ?_
  rintro e w6 ⟨rfl, rfl⟩
  have m6 := m5.alloc (.cells (pcell (rep b)) 5)
  go_wp2_with fail
  refine (m_write m6 1 (some ⟨w5.heap.size, 0, none⟩) 256 (rep b) 256 (rep_len b) (by simp) (row_of_block (heap_alloc_new w5 _) |>.more (by simp))).mono ?_
  rintro e w7 ⟨rfl, m7⟩
  rw [show (⟨3, [zeros, zeros].set 1 (rep a), [], false, 0⟩ : DS).writeE 1 (rep b) = 0 from G.out.2.2.2.2.2.2.1]
  rw [show (⟨3, [zeros, zeros].set 1 (rep a), [], false, 0⟩ : DS).write 1 (rep b) = wr1 [zeros, rep a] 3 1 (rep b) from G.out.2.2.2.2.2.1] at m7
  clear m4 m5 m6
  go_wp2_with fail
  refine (m_crash m7 ((Below.refl _ w7).alloc (Nat.le_refl _) (.cells #[.int .i64 0, .int .u8 (z : Int)] 52)) (some ⟨w7.heap.size, 0, none⟩) 1 [(0, z)] 1 rfl (by simp) (by simpa using hz) (by simp [wr1]) (fun j v hv => ⟨_, rfl, by simp, .inr (by simp), by
    rw [add_blk, Nat.zero_add, cell_of_row _ _ _ _ _ _ (heap_alloc_new w7 _)]
    simpa [keptCells] using hv⟩)).mono ?_
  rintro e w9 ⟨rfl, m9⟩
  rw [G.out.2.2.2.2.2.2.2] at m9
  clear m7 G
  go_wp2_with fail
  refine (m_read m9 1 (by simp) (by simp)).mono ?_
  rintro e w10 ⟨rfl, rfl⟩
  have m10 := m9.alloc (.cells (pcell ((⟨3, [zeros, rep a].set 1 (torn ([zeros, rep a].getD 1 []) (rep b) z), [], false, 0⟩ : DS).rd 1)) 5)
  have erd : (⟨3, [zeros, rep a].set 1 (torn ([zeros, rep a].getD 1 []) (rep b) z), [], false, 0⟩ : DS).rd 1 = torn (rep a) (rep b) z := rfl
  rw [erd] at m10 ⊢
  clear erd
  go_wp2_with fail
  refine (m_read m10 0 (by simp) (by simp)).mono ?_
  rintro e w11 ⟨rfl, rfl⟩
  have m11 := m10.alloc (.cells (pcell ((⟨3, [zeros, rep a].set 1 (torn ([zeros, rep a].getD 1 []) (rep b) z), [], false, 0⟩ : DS).rd 0)) 5)
  have erd : (⟨3, [zeros, rep a].set 1 (torn ([zeros, rep a].getD 1 []) (rep b) z), [], false, 0⟩ : DS).rd 0 = zeros := rfl
  rw [erd] at m11 ⊢
  clear erd
  have hx := torn_rep a b z
  obtain ⟨X, hX⟩ : ∃ X, X = pcell (torn (rep a) (rep b) z) := ⟨_, rfl⟩
  rw [← hX] at hx m11 m10 ⊢
  have HR := Lib.hid (show TearRel w w9.heap.size (w9.heap.size + 1) X (pcell zeros) ((w9.alloc (.cells X 5)).alloc (.cells (pcell zeros) 5)) from ⟨heap_alloc2_old w9 _ _, heap_alloc2_new w9 _ _, m11.below⟩)
  have HX := Lib.hid hx
  have hbl := m9.below.size
  clear hx hX m9 m10 m11
  go_wp2_with fail
  go_loopw [13] (fun i wr => ∃ k : Nat, k ≤ 256 ∧ i = .int .i64 k ∧ TearRel w w9.heap.size (w9.heap.size + 1) X (pcell zeros) wr) (fun i _ => 256 - (intOf i).toNat)
  case atStart => exact ⟨0, by omega, rfl, HR.out⟩
  case round =>
    obtain ⟨k, hk, rfl, hr⟩ := hrel
    clear HR
    by_cases hlt : k < 256
    · have q := HX.out k ha hb hlt
      have qc : wr.cell? ⟨w9.heap.size, k, none⟩ = some (.int .u8 ((if bit z (k / 64) = true then b else a : Nat) : Int)) := by rw [cell_of_row _ _ _ _ _ _ hr.1]; exact q
      have hbt := bit_test z (k / 64) hz
      have HN := Lib.hid hr
      have hkd : ((k : Int)).tdiv 64 = ((k / 64 : Nat) : Int) := by rw [Int.tdiv_eq_ediv_of_nonneg (by omega)]; omega
      clear q hr
      cases hbz : bit z (k / 64) with
      | false =>
        rw [hbz] at hbt
        simp only [hbz, Bool.false_eq_true, if_false] at qc
        go_wp2_with fail
        go_roundw
        case rel => exact ⟨k + 1, by omega, by go_num, HN.out⟩
        case measure => simp [intOf]; omega
      | true =>
        rw [hbz] at hbt
        simp only [hbz, if_true] at qc
        go_wp2_with fail
        go_roundw
        case rel => exact ⟨k + 1, by omega, by go_num, HN.out⟩
        case measure => simp [intOf]; omega
    · obtain rfl : k = 256 := by omega
      have hyl : w9.heap.size + 1 < wr.heap.size := heap_lt hr.2.1
      have v1 := conv_page (w := wr.drew) zeros_len hr.2.1 256
      have v2 := conv_page (w := (wr.alloc (.cells (pcell (rep 0)) 5)).drew) (b := w9.heap.size + 1) zeros_len ((Below.heap_alloc wr _ _ hyl).trans hr.2.1) 256
      have v3 := conv_page (w := (wr.alloc (.cells (pcell (rep 0)) 5)).drew) (b := wr.heap.size) (rep_len 0) (heap_alloc_new wr _) 256
      rw [show (⟨(rep 0).toArray⟩ : ByteArray) = ⟨zeros.toArray⟩ from rfl] at v3
      have HB := Lib.hid hr.2.2
      have hpg : Calls Try.prog 24 #[.int .u8 0] wr.drew fun e w' => e = .returned (.slice (some ⟨wr.heap.size, 0, none⟩) 256 256) ∧ (wr.alloc (.cells (pcell (rep 0)) 5)).drew = w' := (page_any wr.drew 0 (by omega)).mono fun e w' ⟨h1, h2⟩ => ⟨h1, h2.symm⟩
      clear hr hlt HX
      generalize (⟨zeros.toArray⟩ : ByteArray) = s at v1 v2 v3
      generalize pcell (rep 0) = Z at v1 v2 v3 hpg
      go_wp2_with fail
      refine wp_region_any (by kernel_rfl) ?_
      change wpAny _ _ _ _ _ _ _ (World.drew _)
      refine wpAny_ready (rs := [0]) (by decide +kernel) (by simp) ?_
      refine AllReady.cons rfl (fun K hK => ?_) AllReady.nil
      go_simp
      refine hK _ _ ?_
      clear hK K
      refine wpAny_ready (rs := [1]) (by decide +kernel) (by simp) ?_
      refine AllReady.cons rfl (fun K hK => ?_) AllReady.nil
      go_simp
      refine hK _ _ ?_
      clear hK K
      refine wpAny_ready (rs := [2]) (by decide +kernel) (by simp) ?_
      refine AllReady.cons rfl (fun K hK => ?_) AllReady.nil
      go_simp
      refine hK _ _ ?_
      clear hK K
      refine wpAny_ready (rs := [3]) (by decide +kernel) (by simp) ?_
      refine AllReady.cons rfl (fun K hK => ?_) AllReady.nil
      go_simp
      refine hK _ _ ?_
      clear hK K
      refine wpAny_ready (rs := [4]) (by decide +kernel) (by simp) ?_
      refine AllReady.cons rfl (fun K hK => ?_) AllReady.nil
      go_simp
      refine hK _ _ ?_
      clear hK K
      refine wpAny_ready (rs := [5]) (by decide +kernel) (by simp) ?_
      refine AllReady.cons rfl (fun K hK => ?_) AllReady.nil
      go_simp
      refine hK _ _ ?_
      clear hK K
      refine wpAny_ready (rs := [6]) (by decide +kernel) (by simp) ?_
      refine AllReady.cons rfl (fun K hK => ?_) AllReady.nil
      go_simp
      refine hK _ _ ?_
      clear hK K
      refine wpAny_ready (rs := [7]) (by decide +kernel) (by simp) ?_
      refine AllReady.cons rfl (fun K hK => ?_) AllReady.nil
      go_simp
      refine hK _ _ ?_
      clear hK K
      refine wpAny_ready (rs := [8]) (by decide +kernel) (by simp) ?_
      refine AllReady.cons rfl (fun K hK => ?_) AllReady.nil
      go_simp
      refine hK _ _ ?_
      clear hK K
      refine wpAny_ready (rs := [9]) (by decide +kernel) (by simp) ?_
      refine AllReady.cons rfl (fun K hK => ?_) AllReady.nil
      go_simp
      refine hK _ _ ?_
      clear hK K
      refine wpAny_ready (rs := [10]) (by decide +kernel) (by simp) ?_
      refine AllReady.cons rfl (fun K hK => ?_) AllReady.nil
      go_simp
      refine hK _ _ ?_
      clear hK K
      refine wpAny_ready (rs := [11]) (by decide +kernel) (by simp) ?_
      refine AllReady.cons rfl (fun K hK => ?_) AllReady.nil
      go_simp
      refine hK _ _ ?_
      clear hK K
      refine wpAny_ready (rs := [12, 14]) (by decide +kernel) (by simp) ?_
      refine AllReady.cons rfl (fun K hK => ?_) ?_
      · go_simp
        refine hK _ _ ?_
        clear hK K
        refine wpAny_ready (rs := [13, 14]) (by decide +kernel) (by simp) ?_
        refine AllReady.cons rfl (fun K hK => ?_) ?_
        · go_simp
          refine hK _ _ ?_
          clear hK K
          refine wpAny_ready (rs := [14]) (by decide +kernel) (by simp) ?_
          refine AllReady.cons rfl (fun K hK => ?_) AllReady.nil
          go_simp
          go_wp2_with (go_at_call 24; (with_reducible refine hpg.mono ?_); rintro e w' ⟨rfl, rfl⟩)
          refine wpAny_ready (rs := [15]) (by decide +kernel) (by simp) ?_
          refine AllReady.cons rfl (fun K hK => ?_) AllReady.nil
          go_simp
          refine hK _ _ ?_
          clear hK K
          refine wpAny_ready (rs := [16]) (by decide +kernel) (by simp) ?_
          refine AllReady.cons rfl (fun K hK => ?_) AllReady.nil
          go_simp
          refine hK _ _ ?_
          clear hK K
          refine wpAny_ready (rs := [17]) (by decide +kernel) (by simp) ?_
          refine AllReady.cons rfl (fun K hK => ?_) AllReady.nil
          go_simp
          refine hK _ _ ?_
          clear hK K
          refine wpAny_ready (rs := [18]) (by decide +kernel) (by simp) ?_
          refine AllReady.cons rfl (fun K hK => ?_) AllReady.nil
          go_simp
          refine hK _ _ ?_
          clear hK K
          refine wpAny_done (by kernel_rfl) ?_ _
          go_wp2_with fail
          go_ret
          exact ⟨by simp, HB.out.drew.alloc (by have e : wr.drew.heap.size = wr.heap.size := rfl; omega) _⟩
        refine AllReady.cons rfl (fun K hK => ?_) AllReady.nil
        go_simp
        go_wp2_with (go_at_call 24; (with_reducible refine hpg.mono ?_); rintro e w' ⟨rfl, rfl⟩)
        refine wpAny_ready (rs := [13, 15]) (by decide +kernel) (by simp) ?_
        refine AllReady.cons rfl (fun K hK => ?_) ?_
        · go_simp
          refine hK _ _ ?_
          clear hK K
          refine wpAny_ready (rs := [15]) (by decide +kernel) (by simp) ?_
          refine AllReady.cons rfl (fun K hK => ?_) AllReady.nil
          go_simp
          refine hK _ _ ?_
          clear hK K
          refine wpAny_ready (rs := [16]) (by decide +kernel) (by simp) ?_
          refine AllReady.cons rfl (fun K hK => ?_) AllReady.nil
          go_simp
          refine hK _ _ ?_
          clear hK K
          refine wpAny_ready (rs := [17]) (by decide +kernel) (by simp) ?_
          refine AllReady.cons rfl (fun K hK => ?_) AllReady.nil
          go_simp
          refine hK _ _ ?_
          clear hK K
          refine wpAny_ready (rs := [18]) (by decide +kernel) (by simp) ?_
          refine AllReady.cons rfl (fun K hK => ?_) AllReady.nil
          go_simp
          refine hK _ _ ?_
          clear hK K
          refine wpAny_done (by kernel_rfl) ?_ _
          go_wp2_with fail
          go_ret
          exact ⟨by simp, HB.out.drew.alloc (by have e : wr.drew.heap.size = wr.heap.size := rfl; omega) _⟩
        refine AllReady.cons rfl (fun K hK => ?_) AllReady.nil
        go_simp
        refine hK _ _ ?_
        clear hK K
        refine wpAny_ready (rs := [13]) (by decide +kernel) (by simp) ?_
        refine AllReady.cons rfl (fun K hK => ?_) AllReady.nil
        go_simp
        refine hK _ _ ?_
        clear hK K
        refine wpAny_ready (rs := [16]) (by decide +kernel) (by simp) ?_
        refine AllReady.cons rfl (fun K hK => ?_) AllReady.nil
        go_simp
        refine hK _ _ ?_
        clear hK K
        refine wpAny_ready (rs := [17]) (by decide +kernel) (by simp) ?_
        refine AllReady.cons rfl (fun K hK => ?_) AllReady.nil
        go_simp
        refine hK _ _ ?_
        clear hK K
        refine wpAny_ready (rs := [18]) (by decide +kernel) (by simp) ?_
        refine AllReady.cons rfl (fun K hK => ?_) AllReady.nil
        go_simp
        refine hK _ _ ?_
        clear hK K
        refine wpAny_done (by kernel_rfl) ?_ _
        go_wp2_with fail
        go_ret
        exact ⟨by simp, HB.out.drew.alloc (by have e : wr.drew.heap.size = wr.heap.size := rfl; omega) _⟩
      refine AllReady.cons rfl (fun K hK => ?_) AllReady.nil
      go_simp
      go_wp2_with (go_at_call 24; (with_reducible refine hpg.mono ?_); rintro e w' ⟨rfl, rfl⟩)
      refine wpAny_ready (rs := [12, 15]) (by decide +kernel) (by simp) ?_
      refine AllReady.cons rfl (fun K hK => ?_) ?_
      · go_simp
        refine hK _ _ ?_
        clear hK K
        refine wpAny_ready (rs := [13, 15]) (by decide +kernel) (by simp) ?_
        refine AllReady.cons rfl (fun K hK => ?_) ?_
        · go_simp
          refine hK _ _ ?_
          clear hK K
          refine wpAny_ready (rs := [15]) (by decide +kernel) (by simp) ?_
          refine AllReady.cons rfl (fun K hK => ?_) AllReady.nil
          go_simp
          refine hK _ _ ?_
          clear hK K
          refine wpAny_ready (rs := [16]) (by decide +kernel) (by simp) ?_
          refine AllReady.cons rfl (fun K hK => ?_) AllReady.nil
          go_simp
          refine hK _ _ ?_
          clear hK K
          refine wpAny_ready (rs := [17]) (by decide +kernel) (by simp) ?_
          refine AllReady.cons rfl (fun K hK => ?_) AllReady.nil
          go_simp
          refine hK _ _ ?_
          clear hK K
          refine wpAny_ready (rs := [18]) (by decide +kernel) (by simp) ?_
          refine AllReady.cons rfl (fun K hK => ?_) AllReady.nil
          go_simp
          refine hK _ _ ?_
          clear hK K
          refine wpAny_done (by kernel_rfl) ?_ _
          go_wp2_with fail
          go_ret
          exact ⟨by simp, HB.out.drew.alloc (by have e : wr.drew.heap.size = wr.heap.size := rfl; omega) _⟩
        refine AllReady.cons rfl (fun K hK => ?_) AllReady.nil
        go_simp
        refine hK _ _ ?_
        clear hK K
        refine wpAny_ready (rs := [13]) (by decide +kernel) (by simp) ?_
        refine AllReady.cons rfl (fun K hK => ?_) AllReady.nil
        go_simp
        refine hK _ _ ?_
        clear hK K
        refine wpAny_ready (rs := [16]) (by decide +kernel) (by simp) ?_
        refine AllReady.cons rfl (fun K hK => ?_) AllReady.nil
        go_simp
        refine hK _ _ ?_
        clear hK K
        refine wpAny_ready (rs := [17]) (by decide +kernel) (by simp) ?_
        refine AllReady.cons rfl (fun K hK => ?_) AllReady.nil
        go_simp
        refine hK _ _ ?_
        clear hK K
        refine wpAny_ready (rs := [18]) (by decide +kernel) (by simp) ?_
        refine AllReady.cons rfl (fun K hK => ?_) AllReady.nil
        go_simp
        refine hK _ _ ?_
        clear hK K
        refine wpAny_done (by kernel_rfl) ?_ _
        go_wp2_with fail
        go_ret
        exact ⟨by simp, HB.out.drew.alloc (by have e : wr.drew.heap.size = wr.heap.size := rfl; omega) _⟩
      refine AllReady.cons rfl (fun K hK => ?_) AllReady.nil
      go_simp
      refine hK _ _ ?_
      clear hK K
      refine wpAny_ready (rs := [12]) (by decide +kernel) (by simp) ?_
      refine AllReady.cons rfl (fun K hK => ?_) AllReady.nil
      go_simp
      refine hK _ _ ?_
      clear hK K
      refine wpAny_ready (rs := [13]) (by decide +kernel) (by simp) ?_
      refine AllReady.cons rfl (fun K hK => ?_) AllReady.nil
      go_simp
      refine hK _ _ ?_
      clear hK K
      refine wpAny_ready (rs := [16]) (by decide +kernel) (by simp) ?_
      refine AllReady.cons rfl (fun K hK => ?_) AllReady.nil
      go_simp
      refine hK _ _ ?_
      clear hK K
      refine wpAny_ready (rs := [17]) (by decide +kernel) (by simp) ?_
      refine AllReady.cons rfl (fun K hK => ?_) AllReady.nil
      go_simp
      refine hK _ _ ?_
      clear hK K
      refine wpAny_ready (rs := [18]) (by decide +kernel) (by simp) ?_
      refine AllReady.cons rfl (fun K hK => ?_) AllReady.nil
      go_simp
      refine hK _ _ ?_
      clear hK K
      refine wpAny_done (by kernel_rfl) ?_ _
      go_wp2_with fail
      go_ret
      exact ⟨by simp, HB.out.drew.alloc (by have e : wr.drew.heap.size = wr.heap.size := rfl; omega) _⟩
end Go.Proofs.Ytecdindjlfefhaa.DiskTears
