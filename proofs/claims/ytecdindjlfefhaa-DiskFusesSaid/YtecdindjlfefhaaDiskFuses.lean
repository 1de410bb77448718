/- DiskFuses, walked. -/
import Derived.Test.YtecdindjlfefhaaDiskLaw
namespace Go.Proofs.Ytecdindjlfefhaa.DiskFuses
open Go.RowKit Base DiskPlain DiskMem DiskSmall DiskRead DiskGrow DiskWrite DiskSync DiskCrash DiskSpoil DiskCopy DiskLaw Go.Maps

/-- the disk behind i writes and syncs of the law's -/
def fz (N : Nat) : Nat → DS
  | 0 => (st0 3).fuse N
  | i + 1 => if i % 3 = 2 then (fz N i).sync else (fz N i).write ((i % 2 : Nat) : Int) (rep i)
theorem fz_facts (N : Nat) (hN : N < 40) : ∀ i, i ≤ N → (fz N i).fused = true ∧ (fz N i).left = N - i ∧ (fz N i).last.length = 2 ∧ (fz N i).loose.length ≤ i ∧ (fz N i).most = 3
  | 0, _ => by
    have : (st0 3).dead = false := rfl
    simp only [fz, DS.fuse, this, Bool.false_eq_true, if_false]
    simp [st0]
  | i + 1, hi => by
    obtain ⟨h1, h2, h3, h4, h5⟩ := fz_facts N hN i (by omega)
    have hd : (fz N i).dead = false := by
      simp only [DS.dead, h1, Bool.true_and, beq_eq_false_iff_ne, h2]; omega
    simp only [fz]
    split
    · simp only [DS.sync, hd, Bool.false_eq_true, if_false, DS.burn, DS.synced, h1, if_true, flush_len, h3, h2, h5]
      simp; omega
    · have hh : (fz N i).has ((i % 2 : Nat) : Int) = true := has_iff.2 ⟨by omega, by rw [h3]; omega⟩
      have hr := rep_len i
      simp only [DS.write, hh, hd, hr, Bool.true_eq_false, if_false, ne_eq, not_true_eq_false, Bool.false_eq_true, DS.burn, DS.written, h1, if_true, h3, h2, h5]
      simp; omega
theorem fz_dead (N : Nat) (hN : N < 40) (i : Nat) (hi : i ≤ N) : (fz N i).dead = decide (i = N) := by
  obtain ⟨h1, h2, _⟩ := fz_facts N hN i hi
  simp only [DS.dead, h1, Bool.true_and, h2]
  rw [Bool.eq_iff_iff]
  simp
  omega
theorem fz_write (N : Nat) (hN : N < 40) (i : Nat) (hi : i < N) : (fz N i).writeE ((i % 2 : Nat) : Int) (rep i) = 0 := by
  obtain ⟨_, _, h3, _⟩ := fz_facts N hN i (by omega)
  have hd := fz_dead N hN i (by omega)
  have hh : (fz N i).has ((i % 2 : Nat) : Int) = true := has_iff.2 ⟨by omega, by rw [h3]; omega⟩
  have hr := rep_len i
  simp only [DS.writeE, hh, hd, hr, Bool.true_eq_false, if_false, ne_eq, not_true_eq_false, decide_eq_true_eq]
  rw [if_neg (by omega)]
theorem fz_end (N : Nat) (hN : N < 40) : (fz N N).sync = fz N N ∧ (fz N N).writeE 0 (rep 99) = 33 ∧ (fz N N).write 0 (rep 99) = fz N N ∧ (fz N N).growE 3 = 33 ∧ (fz N N).grow 3 = fz N N ∧ (fz N N).dead = true := by
  obtain ⟨_, _, h3, _, h5⟩ := fz_facts N hN N (by omega)
  have hd : (fz N N).dead = true := by rw [fz_dead N hN N (by omega)]; simp
  have hh : (fz N N).has 0 = true := has_iff.2 ⟨by omega, by rw [h3]; omega⟩
  have hr := rep_len 99
  have hm : ¬ (3 > (fz N N).most) := by rw [h5]; omega
  refine ⟨by simp [DS.sync, hd], by simp [DS.writeE, hh, hd, hr], by simp [DS.write, hh, hd, hr], by simp [DS.growE, hd, hm], by simp [DS.grow, hd, hm], hd⟩
def FzRel (w : World) (g : Nat) (S : DS) (wr : World) : Prop := Mine w wr g S
set_option maxRecDepth 100000 in
set_option maxHeartbeats 1600000 in
theorem DiskFuses_walk (n more : Nat) (w : World) (hn : n < 256) (hm : more < 256) : Calls Try.prog 9 #[.int .u8 (n : Int), .int .u8 (more : Int)] w fun e w' => e = .returned (.bool true) ∧ Below w.heap.size w w' := by
  have g0 := st_grow 3 (by omega)
  have G := Lib.hid g0
  have hN : n % 40 < 40 := Nat.mod_lt _ (by omega)
  have FF := Lib.hid (fz_facts (n % 40) hN)
  have FD := Lib.hid (fz_dead (n % 40) hN)
  have FW := Lib.hid (fz_write (n % 40) hN)
  have FE := Lib.hid (fz_end (n % 40) hN)
  clear g0
  go_enter Try.func9, Try.ntmps9
  go_wp2_with fail
  refine (m_new w 3 (by omega) (by omega)).mono ?_
  rintro e w1 ⟨rfl, m0⟩
  go_wp2_with fail
  refine (awake_any _).mono ?_
  rintro e w1a ⟨rfl, hb1⟩
  have m1 := m0.step hb1
  clear hb1 m0
  go_wp2_with fail
  refine (m_grow m1 2).mono ?_
  rintro e w2 ⟨rfl, m2⟩
  rw [G.out.1] at m2
  rw [G.out.2]
  clear G m1
  go_wp2_with fail
  refine (m_fuse m2 _ (by omega)).mono ?_
  rintro e w3 ⟨rfl, m3⟩
  have e0 : (st0 3).fuse ((n : Int) % 40) = fz (n % 40) 0 := by simp [fz]
  have HR := Lib.hid (show FzRel w (w.heap.size + 1) (fz (n % 40) 0) w3 from by rw [← e0]; exact m3)
  clear m2 m3 e0
  go_wp2_with fail
  go_loopw [7] (fun i wr => ∃ k : Nat, k ≤ n % 40 ∧ i = .int .i64 k ∧ FzRel w (w.heap.size + 1) (fz (n % 40) k) wr) (fun i _ => n % 40 - (intOf i).toNat)
  case atStart => exact ⟨0, by omega, rfl, HR.out⟩
  case round =>
    obtain ⟨k, hk, rfl, hr⟩ := hrel
    clear HR
    by_cases hlt : k < n % 40
    · have hd := FD.out k (by omega)
      rw [decide_eq_false (by omega : ¬ k = n % 40)] at hd
      have hll := (FF.out k (by omega)).2.2.2.1
      have hlt2 : (k : Int) < (n : Int) % 40 := by omega
      have hr' : Mine w wr (w.heap.size + 1) (fz (n % 40) k) := hr
      have hdd := m_dead hr'
      rw [hd] at hdd
      clear hd hr
      go_wp2_with fail
      refine hdd.mono ?_
      rintro e w' ⟨rfl, rfl⟩
      clear hdd
      by_cases h3 : k % 3 = 2
      · have hq : ((k : Int) % 3 == 2) = true := by simp; omega
        have hs : fz (n % 40) (k + 1) = (fz (n % 40) k).sync := by simp [fz, h3]
        have HS := Lib.hid hs
        clear hs h3
        go_wp2_with fail
        refine (m_sync hr' (by omega)).mono ?_
        rintro e w5 ⟨rfl, m5⟩
        go_wp2_with fail
        go_roundw
        case rel => exact ⟨k + 1, by omega, by go_num, by unfold FzRel; rw [HS.out]; exact m5⟩
        case measure => simp [intOf]; omega
      · have hq : ((k : Int) % 3 == 2) = false := by simp; omega
        have hs : fz (n % 40) (k + 1) = (fz (n % 40) k).write ((k % 2 : Nat) : Int) (rep k) := by simp [fz, h3]
        have HS := Lib.hid hs
        have H3 := Lib.hid h3
        clear hs h3
        have hk8 : (k : Int) % 256 = k := by omega
        go_wp2_with fail
        refine (page_any _ k (by omega)).mono ?_
        rintro e w5 ⟨rfl, rfl⟩
        have m5 := hr'.alloc (.cells (pcell (rep k)) 5)
        have hw0 := FW.out k hlt
        rw [show ((k % 2 : Nat) : Int) = (k : Int) % 2 by omega] at hw0
        have hcw := m_write m5 ((k : Int) % 2) (some ⟨wr.heap.size, 0, none⟩) 256 (rep k) 256 (rep_len k) (by omega) (row_of_block (heap_alloc_new wr _) |>.more (by simp))
        rw [hw0] at hcw
        clear m5 hw0
        go_wp2_with fail
        refine hcw.mono ?_
        rintro e w6 ⟨rfl, m6⟩
        clear hcw
        go_wp2_with fail
        go_roundw
        case rel => exact ⟨k + 1, by omega, by go_num, by unfold FzRel; rw [HS.out, show ((k % 2 : Nat) : Int) = (k : Int) % 2 by omega]; exact m6⟩
        case measure => simp [intOf]; omega
    · obtain rfl : k = n % 40 := by omega
      have hll := (FF.out (n % 40) (by omega)).2.2.2.1
      have hle := (FF.out (n % 40) (by omega)).2.2.1
      have hr' : Mine w wr (w.heap.size + 1) (fz (n % 40) (n % 40)) := hr
      have HE := Lib.hid (FE.out)
      generalize fz (n % 40) (n % 40) = S at *
      have HR := Lib.hid hr'
      clear FF FD FW FE hr hlt hk
      go_wp2_with fail
      refine (m_loose HR.out).mono ?_
      rintro e w' ⟨rfl, rfl⟩
      clear hr'
      go_wp2_with fail
      go_loopw [9] (fun i ws => ∃ k : Nat, k ≤ more % 10 ∧ i = .int .i64 k ∧ FzRel w (w.heap.size + 1) S ws) (fun i _ => more % 10 - (intOf i).toNat)
      case atStart => exact ⟨0, by omega, rfl, HR.out⟩
      case round =>
        obtain ⟨k, hk, rfl, hr⟩ := hrel
        have hs' : Mine w _ (w.heap.size + 1) S := hr
        clear HR hr
        by_cases hlt : k < more % 10
        · have hlt2 : (k : Int) < (more : Int) % 10 := by omega
          go_wp2_with fail
          refine (m_sync hs' (by omega)).mono ?_
          rintro e w5 ⟨rfl, m5⟩
          rw [HE.out.1] at m5
          go_wp2_with fail
          refine (page_any _ 99 (by omega)).mono ?_
          rintro e w6 ⟨rfl, rfl⟩
          have m6 := m5.alloc (.cells (pcell (rep 99)) 5)
          go_wp2_with fail
          refine (m_write m6 0 (some ⟨w5.heap.size, 0, none⟩) 256 (rep 99) 256 (rep_len 99) (by omega) (row_of_block (heap_alloc_new w5 _) |>.more (by simp))).mono ?_
          rintro e w7 ⟨rfl, m7⟩
          rw [HE.out.2.1]
          rw [HE.out.2.2.1] at m7
          clear m5 m6 hs'
          go_wp2_with fail
          refine (m_loose m7).mono ?_
          rintro e w8 ⟨rfl, rfl⟩
          go_wp2_with fail
          refine (m_grow m7 3).mono ?_
          rintro e w9 ⟨rfl, m9⟩
          rw [HE.out.2.2.2.1]
          rw [HE.out.2.2.2.2.1] at m9
          clear m7
          go_wp2_with fail
          go_roundw
          case rel => exact ⟨k + 1, by omega, by go_num, m9⟩
          case measure => simp [intOf]; omega
        · obtain rfl : k = more % 10 := by omega
          go_wp2_with fail
          refine (m_dead hs').mono ?_
          rintro e w8 ⟨rfl, rfl⟩
          rw [HE.out.2.2.2.2.2]
          go_wp2_with fail
          refine (m_pages hs').mono ?_
          rintro e w9 ⟨rfl, rfl⟩
          rw [hle]
          go_wp2_with fail
          go_ret
          exact ⟨rfl, hs'.below⟩
end Go.Proofs.Ytecdindjlfefhaa.DiskFuses
