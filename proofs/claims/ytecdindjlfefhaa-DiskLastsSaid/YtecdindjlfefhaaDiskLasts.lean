/- DiskLasts, walked. -/
import Derived.Test.YtecdindjlfefhaaDiskThree
import Derived.Test.YtecdindjlfefhaaReg
import Derived.Deep.RegionHeld3
namespace Go.Proofs.Ytecdindjlfefhaa.DiskLasts
open Go.RowKit Base DiskPlain DiskMem DiskSmall DiskRead DiskGrow DiskWrite DiskSync DiskCrash DiskSpoil DiskCopy DiskLaw DiskDo DiskPlumb DiskTwo DiskGrows DiskSim DiskSyncs DiskThree Go.Maps

/-- []byte(s), whatever the world -/
theorem cv_pages (s : ByteArray) : ∃ C : World → Nat, ∃ V : World → World, (∀ w : World, (convert 9 45 (.string s)).run Try.prog w = .ok (.slice (some ⟨w.heap.size, 0, none⟩) s.size (C w)) (V w)) ∧ ∀ w : World, Below w.heap.size w (V w) ∧ Row (V w) (V w).heap.size (some ⟨w.heap.size, 0, none⟩) (bv s.data.toList) := by
  have h := fun w : World => conv_string (P := Try.prog) w s Try.underlying9 Try.underlying45 Try.underlying5
  refine ⟨fun w => (h w).choose, fun w => (h w).choose_spec.choose, fun w => (h w).choose_spec.choose_spec.1, fun w => ?_⟩
  obtain ⟨_, _, h3, h4, h5, _⟩ := (h w).choose_spec.choose_spec
  exact ⟨h3, h5.more (Nat.le_of_eq h4.symm)⟩
def LaRel (w : World) (d : Nat) (D : DS) (x y : Nat) (T : DS) (v : Value) (wr : World) : Prop := ∃ A c, v = .slice A T.loose.length c ∧ Four w wr d D x T y T A c T.loose.length
def LaRel2 (w : World) (d : Nat) (D : DS) (x : Nat) (X : DS) (y : Nat) (Y : DS) (wr : World) : Prop := ∃ A c n, Four w wr d D x X y Y A c n
theorem six_alloc {w : World} {ab o : Nat} {x : Ac} {K : Option Addr} {ck : Nat} {W : World} (hsix : ∀ w, Below W.heap.size W w → Six w ab o x K ck) (hb : Below W.heap.size W w) : Six w ab o x K ck := hsix w hb
set_option maxRecDepth 100000 in
set_option maxHeartbeats 4000000 in
theorem DiskLasts_walk (A : Option Addr) (c : Nat) (xs : List Ac) (A1 : Option Addr) (c1 : Nat) (ks : List (Int × Nat)) (w : World) (hA : Acts w A xs) (hxl : xs.length ≤ maxLen) (hB : Row w w.heap.size A1 (keptCells ks)) (hz : ∀ x ∈ ks, x.2 < 256) (hkl : ks.length ≤ maxLen) :
    Calls Try.prog 6 #[.slice A xs.length c, .slice A1 ks.length c1] w fun e w' => e = .returned (.bool true) ∧ Below w.heap.size w w' := by
  unfold maxLen at hxl hkl
  by_cases hk20 : ks.length ≤ 20
  · have HA := Lib.hid hA
    have HB := Lib.hid hB
    have HZ := Lib.hid hz
    have hb20 : decide (20 < ks.length) = false := by simp; omega
    clear hA hB hz
    go_enter Try.func6, Try.ntmps6
    go_wp2_with fail
    refine (m_new w 20 (by omega) (by omega)).mono ?_
    rintro e w1 ⟨rfl, m0⟩
    go_wp2_with fail
    refine (awake_any _).mono ?_
    rintro e w1a ⟨rfl, hb1⟩
    have HR := Lib.hid (show GrRel w (w.heap.size + 1) (runs okA (new 20) (xs.take 0)) w1a from m0.step hb1)
    clear hb1 m0
    go_wp2_with fail
    go_loopw [7] (fun i wr => ∃ k : Nat, k ≤ xs.length ∧ k ≤ 40 ∧ i = .int .i64 k ∧ GrRel w (w.heap.size + 1) (runs okA (new 20) (xs.take k)) wr) (fun i _ => 40 - (intOf i).toNat)
    case atStart => exact ⟨0, by omega, by omega, rfl, HR.out⟩
    case round =>
      obtain ⟨k, hk, hk30, rfl, hr0⟩ := hrel
      have hr : Mine w wr (w.heap.size + 1) (runs okA (new 20) (xs.take k)) := hr0
      clear HR hr0
      have hll : (runs okA (new 20) (xs.take k)).loose.length ≤ 40 := by
        have := runs_loose okA (xs.take k) (new 20)
        rw [List.length_take, show (new 20).loose.length = 0 from rfl] at this
        omega
      by_cases hlt : k < xs.length ∧ k < 40
      · obtain ⟨hlt1, hlt2⟩ := hlt
        obtain ⟨x, hx⟩ : ∃ x, xs[k]? = some x := ⟨_, List.getElem?_eq_getElem hlt1⟩
        have hst := runs_take okA (new 20) xs k x hx
        obtain ⟨hok, ab, ao, K, ck, hA1, hsix, hrow⟩ := act_at HA.out hx
        have hidx := idx_acts (n := xs.length) (c := c) hA1 hlt1
        obtain ⟨q0, q1, q2, q3, q4, q5⟩ := hsix wr hr.below
        have hfw := few_any x K ck wr hok.s hok.k
        have m1 := hr.alloc (.cells #[.int .i64 x.kind, .int .i64 x.n, .int .i64 x.page, .int .i64 x.at_, .string x.s, .slice K x.kept.length ck] 35)
        have H6 := Lib.hid (hsix _ m1.below)
        have HW := Lib.hid (hrow _ m1.below)
        clear hA1 hx hsix hrow hr
        cases hfx : few x with
        | false =>
          rw [hfx] at hfw
          have HS := Lib.hid (show runs okA (new 20) (xs.take (k + 1)) = runs okA (new 20) (xs.take k) by rw [hst]; simp [okA, hfx])
          clear hst hfx
          go_wp2_with fail
          refine hfw.mono ?_
          rintro e w2 ⟨rfl, rfl⟩
          clear hfw
          go_wp2_with fail
          go_roundw
          case rel => exact ⟨k + 1, by omega, by omega, by go_num, by unfold GrRel; rw [HS.out]; exact m1⟩
          case measure => simp [intOf]; omega
        | true =>
          rw [hfx] at hfw
          by_cases h6 : x.kind = 6
          · have HS := Lib.hid (show runs okA (new 20) (xs.take (k + 1)) = runs okA (new 20) (xs.take k) by rw [hst]; simp [okA, h6])
            have b6 : (x.kind != 6) = false := by simp [h6]
            have HK6 := Lib.hid h6
            obtain ⟨r0, r1, r2, r3, r4, r5⟩ := H6.out
            clear hst h6 hfx
            go_wp2_with fail
            refine hfw.mono ?_
            rintro e w2 ⟨rfl, rfl⟩
            clear hfw
            go_wp2_with fail
            go_roundw
            case rel => exact ⟨k + 1, by omega, by omega, by go_num, by unfold GrRel; rw [HS.out]; exact m1⟩
            case measure => simp [intOf]; omega
          · have HS := Lib.hid (show runs okA (new 20) (xs.take (k + 1)) = act (runs okA (new 20) (xs.take k)) x by rw [hst]; simp [okA, hfx, h6])
            have b6 : (x.kind != 6) = true := by simp [h6]
            have HK6 := Lib.hid h6
            have hdo := m_do m1 x K ck hok hfx (by omega) HW.out
            obtain ⟨r0, r1, r2, r3, r4, r5⟩ := H6.out
            clear hst h6 hfx
            go_wp2_with fail
            refine hfw.mono ?_
            rintro e w2 ⟨rfl, rfl⟩
            clear hfw
            go_wp2_with fail
            refine hdo.mono ?_
            rintro e w3 ⟨rfl, m3⟩
            clear hdo
            go_wp2_with fail
            go_roundw
            case rel => exact ⟨k + 1, by omega, by omega, by go_num, by unfold GrRel; rw [HS.out]; exact m3⟩
            case measure => simp [intOf]; omega
      · have hS1 := runs_fused okA okA_6 (xs.take k) (new 20) rfl
        generalize runs okA (new 20) (xs.take k) = S at *
        have hS3 := hr.ok
        have hfs : S.sync.fused = false := by unfold DS.sync; rw [dead_no hS1, if_neg (by simp), burn_no (by exact hS1)]; exact hS1
        have hls : S.sync.loose = [] := by unfold DS.sync; rw [dead_no hS1, if_neg (by simp), burn_no (by exact hS1)]; rfl
        have hok2 := hS3.sync
        have hc1 := crash_none hls ks
        have hex : decide (k < xs.length) = false ∨ (decide (k < xs.length) = true ∧ decide ((k : Int) < 40) = false) := by
          by_cases q : k < xs.length
          · exact .inr ⟨by simpa using q, by simp; omega⟩
          · exact .inl (by simpa using q)
        have HL := Lib.hid hlt
        have hsy := m_sync hr (by omega)
        generalize S.sync = S1 at *
        have HF := Lib.hid hfs
        have HLS := Lib.hid hls
        have HOK := Lib.hid hok2
        have HC1 := Lib.hid hc1
        have hz0 : S1.loose.length ≤ 100000000 := by rw [hls]; simp
        clear hlt hfs hls hok2 hc1 hS1 hS3
        rcases hex with hx1 | ⟨hx1, hx2⟩
        all_goals
          go_wp2_with fail
          refine hsy.mono ?_
          rintro e w2 ⟨rfl, m2⟩
          clear hsy hr
          go_wp2_with fail
          refine (t_copy m2 hz0).mono ?_
          rintro e w3 ⟨rfl, t3⟩
          generalize w2.heap.size = gx at t3 ⊢
          clear m2
          go_wp2_with fail
          refine (t_crash t3 A1 c1 ks _ rfl (by omega) HZ.out hz0 HB.out).mono ?_
          rintro e w4 ⟨rfl, t4⟩
          clear t3
          go_wp2_with fail
          refine (t_third t4 hz0).mono ?_
          rintro e w5 ⟨rfl, t5⟩
          generalize w4.heap.size = gy at t5 ⊢
          clear t4
          have HD := Lib.hid (show (S1.crash ks).last = S1.last ∧ (S1.crash ks).loose = [] from HC1.out)
          have HR := Lib.hid (show LaRel w (w.heap.size + 1) (S1.crash ks) gx gy (runs okW S1 (xs.take 0)) (.slice (some ⟨w5.heap.size, 0, none⟩) 0 0) (w5.alloc (.cells #[] 52)) from ⟨_, _, by rw [show (runs okW S1 (xs.take 0)) = S1 from rfl, HLS.out]; rfl, by
            rw [show (runs okW S1 (xs.take 0)) = S1 from rfl, show S1.loose.length = 0 by rw [HLS.out]; rfl]; exact t5⟩)
          clear t5 HC1
          generalize S1.crash ks = D at *
          go_wp2_with fail
          go_loopw [10, 11] (fun v i wr => ∃ k : Nat, k ≤ xs.length ∧ k ≤ 40 ∧ i = .int .i64 k ∧ LaRel w (w.heap.size + 1) D gx gy (runs okW S1 (xs.take k)) v wr) (fun _ i _ => 40 - (intOf i).toNat)
          case atStart => exact ⟨0, by omega, by omega, rfl, HR.out⟩
          case round =>
            clear HR hx1
            try clear hx2
            clear HL
            clear hll hk hk30
            obtain ⟨j, hj, hj40, rfl, A2, c2, rfl, hf⟩ := hrel
            have hll : (runs okW S1 (xs.take j)).loose.length ≤ 40 := by
              have := runs_loose okW (xs.take j) S1
              rw [List.length_take, HLS.out] at this
              simp at this
              omega
            by_cases hlt : j < xs.length ∧ j < 40
            · obtain ⟨hlt1, hlt2⟩ := hlt
              obtain ⟨x, hx⟩ : ∃ x, xs[j]? = some x := ⟨_, List.getElem?_eq_getElem hlt1⟩
              have hst := runs_take okW S1 xs j x hx
              have hfu := runs_fused okW okW_6 (xs.take j) S1 HF.out
              have hac : x.kind = 1 → act (runs okW S1 (xs.take j)) x = _ := fun h1 => act_write h1 hfu
              obtain ⟨hok, ab, ao, K, ck, hA1, hsix, hrow⟩ := act_at HA.out hx
              have hidx := idx_acts (n := xs.length) (c := c) hA1 hlt1
              have hf0 := hf.drew
              have hsixr := hsix wr.drew hf.drew.below
              obtain ⟨q0, q1, q2, q3, q4, q5⟩ := hsixr
              obtain ⟨C, V, hcv, hV0⟩ := cv_pages x.s
              have HV := Lib.hid hV0
              clear hV0
              have hfw := few_any x K ck wr.drew hok.s hok.k
              have f1 := hf.drew.alloc (.cells #[.int .i64 x.kind, .int .i64 x.n, .int .i64 x.page, .int .i64 x.at_, .string x.s, .slice K x.kept.length ck] 35)
              have HC := Lib.hid hsix
              generalize runs okW S1 (xs.take j) = T at *
              clear hA1 hx hsix hrow hf
              have hbr := hf0.below
              cases hfx : few x with
              | false =>
                rw [hfx] at hfw
                have HS := Lib.hid (show runs okW S1 (xs.take (j + 1)) = T by rw [hst]; simp [okW, hfx])
                clear hst hfx hac
                go_wp2_with fail
                refine wp_region_any (by kernel_rfl) ?_
                change wpAny _ _ _ _ _ _ _ (World.drew _)
                refine Reg.take_at (i := 0) (d := 89) (v := ?_) rfl rfl (by kernel_rfl) (by kernel_rfl) (by kernel_rfl) (fun _ _ _ h => h) (Or.inl ⟨by rfl, ?_⟩) ?_
                rotate_left 1
                · intro w; go_simp <;> with_reducible rfl
                simp only [Act.put, List.setIfInBounds_toArray, List.set_cons_zero, List.set_cons_succ]
                refine Reg.take_at (i := 1) (d := 90) (v := ?_) rfl rfl (by kernel_rfl) (by kernel_rfl) (by kernel_rfl) (fun _ _ _ h => h) (Or.inl ⟨by rfl, ?_⟩) ?_
                rotate_left 1
                · intro w; go_simp <;> with_reducible rfl
                simp only [Act.put, List.setIfInBounds_toArray, List.set_cons_zero, List.set_cons_succ]
                refine Reg.take_at (i := 2) (d := 91) (v := ?_) rfl rfl (by kernel_rfl) (by kernel_rfl) (by kernel_rfl) (fun _ _ _ h => h) (Or.inl ⟨by rfl, ?_⟩) ?_
                rotate_left 1
                · intro w; go_simp <;> with_reducible rfl
                simp only [Act.put, List.setIfInBounds_toArray, List.set_cons_zero, List.set_cons_succ]
                refine wpAny_ready (rs := [3]) (by decide +kernel) (by simp) ?_
                refine AllReady.cons rfl (fun KK hK => ?_) AllReady.nil
                go_simp
                refine hK _ _ ?_
                clear hK KK
                refine wpAny_ready (rs := [4]) (by decide +kernel) (by simp) ?_
                refine AllReady.cons rfl (fun KK hK => ?_) AllReady.nil
                go_simp
                refine hfw.mono ?_
                rintro e w2 ⟨rfl, rfl⟩
                clear hfw
                generalize wr.drew.alloc (.cells #[.int .i64 x.kind, .int .i64 x.n, .int .i64 x.page, .int .i64 x.at_, .string x.s, .slice K x.kept.length ck] 35) = wb at *
                obtain ⟨r0, r1, r2, r3, r4, r5⟩ := HC.out _ f1.below
                go_wp2_with fail
                refine Reg.take_at (i := 5) (d := 94) (v := ?_) rfl rfl (by kernel_rfl) (by kernel_rfl) (by kernel_rfl) (fun _ _ _ h => h) (Or.inl ⟨by rfl, ?_⟩) ?_
                rotate_left 1
                · intro w; go_simp <;> with_reducible rfl
                simp only [Act.put, List.setIfInBounds_toArray, List.set_cons_zero, List.set_cons_succ]
                refine Reg.take_at (i := 6) (d := 95) (v := undef) rfl rfl (by kernel_rfl) (by kernel_rfl) (by kernel_rfl) (fun _ _ _ h => h) (Or.inr ⟨by rfl, rfl⟩) ?_
                simp only [Act.put, List.setIfInBounds_toArray, List.set_cons_zero, List.set_cons_succ]
                refine Reg.take_at (i := 7) (d := 96) (v := undef) rfl rfl (by kernel_rfl) (by kernel_rfl) (by kernel_rfl) (fun _ _ _ h => h) (Or.inr ⟨by rfl, rfl⟩) ?_
                simp only [Act.put, List.setIfInBounds_toArray, List.set_cons_zero, List.set_cons_succ]
                refine Reg.take_at (i := 8) (d := 97) (v := undef) rfl rfl (by kernel_rfl) (by kernel_rfl) (by kernel_rfl) (fun _ _ _ h => h) (Or.inr ⟨by rfl, rfl⟩) ?_
                simp only [Act.put, List.setIfInBounds_toArray, List.set_cons_zero, List.set_cons_succ]
                refine Reg.take_at (i := 9) (d := 98) (v := undef) rfl rfl (by kernel_rfl) (by kernel_rfl) (by kernel_rfl) (fun _ _ _ h => h) (Or.inr ⟨by rfl, rfl⟩) ?_
                simp only [Act.put, List.setIfInBounds_toArray, List.set_cons_zero, List.set_cons_succ]
                refine Reg.take_at (i := 10) (d := 99) (v := undef) rfl rfl (by kernel_rfl) (by kernel_rfl) (by kernel_rfl) (fun _ _ _ h => h) (Or.inr ⟨by rfl, rfl⟩) ?_
                simp only [Act.put, List.setIfInBounds_toArray, List.set_cons_zero, List.set_cons_succ]
                refine Reg.take_at (i := 11) (d := 100) (v := undef) rfl rfl (by kernel_rfl) (by kernel_rfl) (by kernel_rfl) (fun _ _ _ h => h) (Or.inr ⟨by rfl, rfl⟩) ?_
                simp only [Act.put, List.setIfInBounds_toArray, List.set_cons_zero, List.set_cons_succ]
                refine Reg.take_at (i := 12) (d := 101) (v := ?_) rfl rfl (by kernel_rfl) (by kernel_rfl) (by kernel_rfl) (fun _ _ _ h => h) (Or.inl ⟨by rfl, ?_⟩) ?_
                rotate_left 1
                · intro w; go_simp <;> with_reducible rfl
                simp only [Act.put, List.setIfInBounds_toArray, List.set_cons_zero, List.set_cons_succ]
                refine Reg.take_at (i := 13) (d := 102) (v := ?_) rfl rfl (by kernel_rfl) (by kernel_rfl) (by kernel_rfl) (fun _ _ _ h => h) (Or.inl ⟨by rfl, ?_⟩) ?_
                rotate_left 1
                · intro w; go_simp <;> with_reducible rfl
                simp only [Act.put, List.setIfInBounds_toArray, List.set_cons_zero, List.set_cons_succ]
                refine Reg.take_at (i := 14) (d := 103) (v := undef) rfl rfl (by kernel_rfl) (by kernel_rfl) (by kernel_rfl) (fun _ _ _ h => h) (Or.inr ⟨by rfl, rfl⟩) ?_
                simp only [Act.put, List.setIfInBounds_toArray, List.set_cons_zero, List.set_cons_succ]
                refine Reg.take_at (i := 15) (d := 104) (v := undef) rfl rfl (by kernel_rfl) (by kernel_rfl) (by kernel_rfl) (fun _ _ _ h => h) (Or.inr ⟨by rfl, rfl⟩) ?_
                simp only [Act.put, List.setIfInBounds_toArray, List.set_cons_zero, List.set_cons_succ]
                refine Reg.take_at (i := 16) (d := 105) (v := undef) rfl rfl (by kernel_rfl) (by kernel_rfl) (by kernel_rfl) (fun _ _ _ h => h) (Or.inr ⟨by rfl, rfl⟩) ?_
                simp only [Act.put, List.setIfInBounds_toArray, List.set_cons_zero, List.set_cons_succ]
                refine Reg.take_at (i := 17) (d := 106) (v := undef) rfl rfl (by kernel_rfl) (by kernel_rfl) (by kernel_rfl) (fun _ _ _ h => h) (Or.inr ⟨by rfl, rfl⟩) ?_
                simp only [Act.put, List.setIfInBounds_toArray, List.set_cons_zero, List.set_cons_succ]
                refine Reg.take_at (i := 18) (d := 107) (v := undef) rfl rfl (by kernel_rfl) (by kernel_rfl) (by kernel_rfl) (fun _ _ _ h => h) (Or.inr ⟨by rfl, rfl⟩) ?_
                simp only [Act.put, List.setIfInBounds_toArray, List.set_cons_zero, List.set_cons_succ]
                refine Reg.take_at (i := 19) (d := 108) (v := undef) rfl rfl (by kernel_rfl) (by kernel_rfl) (by kernel_rfl) (fun _ _ _ h => h) (Or.inr ⟨by rfl, rfl⟩) ?_
                simp only [Act.put, List.setIfInBounds_toArray, List.set_cons_zero, List.set_cons_succ]
                refine Reg.take_at (i := 20) (d := 109) (v := undef) rfl rfl (by kernel_rfl) (by kernel_rfl) (by kernel_rfl) (fun _ _ _ h => h) (Or.inr ⟨by rfl, rfl⟩) ?_
                simp only [Act.put, List.setIfInBounds_toArray, List.set_cons_zero, List.set_cons_succ]
                refine Reg.take_at (i := 21) (d := 110) (v := undef) rfl rfl (by kernel_rfl) (by kernel_rfl) (by kernel_rfl) (fun _ _ _ h => h) (Or.inr ⟨by rfl, rfl⟩) ?_
                simp only [Act.put, List.setIfInBounds_toArray, List.set_cons_zero, List.set_cons_succ]
                refine Reg.take_at (i := 22) (d := 111) (v := undef) rfl rfl (by kernel_rfl) (by kernel_rfl) (by kernel_rfl) (fun _ _ _ h => h) (Or.inr ⟨by rfl, rfl⟩) ?_
                simp only [Act.put, List.setIfInBounds_toArray, List.set_cons_zero, List.set_cons_succ]
                refine Reg.take_at (i := 23) (d := 112) (v := undef) rfl rfl (by kernel_rfl) (by kernel_rfl) (by kernel_rfl) (fun _ _ _ h => h) (Or.inr ⟨by rfl, rfl⟩) ?_
                simp only [Act.put, List.setIfInBounds_toArray, List.set_cons_zero, List.set_cons_succ]
                refine Reg.take_at (i := 24) (d := 113) (v := undef) rfl rfl (by kernel_rfl) (by kernel_rfl) (by kernel_rfl) (fun _ _ _ h => h) (Or.inr ⟨by rfl, rfl⟩) ?_
                simp only [Act.put, List.setIfInBounds_toArray, List.set_cons_zero, List.set_cons_succ]
                refine Reg.take_at (i := 25) (d := 114) (v := undef) rfl rfl (by kernel_rfl) (by kernel_rfl) (by kernel_rfl) (fun _ _ _ h => h) (Or.inr ⟨by rfl, rfl⟩) ?_
                simp only [Act.put, List.setIfInBounds_toArray, List.set_cons_zero, List.set_cons_succ]
                refine Reg.take_at (i := 26) (d := 115) (v := undef) rfl rfl (by kernel_rfl) (by kernel_rfl) (by kernel_rfl) (fun _ _ _ h => h) (Or.inr ⟨by rfl, rfl⟩) ?_
                simp only [Act.put, List.setIfInBounds_toArray, List.set_cons_zero, List.set_cons_succ]
                refine Reg.take_at (i := 27) (d := 116) (v := undef) rfl rfl (by kernel_rfl) (by kernel_rfl) (by kernel_rfl) (fun _ _ _ h => h) (Or.inr ⟨by rfl, rfl⟩) ?_
                simp only [Act.put, List.setIfInBounds_toArray, List.set_cons_zero, List.set_cons_succ]
                refine Reg.take_at (i := 28) (d := 117) (v := ?_) rfl rfl (by kernel_rfl) (by kernel_rfl) (by kernel_rfl) (fun _ _ _ h => h) (Or.inl ⟨by rfl, ?_⟩) ?_
                rotate_left 1
                · intro w; go_simp <;> with_reducible rfl
                simp only [Act.put, List.setIfInBounds_toArray, List.set_cons_zero, List.set_cons_succ]
                refine wpAny_done (by kernel_rfl) ?_ _
                go_wp2_with fail
                go_roundw
                case rel => exact ⟨j + 1, by omega, by omega, by go_num, by rw [HS.out]; exact ⟨_, _, rfl, f1⟩⟩
                case measure => simp [intOf]; omega
              | true =>
                rw [hfx] at hfw
                by_cases hk1 : x.kind = 1
                · have hT1 := (act1 T hk1).1
                  have hac1 := hac hk1
                  have HS := Lib.hid (show runs okW S1 (xs.take (j + 1)) = T.write x.page x.b by rw [hst, ← hT1]; simp [okW, hfx, hk1])
                  rw [hT1] at hac1
                  have hb1 : (x.kind == 1) = true := by simp [hk1]
                  have HK1 := Lib.hid hk1
                  have hsb : x.b.length = x.s.size := by simp [Ac.b]
                  clear hst hfx hac hk1 hT1
                  by_cases hE : T.writeE x.page x.b = 0
                  · have HL1 := Lib.hid (show (T.write x.page x.b).loose.length = T.loose.length + 1 by rw [hac1, if_pos hE]; simp [DS.written])
                    have HE := Lib.hid hE
                    clear hac1 hE
                    go_wp2_with fail
                    refine wp_region_any (by kernel_rfl) ?_
                    change wpAny _ _ _ _ _ _ _ (World.drew _)
                    refine Reg.take_at (i := 0) (d := 89) (v := ?_) rfl rfl (by kernel_rfl) (by kernel_rfl) (by kernel_rfl) (fun _ _ _ h => h) (Or.inl ⟨by rfl, ?_⟩) ?_
                    rotate_left 1
                    · intro w; go_simp <;> with_reducible rfl
                    simp only [Act.put, List.setIfInBounds_toArray, List.set_cons_zero, List.set_cons_succ]
                    refine Reg.take_at (i := 1) (d := 90) (v := ?_) rfl rfl (by kernel_rfl) (by kernel_rfl) (by kernel_rfl) (fun _ _ _ h => h) (Or.inl ⟨by rfl, ?_⟩) ?_
                    rotate_left 1
                    · intro w; go_simp <;> with_reducible rfl
                    simp only [Act.put, List.setIfInBounds_toArray, List.set_cons_zero, List.set_cons_succ]
                    refine Reg.take_at (i := 2) (d := 91) (v := ?_) rfl rfl (by kernel_rfl) (by kernel_rfl) (by kernel_rfl) (fun _ _ _ h => h) (Or.inl ⟨by rfl, ?_⟩) ?_
                    rotate_left 1
                    · intro w; go_simp <;> with_reducible rfl
                    simp only [Act.put, List.setIfInBounds_toArray, List.set_cons_zero, List.set_cons_succ]
                    refine wpAny_ready (rs := [3]) (by decide +kernel) (by simp) ?_
                    refine AllReady.cons rfl (fun KK hK => ?_) AllReady.nil
                    go_simp
                    refine hK _ _ ?_
                    clear hK KK
                    refine wpAny_ready (rs := [4]) (by decide +kernel) (by simp) ?_
                    refine AllReady.cons rfl (fun KK hK => ?_) AllReady.nil
                    go_simp
                    refine hfw.mono ?_
                    rintro e w2 ⟨rfl, rfl⟩
                    clear hfw
                    generalize wr.drew.alloc (.cells #[.int .i64 x.kind, .int .i64 x.n, .int .i64 x.page, .int .i64 x.at_, .string x.s, .slice K x.kept.length ck] 35) = wb at *
                    obtain ⟨r0, r1, r2, r3, r4, r5⟩ := HC.out _ f1.below
                    have f2 := f1.step (HV.out wb).1
                    have hwr := f_write f2 x.page (some ⟨wb.heap.size, 0, none⟩) (C wb) x.b _ hsb (by omega) (HV.out wb).2
                    obtain ⟨s0, s1, s2, s3, s4, s5⟩ := HC.out _ f2.below
                    rw [HE.out] at hwr
                    go_wp2_with fail
                    refine Reg.take_at (i := 5) (d := 94) (v := ?_) rfl rfl (by kernel_rfl) (by kernel_rfl) (by kernel_rfl) (fun _ _ _ h => h) (Or.inl ⟨by rfl, ?_⟩) ?_
                    rotate_left 1
                    · intro w; go_simp <;> with_reducible rfl
                    simp only [Act.put, List.setIfInBounds_toArray, List.set_cons_zero, List.set_cons_succ]
                    refine Reg.take_at (i := 6) (d := 95) (v := ?_) rfl rfl (by kernel_rfl) (by kernel_rfl) (by kernel_rfl) (fun _ _ _ h => h) (Or.inl ⟨by rfl, ?_⟩) ?_
                    rotate_left 1
                    · intro w; go_simp <;> with_reducible rfl
                    simp only [Act.put, List.setIfInBounds_toArray, List.set_cons_zero, List.set_cons_succ]
                    refine Reg.take_at (i := 7) (d := 96) (v := ?_) rfl rfl (by kernel_rfl) (by kernel_rfl) (by kernel_rfl) (fun _ _ _ h => h) (Or.inl ⟨by rfl, ?_⟩) ?_
                    rotate_left 1
                    · intro w; go_simp <;> with_reducible rfl
                    simp only [Act.put, List.setIfInBounds_toArray, List.set_cons_zero, List.set_cons_succ]
                    refine Reg.take_at (i := 8) (d := 97) (v := ?_) rfl rfl (by kernel_rfl) (by kernel_rfl) (by kernel_rfl) (fun _ _ _ h => h) (Or.inl ⟨by rfl, ?_⟩) ?_
                    rotate_left 1
                    · intro w; go_simp <;> with_reducible rfl
                    simp only [Act.put, List.setIfInBounds_toArray, List.set_cons_zero, List.set_cons_succ]
                    refine Reg.take_at (i := 9) (d := 98) (v := ?_) rfl rfl (by kernel_rfl) (by kernel_rfl) (by kernel_rfl) (fun _ _ _ h => h) (Or.inl ⟨by rfl, ?_⟩) ?_
                    rotate_left 1
                    · intro w; go_simp <;> with_reducible rfl
                    simp only [Act.put, List.setIfInBounds_toArray, List.set_cons_zero, List.set_cons_succ]
                    refine wpAny_ready (rs := [10]) (by decide +kernel) (by simp) ?_
                    refine AllReady.cons rfl (fun KK hK => ?_) AllReady.nil
                    go_simp
                    refine hK _ _ ?_
                    clear hK KK
                    refine Reg.take_at (i := 11) (d := 100) (v := ?_) rfl rfl (by kernel_rfl) (by kernel_rfl) (by kernel_rfl) (fun _ _ _ h => h) (Or.inl ⟨by rfl, ?_⟩) ?_
                    rotate_left 1
                    · intro w; go_simp <;> with_reducible rfl
                    simp only [Act.put, List.setIfInBounds_toArray, List.set_cons_zero, List.set_cons_succ]
                    refine Reg.take_at (i := 12) (d := 101) (v := ?_) rfl rfl (by kernel_rfl) (by kernel_rfl) (by kernel_rfl) (fun _ _ _ h => h) (Or.inl ⟨by rfl, ?_⟩) ?_
                    rotate_left 1
                    · intro w; go_simp <;> with_reducible rfl
                    simp only [Act.put, List.setIfInBounds_toArray, List.set_cons_zero, List.set_cons_succ]
                    refine Reg.take_at (i := 13) (d := 102) (v := ?_) rfl rfl (by kernel_rfl) (by kernel_rfl) (by kernel_rfl) (fun _ _ _ h => h) (Or.inl ⟨by rfl, ?_⟩) ?_
                    rotate_left 1
                    · intro w; go_simp <;> with_reducible rfl
                    simp only [Act.put, List.setIfInBounds_toArray, List.set_cons_zero, List.set_cons_succ]
                    refine Reg.take_at (i := 14) (d := 103) (v := ?_) rfl rfl (by kernel_rfl) (by kernel_rfl) (by kernel_rfl) (fun _ _ _ h => h) (Or.inl ⟨by rfl, ?_⟩) ?_
                    rotate_left 1
                    · intro w; go_simp <;> with_reducible rfl
                    simp only [Act.put, List.setIfInBounds_toArray, List.set_cons_zero, List.set_cons_succ]
                    refine Reg.take_at (i := 15) (d := 104) (v := ?_) rfl rfl (by kernel_rfl) (by kernel_rfl) (by kernel_rfl) (fun _ _ _ h => h) (Or.inl ⟨by rfl, ?_⟩) ?_
                    rotate_left 1
                    · intro w; go_simp <;> with_reducible rfl
                    simp only [Act.put, List.setIfInBounds_toArray, List.set_cons_zero, List.set_cons_succ]
                    refine Reg.take_at (i := 16) (d := 105) (v := ?_) rfl rfl (by kernel_rfl) (by kernel_rfl) (by kernel_rfl) (fun _ _ _ h => h) (Or.inl ⟨by rfl, ?_⟩) ?_
                    rotate_left 1
                    · intro w; go_simp <;> with_reducible rfl
                    simp only [Act.put, List.setIfInBounds_toArray, List.set_cons_zero, List.set_cons_succ]
                    refine Reg.take_at (i := 17) (d := 106) (v := ?_) rfl rfl (by kernel_rfl) (by kernel_rfl) (by kernel_rfl) (fun _ _ _ h => h) (Or.inl ⟨by rfl, ?_⟩) ?_
                    rotate_left 1
                    · intro w; go_simp <;> with_reducible rfl
                    simp only [Act.put, List.setIfInBounds_toArray, List.set_cons_zero, List.set_cons_succ]
                    refine Reg.take_at (i := 18) (d := 107) (v := ?_) rfl rfl (by kernel_rfl) (by kernel_rfl) (by kernel_rfl) (fun _ _ _ h => h) (Or.inl ⟨by rfl, ?_⟩) ?_
                    rotate_left 1
                    · intro w; go_simp <;> with_reducible rfl
                    simp only [Act.put, List.setIfInBounds_toArray, List.set_cons_zero, List.set_cons_succ]
                    refine Reg.take_at (i := 20) (d := 109) (v := ?_) rfl rfl (by kernel_rfl) (by kernel_rfl) (by kernel_rfl) (fun _ _ _ h => h) (Or.inl ⟨by rfl, ?_⟩) ?_
                    rotate_left 1
                    · intro w; go_simp <;> with_reducible rfl
                    simp only [Act.put, List.setIfInBounds_toArray, List.set_cons_zero, List.set_cons_succ]
                    refine Reg.take_at (i := 21) (d := 110) (v := ?_) rfl rfl (by kernel_rfl) (by kernel_rfl) (by kernel_rfl) (fun _ _ _ h => h) (Or.inl ⟨by rfl, ?_⟩) ?_
                    rotate_left 1
                    · intro w; go_simp <;> with_reducible rfl
                    simp only [Act.put, List.setIfInBounds_toArray, List.set_cons_zero, List.set_cons_succ]
                    refine Reg.take_at (i := 22) (d := 111) (v := ?_) rfl rfl (by kernel_rfl) (by kernel_rfl) (by kernel_rfl) (fun _ _ _ h => h) (Or.inl ⟨by rfl, ?_⟩) ?_
                    rotate_left 1
                    · intro w; go_simp <;> with_reducible rfl
                    simp only [Act.put, List.setIfInBounds_toArray, List.set_cons_zero, List.set_cons_succ]
                    refine Reg.take_at (i := 23) (d := 112) (v := ?_) rfl rfl (by kernel_rfl) (by kernel_rfl) (by kernel_rfl) (fun _ _ _ h => h) (Or.inl ⟨by rfl, ?_⟩) ?_
                    rotate_left 1
                    · intro w; go_simp <;> with_reducible rfl
                    simp only [Act.put, List.setIfInBounds_toArray, List.set_cons_zero, List.set_cons_succ]
                    refine wpAny_ready (rs := [19, 24]) (by decide +kernel) (by simp) ?_
                    refine AllReady.cons rfl (fun KK hK => ?_) ?_
                    · go_simp
                      refine hK _ _ ?_
                      clear hK KK
                      refine wpAny_ready (rs := [24]) (by decide +kernel) (by simp) ?_
                      refine AllReady.cons rfl (fun KK hK => ?_) AllReady.nil
                      go_simp
                      refine hK _ _ ?_
                      clear hK KK
                      refine wpAny_ready (rs := [25]) (by decide +kernel) (by simp) ?_
                      refine AllReady.cons rfl (fun KK hK => ?_) AllReady.nil
                      go_simp
                      refine hK _ _ ?_
                      clear hK KK
                      refine wpAny_ready (rs := [26]) (by decide +kernel) (by simp) ?_
                      refine AllReady.cons rfl (fun KK hK => ?_) AllReady.nil
                      go_simp
                      refine hwr.mono ?_
                      rintro e w4 ⟨rfl, f4⟩
                      clear hwr
                      go_wp2_with fail
                      refine Reg.take_at (i := 27) (d := 116) (v := ?_) rfl rfl (by kernel_rfl) (by kernel_rfl) (by kernel_rfl) (fun _ _ _ h => h) (Or.inl ⟨by rfl, ?_⟩) ?_
                      rotate_left 1
                      · intro w; go_simp <;> with_reducible rfl
                      simp only [Act.put, List.setIfInBounds_toArray, List.set_cons_zero, List.set_cons_succ]
                      refine Reg.take_at (i := 28) (d := 117) (v := ?_) rfl rfl (by kernel_rfl) (by kernel_rfl) (by kernel_rfl) (fun _ _ _ h => h) (Or.inl ⟨by rfl, ?_⟩) ?_
                      rotate_left 1
                      · intro w; go_simp <;> with_reducible rfl
                      simp only [Act.put, List.setIfInBounds_toArray, List.set_cons_zero, List.set_cons_succ]
                      refine wpAny_done (by kernel_rfl) ?_ _
                      clear q0 q1 q2 q3 q4 q5 r0 r1 r2 r3 r4 r5 s0 s1 s2 s3 s4 s5 f1 f2
                      go_wp2_with fail
                      have g4 := f4.swap.drew
                      obtain ⟨r0, r1, r2, r3, r4, r5⟩ := HC.out _ g4.below
                      have g5 := g4.step (HV.out w4.drew).1
                      obtain ⟨s0, s1, s2, s3, s4, s5⟩ := HC.out _ g5.below
                      have hwr2 := f_write g5 x.page (some ⟨w4.heap.size, 0, none⟩) (C w4.drew) x.b _ hsb (by omega) (HV.out w4.drew).2
                      refine wp_region_any (by kernel_rfl) ?_
                      change wpAny _ _ _ _ _ _ _ (World.drew _)
                      refine Reg.take_at (i := 0) (d := 118) (v := ?_) rfl rfl (by kernel_rfl) (by kernel_rfl) (by kernel_rfl) (fun _ _ _ h => h) (Or.inl ⟨by rfl, ?_⟩) ?_
                      rotate_left 1
                      · intro w; go_simp <;> with_reducible rfl
                      simp only [Act.put, List.setIfInBounds_toArray, List.set_cons_zero, List.set_cons_succ]
                      refine Reg.take_at (i := 1) (d := 119) (v := ?_) rfl rfl (by kernel_rfl) (by kernel_rfl) (by kernel_rfl) (fun _ _ _ h => h) (Or.inl ⟨by rfl, ?_⟩) ?_
                      rotate_left 1
                      · intro w; go_simp <;> with_reducible rfl
                      simp only [Act.put, List.setIfInBounds_toArray, List.set_cons_zero, List.set_cons_succ]
                      refine Reg.take_at (i := 2) (d := 120) (v := ?_) rfl rfl (by kernel_rfl) (by kernel_rfl) (by kernel_rfl) (fun _ _ _ h => h) (Or.inl ⟨by rfl, ?_⟩) ?_
                      rotate_left 1
                      · intro w; go_simp <;> with_reducible rfl
                      simp only [Act.put, List.setIfInBounds_toArray, List.set_cons_zero, List.set_cons_succ]
                      refine Reg.take_at (i := 3) (d := 121) (v := ?_) rfl rfl (by kernel_rfl) (by kernel_rfl) (by kernel_rfl) (fun _ _ _ h => h) (Or.inl ⟨by rfl, ?_⟩) ?_
                      rotate_left 1
                      · intro w; go_simp <;> with_reducible rfl
                      simp only [Act.put, List.setIfInBounds_toArray, List.set_cons_zero, List.set_cons_succ]
                      refine Reg.take_at (i := 4) (d := 122) (v := ?_) rfl rfl (by kernel_rfl) (by kernel_rfl) (by kernel_rfl) (fun _ _ _ h => h) (Or.inl ⟨by rfl, ?_⟩) ?_
                      rotate_left 1
                      · intro w; go_simp <;> with_reducible rfl
                      simp only [Act.put, List.setIfInBounds_toArray, List.set_cons_zero, List.set_cons_succ]
                      refine Reg.take_at (i := 6) (d := 124) (v := ?_) rfl rfl (by kernel_rfl) (by kernel_rfl) (by kernel_rfl) (fun _ _ _ h => h) (Or.inl ⟨by rfl, ?_⟩) ?_
                      rotate_left 1
                      · intro w; go_simp <;> with_reducible rfl
                      simp only [Act.put, List.setIfInBounds_toArray, List.set_cons_zero, List.set_cons_succ]
                      refine Reg.take_at (i := 7) (d := 125) (v := ?_) rfl rfl (by kernel_rfl) (by kernel_rfl) (by kernel_rfl) (fun _ _ _ h => h) (Or.inl ⟨by rfl, ?_⟩) ?_
                      rotate_left 1
                      · intro w; go_simp <;> with_reducible rfl
                      simp only [Act.put, List.setIfInBounds_toArray, List.set_cons_zero, List.set_cons_succ]
                      refine Reg.take_at (i := 8) (d := 126) (v := ?_) rfl rfl (by kernel_rfl) (by kernel_rfl) (by kernel_rfl) (fun _ _ _ h => h) (Or.inl ⟨by rfl, ?_⟩) ?_
                      rotate_left 1
                      · intro w; go_simp <;> with_reducible rfl
                      simp only [Act.put, List.setIfInBounds_toArray, List.set_cons_zero, List.set_cons_succ]
                      refine Reg.take_at (i := 9) (d := 127) (v := ?_) rfl rfl (by kernel_rfl) (by kernel_rfl) (by kernel_rfl) (fun _ _ _ h => h) (Or.inl ⟨by rfl, ?_⟩) ?_
                      rotate_left 1
                      · intro w; go_simp <;> with_reducible rfl
                      simp only [Act.put, List.setIfInBounds_toArray, List.set_cons_zero, List.set_cons_succ]
                      refine wpAny_ready (rs := [5, 10]) (by decide +kernel) (by simp) ?_
                      refine AllReady.cons rfl (fun KK hK => ?_) ?_
                      · go_simp
                        refine hK _ _ ?_
                        clear hK KK
                        refine wpAny_ready (rs := [10]) (by decide +kernel) (by simp) ?_
                        refine AllReady.cons rfl (fun KK hK => ?_) AllReady.nil
                        go_simp
                        refine hK _ _ ?_
                        clear hK KK
                        refine wpAny_ready (rs := [11]) (by decide +kernel) (by simp) ?_
                        refine AllReady.cons rfl (fun KK hK => ?_) AllReady.nil
                        go_simp
                        refine hK _ _ ?_
                        clear hK KK
                        refine wpAny_ready (rs := [12]) (by decide +kernel) (by simp) ?_
                        refine AllReady.cons rfl (fun KK hK => ?_) AllReady.nil
                        go_simp
                        refine hwr2.mono ?_
                        rintro e w5 ⟨rfl, f5⟩
                        clear hwr2
                        go_wp2_with fail
                        refine wpAny_done (by kernel_rfl) ?_ _
                        have f6 := f5.swap
                        obtain ⟨A3, c3, w6, hrun, f7⟩ := f_append f6 (by omega)
                        clear f5 f6
                        go_wp2_with (at_builtin; refine wpList_append_run rfl (.tmp 131) (.tmp 135) 33 33 rfl rfl rfl hrun ?_)
                        go_roundw
                        case rel => exact ⟨j + 1, by omega, by omega, by go_num, by rw [HS.out]; exact ⟨A3, c3, by rw [HL1.out], by rw [HL1.out]; exact f7⟩⟩
                        case measure => simp [intOf]; omega
                      refine AllReady.cons rfl (fun KK hK => ?_) AllReady.nil
                      go_simp
                      refine hK _ _ ?_
                      clear hK KK
                      refine wpAny_ready (rs := [5, 11]) (by decide +kernel) (by simp) ?_
                      refine AllReady.cons rfl (fun KK hK => ?_) ?_
                      · go_simp
                        refine hK _ _ ?_
                        clear hK KK
                        refine wpAny_ready (rs := [11]) (by decide +kernel) (by simp) ?_
                        refine AllReady.cons rfl (fun KK hK => ?_) AllReady.nil
                        go_simp
                        refine hK _ _ ?_
                        clear hK KK
                        refine wpAny_ready (rs := [12]) (by decide +kernel) (by simp) ?_
                        refine AllReady.cons rfl (fun KK hK => ?_) AllReady.nil
                        go_simp
                        refine hwr2.mono ?_
                        rintro e w5 ⟨rfl, f5⟩
                        clear hwr2
                        go_wp2_with fail
                        refine wpAny_done (by kernel_rfl) ?_ _
                        have f6 := f5.swap
                        obtain ⟨A3, c3, w6, hrun, f7⟩ := f_append f6 (by omega)
                        clear f5 f6
                        go_wp2_with (at_builtin; refine wpList_append_run rfl (.tmp 131) (.tmp 135) 33 33 rfl rfl rfl hrun ?_)
                        go_roundw
                        case rel => exact ⟨j + 1, by omega, by omega, by go_num, by rw [HS.out]; exact ⟨A3, c3, by rw [HL1.out], by rw [HL1.out]; exact f7⟩⟩
                        case measure => simp [intOf]; omega
                      refine AllReady.cons rfl (fun KK hK => ?_) AllReady.nil
                      go_simp
                      refine hK _ _ ?_
                      clear hK KK
                      refine wpAny_ready (rs := [5]) (by decide +kernel) (by simp) ?_
                      refine AllReady.cons rfl (fun KK hK => ?_) AllReady.nil
                      go_simp
                      refine hK _ _ ?_
                      clear hK KK
                      refine wpAny_ready (rs := [12]) (by decide +kernel) (by simp) ?_
                      refine AllReady.cons rfl (fun KK hK => ?_) AllReady.nil
                      go_simp
                      refine hwr2.mono ?_
                      rintro e w5 ⟨rfl, f5⟩
                      clear hwr2
                      go_wp2_with fail
                      refine wpAny_done (by kernel_rfl) ?_ _
                      have f6 := f5.swap
                      obtain ⟨A3, c3, w6, hrun, f7⟩ := f_append f6 (by omega)
                      clear f5 f6
                      go_wp2_with (at_builtin; refine wpList_append_run rfl (.tmp 131) (.tmp 135) 33 33 rfl rfl rfl hrun ?_)
                      go_roundw
                      case rel => exact ⟨j + 1, by omega, by omega, by go_num, by rw [HS.out]; exact ⟨A3, c3, by rw [HL1.out], by rw [HL1.out]; exact f7⟩⟩
                      case measure => simp [intOf]; omega
                    refine AllReady.cons rfl (fun KK hK => ?_) AllReady.nil
                    go_simp
                    refine hK _ _ ?_
                    clear hK KK
                    refine wpAny_ready (rs := [19, 25]) (by decide +kernel) (by simp) ?_
                    refine AllReady.cons rfl (fun KK hK => ?_) ?_
                    · go_simp
                      refine hK _ _ ?_
                      clear hK KK
                      refine wpAny_ready (rs := [25]) (by decide +kernel) (by simp) ?_
                      refine AllReady.cons rfl (fun KK hK => ?_) AllReady.nil
                      go_simp
                      refine hK _ _ ?_
                      clear hK KK
                      refine wpAny_ready (rs := [26]) (by decide +kernel) (by simp) ?_
                      refine AllReady.cons rfl (fun KK hK => ?_) AllReady.nil
                      go_simp
                      refine hwr.mono ?_
                      rintro e w4 ⟨rfl, f4⟩
                      clear hwr
                      go_wp2_with fail
                      refine Reg.take_at (i := 27) (d := 116) (v := ?_) rfl rfl (by kernel_rfl) (by kernel_rfl) (by kernel_rfl) (fun _ _ _ h => h) (Or.inl ⟨by rfl, ?_⟩) ?_
                      rotate_left 1
                      · intro w; go_simp <;> with_reducible rfl
                      simp only [Act.put, List.setIfInBounds_toArray, List.set_cons_zero, List.set_cons_succ]
                      refine Reg.take_at (i := 28) (d := 117) (v := ?_) rfl rfl (by kernel_rfl) (by kernel_rfl) (by kernel_rfl) (fun _ _ _ h => h) (Or.inl ⟨by rfl, ?_⟩) ?_
                      rotate_left 1
                      · intro w; go_simp <;> with_reducible rfl
                      simp only [Act.put, List.setIfInBounds_toArray, List.set_cons_zero, List.set_cons_succ]
                      refine wpAny_done (by kernel_rfl) ?_ _
                      clear q0 q1 q2 q3 q4 q5 r0 r1 r2 r3 r4 r5 s0 s1 s2 s3 s4 s5 f1 f2
                      go_wp2_with fail
                      have g4 := f4.swap.drew
                      obtain ⟨r0, r1, r2, r3, r4, r5⟩ := HC.out _ g4.below
                      have g5 := g4.step (HV.out w4.drew).1
                      obtain ⟨s0, s1, s2, s3, s4, s5⟩ := HC.out _ g5.below
                      have hwr2 := f_write g5 x.page (some ⟨w4.heap.size, 0, none⟩) (C w4.drew) x.b _ hsb (by omega) (HV.out w4.drew).2
                      refine wp_region_any (by kernel_rfl) ?_
                      change wpAny _ _ _ _ _ _ _ (World.drew _)
                      refine Reg.take_at (i := 0) (d := 118) (v := ?_) rfl rfl (by kernel_rfl) (by kernel_rfl) (by kernel_rfl) (fun _ _ _ h => h) (Or.inl ⟨by rfl, ?_⟩) ?_
                      rotate_left 1
                      · intro w; go_simp <;> with_reducible rfl
                      simp only [Act.put, List.setIfInBounds_toArray, List.set_cons_zero, List.set_cons_succ]
                      refine Reg.take_at (i := 1) (d := 119) (v := ?_) rfl rfl (by kernel_rfl) (by kernel_rfl) (by kernel_rfl) (fun _ _ _ h => h) (Or.inl ⟨by rfl, ?_⟩) ?_
                      rotate_left 1
                      · intro w; go_simp <;> with_reducible rfl
                      simp only [Act.put, List.setIfInBounds_toArray, List.set_cons_zero, List.set_cons_succ]
                      refine Reg.take_at (i := 2) (d := 120) (v := ?_) rfl rfl (by kernel_rfl) (by kernel_rfl) (by kernel_rfl) (fun _ _ _ h => h) (Or.inl ⟨by rfl, ?_⟩) ?_
                      rotate_left 1
                      · intro w; go_simp <;> with_reducible rfl
                      simp only [Act.put, List.setIfInBounds_toArray, List.set_cons_zero, List.set_cons_succ]
                      refine Reg.take_at (i := 3) (d := 121) (v := ?_) rfl rfl (by kernel_rfl) (by kernel_rfl) (by kernel_rfl) (fun _ _ _ h => h) (Or.inl ⟨by rfl, ?_⟩) ?_
                      rotate_left 1
                      · intro w; go_simp <;> with_reducible rfl
                      simp only [Act.put, List.setIfInBounds_toArray, List.set_cons_zero, List.set_cons_succ]
                      refine Reg.take_at (i := 4) (d := 122) (v := ?_) rfl rfl (by kernel_rfl) (by kernel_rfl) (by kernel_rfl) (fun _ _ _ h => h) (Or.inl ⟨by rfl, ?_⟩) ?_
                      rotate_left 1
                      · intro w; go_simp <;> with_reducible rfl
                      simp only [Act.put, List.setIfInBounds_toArray, List.set_cons_zero, List.set_cons_succ]
                      refine Reg.take_at (i := 6) (d := 124) (v := ?_) rfl rfl (by kernel_rfl) (by kernel_rfl) (by kernel_rfl) (fun _ _ _ h => h) (Or.inl ⟨by rfl, ?_⟩) ?_
                      rotate_left 1
                      · intro w; go_simp <;> with_reducible rfl
                      simp only [Act.put, List.setIfInBounds_toArray, List.set_cons_zero, List.set_cons_succ]
                      refine Reg.take_at (i := 7) (d := 125) (v := ?_) rfl rfl (by kernel_rfl) (by kernel_rfl) (by kernel_rfl) (fun _ _ _ h => h) (Or.inl ⟨by rfl, ?_⟩) ?_
                      rotate_left 1
                      · intro w; go_simp <;> with_reducible rfl
                      simp only [Act.put, List.setIfInBounds_toArray, List.set_cons_zero, List.set_cons_succ]
                      refine Reg.take_at (i := 8) (d := 126) (v := ?_) rfl rfl (by kernel_rfl) (by kernel_rfl) (by kernel_rfl) (fun _ _ _ h => h) (Or.inl ⟨by rfl, ?_⟩) ?_
                      rotate_left 1
                      · intro w; go_simp <;> with_reducible rfl
                      simp only [Act.put, List.setIfInBounds_toArray, List.set_cons_zero, List.set_cons_succ]
                      refine Reg.take_at (i := 9) (d := 127) (v := ?_) rfl rfl (by kernel_rfl) (by kernel_rfl) (by kernel_rfl) (fun _ _ _ h => h) (Or.inl ⟨by rfl, ?_⟩) ?_
                      rotate_left 1
                      · intro w; go_simp <;> with_reducible rfl
                      simp only [Act.put, List.setIfInBounds_toArray, List.set_cons_zero, List.set_cons_succ]
                      refine wpAny_ready (rs := [5, 10]) (by decide +kernel) (by simp) ?_
                      refine AllReady.cons rfl (fun KK hK => ?_) ?_
                      · go_simp
                        refine hK _ _ ?_
                        clear hK KK
                        refine wpAny_ready (rs := [10]) (by decide +kernel) (by simp) ?_
                        refine AllReady.cons rfl (fun KK hK => ?_) AllReady.nil
                        go_simp
                        refine hK _ _ ?_
                        clear hK KK
                        refine wpAny_ready (rs := [11]) (by decide +kernel) (by simp) ?_
                        refine AllReady.cons rfl (fun KK hK => ?_) AllReady.nil
                        go_simp
                        refine hK _ _ ?_
                        clear hK KK
                        refine wpAny_ready (rs := [12]) (by decide +kernel) (by simp) ?_
                        refine AllReady.cons rfl (fun KK hK => ?_) AllReady.nil
                        go_simp
                        refine hwr2.mono ?_
                        rintro e w5 ⟨rfl, f5⟩
                        clear hwr2
                        go_wp2_with fail
                        refine wpAny_done (by kernel_rfl) ?_ _
                        have f6 := f5.swap
                        obtain ⟨A3, c3, w6, hrun, f7⟩ := f_append f6 (by omega)
                        clear f5 f6
                        go_wp2_with (at_builtin; refine wpList_append_run rfl (.tmp 131) (.tmp 135) 33 33 rfl rfl rfl hrun ?_)
                        go_roundw
                        case rel => exact ⟨j + 1, by omega, by omega, by go_num, by rw [HS.out]; exact ⟨A3, c3, by rw [HL1.out], by rw [HL1.out]; exact f7⟩⟩
                        case measure => simp [intOf]; omega
                      refine AllReady.cons rfl (fun KK hK => ?_) AllReady.nil
                      go_simp
                      refine hK _ _ ?_
                      clear hK KK
                      refine wpAny_ready (rs := [5, 11]) (by decide +kernel) (by simp) ?_
                      refine AllReady.cons rfl (fun KK hK => ?_) ?_
                      · go_simp
                        refine hK _ _ ?_
                        clear hK KK
                        refine wpAny_ready (rs := [11]) (by decide +kernel) (by simp) ?_
                        refine AllReady.cons rfl (fun KK hK => ?_) AllReady.nil
                        go_simp
                        refine hK _ _ ?_
                        clear hK KK
                        refine wpAny_ready (rs := [12]) (by decide +kernel) (by simp) ?_
                        refine AllReady.cons rfl (fun KK hK => ?_) AllReady.nil
                        go_simp
                        refine hwr2.mono ?_
                        rintro e w5 ⟨rfl, f5⟩
                        clear hwr2
                        go_wp2_with fail
                        refine wpAny_done (by kernel_rfl) ?_ _
                        have f6 := f5.swap
                        obtain ⟨A3, c3, w6, hrun, f7⟩ := f_append f6 (by omega)
                        clear f5 f6
                        go_wp2_with (at_builtin; refine wpList_append_run rfl (.tmp 131) (.tmp 135) 33 33 rfl rfl rfl hrun ?_)
                        go_roundw
                        case rel => exact ⟨j + 1, by omega, by omega, by go_num, by rw [HS.out]; exact ⟨A3, c3, by rw [HL1.out], by rw [HL1.out]; exact f7⟩⟩
                        case measure => simp [intOf]; omega
                      refine AllReady.cons rfl (fun KK hK => ?_) AllReady.nil
                      go_simp
                      refine hK _ _ ?_
                      clear hK KK
                      refine wpAny_ready (rs := [5]) (by decide +kernel) (by simp) ?_
                      refine AllReady.cons rfl (fun KK hK => ?_) AllReady.nil
                      go_simp
                      refine hK _ _ ?_
                      clear hK KK
                      refine wpAny_ready (rs := [12]) (by decide +kernel) (by simp) ?_
                      refine AllReady.cons rfl (fun KK hK => ?_) AllReady.nil
                      go_simp
                      refine hwr2.mono ?_
                      rintro e w5 ⟨rfl, f5⟩
                      clear hwr2
                      go_wp2_with fail
                      refine wpAny_done (by kernel_rfl) ?_ _
                      have f6 := f5.swap
                      obtain ⟨A3, c3, w6, hrun, f7⟩ := f_append f6 (by omega)
                      clear f5 f6
                      go_wp2_with (at_builtin; refine wpList_append_run rfl (.tmp 131) (.tmp 135) 33 33 rfl rfl rfl hrun ?_)
                      go_roundw
                      case rel => exact ⟨j + 1, by omega, by omega, by go_num, by rw [HS.out]; exact ⟨A3, c3, by rw [HL1.out], by rw [HL1.out]; exact f7⟩⟩
                      case measure => simp [intOf]; omega
                    refine AllReady.cons rfl (fun KK hK => ?_) AllReady.nil
                    go_simp
                    refine hK _ _ ?_
                    clear hK KK
                    refine wpAny_ready (rs := [19]) (by decide +kernel) (by simp) ?_
                    refine AllReady.cons rfl (fun KK hK => ?_) AllReady.nil
                    go_simp
                    refine hK _ _ ?_
                    clear hK KK
                    refine wpAny_ready (rs := [26]) (by decide +kernel) (by simp) ?_
                    refine AllReady.cons rfl (fun KK hK => ?_) AllReady.nil
                    go_simp
                    refine hwr.mono ?_
                    rintro e w4 ⟨rfl, f4⟩
                    clear hwr
                    go_wp2_with fail
                    refine Reg.take_at (i := 27) (d := 116) (v := ?_) rfl rfl (by kernel_rfl) (by kernel_rfl) (by kernel_rfl) (fun _ _ _ h => h) (Or.inl ⟨by rfl, ?_⟩) ?_
                    rotate_left 1
                    · intro w; go_simp <;> with_reducible rfl
                    simp only [Act.put, List.setIfInBounds_toArray, List.set_cons_zero, List.set_cons_succ]
                    refine Reg.take_at (i := 28) (d := 117) (v := ?_) rfl rfl (by kernel_rfl) (by kernel_rfl) (by kernel_rfl) (fun _ _ _ h => h) (Or.inl ⟨by rfl, ?_⟩) ?_
                    rotate_left 1
                    · intro w; go_simp <;> with_reducible rfl
                    simp only [Act.put, List.setIfInBounds_toArray, List.set_cons_zero, List.set_cons_succ]
                    refine wpAny_done (by kernel_rfl) ?_ _
                    clear q0 q1 q2 q3 q4 q5 r0 r1 r2 r3 r4 r5 s0 s1 s2 s3 s4 s5 f1 f2
                    go_wp2_with fail
                    have g4 := f4.swap.drew
                    obtain ⟨r0, r1, r2, r3, r4, r5⟩ := HC.out _ g4.below
                    have g5 := g4.step (HV.out w4.drew).1
                    obtain ⟨s0, s1, s2, s3, s4, s5⟩ := HC.out _ g5.below
                    have hwr2 := f_write g5 x.page (some ⟨w4.heap.size, 0, none⟩) (C w4.drew) x.b _ hsb (by omega) (HV.out w4.drew).2
                    refine wp_region_any (by kernel_rfl) ?_
                    change wpAny _ _ _ _ _ _ _ (World.drew _)
                    refine Reg.take_at (i := 0) (d := 118) (v := ?_) rfl rfl (by kernel_rfl) (by kernel_rfl) (by kernel_rfl) (fun _ _ _ h => h) (Or.inl ⟨by rfl, ?_⟩) ?_
                    rotate_left 1
                    · intro w; go_simp <;> with_reducible rfl
                    simp only [Act.put, List.setIfInBounds_toArray, List.set_cons_zero, List.set_cons_succ]
                    refine Reg.take_at (i := 1) (d := 119) (v := ?_) rfl rfl (by kernel_rfl) (by kernel_rfl) (by kernel_rfl) (fun _ _ _ h => h) (Or.inl ⟨by rfl, ?_⟩) ?_
                    rotate_left 1
                    · intro w; go_simp <;> with_reducible rfl
                    simp only [Act.put, List.setIfInBounds_toArray, List.set_cons_zero, List.set_cons_succ]
                    refine Reg.take_at (i := 2) (d := 120) (v := ?_) rfl rfl (by kernel_rfl) (by kernel_rfl) (by kernel_rfl) (fun _ _ _ h => h) (Or.inl ⟨by rfl, ?_⟩) ?_
                    rotate_left 1
                    · intro w; go_simp <;> with_reducible rfl
                    simp only [Act.put, List.setIfInBounds_toArray, List.set_cons_zero, List.set_cons_succ]
                    refine Reg.take_at (i := 3) (d := 121) (v := ?_) rfl rfl (by kernel_rfl) (by kernel_rfl) (by kernel_rfl) (fun _ _ _ h => h) (Or.inl ⟨by rfl, ?_⟩) ?_
                    rotate_left 1
                    · intro w; go_simp <;> with_reducible rfl
                    simp only [Act.put, List.setIfInBounds_toArray, List.set_cons_zero, List.set_cons_succ]
                    refine Reg.take_at (i := 4) (d := 122) (v := ?_) rfl rfl (by kernel_rfl) (by kernel_rfl) (by kernel_rfl) (fun _ _ _ h => h) (Or.inl ⟨by rfl, ?_⟩) ?_
                    rotate_left 1
                    · intro w; go_simp <;> with_reducible rfl
                    simp only [Act.put, List.setIfInBounds_toArray, List.set_cons_zero, List.set_cons_succ]
                    refine Reg.take_at (i := 6) (d := 124) (v := ?_) rfl rfl (by kernel_rfl) (by kernel_rfl) (by kernel_rfl) (fun _ _ _ h => h) (Or.inl ⟨by rfl, ?_⟩) ?_
                    rotate_left 1
                    · intro w; go_simp <;> with_reducible rfl
                    simp only [Act.put, List.setIfInBounds_toArray, List.set_cons_zero, List.set_cons_succ]
                    refine Reg.take_at (i := 7) (d := 125) (v := ?_) rfl rfl (by kernel_rfl) (by kernel_rfl) (by kernel_rfl) (fun _ _ _ h => h) (Or.inl ⟨by rfl, ?_⟩) ?_
                    rotate_left 1
                    · intro w; go_simp <;> with_reducible rfl
                    simp only [Act.put, List.setIfInBounds_toArray, List.set_cons_zero, List.set_cons_succ]
                    refine Reg.take_at (i := 8) (d := 126) (v := ?_) rfl rfl (by kernel_rfl) (by kernel_rfl) (by kernel_rfl) (fun _ _ _ h => h) (Or.inl ⟨by rfl, ?_⟩) ?_
                    rotate_left 1
                    · intro w; go_simp <;> with_reducible rfl
                    simp only [Act.put, List.setIfInBounds_toArray, List.set_cons_zero, List.set_cons_succ]
                    refine Reg.take_at (i := 9) (d := 127) (v := ?_) rfl rfl (by kernel_rfl) (by kernel_rfl) (by kernel_rfl) (fun _ _ _ h => h) (Or.inl ⟨by rfl, ?_⟩) ?_
                    rotate_left 1
                    · intro w; go_simp <;> with_reducible rfl
                    simp only [Act.put, List.setIfInBounds_toArray, List.set_cons_zero, List.set_cons_succ]
                    refine wpAny_ready (rs := [5, 10]) (by decide +kernel) (by simp) ?_
                    refine AllReady.cons rfl (fun KK hK => ?_) ?_
                    · go_simp
                      refine hK _ _ ?_
                      clear hK KK
                      refine wpAny_ready (rs := [10]) (by decide +kernel) (by simp) ?_
                      refine AllReady.cons rfl (fun KK hK => ?_) AllReady.nil
                      go_simp
                      refine hK _ _ ?_
                      clear hK KK
                      refine wpAny_ready (rs := [11]) (by decide +kernel) (by simp) ?_
                      refine AllReady.cons rfl (fun KK hK => ?_) AllReady.nil
                      go_simp
                      refine hK _ _ ?_
                      clear hK KK
                      refine wpAny_ready (rs := [12]) (by decide +kernel) (by simp) ?_
                      refine AllReady.cons rfl (fun KK hK => ?_) AllReady.nil
                      go_simp
                      refine hwr2.mono ?_
                      rintro e w5 ⟨rfl, f5⟩
                      clear hwr2
                      go_wp2_with fail
                      refine wpAny_done (by kernel_rfl) ?_ _
                      have f6 := f5.swap
                      obtain ⟨A3, c3, w6, hrun, f7⟩ := f_append f6 (by omega)
                      clear f5 f6
                      go_wp2_with (at_builtin; refine wpList_append_run rfl (.tmp 131) (.tmp 135) 33 33 rfl rfl rfl hrun ?_)
                      go_roundw
                      case rel => exact ⟨j + 1, by omega, by omega, by go_num, by rw [HS.out]; exact ⟨A3, c3, by rw [HL1.out], by rw [HL1.out]; exact f7⟩⟩
                      case measure => simp [intOf]; omega
                    refine AllReady.cons rfl (fun KK hK => ?_) AllReady.nil
                    go_simp
                    refine hK _ _ ?_
                    clear hK KK
                    refine wpAny_ready (rs := [5, 11]) (by decide +kernel) (by simp) ?_
                    refine AllReady.cons rfl (fun KK hK => ?_) ?_
                    · go_simp
                      refine hK _ _ ?_
                      clear hK KK
                      refine wpAny_ready (rs := [11]) (by decide +kernel) (by simp) ?_
                      refine AllReady.cons rfl (fun KK hK => ?_) AllReady.nil
                      go_simp
                      refine hK _ _ ?_
                      clear hK KK
                      refine wpAny_ready (rs := [12]) (by decide +kernel) (by simp) ?_
                      refine AllReady.cons rfl (fun KK hK => ?_) AllReady.nil
                      go_simp
                      refine hwr2.mono ?_
                      rintro e w5 ⟨rfl, f5⟩
                      clear hwr2
                      go_wp2_with fail
                      refine wpAny_done (by kernel_rfl) ?_ _
                      have f6 := f5.swap
                      obtain ⟨A3, c3, w6, hrun, f7⟩ := f_append f6 (by omega)
                      clear f5 f6
                      go_wp2_with (at_builtin; refine wpList_append_run rfl (.tmp 131) (.tmp 135) 33 33 rfl rfl rfl hrun ?_)
                      go_roundw
                      case rel => exact ⟨j + 1, by omega, by omega, by go_num, by rw [HS.out]; exact ⟨A3, c3, by rw [HL1.out], by rw [HL1.out]; exact f7⟩⟩
                      case measure => simp [intOf]; omega
                    refine AllReady.cons rfl (fun KK hK => ?_) AllReady.nil
                    go_simp
                    refine hK _ _ ?_
                    clear hK KK
                    refine wpAny_ready (rs := [5]) (by decide +kernel) (by simp) ?_
                    refine AllReady.cons rfl (fun KK hK => ?_) AllReady.nil
                    go_simp
                    refine hK _ _ ?_
                    clear hK KK
                    refine wpAny_ready (rs := [12]) (by decide +kernel) (by simp) ?_
                    refine AllReady.cons rfl (fun KK hK => ?_) AllReady.nil
                    go_simp
                    refine hwr2.mono ?_
                    rintro e w5 ⟨rfl, f5⟩
                    clear hwr2
                    go_wp2_with fail
                    refine wpAny_done (by kernel_rfl) ?_ _
                    have f6 := f5.swap
                    obtain ⟨A3, c3, w6, hrun, f7⟩ := f_append f6 (by omega)
                    clear f5 f6
                    go_wp2_with (at_builtin; refine wpList_append_run rfl (.tmp 131) (.tmp 135) 33 33 rfl rfl rfl hrun ?_)
                    go_roundw
                    case rel => exact ⟨j + 1, by omega, by omega, by go_num, by rw [HS.out]; exact ⟨A3, c3, by rw [HL1.out], by rw [HL1.out]; exact f7⟩⟩
                    case measure => simp [intOf]; omega
                  · have HL1 := Lib.hid (show T.write x.page x.b = T by rw [hac1, if_neg hE])
                    have hEb : (T.writeE x.page x.b == 0) = false := beq_eq_false_iff_ne.2 hE
                    have HE := Lib.hid hE
                    clear hac1 hE
                    go_wp2_with fail
                    refine wp_region_any (by kernel_rfl) ?_
                    change wpAny _ _ _ _ _ _ _ (World.drew _)
                    refine Reg.take_at (i := 0) (d := 89) (v := ?_) rfl rfl (by kernel_rfl) (by kernel_rfl) (by kernel_rfl) (fun _ _ _ h => h) (Or.inl ⟨by rfl, ?_⟩) ?_
                    rotate_left 1
                    · intro w; go_simp <;> with_reducible rfl
                    simp only [Act.put, List.setIfInBounds_toArray, List.set_cons_zero, List.set_cons_succ]
                    refine Reg.take_at (i := 1) (d := 90) (v := ?_) rfl rfl (by kernel_rfl) (by kernel_rfl) (by kernel_rfl) (fun _ _ _ h => h) (Or.inl ⟨by rfl, ?_⟩) ?_
                    rotate_left 1
                    · intro w; go_simp <;> with_reducible rfl
                    simp only [Act.put, List.setIfInBounds_toArray, List.set_cons_zero, List.set_cons_succ]
                    refine Reg.take_at (i := 2) (d := 91) (v := ?_) rfl rfl (by kernel_rfl) (by kernel_rfl) (by kernel_rfl) (fun _ _ _ h => h) (Or.inl ⟨by rfl, ?_⟩) ?_
                    rotate_left 1
                    · intro w; go_simp <;> with_reducible rfl
                    simp only [Act.put, List.setIfInBounds_toArray, List.set_cons_zero, List.set_cons_succ]
                    refine wpAny_ready (rs := [3]) (by decide +kernel) (by simp) ?_
                    refine AllReady.cons rfl (fun KK hK => ?_) AllReady.nil
                    go_simp
                    refine hK _ _ ?_
                    clear hK KK
                    refine wpAny_ready (rs := [4]) (by decide +kernel) (by simp) ?_
                    refine AllReady.cons rfl (fun KK hK => ?_) AllReady.nil
                    go_simp
                    refine hfw.mono ?_
                    rintro e w2 ⟨rfl, rfl⟩
                    clear hfw
                    generalize wr.drew.alloc (.cells #[.int .i64 x.kind, .int .i64 x.n, .int .i64 x.page, .int .i64 x.at_, .string x.s, .slice K x.kept.length ck] 35) = wb at *
                    obtain ⟨r0, r1, r2, r3, r4, r5⟩ := HC.out _ f1.below
                    have f2 := f1.step (HV.out wb).1
                    have hwr := f_write f2 x.page (some ⟨wb.heap.size, 0, none⟩) (C wb) x.b _ hsb (by omega) (HV.out wb).2
                    obtain ⟨s0, s1, s2, s3, s4, s5⟩ := HC.out _ f2.below
                    go_wp2_with fail
                    refine Reg.take_at (i := 5) (d := 94) (v := ?_) rfl rfl (by kernel_rfl) (by kernel_rfl) (by kernel_rfl) (fun _ _ _ h => h) (Or.inl ⟨by rfl, ?_⟩) ?_
                    rotate_left 1
                    · intro w; go_simp <;> with_reducible rfl
                    simp only [Act.put, List.setIfInBounds_toArray, List.set_cons_zero, List.set_cons_succ]
                    refine Reg.take_at (i := 6) (d := 95) (v := ?_) rfl rfl (by kernel_rfl) (by kernel_rfl) (by kernel_rfl) (fun _ _ _ h => h) (Or.inl ⟨by rfl, ?_⟩) ?_
                    rotate_left 1
                    · intro w; go_simp <;> with_reducible rfl
                    simp only [Act.put, List.setIfInBounds_toArray, List.set_cons_zero, List.set_cons_succ]
                    refine Reg.take_at (i := 7) (d := 96) (v := ?_) rfl rfl (by kernel_rfl) (by kernel_rfl) (by kernel_rfl) (fun _ _ _ h => h) (Or.inl ⟨by rfl, ?_⟩) ?_
                    rotate_left 1
                    · intro w; go_simp <;> with_reducible rfl
                    simp only [Act.put, List.setIfInBounds_toArray, List.set_cons_zero, List.set_cons_succ]
                    refine Reg.take_at (i := 8) (d := 97) (v := ?_) rfl rfl (by kernel_rfl) (by kernel_rfl) (by kernel_rfl) (fun _ _ _ h => h) (Or.inl ⟨by rfl, ?_⟩) ?_
                    rotate_left 1
                    · intro w; go_simp <;> with_reducible rfl
                    simp only [Act.put, List.setIfInBounds_toArray, List.set_cons_zero, List.set_cons_succ]
                    refine Reg.take_at (i := 9) (d := 98) (v := ?_) rfl rfl (by kernel_rfl) (by kernel_rfl) (by kernel_rfl) (fun _ _ _ h => h) (Or.inl ⟨by rfl, ?_⟩) ?_
                    rotate_left 1
                    · intro w; go_simp <;> with_reducible rfl
                    simp only [Act.put, List.setIfInBounds_toArray, List.set_cons_zero, List.set_cons_succ]
                    refine wpAny_ready (rs := [10]) (by decide +kernel) (by simp) ?_
                    refine AllReady.cons rfl (fun KK hK => ?_) AllReady.nil
                    go_simp
                    refine hK _ _ ?_
                    clear hK KK
                    refine Reg.take_at (i := 11) (d := 100) (v := ?_) rfl rfl (by kernel_rfl) (by kernel_rfl) (by kernel_rfl) (fun _ _ _ h => h) (Or.inl ⟨by rfl, ?_⟩) ?_
                    rotate_left 1
                    · intro w; go_simp <;> with_reducible rfl
                    simp only [Act.put, List.setIfInBounds_toArray, List.set_cons_zero, List.set_cons_succ]
                    refine Reg.take_at (i := 12) (d := 101) (v := ?_) rfl rfl (by kernel_rfl) (by kernel_rfl) (by kernel_rfl) (fun _ _ _ h => h) (Or.inl ⟨by rfl, ?_⟩) ?_
                    rotate_left 1
                    · intro w; go_simp <;> with_reducible rfl
                    simp only [Act.put, List.setIfInBounds_toArray, List.set_cons_zero, List.set_cons_succ]
                    refine Reg.take_at (i := 13) (d := 102) (v := ?_) rfl rfl (by kernel_rfl) (by kernel_rfl) (by kernel_rfl) (fun _ _ _ h => h) (Or.inl ⟨by rfl, ?_⟩) ?_
                    rotate_left 1
                    · intro w; go_simp <;> with_reducible rfl
                    simp only [Act.put, List.setIfInBounds_toArray, List.set_cons_zero, List.set_cons_succ]
                    refine Reg.take_at (i := 14) (d := 103) (v := ?_) rfl rfl (by kernel_rfl) (by kernel_rfl) (by kernel_rfl) (fun _ _ _ h => h) (Or.inl ⟨by rfl, ?_⟩) ?_
                    rotate_left 1
                    · intro w; go_simp <;> with_reducible rfl
                    simp only [Act.put, List.setIfInBounds_toArray, List.set_cons_zero, List.set_cons_succ]
                    refine Reg.take_at (i := 15) (d := 104) (v := ?_) rfl rfl (by kernel_rfl) (by kernel_rfl) (by kernel_rfl) (fun _ _ _ h => h) (Or.inl ⟨by rfl, ?_⟩) ?_
                    rotate_left 1
                    · intro w; go_simp <;> with_reducible rfl
                    simp only [Act.put, List.setIfInBounds_toArray, List.set_cons_zero, List.set_cons_succ]
                    refine Reg.take_at (i := 16) (d := 105) (v := ?_) rfl rfl (by kernel_rfl) (by kernel_rfl) (by kernel_rfl) (fun _ _ _ h => h) (Or.inl ⟨by rfl, ?_⟩) ?_
                    rotate_left 1
                    · intro w; go_simp <;> with_reducible rfl
                    simp only [Act.put, List.setIfInBounds_toArray, List.set_cons_zero, List.set_cons_succ]
                    refine Reg.take_at (i := 17) (d := 106) (v := ?_) rfl rfl (by kernel_rfl) (by kernel_rfl) (by kernel_rfl) (fun _ _ _ h => h) (Or.inl ⟨by rfl, ?_⟩) ?_
                    rotate_left 1
                    · intro w; go_simp <;> with_reducible rfl
                    simp only [Act.put, List.setIfInBounds_toArray, List.set_cons_zero, List.set_cons_succ]
                    refine Reg.take_at (i := 18) (d := 107) (v := ?_) rfl rfl (by kernel_rfl) (by kernel_rfl) (by kernel_rfl) (fun _ _ _ h => h) (Or.inl ⟨by rfl, ?_⟩) ?_
                    rotate_left 1
                    · intro w; go_simp <;> with_reducible rfl
                    simp only [Act.put, List.setIfInBounds_toArray, List.set_cons_zero, List.set_cons_succ]
                    refine Reg.take_at (i := 20) (d := 109) (v := ?_) rfl rfl (by kernel_rfl) (by kernel_rfl) (by kernel_rfl) (fun _ _ _ h => h) (Or.inl ⟨by rfl, ?_⟩) ?_
                    rotate_left 1
                    · intro w; go_simp <;> with_reducible rfl
                    simp only [Act.put, List.setIfInBounds_toArray, List.set_cons_zero, List.set_cons_succ]
                    refine Reg.take_at (i := 21) (d := 110) (v := ?_) rfl rfl (by kernel_rfl) (by kernel_rfl) (by kernel_rfl) (fun _ _ _ h => h) (Or.inl ⟨by rfl, ?_⟩) ?_
                    rotate_left 1
                    · intro w; go_simp <;> with_reducible rfl
                    simp only [Act.put, List.setIfInBounds_toArray, List.set_cons_zero, List.set_cons_succ]
                    refine Reg.take_at (i := 22) (d := 111) (v := ?_) rfl rfl (by kernel_rfl) (by kernel_rfl) (by kernel_rfl) (fun _ _ _ h => h) (Or.inl ⟨by rfl, ?_⟩) ?_
                    rotate_left 1
                    · intro w; go_simp <;> with_reducible rfl
                    simp only [Act.put, List.setIfInBounds_toArray, List.set_cons_zero, List.set_cons_succ]
                    refine Reg.take_at (i := 23) (d := 112) (v := ?_) rfl rfl (by kernel_rfl) (by kernel_rfl) (by kernel_rfl) (fun _ _ _ h => h) (Or.inl ⟨by rfl, ?_⟩) ?_
                    rotate_left 1
                    · intro w; go_simp <;> with_reducible rfl
                    simp only [Act.put, List.setIfInBounds_toArray, List.set_cons_zero, List.set_cons_succ]
                    refine wpAny_ready (rs := [19, 24]) (by decide +kernel) (by simp) ?_
                    refine AllReady.cons rfl (fun KK hK => ?_) ?_
                    · go_simp
                      refine hK _ _ ?_
                      clear hK KK
                      refine wpAny_ready (rs := [24]) (by decide +kernel) (by simp) ?_
                      refine AllReady.cons rfl (fun KK hK => ?_) AllReady.nil
                      go_simp
                      refine hK _ _ ?_
                      clear hK KK
                      refine wpAny_ready (rs := [25]) (by decide +kernel) (by simp) ?_
                      refine AllReady.cons rfl (fun KK hK => ?_) AllReady.nil
                      go_simp
                      refine hK _ _ ?_
                      clear hK KK
                      refine wpAny_ready (rs := [26]) (by decide +kernel) (by simp) ?_
                      refine AllReady.cons rfl (fun KK hK => ?_) AllReady.nil
                      go_simp
                      refine hwr.mono ?_
                      rintro e w4 ⟨rfl, f4⟩
                      clear hwr
                      rw [HL1.out] at f4
                      go_wp2_with fail
                      refine Reg.take_at (i := 27) (d := 116) (v := ?_) rfl rfl (by kernel_rfl) (by kernel_rfl) (by kernel_rfl) (fun _ _ _ h => h) (Or.inl ⟨by rfl, ?_⟩) ?_
                      rotate_left 1
                      · intro w; go_simp <;> with_reducible rfl
                      simp only [Act.put, List.setIfInBounds_toArray, List.set_cons_zero, List.set_cons_succ]
                      refine Reg.take_at (i := 28) (d := 117) (v := ?_) rfl rfl (by kernel_rfl) (by kernel_rfl) (by kernel_rfl) (fun _ _ _ h => h) (Or.inl ⟨by rfl, ?_⟩) ?_
                      rotate_left 1
                      · intro w; go_simp <;> with_reducible rfl
                      simp only [Act.put, List.setIfInBounds_toArray, List.set_cons_zero, List.set_cons_succ]
                      refine wpAny_done (by kernel_rfl) ?_ _
                      go_wp2_with fail
                      go_roundw
                      case rel => exact ⟨j + 1, by omega, by omega, by go_num, by rw [HS.out, HL1.out]; exact ⟨_, _, rfl, f4⟩⟩
                      case measure => simp [intOf]; omega
                    refine AllReady.cons rfl (fun KK hK => ?_) AllReady.nil
                    go_simp
                    refine hK _ _ ?_
                    clear hK KK
                    refine wpAny_ready (rs := [19, 25]) (by decide +kernel) (by simp) ?_
                    refine AllReady.cons rfl (fun KK hK => ?_) ?_
                    · go_simp
                      refine hK _ _ ?_
                      clear hK KK
                      refine wpAny_ready (rs := [25]) (by decide +kernel) (by simp) ?_
                      refine AllReady.cons rfl (fun KK hK => ?_) AllReady.nil
                      go_simp
                      refine hK _ _ ?_
                      clear hK KK
                      refine wpAny_ready (rs := [26]) (by decide +kernel) (by simp) ?_
                      refine AllReady.cons rfl (fun KK hK => ?_) AllReady.nil
                      go_simp
                      refine hwr.mono ?_
                      rintro e w4 ⟨rfl, f4⟩
                      clear hwr
                      rw [HL1.out] at f4
                      go_wp2_with fail
                      refine Reg.take_at (i := 27) (d := 116) (v := ?_) rfl rfl (by kernel_rfl) (by kernel_rfl) (by kernel_rfl) (fun _ _ _ h => h) (Or.inl ⟨by rfl, ?_⟩) ?_
                      rotate_left 1
                      · intro w; go_simp <;> with_reducible rfl
                      simp only [Act.put, List.setIfInBounds_toArray, List.set_cons_zero, List.set_cons_succ]
                      refine Reg.take_at (i := 28) (d := 117) (v := ?_) rfl rfl (by kernel_rfl) (by kernel_rfl) (by kernel_rfl) (fun _ _ _ h => h) (Or.inl ⟨by rfl, ?_⟩) ?_
                      rotate_left 1
                      · intro w; go_simp <;> with_reducible rfl
                      simp only [Act.put, List.setIfInBounds_toArray, List.set_cons_zero, List.set_cons_succ]
                      refine wpAny_done (by kernel_rfl) ?_ _
                      go_wp2_with fail
                      go_roundw
                      case rel => exact ⟨j + 1, by omega, by omega, by go_num, by rw [HS.out, HL1.out]; exact ⟨_, _, rfl, f4⟩⟩
                      case measure => simp [intOf]; omega
                    refine AllReady.cons rfl (fun KK hK => ?_) AllReady.nil
                    go_simp
                    refine hK _ _ ?_
                    clear hK KK
                    refine wpAny_ready (rs := [19]) (by decide +kernel) (by simp) ?_
                    refine AllReady.cons rfl (fun KK hK => ?_) AllReady.nil
                    go_simp
                    refine hK _ _ ?_
                    clear hK KK
                    refine wpAny_ready (rs := [26]) (by decide +kernel) (by simp) ?_
                    refine AllReady.cons rfl (fun KK hK => ?_) AllReady.nil
                    go_simp
                    refine hwr.mono ?_
                    rintro e w4 ⟨rfl, f4⟩
                    clear hwr
                    rw [HL1.out] at f4
                    go_wp2_with fail
                    refine Reg.take_at (i := 27) (d := 116) (v := ?_) rfl rfl (by kernel_rfl) (by kernel_rfl) (by kernel_rfl) (fun _ _ _ h => h) (Or.inl ⟨by rfl, ?_⟩) ?_
                    rotate_left 1
                    · intro w; go_simp <;> with_reducible rfl
                    simp only [Act.put, List.setIfInBounds_toArray, List.set_cons_zero, List.set_cons_succ]
                    refine Reg.take_at (i := 28) (d := 117) (v := ?_) rfl rfl (by kernel_rfl) (by kernel_rfl) (by kernel_rfl) (fun _ _ _ h => h) (Or.inl ⟨by rfl, ?_⟩) ?_
                    rotate_left 1
                    · intro w; go_simp <;> with_reducible rfl
                    simp only [Act.put, List.setIfInBounds_toArray, List.set_cons_zero, List.set_cons_succ]
                    refine wpAny_done (by kernel_rfl) ?_ _
                    go_wp2_with fail
                    go_roundw
                    case rel => exact ⟨j + 1, by omega, by omega, by go_num, by rw [HS.out, HL1.out]; exact ⟨_, _, rfl, f4⟩⟩
                    case measure => simp [intOf]; omega
                · have HS := Lib.hid (show runs okW S1 (xs.take (j + 1)) = T by rw [hst]; simp [okW, hk1])
                  have hb1 : (x.kind == 1) = false := beq_eq_false_iff_ne.2 hk1
                  have HK1 := Lib.hid hk1
                  clear hst hfx hac hk1
                  go_wp2_with fail
                  refine wp_region_any (by kernel_rfl) ?_
                  change wpAny _ _ _ _ _ _ _ (World.drew _)
                  refine Reg.take_at (i := 0) (d := 89) (v := ?_) rfl rfl (by kernel_rfl) (by kernel_rfl) (by kernel_rfl) (fun _ _ _ h => h) (Or.inl ⟨by rfl, ?_⟩) ?_
                  rotate_left 1
                  · intro w; go_simp <;> with_reducible rfl
                  simp only [Act.put, List.setIfInBounds_toArray, List.set_cons_zero, List.set_cons_succ]
                  refine Reg.take_at (i := 1) (d := 90) (v := ?_) rfl rfl (by kernel_rfl) (by kernel_rfl) (by kernel_rfl) (fun _ _ _ h => h) (Or.inl ⟨by rfl, ?_⟩) ?_
                  rotate_left 1
                  · intro w; go_simp <;> with_reducible rfl
                  simp only [Act.put, List.setIfInBounds_toArray, List.set_cons_zero, List.set_cons_succ]
                  refine Reg.take_at (i := 2) (d := 91) (v := ?_) rfl rfl (by kernel_rfl) (by kernel_rfl) (by kernel_rfl) (fun _ _ _ h => h) (Or.inl ⟨by rfl, ?_⟩) ?_
                  rotate_left 1
                  · intro w; go_simp <;> with_reducible rfl
                  simp only [Act.put, List.setIfInBounds_toArray, List.set_cons_zero, List.set_cons_succ]
                  refine wpAny_ready (rs := [3]) (by decide +kernel) (by simp) ?_
                  refine AllReady.cons rfl (fun KK hK => ?_) AllReady.nil
                  go_simp
                  refine hK _ _ ?_
                  clear hK KK
                  refine wpAny_ready (rs := [4]) (by decide +kernel) (by simp) ?_
                  refine AllReady.cons rfl (fun KK hK => ?_) AllReady.nil
                  go_simp
                  refine hfw.mono ?_
                  rintro e w2 ⟨rfl, rfl⟩
                  clear hfw
                  generalize wr.drew.alloc (.cells #[.int .i64 x.kind, .int .i64 x.n, .int .i64 x.page, .int .i64 x.at_, .string x.s, .slice K x.kept.length ck] 35) = wb at *
                  obtain ⟨r0, r1, r2, r3, r4, r5⟩ := HC.out _ f1.below
                  go_wp2_with fail
                  refine Reg.take_at (i := 5) (d := 94) (v := ?_) rfl rfl (by kernel_rfl) (by kernel_rfl) (by kernel_rfl) (fun _ _ _ h => h) (Or.inl ⟨by rfl, ?_⟩) ?_
                  rotate_left 1
                  · intro w; go_simp <;> with_reducible rfl
                  simp only [Act.put, List.setIfInBounds_toArray, List.set_cons_zero, List.set_cons_succ]
                  refine Reg.take_at (i := 6) (d := 95) (v := ?_) rfl rfl (by kernel_rfl) (by kernel_rfl) (by kernel_rfl) (fun _ _ _ h => h) (Or.inl ⟨by rfl, ?_⟩) ?_
                  rotate_left 1
                  · intro w; go_simp <;> with_reducible rfl
                  simp only [Act.put, List.setIfInBounds_toArray, List.set_cons_zero, List.set_cons_succ]
                  refine Reg.take_at (i := 7) (d := 96) (v := ?_) rfl rfl (by kernel_rfl) (by kernel_rfl) (by kernel_rfl) (fun _ _ _ h => h) (Or.inl ⟨by rfl, ?_⟩) ?_
                  rotate_left 1
                  · intro w; go_simp <;> with_reducible rfl
                  simp only [Act.put, List.setIfInBounds_toArray, List.set_cons_zero, List.set_cons_succ]
                  refine Reg.take_at (i := 8) (d := 97) (v := ?_) rfl rfl (by kernel_rfl) (by kernel_rfl) (by kernel_rfl) (fun _ _ _ h => h) (Or.inl ⟨by rfl, ?_⟩) ?_
                  rotate_left 1
                  · intro w; go_simp <;> with_reducible rfl
                  simp only [Act.put, List.setIfInBounds_toArray, List.set_cons_zero, List.set_cons_succ]
                  refine Reg.take_at (i := 9) (d := 98) (v := ?_) rfl rfl (by kernel_rfl) (by kernel_rfl) (by kernel_rfl) (fun _ _ _ h => h) (Or.inl ⟨by rfl, ?_⟩) ?_
                  rotate_left 1
                  · intro w; go_simp <;> with_reducible rfl
                  simp only [Act.put, List.setIfInBounds_toArray, List.set_cons_zero, List.set_cons_succ]
                  refine wpAny_ready (rs := [10]) (by decide +kernel) (by simp) ?_
                  refine AllReady.cons rfl (fun KK hK => ?_) AllReady.nil
                  go_simp
                  refine hK _ _ ?_
                  clear hK KK
                  refine Reg.take_at (i := 11) (d := 100) (v := ?_) rfl rfl (by kernel_rfl) (by kernel_rfl) (by kernel_rfl) (fun _ _ _ h => h) (Or.inl ⟨by rfl, ?_⟩) ?_
                  rotate_left 1
                  · intro w; go_simp <;> with_reducible rfl
                  simp only [Act.put, List.setIfInBounds_toArray, List.set_cons_zero, List.set_cons_succ]
                  refine Reg.take_at (i := 12) (d := 101) (v := ?_) rfl rfl (by kernel_rfl) (by kernel_rfl) (by kernel_rfl) (fun _ _ _ h => h) (Or.inl ⟨by rfl, ?_⟩) ?_
                  rotate_left 1
                  · intro w; go_simp <;> with_reducible rfl
                  simp only [Act.put, List.setIfInBounds_toArray, List.set_cons_zero, List.set_cons_succ]
                  refine Reg.take_at (i := 13) (d := 102) (v := ?_) rfl rfl (by kernel_rfl) (by kernel_rfl) (by kernel_rfl) (fun _ _ _ h => h) (Or.inl ⟨by rfl, ?_⟩) ?_
                  rotate_left 1
                  · intro w; go_simp <;> with_reducible rfl
                  simp only [Act.put, List.setIfInBounds_toArray, List.set_cons_zero, List.set_cons_succ]
                  refine Reg.take_at (i := 14) (d := 103) (v := undef) rfl rfl (by kernel_rfl) (by kernel_rfl) (by kernel_rfl) (fun _ _ _ h => h) (Or.inr ⟨by rfl, rfl⟩) ?_
                  simp only [Act.put, List.setIfInBounds_toArray, List.set_cons_zero, List.set_cons_succ]
                  refine Reg.take_at (i := 15) (d := 104) (v := undef) rfl rfl (by kernel_rfl) (by kernel_rfl) (by kernel_rfl) (fun _ _ _ h => h) (Or.inr ⟨by rfl, rfl⟩) ?_
                  simp only [Act.put, List.setIfInBounds_toArray, List.set_cons_zero, List.set_cons_succ]
                  refine Reg.take_at (i := 16) (d := 105) (v := undef) rfl rfl (by kernel_rfl) (by kernel_rfl) (by kernel_rfl) (fun _ _ _ h => h) (Or.inr ⟨by rfl, rfl⟩) ?_
                  simp only [Act.put, List.setIfInBounds_toArray, List.set_cons_zero, List.set_cons_succ]
                  refine Reg.take_at (i := 17) (d := 106) (v := undef) rfl rfl (by kernel_rfl) (by kernel_rfl) (by kernel_rfl) (fun _ _ _ h => h) (Or.inr ⟨by rfl, rfl⟩) ?_
                  simp only [Act.put, List.setIfInBounds_toArray, List.set_cons_zero, List.set_cons_succ]
                  refine Reg.take_at (i := 18) (d := 107) (v := undef) rfl rfl (by kernel_rfl) (by kernel_rfl) (by kernel_rfl) (fun _ _ _ h => h) (Or.inr ⟨by rfl, rfl⟩) ?_
                  simp only [Act.put, List.setIfInBounds_toArray, List.set_cons_zero, List.set_cons_succ]
                  refine Reg.take_at (i := 19) (d := 108) (v := undef) rfl rfl (by kernel_rfl) (by kernel_rfl) (by kernel_rfl) (fun _ _ _ h => h) (Or.inr ⟨by rfl, rfl⟩) ?_
                  simp only [Act.put, List.setIfInBounds_toArray, List.set_cons_zero, List.set_cons_succ]
                  refine Reg.take_at (i := 20) (d := 109) (v := undef) rfl rfl (by kernel_rfl) (by kernel_rfl) (by kernel_rfl) (fun _ _ _ h => h) (Or.inr ⟨by rfl, rfl⟩) ?_
                  simp only [Act.put, List.setIfInBounds_toArray, List.set_cons_zero, List.set_cons_succ]
                  refine Reg.take_at (i := 21) (d := 110) (v := undef) rfl rfl (by kernel_rfl) (by kernel_rfl) (by kernel_rfl) (fun _ _ _ h => h) (Or.inr ⟨by rfl, rfl⟩) ?_
                  simp only [Act.put, List.setIfInBounds_toArray, List.set_cons_zero, List.set_cons_succ]
                  refine Reg.take_at (i := 22) (d := 111) (v := undef) rfl rfl (by kernel_rfl) (by kernel_rfl) (by kernel_rfl) (fun _ _ _ h => h) (Or.inr ⟨by rfl, rfl⟩) ?_
                  simp only [Act.put, List.setIfInBounds_toArray, List.set_cons_zero, List.set_cons_succ]
                  refine Reg.take_at (i := 23) (d := 112) (v := undef) rfl rfl (by kernel_rfl) (by kernel_rfl) (by kernel_rfl) (fun _ _ _ h => h) (Or.inr ⟨by rfl, rfl⟩) ?_
                  simp only [Act.put, List.setIfInBounds_toArray, List.set_cons_zero, List.set_cons_succ]
                  refine Reg.take_at (i := 24) (d := 113) (v := undef) rfl rfl (by kernel_rfl) (by kernel_rfl) (by kernel_rfl) (fun _ _ _ h => h) (Or.inr ⟨by rfl, rfl⟩) ?_
                  simp only [Act.put, List.setIfInBounds_toArray, List.set_cons_zero, List.set_cons_succ]
                  refine Reg.take_at (i := 25) (d := 114) (v := undef) rfl rfl (by kernel_rfl) (by kernel_rfl) (by kernel_rfl) (fun _ _ _ h => h) (Or.inr ⟨by rfl, rfl⟩) ?_
                  simp only [Act.put, List.setIfInBounds_toArray, List.set_cons_zero, List.set_cons_succ]
                  refine Reg.take_at (i := 26) (d := 115) (v := undef) rfl rfl (by kernel_rfl) (by kernel_rfl) (by kernel_rfl) (fun _ _ _ h => h) (Or.inr ⟨by rfl, rfl⟩) ?_
                  simp only [Act.put, List.setIfInBounds_toArray, List.set_cons_zero, List.set_cons_succ]
                  refine Reg.take_at (i := 27) (d := 116) (v := undef) rfl rfl (by kernel_rfl) (by kernel_rfl) (by kernel_rfl) (fun _ _ _ h => h) (Or.inr ⟨by rfl, rfl⟩) ?_
                  simp only [Act.put, List.setIfInBounds_toArray, List.set_cons_zero, List.set_cons_succ]
                  refine Reg.take_at (i := 28) (d := 117) (v := ?_) rfl rfl (by kernel_rfl) (by kernel_rfl) (by kernel_rfl) (fun _ _ _ h => h) (Or.inl ⟨by rfl, ?_⟩) ?_
                  rotate_left 1
                  · intro w; go_simp <;> with_reducible rfl
                  simp only [Act.put, List.setIfInBounds_toArray, List.set_cons_zero, List.set_cons_succ]
                  refine wpAny_done (by kernel_rfl) ?_ _
                  go_wp2_with fail
                  go_roundw
                  case rel => exact ⟨j + 1, by omega, by omega, by go_num, by rw [HS.out]; exact ⟨_, _, rfl, f1⟩⟩
                  case measure => simp [intOf]; omega
            · have hex2 : decide (j < xs.length) = false ∨ (decide (j < xs.length) = true ∧ decide ((j : Int) < 40) = false) := by
                by_cases q : j < xs.length
                · exact .inr ⟨by simpa using q, by simp; omega⟩
                · exact .inl (by simpa using q)
              have hT0 := runs_last (xs.take j) S1 HF.out
              have hfu := runs_fused okW okW_6 (xs.take j) S1 HF.out
              generalize runs okW S1 (xs.take j) = T at *
              have hTok := hf.two.ok
              have hXl : T.sync.last = (T.crash (alls T.loose.length)).last := (crash_all hTok hfu).symm
              have hXe : T.sync.loose = [] := by unfold DS.sync; rw [dead_no hfu, if_neg (by simp), burn_no (by exact hfu)]; rfl
              have hXn : T.sync.last.length = T.last.length := by unfold DS.sync; rw [dead_no hfu, if_neg (by simp), burn_no (by exact hfu)]; simp [DS.synced, flush_len]
              have hXok := hTok.sync
              have hrd : ∀ p, T.sync.rd p = (T.crash (alls T.loose.length)).rd p := fun p => by
                unfold DS.rd
                rw [hXl, hXe]
                rfl
              have hpg := m_pages hf.one
              have hfc := f_crash hf (by omega) (by omega)
              rw [HD.out.1, ← hT0, ← hXn] at hpg
              have hYn : (T.crash (alls T.loose.length)).last.length = T.sync.last.length := by rw [hXl]
              have hYe : (T.crash (alls T.loose.length)).loose = [] := rfl
              have hln := hTok.len4096
              have hXE := Lib.hid (show T.sync.loose.length ≤ 100 by rw [hXe]; simp)
              have hYE := Lib.hid (show (T.crash (alls T.loose.length)).loose.length ≤ 100 by rw [hYe]; simp)
              generalize T.crash (alls T.loose.length) = Y at *
              have hT100 : T.loose.length ≤ 100000000 := by omega
              have hsyn : ∀ w5 A c n, Four w w5 (w.heap.size + 1) D gx T gy Y A c n → Calls Try.prog 17 #[.pointer (some ⟨gx, 0, none⟩)] w5 fun e w' => e = .returned (.tuple #[]) ∧ Four w w' (w.heap.size + 1) D gy Y gx T.sync A c n := fun w5 A c n t => f_sync t.swap hT100
              have HS := Lib.hid hsyn
              rw [← hXn] at hln
              generalize T.sync = X at *
              have HRD := Lib.hid hrd
              have HYN := Lib.hid hYn
              have HXO := Lib.hid hXok
              have HF2 := Lib.hid hf
              have hlen40 : (T.loose.length : Int) ≤ 40 := by omega
              clear hrd hYn hXok hXl hXe hXn hYe hT0 hfu hTok hsyn hlt hll hT100 HF HLS HOK
              rcases hex2 with hy1 | ⟨hy1, hy2⟩
              all_goals
                go_wp2_with fail
                refine hpg.mono ?_
                rintro e w6 ⟨rfl, rfl⟩
                clear hpg
                go_wp2_with fail
                refine hfc.mono ?_
                rintro e w7 ⟨rfl, f7⟩
                clear hfc
                go_wp2_with fail
                refine (HS.out _ _ _ _ f7).mono ?_
                rintro e w8 ⟨rfl, f8⟩
                clear f7 hf
                have HR8 := Lib.hid (show LaRel2 w (w.heap.size + 1) D gx X gy Y w8 from ⟨_, _, _, f8.swap⟩)
                clear f8
                go_wp2_with fail
                go_loopw [13] (fun i wx => ∃ p : Nat, p ≤ X.last.length ∧ i = .int .i64 p ∧ LaRel2 w (w.heap.size + 1) D gx X gy Y wx) (fun i _ => X.last.length - (intOf i).toNat)
                case atStart => exact ⟨0, by omega, rfl, HR8.out⟩
                case round =>
                  clear HR8 HF2
                  obtain ⟨p, hp, rfl, A9, c9, n9, tx⟩ := hrel
                  by_cases hlt : p < X.last.length
                  · have hrd := HRD.out p
                    have hrl := rd_len HXO.out p hlt
                    have t8 := tx.alloc (.cells (pcell (X.rd p)) 5)
                    have t9 := t8.alloc (.cells (pcell (Y.rd p)) 5)
                    have v1 := conv_page (w := (wr.alloc (.cells (pcell (X.rd p)) 5)).alloc (.cells (pcell (Y.rd p)) 5)) (b := wr.heap.size) hrl (heap_alloc2_old wr _ _) 256
                    have v2 := conv_page (w := (wr.alloc (.cells (pcell (X.rd p)) 5)).alloc (.cells (pcell (Y.rd p)) 5)) (b := wr.heap.size + 1) (hrd ▸ hrl) (heap_alloc2_new wr _ _) 256
                    rw [hrd] at v1
                    have hra := m_read tx.two p hlt (by have := hXE.out; omega)
                    have hrb := m_read t8.three p (by rw [HYN.out]; exact hlt) (by have := hYE.out; omega)
                    generalize (⟨(Y.rd p).toArray⟩ : ByteArray) = s at v1 v2
                    have HQ := Lib.hid t9
                    rw [hrd] at v2 hra hrb HQ
                    generalize pcell (Y.rd p) = Z at *
                    clear t8 t9 hrd hrl tx
                    go_wp2_with fail
                    refine hra.mono ?_
                    rintro e wa ⟨rfl, rfl⟩
                    clear hra
                    go_wp2_with fail
                    refine hrb.mono ?_
                    rintro e wb ⟨rfl, rfl⟩
                    clear hrb
                    go_wp2_with fail
                    go_roundw
                    case rel => first | exact ⟨p + 1, by omega, by go_num, ⟨_, _, _, HQ.out⟩⟩ | ((repeat apply Exists.intro); exact ⟨⟨p + 1, by omega, by go_num, ⟨_, _, _, HQ.out⟩⟩, rfl⟩)
                    case measure => simp [intOf]; omega
                  · obtain rfl : p = X.last.length := by omega
                    have hlo := m_loose tx.one
                    rw [HD.out.2] at hlo
                    have hpx := m_pages tx.two
                    have HB2 := Lib.hid tx.below
                    clear tx
                    go_wp2_with fail
                    refine hlo.mono ?_
                    rintro e wa ⟨rfl, rfl⟩
                    clear hlo
                    go_wp2_with fail
                    refine hpx.mono ?_
                    rintro e wb ⟨rfl, rfl⟩
                    clear hpx
                    go_wp2_with fail
                    go_ret
                    exact ⟨by simp, HB2.out⟩
  · clear hA hxl hB hz
    have hn2 : decide (20 < ks.length) = true := by simp; omega
    have hn3 : decide ((20 : Int) < (ks.length : Int)) = true := by simp; omega
    have hn4 : (20 : Int) < (ks.length : Int) := by omega
    clear hk20
    generalize ks.length = m at *
    go_enter Try.func6, Try.ntmps6
    go_wp2_with fail
    refine (m_new w 20 (by omega) (by omega)).mono ?_
    rintro e w1 ⟨rfl, m0⟩
    go_wp2_with fail
    refine (awake_any _).mono ?_
    rintro e w1a ⟨rfl, hb1⟩
    have m1 := m0.step hb1
    clear hb1 m0
    go_wp2_with fail
    refine (awake_any _).mono ?_
    rintro e w2 ⟨rfl, hb2⟩
    have m2 := m1.step hb2
    go_wp2_with fail
    go_ret
    exact ⟨rfl, m2.below⟩
end Go.Proofs.Ytecdindjlfefhaa.DiskLasts
