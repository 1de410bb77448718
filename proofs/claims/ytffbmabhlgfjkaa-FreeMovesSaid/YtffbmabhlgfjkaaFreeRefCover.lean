/- The contract of the document's Cover. -/
import Derived.Test.YtffbmabhlgfjkaaFreeCover
import Derived.OwnWalk
namespace Go.Proofs.Ytffbmabhlgfjkaa.FreeRefCover
open Go.RowKit Base FreePlain FreeMem FreeCov FreeCover

theorem el_i : Elem Try.prog 44 3 8 := elem_mk (z := .int .i64 0) Try.underlying44 (by kernel_rfl) rfl
theorem ints_one (ks : List Int) : ∀ u ∈ ints ks, u.oneCell' = true := fun u hu => by
  obtain ⟨k, _, rfl⟩ := List.mem_map.1 hu
  rfl
theorem ints_append (a b : List Int) : ints (a ++ b) = ints a ++ ints b := by simp [ints]
theorem row_one (w : World) (v : Value) (t : TypeId) : Row (w.alloc (.cells #[v] t)) (w.alloc (.cells #[v] t)).heap.size (some ⟨w.heap.size, 0, none⟩) [v] := (row_of_block (heap_alloc_new w (.cells #[v] t))).more (by simp)
/-- the document's own words -/
def RC (ks : List Int) (pages : Int) : Prop := (∀ i (h : i < ks.length), (2 ≤ ks[i] ∧ ks[i] < pages) ∧ ∀ k (_ : k < i) (h' : k < ks.length), ks[k] ≠ ks[i]) ∧ ks.length = many pages
theorem rc_iff {ks : List Int} {pages : Int} : RC ks pages ↔ Onc ks (many pages) := by
  rw [onc_range]
  constructor
  · rintro ⟨h1, h2⟩
    refine ⟨List.pairwise_iff_getElem.2 fun i j hi hj hij => (h1 j hj).2 i hij hi, fun x hx => ?_, h2⟩
    obtain ⟨i, hi, rfl⟩ := List.mem_iff_getElem.1 hx
    exact (h1 i hi).1
  · rintro ⟨h1, h2, h3⟩
    exact ⟨fun i hi => ⟨h2 _ (List.getElem_mem hi), fun k hk hk' => List.pairwise_iff_getElem.1 h1 k i hk' hi hk⟩, h3⟩
set_option maxRecDepth 100000 in
set_option maxHeartbeats 6400000 in
theorem rcover_any (W : World) (A B : Option Addr) (n c m d : Nat) (l : Fs) (us : List Int) (pages : Int) (b : Bool) (hn : n = l.length) (hm : m = us.length) (hr : Row W W.heap.size A (fr l)) (hq : Row W W.heap.size B (ints us)) (hl : l.length ≤ 1000) (hu : us.length ≤ 1000)
    (hpg : pages ≤ 9223372036854775807) (hb : b = true ↔ Onc (us ++ pgs l) (many pages)) :
    Calls Try.prog 25 #[.slice A n c, .slice B m d, .int .i64 pages] W fun e w' => e = .returned (.bool b) ∧ Below W.heap.size W w' := by
  subst hn hm
  have HR := Lib.hid hr
  have HB := Lib.hid (hb.trans rc_iff.symm)
  have b0 := al W (.cells #[] 3)
  have h0 : Own (W.alloc (.cells #[] 3)) W.heap.size 3 (some ⟨W.heap.size, 0, none⟩) 0 (ints []) := Own.empty _ _ (Nat.le_refl _)
  obtain ⟨A1, c1, w1, hrun1, ho1, hg1⟩ := run_append_row (P := Try.prog) 44 el_i (c2 := d) h0 (hq.belowSize b0) (ints_one us) (by simp [ints, maxLen]; omega) (by simp [ints]; omega) b0.size
  have hb1 : Below W.heap.size W w1 := h0.below b0 hg1 (Nat.le_refl _) b0.size
  have hpl : (pgs l).length = l.length := by simp [pgs]
  rw [show (ints []).length = 0 from rfl, ints_len, Nat.zero_add] at hrun1
  rw [← ints_append, List.nil_append] at ho1
  clear hr hq hb b0 h0 hg1
  go_enter Try.func25, Try.ntmps25
  go_wp2_with (at_builtin; refine FreeMem.wpList_append_run rfl (.tmp 12) (.tmp 13) 44 44 rfl rfl rfl hrun1 ?_)
  clear hrun1
  go_loopw [7, 8] (fun v i wr => ∃ (k m : Nat) (A : Option Addr) (c : Nat), k ≤ l.length ∧ m = us.length + k ∧ i = .int .i64 k ∧ v = .slice A m c ∧ Own wr W.heap.size 3 A c (ints (us ++ pgs (l.take k))) ∧ Below W.heap.size W wr) (fun _ i _ => l.length - (intOf i).toNat)
  case atStart => exact ⟨0, us.length, A1, c1, by omega, rfl, rfl, rfl, by simpa [pgs] using ho1, hb1⟩
  case round =>
    clear ho1 hb1
    obtain ⟨k, m, A', c', hk, hm, rfl, rfl, hown, hbw⟩ := hrel
    have hbs := hbw.size
    by_cases hlt : k < l.length
    · obtain ⟨ad, hA, hblk, hc1, _⟩ := row_at HR.out k hlt
      subst hA
      have cc1 := (hbw.cell (p := ad.add (k * 2)) (by rw [blk_add]; exact hblk)).trans hc1
      clear hc1
      have HT := Lib.hid (show ints (us ++ pgs (l.take (k + 1))) = ints (us ++ pgs (l.take k)) ++ [.int .i64 (l[k]).1] by rw [pgs_take hlt, ← List.append_assoc, ints_append]; rfl)
      have hln : (ints (us ++ pgs (l.take k))).length = m := by rw [ints_len, List.length_append, hm]; simp [pgs]; omega
      generalize (l[k]).1 = p1 at *
      have hg9 := al wr (.cells #[.int .i64 p1] 3)
      obtain ⟨A2, c2, w2, hrun, hown2, hgr⟩ := run_append_row (P := Try.prog) 44 el_i (c2 := 1) (hown.later hg9) (row_one wr (.int .i64 p1) 3) (by simp [Value.oneCell']) (by rw [hln]; simp [maxLen]; omega) (by rw [hln]; simp; omega) (Nat.le_trans hbs hg9.size)
      have hb2 : Below W.heap.size W w2 := (hown.later hg9).below (hbw.trans (hg9.mono hbs)) hgr (Nat.le_refl _) (Nat.le_trans hbs hg9.size)
      rw [hln] at hrun
      have HM := Lib.hid (show m + 1 = us.length + (k + 1) by omega)
      have HX := Lib.hid hm
      clear hg9 hgr hown hln hm
      go_wp2_with (at_builtin; refine FreeMem.wpList_append_run rfl (.tmp 21) (.tmp 27) 44 44 rfl rfl rfl hrun ?_)
      clear hrun
      go_roundw
      case rel => exact ⟨k + 1, m + 1, A2, c2, by omega, HM.out, by go_num, rfl, by rw [HT.out]; exact hown2, hb2⟩
      case measure => simp [intOf]; omega
    · obtain rfl : k = l.length := by omega
      rw [List.take_of_length_le (Nat.le_refl _)] at hown
      have hkl : (us ++ pgs l).length = m := by rw [List.length_append, hpl, hm]
      generalize us ++ pgs l = ks at *
      subst hkl
      have HRW := Lib.hid hown.row
      have HBW := Lib.hid hbw
      have hkb : ks.length ≤ 2000 := by omega
      clear hown hm
      go_wp2_with fail
      generalize wr = wa at *
      have HRW2 := Lib.hid (show ∀ (w : World), Below wa.heap.size wa w → ∀ k (hk : k < ks.length), ∃ ad, A' = some ad ∧ w.cell? (ad.add k) = some (.int .i64 ks[k]) from fun w hw k hk => by
        obtain ⟨ad, e, hb, hc⟩ := ints_get HRW.out k hk
        exact ⟨ad, e, (hw.cell (p := ad.add k) (by rw [blk_add]; exact hb)).trans hc⟩)
      clear HRW
      go_loopw [9, 10] (fun i _ wr => ∃ k : Nat, k ≤ ks.length ∧ i = .int .i64 k ∧ (∀ j (_ : j < k) (h : j < ks.length), (2 ≤ ks[j] ∧ ks[j] < pages) ∧ ∀ q (_ : q < j) (h' : q < ks.length), ks[q] ≠ ks[j]) ∧ Below wa.heap.size wa wr) (fun i _ _ => ks.length - (intOf i).toNat)
      case atStart => exact ⟨0, by omega, rfl, by intro j h q; omega, Below.refl _ _⟩
      case round =>
        obtain ⟨k, hk, rfl, hpre, hby⟩ := hrel
        have HP := Lib.hid hpre
        clear hpre
        by_cases hlt : k < ks.length
        · obtain ⟨ad, hA, cc1⟩ := HRW2.out wr hby k hlt
          subst hA
          have HNB := Lib.hid (show b = true → (2 ≤ ks[k] ∧ ks[k] < pages) ∧ ∀ q (_ : q < k) (h' : q < ks.length), ks[q] ≠ ks[k] from fun h => (HB.out.1 h).1 k hlt)
          have HNX := Lib.hid (show ∀ p1, ks[k] = p1 → (2 ≤ p1 ∧ p1 < pages) → (∀ q (_ : q < k) (h' : q < ks.length), ks[q] ≠ p1) → ∀ j (_ : j < k + 1) (h : j < ks.length), (2 ≤ ks[j] ∧ ks[j] < pages) ∧ ∀ q (_ : q < j) (h' : q < ks.length), ks[q] ≠ ks[j] from fun p1 e h1 h2 j hj h => by
            rcases Nat.lt_or_ge j k with q | q
            · exact HP.out j q h
            · obtain rfl : j = k := by omega
              rw [e]
              exact ⟨h1, h2⟩)
          have HC1 := Lib.hid (show ∀ w, Below wa.heap.size wa w → w.cell? (ad.add k) = some (.int .i64 ks[k]) from fun w hw => by
            obtain ⟨ad', e, h⟩ := HRW2.out w hw k hlt
            injection e with e
            subst e
            exact h)
          generalize hp1 : ks[k] = p1 at *
          have HP1 := Lib.hid hp1
          clear hp1
          by_cases u1 : 2 ≤ p1
          · by_cases u2 : p1 < pages
            · have v1 : (p1 < 2) = False := by simp; omega
              have v2 : (pages ≤ p1) = False := by simp; omega
              have HUV := Lib.hid (And.intro u1 u2)
              clear u1 u2
              go_wp2_with fail
              clear cc1 v1 v2
              generalize wr = wb at *
              go_loopw [10] (fun i wz => ∃ m : Nat, m ≤ k ∧ i = .int .i64 m ∧ (∀ q (_ : q < m) (h' : q < ks.length), ks[q] ≠ p1) ∧ Below wa.heap.size wa wz) (fun i _ => k - (intOf i).toNat)
              case atStart => exact ⟨0, by omega, rfl, by intro q h; omega, hby⟩
              case round =>
                obtain ⟨m, hm, rfl, hpre, hbz⟩ := hrel
                have HQ := Lib.hid hpre
                clear hpre
                by_cases hmk : m < k
                · have hml : m < ks.length := by omega
                  have hmi : ((m : Int) < (ks.length : Int)) = True := by simp; omega
                  obtain ⟨ad', hA', dd1⟩ := HRW2.out wr hbz m hml
                  injection hA' with hA'
                  subst hA'
                  have cc1 := HC1.out wr hbz
                  by_cases heq : ks[m] = p1
                  · have HN := Lib.hid (show b = false from Bool.eq_false_iff.2 fun h => (HNB.out h).2 m hmk hml heq)
                    rw [heq] at dd1
                    clear heq
                    go_wp2_with fail
                    go_quiet (fail)
                    go_wp2_with fail
                    go_ret
                    exact ⟨ret_bool HN.out.symm, HBW.out.trans ((hbz.trans (Base.below_drewN _ _ _)).mono HBW.out.size)⟩
                  · have HN := Lib.hid (show ∀ q (_ : q < m + 1) (h' : q < ks.length), ks[q] ≠ p1 from fun q hq h' => by
                      rcases Nat.lt_or_ge q m with z | z
                      · exact HQ.out q z h'
                      · obtain rfl : q = m := by omega
                        exact heq)
                    have hne : (ks[m] == p1) = false := by simpa using heq
                    generalize ks[m] = q1 at *
                    clear heq
                    go_wp2_with fail
                    go_quiet (fail)
                    go_wp2_with fail
                    go_roundw
                    case rel => exact ⟨m + 1, by omega, by go_num, HN.out, hbz.trans (Base.below_drewN _ _ _)⟩
                    case measure => simp [intOf]; omega
                · obtain rfl : m = k := by omega
                  have HN := Lib.hid (HNX.out p1 rfl HUV.out HQ.out)
                  go_wp2_with fail
                  go_roundw
                  case rel => exact ⟨m + 1, by omega, by go_num, HN.out, hbz⟩
                  case measure => simp [intOf]; omega
            · have HN := Lib.hid (show b = false from Bool.eq_false_iff.2 fun h => u2 (HNB.out h).1.2)
              have v1 : (p1 < 2) = False := by simp; omega
              have v2 : (pages ≤ p1) = True := by simp; omega
              clear u1 u2
              go_wp2_with fail
              go_ret
              exact ⟨ret_bool HN.out.symm, HBW.out.trans (hby.mono HBW.out.size)⟩
          · have HN := Lib.hid (show b = false from Bool.eq_false_iff.2 fun h => u1 (HNB.out h).1.1)
            have v1 : (p1 < 2) = True := by simp; omega
            clear u1
            go_wp2_with fail
            go_ret
            exact ⟨ret_bool HN.out.symm, HBW.out.trans (hby.mono HBW.out.size)⟩
        · have HN := Lib.hid (show b = true ↔ ks.length = many pages from ⟨fun h => (HB.out.1 h).2, fun h => HB.out.2 ⟨fun i hi => HP.out i (by omega) hi, h⟩⟩)
          have HFB := Lib.hid (HBW.out.trans (hby.mono HBW.out.size))
          have hmany : (many pages : Int) = if 2 < pages then pages - 2 else 0 := by unfold many; split <;> omega
          generalize many pages = N at *
          by_cases hp : 2 < pages
          · rw [if_pos hp] at hmany
            have hN : pages - 2 = (N : Int) := hmany.symm
            have HE := Lib.hid (show ((ks.length : Int) == (N : Int)) = b by rw [Bool.eq_iff_iff, HN.out, beq_iff_eq]; omega)
            have hN2 : (N : Int) ≤ 9223372036854775807 := by omega
            clear hmany
            go_wp2_with fail
            go_ret
            exact ⟨ret_bool (by rw [← HE.out]), HFB.out⟩
          · rw [if_neg hp] at hmany
            obtain rfl : N = 0 := by omega
            have HE := Lib.hid (show ((ks.length : Int) == 0) = b by rw [Bool.eq_iff_iff, HN.out, beq_iff_eq]; omega)
            clear hmany
            go_wp2_with fail
            go_ret
            exact ⟨ret_bool (by rw [← HE.out]), HFB.out⟩
end Go.Proofs.Ytffbmabhlgfjkaa.FreeRefCover
