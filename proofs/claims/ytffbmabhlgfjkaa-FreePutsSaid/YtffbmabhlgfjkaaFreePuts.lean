/- The walk of FreePuts. -/
import Derived.Test.YtffbmabhlgfjkaaFreeLaw
namespace Go.Proofs.Ytffbmabhlgfjkaa.FreePuts
open Go.RowKit Base FreePlain FreePlain2 FreeMem FreeRefCheck FreeRefPut FreeCheck FreePut FreeFind FreeAwake FreeLaw

set_option maxRecDepth 100000 in
set_option maxHeartbeats 6400000 in
theorem FreePuts_walk (A : Option Addr) (c : Nat) (l : Fs) (g e o : Int) (W : World) (hr : Row W W.heap.size A (fr l)) (hn : l.length ≤ maxLen) :
    Calls Try.prog 3 #[.slice A l.length c, .int .i64 g, .int .i64 e, .int .i64 o] W (Law W) := by
  have HR := Lib.hid hr
  clear hr
  unfold Law
  simp only [maxLen] at hn
  by_cases h1 : 200 < l.length
  · go_enter Try.func3, Try.ntmps3
    go_wp2_with fail
    refine (awake_any W).mono ?_
    rintro e w1 ⟨rfl, b1⟩
    go_wp2_with fail
    go_ret
    exact ⟨rfl, b1⟩
  · by_cases hg : Gd l
    · have hc0 := rcheck_any W A l.length c l true rfl HR.out (by omega) (iff_of_true rfl hg)
      by_cases hf : Fit (g, e)
      · have HG := Lib.hid hg
        have HF := Lib.hid hf
        clear hg hf
        go_enter Try.func3, Try.ntmps3
        go_wp2_with fail
        refine hc0.mono ?_
        rintro e0 w1 ⟨rfl, b1⟩
        clear hc0
        have hc1 := rcheck_any (w1.alloc (.cells #[.int .i64 g, .int .i64 e] 25)) (some ⟨w1.heap.size, 0, none⟩) 1 1 [(g, e)] true rfl (row_item w1 (g, e)) (by simp) (iff_of_true rfl (gd_one.2 HF.out))
        have b1a := bst b1 b1.size (al w1 (.cells #[.int .i64 g, .int .i64 e] 25))
        go_wp2_with fail
        refine hc1.mono ?_
        rintro e0 w2 ⟨rfl, b2'⟩
        have b2 := bst b1a b1a.size b2'
        clear hc1 b1 b1a b2'
        obtain ⟨A3, c3, w3, hrun, ho, b3'⟩ := copyF w2 A l.length c l rfl (HR.out.belowSize b2) (by omega)
        have b3 := bst b2 b2.size b3'
        go_wp2_with (at_builtin; refine wpList_append_runG rfl (.tmp 47) (.tmp 48) 22 22 rfl rfl rfl hrun ?_)
        have hcall := put_any w3 A3 l.length c3 l g e rfl ho.cap.1 ho.row HG.out.2 (by omega)
        clear hrun ho b3' b2
        (with_reducible refine hcall.mono ?_)
        clear hcall
        rintro e0 w4 ⟨A4, m4, c4, rfl, hm4, ho4, b4'⟩
        have HM4 := Lib.hid hm4
        clear hm4
        have b4 := bst b3 b3.size b4'
        clear b3 b4'
        obtain ⟨A5, c5, w5, hrun, ho, b5'⟩ := copyF w4 A l.length c l rfl (HR.out.belowSize b4) (by omega)
        have b5 := bst b4 b4.size b5'
        have ho4 := ho4.later b5'
        go_wp2_with (at_builtin; refine wpList_append_runG rfl (.tmp 54) (.tmp 55) 22 22 rfl rfl rfl hrun ?_)
        have hcall := take_any w5 A5 l.length c5 l o rfl ho.cap.1 ho.row (by omega)
        clear hrun ho b5' b4
        (with_reducible refine hcall.mono ?_)
        clear hcall
        rintro e0 w6 ⟨A6, m6, c6, rfl, hm6, ho6, b6'⟩
        have HM6 := Lib.hid hm6
        clear hm6
        have b6 := bst b5 b5.size b6'
        have ho4 := ho4.later b6'
        clear b5 b6'
        have hcall := rtake_any w6 A l.length c l o rfl (HR.out.belowSize b6) (by omega)
        go_wp2_with fail
        (with_reducible refine hcall.mono ?_)
        clear hcall
        rintro e0 w7 ⟨A7, m7, c7, rfl, hm7, ho7, b7'⟩
        have HM7 := Lib.hid hm7
        clear hm7
        have b7 := bst b6 b6.size b7'
        have ho4 := ho4.later b7'
        have ho6 := ho6.later b7'
        clear b6 b7'
        have HO4 := Lib.hid ho4
        have HO6 := Lib.hid ho6
        have HO7 := Lib.hid ho7
        have HGI := Lib.hid (gd_ins HG.out HF.out)
        have HGF := Lib.hid (gd_first (o := o) HG.out)
        have HLI := Lib.hid (ins_len g e l)
        have HLF := Lib.hid ((first_sub o l).length_le)
        have HUL := Lib.hid (usable_le o l)
        have HRI := Lib.hid (fun (w : World) (b : Below W.heap.size W w) => FreeRefPut.rput_any w A l.length c l g e rfl (HR.out.belowSize b) HG.out.2 (by omega))
        clear ho4 ho6 ho7
        generalize ins g e l = li at *
        generalize (first o l).2 = lf at *
        generalize (first o l).1.getD 0 = pf at *
        generalize (first o l).1.isSome = sf at *
        go_wp2_with fail
        go_loopw [16, 17] (fun t i wr => ∃ k : Nat, k ≤ l.length ∧ t = .int .i64 (usable o (l.take k)) ∧ i = .int .i64 k ∧ wr = w7) (fun _ i _ => l.length - (intOf i).toNat)
        case atStart => exact ⟨0, by omega, rfl, rfl, rfl⟩
        case round =>
          obtain ⟨k, hk, rfl, rfl, hw⟩ := hrel
          have hw := hw.symm
          subst hw
          have hlu : usable o (l.take k) ≤ l.length := Nat.le_trans (usable_le o _) (by rw [List.length_take]; omega)
          by_cases hlt : k < l.length
          · obtain ⟨ad, hA, hblk, hc1, hc2⟩ := row_at HR.out k hlt
            subst hA
            have cc2 := (b7.cell (p := ⟨(ad.add (k * 2)).block, (ad.add (k * 2)).off + 1, none⟩) (by show (ad.add (k * 2)).block < _; rw [blk_add]; exact hblk)).trans hc2
            clear hc1 hc2
            have HT := Lib.hid (usable_take (o := o) hlt)
            generalize (l[k]).2 = p2 at *
            generalize usable o (l.take k) = u at *
            by_cases hle : p2 ≤ o
            · have HQ := Lib.hid (show usable o (l.take (k + 1)) = u + 1 by rw [HT.out]; simp [hle])
              go_wp2_with fail
              go_roundw
              case rel => exact ⟨k + 1, by omega, by rw [HQ.out]; go_num, by go_num, trivial⟩
              case measure => simp [intOf]; omega
            · have HQ := Lib.hid (show usable o (l.take (k + 1)) = u by rw [HT.out]; simp [hle])
              have hle2 : (p2 ≤ o) = False := by simpa using hle
              clear hle
              go_wp2_with fail
              go_roundw
              case rel => exact ⟨k + 1, by omega, by rw [HQ.out], by go_num, trivial⟩
              case measure => simp [intOf]; omega
          · obtain rfl : k = l.length := by omega
            rw [show l.take l.length = l from List.take_of_length_le (Nat.le_refl _)] at *
            have hus := fun (w : World) (b : Below W.heap.size W w) => usable_any w A l.length c l o rfl (HR.out.belowSize b) (by omega)
            have HUS := Lib.hid hus
            clear hus
            generalize usable o l = u at *
            go_wp2_with fail
            refine (awake_any w7).mono ?_
            rintro e0 w8 ⟨rfl, b8'⟩
            have b8 := bst b7 b7.size b8'
            have ho4 := HO4.out.later b8'
            have ho6 := HO6.out.later b8'
            have ho7 := HO7.out.later b8'
            clear HO4 HO6 HO7 b8' b7
            have hcall := HRI.out w8 b8
            go_wp2_with fail
            (with_reducible refine hcall.mono ?_)
            clear hcall HRI
            rintro e0 w9 ⟨A9, m9, c9, rfl, hm9, ho9, b9'⟩
            have b9 := bst b8 b8.size b9'
            have ho4 := ho4.later b9'
            have ho6 := ho6.later b9'
            have ho7 := ho7.later b9'
            clear b8 b9'
            have hcall := rsame_any w9 A4 A9 m4 c4 m9 c9 li li true HM4.out hm9 ho4.row ho9.row (by have := HLI.out; omega) (iff_of_true rfl rfl)
            clear hm9 ho9
            go_wp2_with fail
            (with_reducible refine hcall.mono ?_)
            clear hcall
            rintro e0 w10 ⟨rfl, b10'⟩
            have b10 := bst b9 b9.size b10'
            have ho4 := ho4.later b10'
            have ho6 := ho6.later b10'
            have ho7 := ho7.later b10'
            clear b9 b10'
            have hcall := check_any w10 A4 m4 c4 li true HM4.out ho4.row (by have := HLI.out; omega) (iff_of_true rfl HGI.out)
            clear ho4
            go_wp2_with fail
            (with_reducible refine hcall.mono ?_)
            clear hcall
            rintro e0 w11 ⟨rfl, b11'⟩
            have b11 := bst b10 b10.size b11'
            have ho6 := ho6.later b11'
            have ho7 := ho7.later b11'
            clear b10 b11'
            have hcall := rsame_any w11 A6 A7 m6 c6 m7 c7 lf lf true HM6.out HM7.out ho6.row ho7.row (by have := HLF.out; omega) (iff_of_true rfl rfl)
            clear ho7
            go_wp2_with fail
            (with_reducible refine hcall.mono ?_)
            clear hcall
            rintro e0 w12 ⟨rfl, b12'⟩
            have b12 := bst b11 b11.size b12'
            have ho6 := ho6.later b12'
            clear b11 b12'
            have hcall := check_any w12 A6 m6 c6 lf true HM6.out ho6.row (by have := HLF.out; omega) (iff_of_true rfl HGF.out)
            clear ho6
            go_wp2_with fail
            (with_reducible refine hcall.mono ?_)
            clear hcall
            rintro e0 w13 ⟨rfl, b13'⟩
            have b13 := bst b12 b12.size b13'
            clear b12 b13'
            have hcall := HUS.out w13 b13
            go_wp2_with fail
            (with_reducible refine hcall.mono ?_)
            clear hcall
            rintro e0 w14 ⟨rfl, b14'⟩
            have b14 := bst b13 b13.size b14'
            clear b13 b14'
            go_wp2_with fail
            go_ret
            exact ⟨rfl, b14⟩
      · have HG := Lib.hid hg
        have HF := Lib.hid hf
        clear hg hf
        go_enter Try.func3, Try.ntmps3
        go_wp2_with fail
        refine hc0.mono ?_
        rintro e0 w1 ⟨rfl, b1⟩
        clear hc0
        have hc1 := rcheck_any (w1.alloc (.cells #[.int .i64 g, .int .i64 e] 25)) (some ⟨w1.heap.size, 0, none⟩) 1 1 [(g, e)] false rfl (row_item w1 (g, e)) (by simp) (iff_of_false (by decide) fun h => HF.out (gd_one.1 h))
        have b1a := bst b1 b1.size (al w1 (.cells #[.int .i64 g, .int .i64 e] 25))
        go_wp2_with fail
        refine hc1.mono ?_
        rintro e0 w2 ⟨rfl, b2'⟩
        have b2 := bst b1a b1a.size b2'
        clear hc1 b1 b1a b2'
        go_wp2_with fail
        refine (awake_any w2).mono ?_
        rintro e0 w3 ⟨rfl, b3'⟩
        have b3 := bst b2 b2.size b3'
        have hcall := check_any w3 A l.length c l true rfl (HR.out.belowSize b3) (by omega) (iff_of_true rfl HG.out)
        clear b2 b3'
        go_wp2_with fail
        (with_reducible refine hcall.mono ?_)
        clear hcall
        rintro e0 w4 ⟨rfl, b4'⟩
        have b4 := bst b3 b3.size b4'
        have hcall := rcheck_any w4 A l.length c l true rfl (HR.out.belowSize b4) (by omega) (iff_of_true rfl HG.out)
        clear b3 b4'
        go_wp2_with fail
        (with_reducible refine hcall.mono ?_)
        clear hcall
        rintro e0 w5 ⟨rfl, b5'⟩
        have b5 := bst b4 b4.size b5'
        clear b4 b5'
        go_wp2_with fail
        go_ret
        exact ⟨rfl, b5⟩
    · have hc0 := rcheck_any W A l.length c l false rfl HR.out (by omega) (iff_of_false (by decide) hg)
      have HG := Lib.hid hg
      clear hg
      go_enter Try.func3, Try.ntmps3
      go_wp2_with fail
      refine hc0.mono ?_
      rintro e0 w2 ⟨rfl, b2⟩
      clear hc0
      go_wp2_with fail
      refine (awake_any w2).mono ?_
      rintro e0 w3 ⟨rfl, b3'⟩
      have b3 := bst b2 b2.size b3'
      have hcall := check_any w3 A l.length c l false rfl (HR.out.belowSize b3) (by omega) (iff_of_false (by decide) HG.out)
      clear b2 b3'
      go_wp2_with fail
      (with_reducible refine hcall.mono ?_)
      clear hcall
      rintro e0 w4 ⟨rfl, b4'⟩
      have b4 := bst b3 b3.size b4'
      have hcall := rcheck_any w4 A l.length c l false rfl (HR.out.belowSize b4) (by omega) (iff_of_false (by decide) HG.out)
      clear b3 b4'
      go_wp2_with fail
      (with_reducible refine hcall.mono ?_)
      clear hcall
      rintro e0 w5 ⟨rfl, b5'⟩
      have b5 := bst b4 b4.size b5'
      clear b4 b5'
      go_wp2_with fail
      go_ret
      exact ⟨rfl, b5⟩
end Go.Proofs.Ytffbmabhlgfjkaa.FreePuts
