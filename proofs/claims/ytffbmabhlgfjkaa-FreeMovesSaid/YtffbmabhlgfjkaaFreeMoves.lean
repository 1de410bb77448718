/- The walk of FreeMoves. -/
import Derived.Test.YtffbmabhlgfjkaaFreeMovesP
namespace Go.Proofs.Ytffbmabhlgfjkaa.FreeMoves
open Go.RowKit Base FreePlain FreePlain2 FreeMem FreeCov FreeCover FreeRefCover FreeRefCheck FreeRefPut FreeCheck FreeSl FreePut FreeFind FreeAwake FreeLaw FreeMovesP

set_option maxRecDepth 100000 in
set_option maxHeartbeats 12800000 in
theorem FreeMoves_walk (n : Nat) (A : Option Addr) (c : Nat) (bs : List Bool) (W : World) (hn : n ≤ 255) (hr : Row W W.heap.size A (bs.map .bool)) (hm : bs.length ≤ maxLen) :
    Calls Try.prog 10 #[.int .u8 (n : Int), .slice A bs.length c] W (Law W) := by
  have HR := Lib.hid hr
  clear hr
  unfold Law
  simp only [maxLen] at hm
  have b0 := al W (.cells #[] 3)
  have h0 : Own (W.alloc (.cells #[] 3)) W.heap.size 3 (some ⟨W.heap.size, 0, none⟩) 0 (ints (rng 0)) := Own.empty _ _ (Nat.le_refl _)
  obtain ⟨N, hN, hN60⟩ : ∃ N : Nat, (n : Int) % 60 = (N : Int) ∧ N < 60 := ⟨n % 60, by omega, by omega⟩
  go_enter Try.func10, Try.ntmps10
  go_wp2_with fail
  clear hN
  go_loopw [6, 7] (fun v i wr => ∃ (k : Nat) (A' : Option Addr) (c' : Nat), k ≤ N ∧ v = .slice A' k c' ∧ i = .int .i64 (2 + (k : Int)) ∧ Own wr W.heap.size 3 A' c' (ints (rng k)) ∧ Below W.heap.size W wr) (fun _ i _ => 2 + N - (intOf i).toNat)
  case atStart => exact ⟨0, _, 0, by omega, rfl, rfl, h0, b0⟩
  case round =>
    clear h0 b0
    obtain ⟨k, A', c', hk, rfl, rfl, hown, hb⟩ := hrel
    by_cases hlt : k < N
    · have hli : ((2 : Int) + (k : Int) < 2 + (N : Int)) = True := by simp; omega
      have hg9 := al wr (.cells #[.int .i64 (2 + (k : Int))] 3)
      have hbs := hb.size
      have hln : (ints (rng k)).length = k := by rw [ints_len, len_rng]
      obtain ⟨A2, c2, w2, hrun, hown2, hgr⟩ := run_append_row (P := Try.prog) 44 el_i (c2 := 1) (hown.later hg9) (FreeRefCover.row_one wr (.int .i64 (2 + (k : Int))) 3) (by simp [Value.oneCell']) (by rw [hln]; simp [maxLen]; omega) (by rw [hln]; simp; omega) (Nat.le_trans hbs hg9.size)
      have hb2 : Below W.heap.size W w2 := (hown.later hg9).below (bst hb hbs hg9) hgr (Nat.le_refl _) (Nat.le_trans hbs hg9.size)
      rw [hln] at hrun
      have HO := Lib.hid (show Own w2 W.heap.size 3 A2 c2 (ints (rng (k + 1))) by rw [rng_succ, FreeRefCover.ints_append]; exact hown2)
      clear hg9 hown hgr hln hown2 hbs
      go_wp2_with (at_builtin; refine wpList_append_runG rfl (.tmp 23) (.tmp 25) 44 44 rfl rfl rfl hrun ?_)
      clear hrun
      go_roundw
      case rel => exact ⟨k + 1, A2, c2, by omega, rfl, by go_num, HO.out, hb2⟩
      case measure => simp [intOf]; omega
    · obtain rfl : k = N := by omega
      have HO := Lib.hid (hown.later (al wr (.cells #[] 25)))
      have HE := Lib.hid (OwnF.empty wr hb.size)
      have hb2 := bst hb hb.size (al wr (.cells #[] 25))
      have HST := Lib.hid (Mv.start k)
      have HRN := Lib.hid (len_rng k)
      clear hown hb
      go_wp2_with fail
      go_loopw [6, 8, 9, 10, 11, 12] (fun v u i _ _ _ wz => ∃ (i0 mu ml : Nat) (lf : Fs) (us : List Int) (A6 A8 : Option Addr) (c6 c8 : Nat), i0 ≤ bs.length ∧ i0 ≤ 60 ∧ v = .slice A6 mu c6 ∧ mu = us.length ∧ u = .slice A8 ml c8 ∧ ml = lf.length ∧ i = .int .i64 i0 ∧ Own wz W.heap.size 3 A6 c6 (ints us) ∧ OwnF wz W.heap.size A8 c8 lf ∧ Mv k lf us ∧ Below W.heap.size W wz) (fun _ _ i _ _ _ _ => 60 - (intOf i).toNat)
      case atStart => exact ⟨0, k, 0, [], rng k, A', _, c', 0, by omega, by omega, rfl, HRN.out.symm, rfl, rfl, rfl, HO.out, HE.out, HST.out, hb2⟩
      case round =>
        clear HO HE HST HRN hb2
        obtain ⟨i0, mu, ml, lf, us, A6, A8, c6, c8, hi1, hi2, rfl, hmu, rfl, hml, rfl, hou, hol, hmv, hb⟩ := hrel
        have hlen := hmv.len
        by_cases hlt : i0 < bs.length
        · by_cases hlt60 : i0 < 60
          · skip
            skip
            obtain ⟨ad, hA, hblk, hcb⟩ := HR.out.get i0 (by simpa using hlt)
            subst hA
            have cb1 := (hb.cell (p := ad.add i0) (by rw [blk_add]; exact hblk)).trans hcb
            rw [List.getElem_map] at cb1
            clear hcb
            cases hbv : bs[i0] with
            | true =>
              rw [hbv] at cb1
              clear hbv
              have hcall := take_any wr A8 ml c8 lf 5 hml hol.cap.1 hol.row (by omega)
              cases lf with
              | nil =>
                have HMU := Lib.hid hmu
                have HML := Lib.hid hml
                have HMV := Lib.hid hmv
                have HLE := Lib.hid hlen
                clear hmu hml hmv hlen
                obtain rfl : ml = 0 := HML.out
                go_wp2_with fail
                (with_reducible refine hcall.mono ?_)
                clear hcall
                rintro e0 w4 ⟨A9, m9, c9, rfl, _, _, b4'⟩
                have b := bst hb hb.size b4'
                have hol := hol.later b4'
                have hou := hou.later b4'
                clear b4' hb
                simp only [first, Option.getD, Option.isSome]
                obtain ⟨A10, c10, w10, hrun, ho10, b10'⟩ := copyI w4 A6 mu c6 (us) HMU.out hou.row (by have := HLE.out; omega)
                have b10 := bst b b.size b10'
                have hol := hol.later b10'
                have hou := hou.later b10'
                clear b b10'
                go_wp2_with (at_builtin; refine wpList_append_runG rfl (.tmp 76) (.tmp 77) 44 44 rfl rfl rfl hrun ?_)
                have hcall := cover_any w10 A8 A10 0 c8 mu c10 ([]) (us) (2 + (k : Int)) true HML.out HMU.out hol.row ho10.row (by have := HLE.out; omega) (by have := HLE.out; omega) HMV.out.w1 (HMV.out.w2 (by omega)) (by omega) (iff_of_true rfl HMV.out.yes)
                clear hrun ho10
                (with_reducible refine hcall.mono ?_)
                clear hcall
                rintro e0 w11 ⟨rfl, b11'⟩
                have b11 := bst b10 b10.size b11'
                have hol := hol.later b11'
                have hou := hou.later b11'
                clear b10 b11'
                obtain ⟨A12, c12, w12, hrun, ho12, b12'⟩ := copyI w11 A6 mu c6 (us) HMU.out hou.row (by have := HLE.out; omega)
                have b12 := bst b11 b11.size b12'
                have hol := hol.later b12'
                have hou := hou.later b12'
                clear b11 b12'
                go_wp2_with (at_builtin; refine wpList_append_runG rfl (.tmp 84) (.tmp 85) 44 44 rfl rfl rfl hrun ?_)
                have hcall := cover_any w12 A8 A12 0 c8 mu c12 ([]) (us) (2 + (k : Int) + 1) false HML.out HMU.out hol.row ho12.row (by have := HLE.out; omega) (by have := HLE.out; omega) HMV.out.w1 (HMV.out.w2 (by omega)) (by omega) (iff_of_false (by decide) HMV.out.no)
                clear hrun ho12
                (with_reducible refine hcall.mono ?_)
                clear hcall
                rintro e0 w13 ⟨rfl, b13'⟩
                have b13 := bst b12 b12.size b13'
                have HOL := Lib.hid (hol.later b13')
                have HOU := Lib.hid (hou.later b13')
                clear b12 b13' hol hou
                go_wp2_with fail
                go_roundw
                case rel => exact ⟨i0 + 1, mu, 0, [], us, A6, A8, c6, c8, by omega, by omega, rfl, HMU.out, rfl, HML.out, by go_num, HOU.out, HOL.out, HMV.out, b13⟩
                case measure => simp [intOf]; omega
              | cons p t =>
                rw [first_all (hmv.few p (by simp))] at hcall
                have HT := Lib.hid hmv.take
                have HMU := Lib.hid hmu
                have HML := Lib.hid hml
                have HMV := Lib.hid hmv
                have HLE := Lib.hid hlen
                clear hmu hml hmv hlen
                have hml2 : 0 < ml := by rw [HML.out]; simp
                go_wp2_with fail
                (with_reducible refine hcall.mono ?_)
                clear hcall
                rintro e0 w4 ⟨A9, m9, c9, rfl, hm9, ho9, b4'⟩
                have b := bst hb hb.size b4'
                have HOL := Lib.hid (own_low ho9 hb.size)
                have hou := hou.later b4'
                have HM9 := Lib.hid hm9
                clear b4' hm9 ho9 hb hol
                simp only [Option.getD, Option.isSome]
                obtain ⟨A5, c5, w5, hrun1, ho5, b5'⟩ := copyI w4 A6 mu c6 us HMU.out hou.row (by have := HLE.out; omega)
                have hlo := b.size
                have ho5 := ownI_low ho5 hlo
                have b5 := bst b b.size b5'
                have HOL := Lib.hid (HOL.out.later b5')
                clear b b5' hou
                obtain ⟨p1, p2⟩ := p
                have hgw := al w5 (.cells #[.int .i64 p1] 3)
                obtain ⟨A3, c3, w3, hrun2, ho3, hg3⟩ := run_append_row (P := Try.prog) 44 el_i (c2 := 1) (ho5.later hgw) (FreeRefCover.row_one w5 (.int .i64 p1) 3) (by simp [Value.oneCell']) (by rw [ints_len]; have := HLE.out; simp [maxLen] at this ⊢; omega) (by rw [ints_len]; have := HLE.out; simp at this ⊢; omega) (Nat.le_trans b5.size hgw.size)
                have b := (ho5.later hgw).below (bst b5 b5.size hgw) hg3 (Nat.le_refl _) (Nat.le_trans b5.size hgw.size)
                rw [ints_len, ← HMU.out] at hrun2
                have HOLX := Lib.hid (ownF_other (HOL.out.later hgw) (ho5.later hgw) hg3)
                have HOU := Lib.hid (show Own w3 W.heap.size 3 A3 c3 (ints (us ++ [p1])) by rw [FreeRefCover.ints_append]; exact ho3)
                have HMU2 := Lib.hid (show mu + 1 = (us ++ [p1]).length by rw [List.length_append, ← HMU.out]; rfl)
                have HLE2 := Lib.hid (show t.length + (us ++ [p1]).length = k by have := HLE.out; simp at this ⊢; omega)
                have hmub : mu ≤ 60 := by rw [HMU.out]; have := HLE.out; simp at this; omega
                clear ho5 hgw hg3 ho3 b5 hlo
                skip
                clear HOL HMU HML HLE HMV
                have HMU := HMU2
                have HML := HM9
                have HLE := HLE2
                have HMV := HT
                have hol := HOLX.out
                have hou := HOU.out
                clear HMU2 HM9 HLE2 HT HOLX HOU
                obtain ⟨A10, c10, w10, hrun, ho10, b10'⟩ := copyI w3 A3 (mu + 1) c3 (us ++ [p1]) HMU.out hou.row (by have := HLE.out; omega)
                have b10 := bst b b.size b10'
                have hol := hol.later b10'
                have hou := hou.later b10'
                clear b b10'
                go_wp2_with (at_builtin; first | refine wpList_append_runG rfl (.tmp 55) (.tmp 56) 44 44 rfl rfl rfl hrun1 ?_ | refine wpList_append_runG rfl (.tmp 57) (.tmp 59) 44 44 rfl rfl rfl hrun2 ?_ | refine wpList_append_runG rfl (.tmp 76) (.tmp 77) 44 44 rfl rfl rfl hrun ?_)
                have hcall := cover_any w10 A9 A10 m9 c9 (mu + 1) c10 (t) (us ++ [p1]) (2 + (k : Int)) true HML.out HMU.out hol.row ho10.row (by have := HLE.out; omega) (by have := HLE.out; omega) HMV.out.w1 (HMV.out.w2 (by omega)) (by omega) (iff_of_true rfl HMV.out.yes)
                clear hrun ho10
                (with_reducible refine hcall.mono ?_)
                clear hcall
                rintro e0 w11 ⟨rfl, b11'⟩
                have b11 := bst b10 b10.size b11'
                have hol := hol.later b11'
                have hou := hou.later b11'
                clear b10 b11'
                obtain ⟨A12, c12, w12, hrun, ho12, b12'⟩ := copyI w11 A3 (mu + 1) c3 (us ++ [p1]) HMU.out hou.row (by have := HLE.out; omega)
                have b12 := bst b11 b11.size b12'
                have hol := hol.later b12'
                have hou := hou.later b12'
                clear b11 b12'
                go_wp2_with (at_builtin; refine wpList_append_runG rfl (.tmp 84) (.tmp 85) 44 44 rfl rfl rfl hrun ?_)
                have hcall := cover_any w12 A9 A12 m9 c9 (mu + 1) c12 (t) (us ++ [p1]) (2 + (k : Int) + 1) false HML.out HMU.out hol.row ho12.row (by have := HLE.out; omega) (by have := HLE.out; omega) HMV.out.w1 (HMV.out.w2 (by omega)) (by omega) (iff_of_false (by decide) HMV.out.no)
                clear hrun ho12
                (with_reducible refine hcall.mono ?_)
                clear hcall
                rintro e0 w13 ⟨rfl, b13'⟩
                have b13 := bst b12 b12.size b13'
                have HOL := Lib.hid (hol.later b13')
                have HOU := Lib.hid (hou.later b13')
                clear b12 b13' hol hou
                go_wp2_with fail
                go_roundw
                case rel => exact ⟨i0 + 1, (mu + 1), m9, t, us ++ [p1], A3, A9, c3, c9, by omega, by omega, rfl, HMU.out, rfl, HML.out, by go_num, HOU.out, HOL.out, HMV.out, b13⟩
                case measure => simp [intOf]; omega
            | false =>
              rw [hbv] at cb1
              clear hbv
              cases us with
              | nil =>
                have HMU := Lib.hid hmu
                have HML := Lib.hid hml
                have HMV := Lib.hid hmv
                have HLE := Lib.hid hlen
                clear hmu hml hmv hlen
                obtain rfl : mu = 0 := HMU.out
                have b := hb
                clear hb
                obtain ⟨A10, c10, w10, hrun, ho10, b10'⟩ := copyI wr A6 0 c6 ([]) HMU.out hou.row (by have := HLE.out; omega)
                have b10 := bst b b.size b10'
                have hol := hol.later b10'
                have hou := hou.later b10'
                clear b b10'
                go_wp2_with (at_builtin; refine wpList_append_runG rfl (.tmp 76) (.tmp 77) 44 44 rfl rfl rfl hrun ?_)
                have hcall := cover_any w10 A8 A10 ml c8 0 c10 (lf) ([]) (2 + (k : Int)) true HML.out HMU.out hol.row ho10.row (by have := HLE.out; omega) (by have := HLE.out; omega) HMV.out.w1 (HMV.out.w2 (by omega)) (by omega) (iff_of_true rfl HMV.out.yes)
                clear hrun ho10
                (with_reducible refine hcall.mono ?_)
                clear hcall
                rintro e0 w11 ⟨rfl, b11'⟩
                have b11 := bst b10 b10.size b11'
                have hol := hol.later b11'
                have hou := hou.later b11'
                clear b10 b11'
                obtain ⟨A12, c12, w12, hrun, ho12, b12'⟩ := copyI w11 A6 0 c6 ([]) HMU.out hou.row (by have := HLE.out; omega)
                have b12 := bst b11 b11.size b12'
                have hol := hol.later b12'
                have hou := hou.later b12'
                clear b11 b12'
                go_wp2_with (at_builtin; refine wpList_append_runG rfl (.tmp 84) (.tmp 85) 44 44 rfl rfl rfl hrun ?_)
                have hcall := cover_any w12 A8 A12 ml c8 0 c12 (lf) ([]) (2 + (k : Int) + 1) false HML.out HMU.out hol.row ho12.row (by have := HLE.out; omega) (by have := HLE.out; omega) HMV.out.w1 (HMV.out.w2 (by omega)) (by omega) (iff_of_false (by decide) HMV.out.no)
                clear hrun ho12
                (with_reducible refine hcall.mono ?_)
                clear hcall
                rintro e0 w13 ⟨rfl, b13'⟩
                have b13 := bst b12 b12.size b13'
                have HOL := Lib.hid (hol.later b13')
                have HOU := Lib.hid (hou.later b13')
                clear b12 b13' hol hou
                go_wp2_with fail
                go_roundw
                case rel => exact ⟨i0 + 1, 0, ml, lf, [], A6, A8, c6, c8, by omega, by omega, rfl, HMU.out, rfl, HML.out, by go_num, HOU.out, HOL.out, HMV.out, b13⟩
                case measure => simp [intOf]; omega
              | cons u t =>
                obtain ⟨g6, _, hf6, _⟩ := World.ownsRow.form hou (by simp [ints])
                have hA6 : A6 = some ⟨g6, 0, none⟩ := by injection hf6
                subst hA6
                have hc0 : wr.cell? ⟨g6, 0, none⟩ = some (.int .i64 u) := by
                  obtain ⟨ad, e, _, hc⟩ := ints_get hou.row 0 (by simp)
                  injection e with e
                  subst e
                  simpa [Addr.add] using hc
                have hmod0 : (0 : Int) ≤ (i0 : Int) % 5 := by omega
                have hmod4 : (i0 : Int) % 5 ≤ 4 := by omega
                have HT := Lib.hid (hmv.put (e := (i0 : Int) % 5) (by omega) hmod0 hmod4)
                have HCC := Lib.hid (show (u :: t).length ≤ c6 by have := hou.cap.1; simpa [ints] using this)
                obtain ⟨nm, rfl⟩ : ∃ nm, mu = nm + 1 := ⟨t.length, by rw [hmu]; simp⟩
                have hcall := put_any wr A8 ml c8 lf u ((i0 : Int) % 5) hml hol.cap.1 hol.row hmv.gd.2 (by omega)
                have HMU := Lib.hid hmu
                have HML := Lib.hid hml
                have HMV := Lib.hid hmv
                have HLE := Lib.hid hlen
                clear hmu hml hmv hlen
                have hmu3 : nm ≤ 60 := by have := HMU.out; have := HLE.out; simp at *; omega
                go_wp2_with fail
                (with_reducible refine hcall.mono ?_)
                clear hcall hc0
                rintro e0 w4 ⟨A9, m9, c9, rfl, hm9, ho9, b4'⟩
                have b := bst hb hb.size b4'
                have HOL := Lib.hid (own_low ho9 hb.size)
                have hou := hou.later b4'
                have HM9 := Lib.hid hm9
                clear b4' hm9 ho9 hb hol
                by_cases hc61 : c6 = 1
                · have ht : t = [] := by have := HCC.out; rw [hc61] at this; simpa using this
                  subst ht hc61
                  obtain rfl : nm = 0 := by have := HMU.out; simpa using this
                  obtain ⟨A5, c5, w5, hrun1, ho5, b5'⟩ := copyI w4 (some ⟨g6, 0, none⟩) 0 0 [] rfl (by intro k v hv; simp [ints] at hv) (by simp)
                  have hou5 := ownI_low ho5 b.size
                  have hol5 := HOL.out.later b5'
                  have b5 := bst b b.size b5'
                  have HMU2 := Lib.hid (show 0 = ([] : List Int).length by rfl)
                  have HLE2 := Lib.hid HT.out.len
                  clear b b5' ho5 hou HMU HML HLE HMV HOL HCC
                  have HMU := HMU2
                  have HML := HM9
                  have HLE := HLE2
                  have HMV := HT
                  have hol := hol5
                  have hou := hou5
                  have b := b5
                  clear HMU2 HM9 HLE2 HT hol5 hou5 b5
                  obtain ⟨A10, c10, w10, hrun, ho10, b10'⟩ := copyI w5 A5 0 c5 ([]) HMU.out hou.row (by have := HLE.out; omega)
                  have b10 := bst b b.size b10'
                  have hol := hol.later b10'
                  have hou := hou.later b10'
                  clear b b10'
                  go_wp2_with (at_builtin; first | refine wpList_append_runG rfl (.tmp 71) (.tmp 73) 44 44 rfl rfl rfl hrun1 ?_ | refine wpList_append_runG rfl (.tmp 76) (.tmp 77) 44 44 rfl rfl rfl hrun ?_)
                  have hcall := cover_any w10 A9 A10 m9 c9 0 c10 (ins u ((i0 : Int) % 5) lf) ([]) (2 + (k : Int)) true HML.out HMU.out hol.row ho10.row (by have := HLE.out; omega) (by have := HLE.out; omega) HMV.out.w1 (HMV.out.w2 (by omega)) (by omega) (iff_of_true rfl HMV.out.yes)
                  clear hrun ho10
                  (with_reducible refine hcall.mono ?_)
                  clear hcall
                  rintro e0 w11 ⟨rfl, b11'⟩
                  have b11 := bst b10 b10.size b11'
                  have hol := hol.later b11'
                  have hou := hou.later b11'
                  clear b10 b11'
                  obtain ⟨A12, c12, w12, hrun, ho12, b12'⟩ := copyI w11 A5 0 c5 ([]) HMU.out hou.row (by have := HLE.out; omega)
                  have b12 := bst b11 b11.size b12'
                  have hol := hol.later b12'
                  have hou := hou.later b12'
                  clear b11 b12'
                  go_wp2_with (at_builtin; refine wpList_append_runG rfl (.tmp 84) (.tmp 85) 44 44 rfl rfl rfl hrun ?_)
                  have hcall := cover_any w12 A9 A12 m9 c9 0 c12 (ins u ((i0 : Int) % 5) lf) ([]) (2 + (k : Int) + 1) false HML.out HMU.out hol.row ho12.row (by have := HLE.out; omega) (by have := HLE.out; omega) HMV.out.w1 (HMV.out.w2 (by omega)) (by omega) (iff_of_false (by decide) HMV.out.no)
                  clear hrun ho12
                  (with_reducible refine hcall.mono ?_)
                  clear hcall
                  rintro e0 w13 ⟨rfl, b13'⟩
                  have b13 := bst b12 b12.size b13'
                  have HOL := Lib.hid (hol.later b13')
                  have HOU := Lib.hid (hou.later b13')
                  clear b12 b13' hol hou
                  go_wp2_with fail
                  go_roundw
                  case rel => exact ⟨i0 + 1, 0, m9, ins u ((i0 : Int) % 5) lf, [], A5, A9, c5, c9, by omega, by omega, rfl, HMU.out, rfl, HML.out, by go_num, HOU.out, HOL.out, HMV.out, b13⟩
                  case measure => simp [intOf]; omega
                · have hcf : (c6 = 1) = False := by simpa using hc61
                  clear hc61
                  obtain ⟨A5, c5, w5, hrun1, ho5, b5'⟩ := copyI w4 (some ⟨g6, 1, none⟩) nm (c6 - 1) t (by have := HMU.out; simpa using this) (ints_tail hou.row) (by have := HLE.out; simp at this; omega)
                  have hou5 := ownI_low ho5 b.size
                  have hol5 := HOL.out.later b5'
                  have b5 := bst b b.size b5'
                  have HMU2 := Lib.hid (show nm = (t : List Int).length by have := HMU.out; simpa using this)
                  have HLE2 := Lib.hid HT.out.len
                  clear b b5' ho5 hou HMU HML HLE HMV HOL HCC
                  have HMU := HMU2
                  have HML := HM9
                  have HLE := HLE2
                  have HMV := HT
                  have hol := hol5
                  have hou := hou5
                  have b := b5
                  clear HMU2 HM9 HLE2 HT hol5 hou5 b5
                  obtain ⟨A10, c10, w10, hrun, ho10, b10'⟩ := copyI w5 A5 nm c5 (t) HMU.out hou.row (by have := HLE.out; omega)
                  have b10 := bst b b.size b10'
                  have hol := hol.later b10'
                  have hou := hou.later b10'
                  clear b b10'
                  go_wp2_with (at_builtin; first | refine wpList_append_runG rfl (.tmp 71) (.tmp 73) 44 44 rfl rfl rfl hrun1 ?_ | refine wpList_append_runG rfl (.tmp 76) (.tmp 77) 44 44 rfl rfl rfl hrun ?_)
                  have hcall := cover_any w10 A9 A10 m9 c9 nm c10 (ins u ((i0 : Int) % 5) lf) (t) (2 + (k : Int)) true HML.out HMU.out hol.row ho10.row (by have := HLE.out; omega) (by have := HLE.out; omega) HMV.out.w1 (HMV.out.w2 (by omega)) (by omega) (iff_of_true rfl HMV.out.yes)
                  clear hrun ho10
                  (with_reducible refine hcall.mono ?_)
                  clear hcall
                  rintro e0 w11 ⟨rfl, b11'⟩
                  have b11 := bst b10 b10.size b11'
                  have hol := hol.later b11'
                  have hou := hou.later b11'
                  clear b10 b11'
                  obtain ⟨A12, c12, w12, hrun, ho12, b12'⟩ := copyI w11 A5 nm c5 (t) HMU.out hou.row (by have := HLE.out; omega)
                  have b12 := bst b11 b11.size b12'
                  have hol := hol.later b12'
                  have hou := hou.later b12'
                  clear b11 b12'
                  go_wp2_with (at_builtin; refine wpList_append_runG rfl (.tmp 84) (.tmp 85) 44 44 rfl rfl rfl hrun ?_)
                  have hcall := cover_any w12 A9 A12 m9 c9 nm c12 (ins u ((i0 : Int) % 5) lf) (t) (2 + (k : Int) + 1) false HML.out HMU.out hol.row ho12.row (by have := HLE.out; omega) (by have := HLE.out; omega) HMV.out.w1 (HMV.out.w2 (by omega)) (by omega) (iff_of_false (by decide) HMV.out.no)
                  clear hrun ho12
                  (with_reducible refine hcall.mono ?_)
                  clear hcall
                  rintro e0 w13 ⟨rfl, b13'⟩
                  have b13 := bst b12 b12.size b13'
                  have HOL := Lib.hid (hol.later b13')
                  have HOU := Lib.hid (hou.later b13')
                  clear b12 b13' hol hou
                  go_wp2_with fail
                  go_roundw
                  case rel => exact ⟨i0 + 1, nm, m9, ins u ((i0 : Int) % 5) lf, t, A5, A9, c5, c9, by omega, by omega, rfl, HMU.out, rfl, HML.out, by go_num, HOU.out, HOL.out, HMV.out, b13⟩
                  case measure => simp [intOf]; omega
          · have hi : ((i0 : Int) < 60) = False := by simp; omega
            go_wp2_with fail
            refine (awake_any wr).mono ?_
            rintro e0 w4 ⟨rfl, b4'⟩
            have b := bst hb hb.size b4'
            go_wp2_with fail
            go_ret
            exact ⟨rfl, b⟩
        · go_wp2_with fail
          refine (awake_any wr).mono ?_
          rintro e0 w4 ⟨rfl, b4'⟩
          have b := bst hb hb.size b4'
          go_wp2_with fail
          go_ret
          exact ⟨rfl, b⟩
end Go.Proofs.Ytffbmabhlgfjkaa.FreeMoves
