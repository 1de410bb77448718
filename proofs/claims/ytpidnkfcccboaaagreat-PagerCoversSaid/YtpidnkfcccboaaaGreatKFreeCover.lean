/- The contract of Cover. -/
import Derived.Test.YtpidnkfcccboaaaGreatKFreeCheck
import Derived.Test.YtpidnkfcccboaaaGreatKFreeCov
import Derived.Maps.OwnOps
namespace Go.Proofs.YtpidnkfcccboaaaGreat.FreeCover
open Go.RowKit Go.Maps Base FreePlain FreeMem FreeCov

theorem lawI : Keyed Tryz.prog 3 := int_keyed Tryz.underlying3
theorem zeroI (w : World) : (zeroValue 3).run Tryz.prog w = .ok (.int .i64 0) w := by kernel_rfl
def ints (ks : List Int) : List Value := ks.map (Value.int .i64)
theorem ints_len (ks : List Int) : (ints ks).length = ks.length := by simp [ints]
theorem ints_get {w : World} {B : Nat} {A : Option Addr} {cs : List Int} (h : Row w B A (ints cs)) (k : Nat) (hk : k < cs.length) : ∃ ad, A = some ad ∧ ad.block < B ∧ w.cell? (ad.add k) = some (.int .i64 cs[k]) := by
 obtain ⟨ad, e, hb, hc⟩ := h.get k (by rw [ints_len]; exact hk)
 exact ⟨ad, e, hb, by simpa [ints] using hc⟩
abbrev W64 (x : Int) : Prop := (Lit.int .i64 x).wf = true
abbrev OM (w : World) (B n : Nat) (D : D1) : Prop := w.ownsMap Tryz.prog 3 (plainElem (H := Unit) Tryz.prog 3) B n D
theorem wf_small {x : Int} (h1 : 0 ≤ x) (h2 : x ≤ 1000000) : W64 x := by
 show (Lit.int .i64 x).wf = true
 exact WalkArith.wf_i64 (by omega)
def pgs (l : Fs) : List Int := l.map (·.1)
theorem pgs_take {l : Fs} {k : Nat} (h : k < l.length) : pgs (l.take (k + 1)) = pgs (l.take k) ++ [(l[k]).1] := by
 rw [List.take_succ_eq_append_getElem h, pgs, List.map_append]; rfl
theorem look {ks : List Int} {D : D1} {x c : Int} (h : Cnt ks D) (hat : D.atKey (kl x) (.lit (.int .i64 0)) = .lit (.int .i64 c)) : c = (ks.count x : Nat) := by
 have := (h.1 x).symm.trans hat
 injection this with this
 injection this with _ this
 exact this.symm
set_option maxRecDepth 100000 in
set_option maxHeartbeats 6400000 in
theorem cover_any (W : World) (A B : Option Addr) (n c m d : Nat) (l : Fs) (us : List Int) (pages : Int) (b : Bool) (hn : n = l.length) (hm : m = us.length) (hr : Row W W.heap.size A (fr l)) (hq : Row W W.heap.size B (ints us)) (hl : l.length ≤ 1000) (hu : us.length ≤ 1000)
  (hw : ∀ p ∈ l, W64 p.1) (hwu : ∀ x ∈ us, W64 x) (hpg : pages ≤ 9223372036854775807) (hb : b = true ↔ Onc (pgs l ++ us) (many pages)) :
  Calls Tryz.prog 23 #[.slice A n c, .slice B m d, .int .i64 pages] W fun e w' => e = .returned (.bool b) ∧ Below W.heap.size W w' := by
 subst hn hm
 have HR := Lib.hid hr
 have HQ := Lib.hid hq
 have HW := Lib.hid hw
 have HWU := Lib.hid hwu
 have HB := Lib.hid (hb.trans (onc_iff _ _))
 clear hr hq hw hwu hb
 have hmm := @run_makeMap Tryz.prog
 have h0 : OM (W.alloc (.map #[] 0)) W.heap.size 0 (.map []) := World.ownsMap_made _ _ _ _
 have b0 := al W (.map #[] 0)
 go_enter Tryz.func23, Tryz.ntmps23
 go_wp2_with fail
 go_loopw [16] (fun i wr => ∃ (k : Nat) (D : D1), k ≤ l.length ∧ i = .int .i64 k ∧ OM wr W.heap.size k D ∧ Cnt (pgs (l.take k)) D ∧ Below W.heap.size W wr) (fun i _ => l.length - (intOf i).toNat)
 case atStart => exact ⟨0, .map [], by omega, rfl, h0, cnt_nil, b0⟩
 case round =>
  clear h0 b0
  obtain ⟨k, D, hk, rfl, hom, hcnt, hbw⟩ := hrel
  by_cases hlt : k < l.length
  ·obtain ⟨ad, hA, hblk, hc1, hc2⟩ := row_at HR.out k hlt
   subst hA
   have cc1 := (hbw.cell (p := ad.add (k * 2)) (by rw [blk_add]; exact hblk)).trans hc1
   have cc2 := (hbw.cell (p := ⟨(ad.add (k * 2)).block, (ad.add (k * 2)).off + 1, none⟩) (by show (ad.add (k * 2)).block < _; rw [blk_add]; exact hblk)).trans hc2
   clear hc1 hc2
   have hkey := keyOf_int_mk Tryz.underlying3 (HW.out _ (List.getElem_mem hlt))
   have HT := Lib.hid (pgs_take hlt)
   have HC := Lib.hid hcnt
   have hcb : (pgs (l.take k)).count (l[k]).1 ≤ 1000 := by
    have h1 := List.count_le_length (a := (l[k]).1) (l := pgs (l.take k))
    have h2 : (pgs (l.take k)).length ≤ l.length := by simp [pgs]; omega
    omega
   generalize (l[k]).1 = p1 at *
   generalize (l[k]).2 = p2 at *
   have hbs := hbw.size
   have hom1 : OM (wr.alloc (.cells #[.int .i64 p1, .int .i64 p2] 66)) W.heap.size k D := hom.alloc _
   have hb1 := hbw.trans ((al wr (.cells #[.int .i64 p1, .int .i64 p2] 66)).mono hbs)
   clear hom hcnt
   go_wp2_with (first
    | (at_lookup; refine wpList_lookup_own_int _ rfl _ _ 64 rfl 3 3 .i64 lawI Tryz.underlying64 Tryz.underlying3 (zeroI _) W.heap.size k _ rfl hom1 _ _ rfl hkey ?_; intro c hat hwc; obtain rfl := look HC.out hat)
    | (at_mapUpdate; refine wpList_mapUpdate_own _ rfl _ _ _ 64 rfl 3 3 lawI Tryz.underlying64 _ W.heap.size k _ rfl hom1 (by unfold maxLen; omega) _ _ _ rfl rfl hkey (vl ((pgs (l.take k)).count p1 + 1)) [] (plainElem_int (H := Unit) (a := (((pgs (l.take k)).count p1 + 1 : Nat) : Int)) Tryz.underlying3 (wf_small (by omega) (by omega))) ?_; intro w1 hown1 hgrow1))
   have hfin := hb1.grown hgrow1 hb1.size (fun j hj => by cases hj; exact Nat.le_refl _)
   have hcp := cnt_put (x := p1) HC.out
   clear hom1 hb1 hgrow1
   go_roundw
   case rel => exact ⟨k + 1, _, by omega, by go_num, hown1, by rw [HT.out]; exact hcp, hfin⟩
   case measure => simp [intOf]; omega
  ·obtain rfl : k = l.length := by omega
   rw [List.take_of_length_le (Nat.le_refl _)] at hcnt
   have HO1 := Lib.hid hom
   have HC1 := Lib.hid hcnt
   clear hom hcnt
   have hpl : (pgs l).length = l.length := by simp [pgs]
   go_wp2_with fail
   go_loopw [11, 28] (fun _ i wr => ∃ (k : Nat) (D : D1), k ≤ us.length ∧ i = .int .i64 k ∧ OM wr W.heap.size (l.length + k) D ∧ Cnt (pgs l ++ us.take k) D ∧ Below W.heap.size W wr) (fun _ i _ => us.length - (intOf i).toNat)
   case atStart => exact ⟨0, D, by omega, rfl, HO1.out, by simpa using HC1.out, hbw⟩
   case round =>
    clear HO1 HC1 hbw
    obtain ⟨k, D, hk, rfl, hom, hcnt, hbw⟩ := hrel
    by_cases hlt : k < us.length
    ·obtain ⟨ad, hA, hblk, hc1⟩ := ints_get HQ.out k hlt
     subst hA
     have cc1 := (hbw.cell (p := ad.add k) (by rw [blk_add]; exact hblk)).trans hc1
     clear hc1
     have hkey := keyOf_int_mk Tryz.underlying3 (HWU.out _ (List.getElem_mem hlt))
     have HT := Lib.hid (show pgs l ++ us.take (k + 1) = (pgs l ++ us.take k) ++ [us[k]] by rw [List.take_succ_eq_append_getElem hlt, List.append_assoc])
     have hcb : (pgs l ++ us.take k).count us[k] ≤ 2000 := by
      have h1 := List.count_le_length (a := us[k]) (l := pgs l ++ us.take k)
      have h2 : (pgs l ++ us.take k).length ≤ l.length + us.length := by rw [List.length_append, hpl, List.length_take]; omega
      omega
     have HL := Lib.hid (fun (c : Int) (hat : D.atKey (kl us[k]) (.lit (.int .i64 0)) = .lit (.int .i64 c)) => look hcnt hat)
     have HCP := Lib.hid (cnt_put (x := us[k]) hcnt)
     generalize us[k] = p1 at *
     generalize (pgs l ++ us.take k).count p1 = ct at *
     generalize hnn : l.length + k = nn at *
     have HNN := Lib.hid (show l.length + (k + 1) = nn + 1 by omega)
     have hnb : nn ≤ 2000 := by omega
     clear hcnt hnn
     go_wp2_with (first
      | (at_lookup; refine wpList_lookup_own_int _ rfl _ _ 64 rfl 3 3 .i64 lawI Tryz.underlying64 Tryz.underlying3 (zeroI _) W.heap.size nn _ rfl hom _ _ rfl hkey ?_; intro c hat hwc; obtain rfl := HL.out c hat)
      | (at_mapUpdate; refine wpList_mapUpdate_own _ rfl _ _ _ 64 rfl 3 3 lawI Tryz.underlying64 _ W.heap.size nn _ rfl hom (by unfold maxLen; omega) _ _ _ rfl rfl hkey (vl (ct + 1)) [] (plainElem_int (H := Unit) (a := ((ct + 1 : Nat) : Int)) Tryz.underlying3 (wf_small (by omega) (by omega))) ?_; intro w1 hown1 hgrow1))
     have hfin := hbw.grown hgrow1 hbw.size (fun j hj => by cases hj; exact Nat.le_refl _)
     clear hom hbw hgrow1
     go_roundw
     case rel => exact ⟨k + 1, _, by omega, by go_num, by rw [HNN.out]; exact hown1, by rw [HT.out]; exact HCP.out, hfin⟩
     case measure => simp [intOf]; omega
    ·obtain rfl : k = us.length := by omega
     rw [List.take_of_length_le (Nat.le_refl _)] at hcnt
     have hkl : (pgs l ++ us).length ≤ 2000 := by rw [List.length_append, hpl]; omega
     have hdl := dst_len (pgs l ++ us)
     generalize pgs l ++ us = ks at *
     have hsz := hcnt.2.2.1
     have HC := Lib.hid hcnt
     clear hcnt
     have hmax : (many pages : Int) = (if 2 < pages then pages else 2) - 2 := by unfold many; split <;> omega
     have HMX := Lib.hid hmax
     generalize many pages = N at *
     generalize (dst ks).length = q at *
     clear hmax
     by_cases hp : 2 < pages
     ·have hN : pages - 2 = (N : Int) := by have := HMX.out; rw [if_pos hp] at this; omega
      have hN2 : (N : Int) ≤ 9223372036854775807 := by omega
      by_cases hd : q = N
      ·have hd := hd.symm
       subst hd
       go_wp2_with (at_len; refine wpList_len_own _ rfl _ 64 rfl 3 3 Tryz.underlying64 _ W.heap.size _ D rfl hom ?_)
       have HOM := Lib.hid hom
       clear hom hsz
       generalize wr = wa at *
       go_loopw [12, 45] (fun _ i wr => ∃ k : Nat, k ≤ N ∧ i = .int .i64 k ∧ (∀ j (_ : j < k), ks.count (2 + (j : Int)) = 1) ∧ wr = wa) (fun _ i _ => N - (intOf i).toNat)
       case atStart => exact ⟨0, by omega, rfl, by intro j h; omega, rfl⟩
       case round =>
        obtain ⟨k, hk, rfl, hpre, hw⟩ := hrel
        have hw := hw.symm
        subst hw
        have HP := Lib.hid hpre
        clear hpre
        by_cases hlt : k < N
        ·have hkey := keyOf_int_mk (P := Tryz.prog) (a := 2 + (k : Int)) Tryz.underlying3 (wf_small (by omega) (by omega))
         have HL := Lib.hid (fun (c : Int) (hat : D.atKey (kl (2 + (k : Int))) (.lit (.int .i64 0)) = .lit (.int .i64 c)) => look HC.out hat)
         have HNX := Lib.hid (show ks.count (2 + (k : Int)) = 1 → ∀ j (_ : j < k + 1), ks.count (2 + (j : Int)) = 1 from fun h j hj => by
          rcases Nat.lt_or_ge j k with q | q
          ·exact HP.out j q
          ·obtain rfl : j = k := by omega
           exact h)
         have HNO := Lib.hid (show ks.count (2 + (k : Int)) ≠ 1 → b = false from fun h => Bool.eq_false_iff.2 fun hb => h ((HB.out.1 hb).2 k hlt))
         have hom := HOM.out
         generalize ks.count (2 + (k : Int)) = ct at *
         by_cases h1 : ct = 1
         ·subst h1
          have HN := Lib.hid (HNX.out rfl)
          go_wp2_with (at_lookup; refine wpList_lookup_own_int _ rfl _ _ 64 rfl 3 3 .i64 lawI Tryz.underlying64 Tryz.underlying3 (zeroI _) W.heap.size _ _ rfl hom _ _ rfl hkey ?_; intro c hat hwc; obtain rfl := HL.out c hat)
          clear hom
          go_roundw
          case rel => exact ⟨k + 1, by omega, by go_num, HN.out, trivial⟩
          case measure => simp [intOf]; omega
         ·have HN := Lib.hid (HNO.out h1)
          have h2 : ((ct : Int) != 1) = true := by simp; omega
          clear h1
          go_wp2_with (at_lookup; refine wpList_lookup_own_int _ rfl _ _ 64 rfl 3 3 .i64 lawI Tryz.underlying64 Tryz.underlying3 (zeroI _) W.heap.size _ _ rfl hom _ _ rfl hkey ?_; intro c hat hwc; obtain rfl := HL.out c hat)
          go_ret
          exact ⟨ret_bool HN.out.symm, hbw⟩
        ·have HN := Lib.hid (show b = true from HB.out.2 ⟨by first | rfl | trivial, fun i hi => HP.out i (by omega)⟩)
         go_wp2_with fail
         go_ret
         exact ⟨ret_bool HN.out.symm, hbw⟩
      ·have HN := Lib.hid (show b = false from Bool.eq_false_iff.2 fun hb => hd (HB.out.1 hb).1)
       have hne : ((q : Int) != (N : Int)) = true := by simp; omega
       go_wp2_with (at_len; refine wpList_len_own _ rfl _ 64 rfl 3 3 Tryz.underlying64 _ W.heap.size _ D rfl hom ?_)
       go_ret
       exact ⟨ret_bool HN.out.symm, hbw⟩
     ·have hN : N = 0 := by have := HMX.out; rw [if_neg hp] at this; omega
      subst hN
      rcases (show pages < 2 ∨ pages = 2 by omega) with hp2 | hp2
      ·skip
       by_cases hd : q = 0
       ·have hd := hd.symm
        subst hd
        go_wp2_with (at_len; refine wpList_len_own _ rfl _ 64 rfl 3 3 Tryz.underlying64 _ W.heap.size _ D rfl hom ?_)
        have HN := Lib.hid (show b = true from HB.out.2 ⟨by first | rfl | trivial, fun i hi => absurd hi (by omega)⟩)
        refine wp_loop_rounds 1 ?_
        rw [rounds_succ]
        go_wp2_with fail
        go_ret
        exact ⟨ret_bool HN.out.symm, hbw⟩
       ·have HN := Lib.hid (show b = false from Bool.eq_false_iff.2 fun hb => hd (HB.out.1 hb).1)
        have hne : ((q : Int) != 0) = true := by simp; omega
        go_wp2_with (at_len; refine wpList_len_own _ rfl _ 64 rfl 3 3 Tryz.underlying64 _ W.heap.size _ D rfl hom ?_)
        go_ret
        exact ⟨ret_bool HN.out.symm, hbw⟩
      ·subst hp2
       by_cases hd : q = 0
       ·have hd := hd.symm
        subst hd
        go_wp2_with (at_len; refine wpList_len_own _ rfl _ 64 rfl 3 3 Tryz.underlying64 _ W.heap.size _ D rfl hom ?_)
        have HN := Lib.hid (show b = true from HB.out.2 ⟨by first | rfl | trivial, fun i hi => absurd hi (by omega)⟩)
        refine wp_loop_rounds 1 ?_
        rw [rounds_succ]
        go_wp2_with fail
        go_ret
        exact ⟨ret_bool HN.out.symm, hbw⟩
       ·have HN := Lib.hid (show b = false from Bool.eq_false_iff.2 fun hb => hd (HB.out.1 hb).1)
        have hne : ((q : Int) != 0) = true := by simp; omega
        go_wp2_with (at_len; refine wpList_len_own _ rfl _ 64 rfl 3 3 Tryz.underlying64 _ W.heap.size _ D rfl hom ?_)
        go_ret
        exact ⟨ret_bool HN.out.symm, hbw⟩
end Go.Proofs.YtpidnkfcccboaaaGreat.FreeCover
