/- The contract of without: numbers without one. -/
import Derived.Test.YtpidnkfcccboaaaGreatKPagerNum
import Derived.Test.YtpidnkfcccboaaaGreatKPagerRun
import Derived.OwnWalk
namespace Go.Proofs.YtpidnkfcccboaaaGreat.PagerWithout
open Go.RowKit Base PagerSpec PagerLaw PagerCov

theorem el_ints : Elem Tryz.prog 32 3 8 := elem_mk (z := .int .i64 0) Tryz.underlying32 (by kernel_rfl) rfl
theorem ints_one (l : List Int) : ∀ u ∈ intsV l, u.oneCell' = true := fun u hu => by
 simp only [intsV, List.mem_map] at hu
 obtain ⟨b, _, rfl⟩ := hu
 rfl
theorem one_int {w : World} {b : Nat} {z : Int} (h : w.heap[b]? = some (.cells #[.int .i64 z] 3 (0, 0))) : Row w w.heap.size (some ⟨b, 0, none⟩) [.int .i64 z] := (row_of_block h).more (Array.getElem?_eq_some_iff.1 h).1
theorem without_snoc (u : List Int) (a n : Int) : without (u ++ [a]) n = without u n ++ if a = n then [] else [a] := by
 unfold without
 rw [List.filter_append]
 by_cases h : a = n
 ·simp [h]
 ·simp [h]
set_option maxRecDepth 100000 in
set_option maxHeartbeats 3200000 in
theorem without_any (W : World) (A : Option Addr) (n c : Nat) (l : List Int) (z : Int) (hn : n = l.length) (hr : Row W W.heap.size A (intsV l)) (hl : l.length ≤ 1000) :
  Calls Tryz.prog 22 #[.slice A n c, .int .i64 z] W fun e w' => ∃ A' c', e = .returned (.slice A' (without l z).length c') ∧ Own w' W.heap.size 3 A' c' (intsV (without l z)) ∧ Below W.heap.size W w' := by
 subst hn
 have HR := Lib.hid hr
 clear hr
 have h0 : Own (W.alloc (.cells #[] 3)) W.heap.size 3 (some ⟨W.heap.size, 0, none⟩) 0 (intsV []) := Own.empty _ _ (Nat.le_refl _)
 have b0 := al' W (.cells #[] 3)
 go_enter Tryz.func22, Tryz.ntmps22
 go_wp2_with fail
 go_loopw [5, 6] (fun v i wr => ∃ (k : Nat) (A' : Option Addr) (c' : Nat) (u : List Int), k ≤ l.length ∧ i = .int .i64 k ∧ u = without (l.take k) z ∧ v = .slice A' u.length c' ∧ Own wr W.heap.size 3 A' c' (intsV u) ∧ Below W.heap.size W wr) (fun _ i _ => l.length - (intOf i).toNat)
 case atStart => exact ⟨0, _, 0, [], by omega, rfl, rfl, rfl, h0, b0⟩
 case round =>
  clear h0 b0
  obtain ⟨k, A', c', u, hk, rfl, hu, rfl, hown, hbw⟩ := hrel
  have hul : u.length ≤ l.length := by rw [hu]; exact Nat.le_trans (List.length_filter_le _ _) (by rw [List.length_take]; omega)
  have HU := Lib.hid hu
  clear hu
  by_cases hlt : k < l.length
  rotate_left
  ·have hn : ¬ ((k : Int) < (l.length : Int)) := by omega
   have HE := Lib.hid (show u = without l z by rw [HU.out, List.take_of_length_le (by omega)])
   go_wp2_with fail
   go_ret
   obtain rfl := HE.out
   exact ⟨A', c', rfl, hown, hbw⟩
  have hltI : (k : Int) < (l.length : Int) := by omega
  obtain ⟨ad, hA, hblk, hc1⟩ := PagerSame.intsV_get HR.out k hlt
  subst hA
  have cc1 := (hbw.cell (p := ad.add k) (by rw [blk_add]; exact hblk)).trans hc1
  have HS := Lib.hid (show without (l.take (k + 1)) z = u ++ if l[k] = z then [] else [l[k]] by rw [List.take_succ_eq_append_getElem hlt, without_snoc, ← HU.out])
  clear hc1 hblk
  by_cases he : l[k] = z
  ·rw [he] at cc1
   have HN := Lib.hid (show u = without (l.take (k + 1)) z by rw [HS.out, if_pos he, List.append_nil])
   clear he
   go_wp2_with fail
   go_roundw
   case rel => exact ⟨k + 1, A', c', u, by omega, by go_num, HN.out, rfl, hown, hbw⟩
   case measure => simp [intOf]; omega
  ·have hd : (l[k] != z) = true := by simpa using he
   have HN := Lib.hid (show u ++ [l[k]] = without (l.take (k + 1)) z by rw [HS.out, if_neg he])
   clear he HS
   generalize l[k] = g at *
   have h1 : Row (wr.alloc (.cells #[.int .i64 g] 3)) (wr.alloc (.cells #[.int .i64 g] 3)).heap.size (some ⟨wr.heap.size, 0, none⟩) [.int .i64 g] := one_int (heap_alloc_new wr _)
   have hb1 := hbw.trans ((al' wr (.cells #[.int .i64 g] 3)).mono hbw.size)
   obtain ⟨A2, c2, w2, hrun, hown2, hg2⟩ := run_append_row (P := Tryz.prog) 32 el_ints (c2 := 1) (hown.alloc (.cells #[.int .i64 g] 3)) h1 (by intro v hv; rw [List.mem_singleton.1 hv]; rfl) (by rw [PagerSame.intsV_len]; simp [maxLen]; omega) (by rw [PagerSame.intsV_len]; simp; omega) hb1.size
   have hb2 := (hown.alloc (.cells #[.int .i64 g] 3)).below hb1 hg2 (Nat.le_refl _) hb1.size
   rw [PagerSame.intsV_len] at hrun
   have HO := Lib.hid (show Own w2 W.heap.size 3 A2 c2 (intsV (u ++ [g])) from by simpa [intsV] using hown2)
   clear hown hown2 hg2 hb1 h1
   go_wp2_with (at_builtin; refine FreeMem.wpList_append_run rfl (.tmp 20) (.tmp 25) 32 32 rfl rfl rfl hrun ?_)
   go_roundw
   case rel => exact ⟨k + 1, A2, c2, u ++ [g], by omega, by go_num, HN.out, by simp, HO.out, hb2⟩
   case measure => simp [intOf]; omega
end Go.Proofs.YtpidnkfcccboaaaGreat.PagerWithout
