/- The contracts of IndexFunc with the test, of BinarySearchFunc, and of Usable. -/
import Derived.Test.YtffbmabhlgfjkaaFreeFn
namespace Go.Proofs.Ytffbmabhlgfjkaa.FreeFind
open Go.RowKit Base FreePlain FreeMem FreeFn

/-- where the first is that may be used -/
def At (o : Int) (l : Fs) (r : Int) : Prop := (r = -1 ∧ ∀ p ∈ l, ¬ p.2 ≤ o) ∨ ∃ k : Nat, ∃ h : k < l.length, r = k ∧ (l[k]).2 ≤ o ∧ ∀ j (_ : j < k), ¬ (l[j]).2 ≤ o
set_option maxRecDepth 100000 in
set_option maxHeartbeats 1600000 in
theorem index_any (W : World) (A : Option Addr) (n c : Nat) (l : Fs) (o : Int) (B : Nat) (hn : n = l.length) (hr : Row W W.heap.size A (fr l)) (hl : l.length ≤ 100000) (hB : B < W.heap.size) (hc : W.cell? ⟨B, 0, none⟩ = some (.int .i64 o)) :
    Calls Try.prog 30 #[.slice A n c, clo B] W fun e w' => ∃ r, e = .returned (.int .i64 r) ∧ At o l r ∧ Below W.heap.size W w' := by
  subst hn
  have HR := Lib.hid hr
  have HC := Lib.hid hc
  clear hr hc
  unfold clo
  go_enter Try.func30, Try.ntmps30
  go_wp2_with fail
  go_loopw [5, 8] (fun _ i wr => ∃ k : Nat, k ≤ l.length ∧ i = .int .i64 k ∧ (∀ j (_ : j < k) (h : j < l.length), o < (l[j]).2) ∧ Below W.heap.size W wr) (fun _ i _ => l.length - (intOf i).toNat)
  case atStart => exact ⟨0, by omega, rfl, by intro j h q; omega, Below.refl _ _⟩
  case round =>
    obtain ⟨k, hk, rfl, hpre, hbw⟩ := hrel
    have HP := Lib.hid hpre
    clear hpre
    by_cases hlt : k < l.length
    · obtain ⟨ad, hA, hblk, hc1, hc2⟩ := row_at HR.out k hlt
      subst hA
      have cc1 := (hbw.cell (p := ad.add (k * 2)) (by rw [blk_add]; exact hblk)).trans hc1
      have cc2 := (hbw.cell (p := ⟨(ad.add (k * 2)).block, (ad.add (k * 2)).off + 1, none⟩) (by show (ad.add (k * 2)).block < _; rw [blk_add]; exact hblk)).trans hc2
      have cc3 := (hbw.cell (p := ⟨B, 0, none⟩) hB).trans HC.out
      have hB2 : B < wr.heap.size := Nat.lt_of_lt_of_le hB hbw.size
      clear hc1 hc2
      by_cases hle : (l[k]).2 ≤ o
      · have HQ := Lib.hid (show At o l k from .inr ⟨k, hlt, rfl, hle, fun j hj => by have := HP.out j hj (by omega); omega⟩)
        have hd : decide ((l[k]).2 ≤ o) = true := by simpa using hle
        have hcall := test_any wr B o (l[k]).1 (l[k]).2 hB2 cc3
        rw [hd] at hcall
        clear hd hle cc3
        generalize (l[k]).1 = p1 at *
        generalize (l[k]).2 = p2 at *
        go_wp2_with (go_at_call 41; refine hcall.mono ?_; rintro e w' ⟨rfl, hb'⟩)
        go_ret
        exact ⟨_, rfl, HQ.out, hbw.trans (hb'.mono hbw.size)⟩
      · have HQ := Lib.hid (show ∀ j (_ : j < k + 1) (h : j < l.length), o < (l[j]).2 from fun j hj h => by
          rcases Nat.lt_or_ge j k with q | q
          · exact HP.out j q h
          · obtain rfl : j = k := by omega
            omega)
        have hd : decide ((l[k]).2 ≤ o) = false := by simpa using hle
        have hcall := test_any wr B o (l[k]).1 (l[k]).2 hB2 cc3
        rw [hd] at hcall
        clear hd hle cc3
        generalize (l[k]).1 = p1 at *
        generalize (l[k]).2 = p2 at *
        go_wp2_with (go_at_call 41; refine hcall.mono ?_; rintro e w' ⟨rfl, hb'⟩)
        have hb2 := hbw.trans (hb'.mono hbw.size)
        clear hcall
        go_roundw
        case rel => exact ⟨k + 1, by omega, by go_num, HQ.out, hb2⟩
        case measure => simp [intOf]; omega
    · have HQ := Lib.hid (show At o l (-1) from .inl ⟨rfl, fun p hp => by
        obtain ⟨i, hi, rfl⟩ := List.mem_iff_getElem.1 hp
        have := HP.out i (by omega) hi
        omega⟩)
      go_wp2_with fail
      go_ret
      exact ⟨_, rfl, HQ.out, hbw⟩
set_option maxRecDepth 100000 in
set_option maxHeartbeats 1600000 in
theorem usable_any (W : World) (A : Option Addr) (n c : Nat) (l : Fs) (o : Int) (hn : n = l.length) (hr : Row W W.heap.size A (fr l)) (hl : l.length ≤ 100000) :
    Calls Try.prog 19 #[.slice A n c, .int .i64 o] W fun e w' => e = .returned (.int .i64 (usable o l)) ∧ Below W.heap.size W w' := by
  subst hn
  have HR := Lib.hid hr
  clear hr
  have b1 := al W (.cells #[.int .i64 o] 3)
  have c1 : (W.alloc (.cells #[.int .i64 o] 3)).cell? ⟨W.heap.size, 0, none⟩ = some (.int .i64 o) := by simp
  have hB : W.heap.size < (W.alloc (.cells #[.int .i64 o] 3)).heap.size := by simp
  have hcall1 := at_any W o
  generalize W.alloc (.cells #[.int .i64 o] 3) = W1 at *
  unfold clo at hcall1
  go_enter Try.func19, Try.ntmps19
  go_wp2_with (go_at_call 31; refine hcall1.mono ?_; rintro e w' ⟨rfl, rfl⟩)
  go_loopw [6, 8, 13] (fun t _ i wr => ∃ k : Nat, k ≤ l.length ∧ i = .int .i64 k ∧ t = .int .i64 (usable o (l.take k)) ∧ Below W.heap.size W wr ∧ W.heap.size < wr.heap.size ∧ wr.cell? ⟨W.heap.size, 0, none⟩ = some (.int .i64 o)) (fun _ _ i _ => l.length - (intOf i).toNat)
  case atStart => exact ⟨0, by omega, rfl, rfl, b1, hB, c1⟩
  case round =>
    clear hcall1 b1 c1
    obtain ⟨k, hk, rfl, rfl, hbw, hsz, cc3⟩ := hrel
    have hlu : usable o (l.take k) ≤ l.length := Nat.le_trans (List.length_filter_le _ _) (by rw [List.length_take]; omega)
    by_cases hlt : k < l.length
    · obtain ⟨ad, hA, hblk, hc1, hc2⟩ := row_at HR.out k hlt
      subst hA
      have cc1 := (hbw.cell (p := ad.add (k * 2)) (by rw [blk_add]; exact hblk)).trans hc1
      have cc2 := (hbw.cell (p := ⟨(ad.add (k * 2)).block, (ad.add (k * 2)).off + 1, none⟩) (by show (ad.add (k * 2)).block < _; rw [blk_add]; exact hblk)).trans hc2
      have hB2 := hsz
      have HC := Lib.hid cc3
      have hw2 := hbw.size
      clear hc1 hc2
      have HT := Lib.hid (show usable o (l.take (k + 1)) = usable o (l.take k) + if (l[k]).2 ≤ o then 1 else 0 by
        unfold usable
        rw [List.take_succ_eq_append_getElem hlt, List.filter_append, List.length_append]
        by_cases h : (l[k]).2 ≤ o <;> simp [h])
      have e1 := al wr (.cells #[.int .i64 (l[k]).1, .int .i64 (l[k]).2] 25)
      have cc4 := (e1.cell (p := ⟨W.heap.size, 0, none⟩) hB2).trans cc3
      have HB := Lib.hid hB2
      generalize hu : usable o (l.take k) = u at *
      clear hu cc3
      by_cases hle : (l[k]).2 ≤ o
      · have HQ := Lib.hid (show usable o (l.take (k + 1)) = u + 1 by rw [HT.out]; simp [hle])
        have hd : decide ((l[k]).2 ≤ o) = true := by simpa using hle
        have hcall := test_any (wr.alloc (.cells #[.int .i64 (l[k]).1, .int .i64 (l[k]).2] 25)) W.heap.size o (l[k]).1 (l[k]).2 (by simp; omega) cc4
        rw [hd] at hcall
        clear hd hle HT
        generalize (l[k]).1 = p1 at *
        generalize (l[k]).2 = p2 at *
        clear cc4
        go_wp2_with (go_at_call 41; refine hcall.mono ?_; rintro e w' ⟨rfl, hb'⟩)
        have hb2 := hbw.trans ((e1.trans (hb'.mono e1.size)).mono hw2)
        have hs2 := Nat.lt_of_lt_of_le HB.out (Nat.le_trans e1.size hb'.size)
        have cc5 := ((e1.trans (hb'.mono e1.size)).cell (p := ⟨W.heap.size, 0, none⟩) HB.out).trans HC.out
        clear hcall
        go_roundw
        case rel => exact ⟨k + 1, by omega, by go_num, by rw [HQ.out]; go_num, hb2, hs2, cc5⟩
        case measure => simp [intOf]; omega
      · have HQ := Lib.hid (show usable o (l.take (k + 1)) = u by rw [HT.out]; simp [hle])
        have hd : decide ((l[k]).2 ≤ o) = false := by simpa using hle
        have hcall := test_any (wr.alloc (.cells #[.int .i64 (l[k]).1, .int .i64 (l[k]).2] 25)) W.heap.size o (l[k]).1 (l[k]).2 (by simp; omega) cc4
        rw [hd] at hcall
        clear hd hle HT
        generalize (l[k]).1 = p1 at *
        generalize (l[k]).2 = p2 at *
        clear cc4
        go_wp2_with (go_at_call 41; refine hcall.mono ?_; rintro e w' ⟨rfl, hb'⟩)
        have hb2 := hbw.trans ((e1.trans (hb'.mono e1.size)).mono hw2)
        have hs2 := Nat.lt_of_lt_of_le HB.out (Nat.le_trans e1.size hb'.size)
        have cc5 := ((e1.trans (hb'.mono e1.size)).cell (p := ⟨W.heap.size, 0, none⟩) HB.out).trans HC.out
        clear hcall
        go_roundw
        case rel => exact ⟨k + 1, by omega, by go_num, by rw [HQ.out], hb2, hs2, cc5⟩
        case measure => simp [intOf]; omega
    · obtain rfl : k = l.length := by omega
      go_wp2_with fail
      go_ret
      exact ⟨congrArg (fun u : Nat => Ending.returned (.int .i64 (u : Int))) (by rw [List.take_of_length_le (Nat.le_refl _)]), hbw⟩
end Go.Proofs.Ytffbmabhlgfjkaa.FreeFind
