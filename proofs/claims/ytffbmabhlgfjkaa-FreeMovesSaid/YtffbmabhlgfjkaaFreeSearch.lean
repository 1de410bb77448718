/- The contract of BinarySearchFunc by pages. -/
import Derived.Test.YtffbmabhlgfjkaaFreeFn
namespace Go.Proofs.Ytffbmabhlgfjkaa.FreeSearch
open Go.RowKit Base FreePlain FreeMem FreeFn

/-- where a page is, or would be -/
def Sr (g : Int) (l : Fs) (k : Nat) (b : Bool) : Prop := k ≤ l.length ∧ (∀ j (_ : j < k) (h : j < l.length), (l[j]).1 < g) ∧ (∀ j (_ : k ≤ j) (h : j < l.length), g ≤ (l[j]).1) ∧ (b = true ↔ ∃ h : k < l.length, (l[k]).1 = g)
theorem cmp_neg {x y : Int} : (cmp x y < 0) = (x < y) := by
  unfold cmp
  split
  · simp_all
  · split <;> simp_all
theorem cmp_zero {x y : Int} : (cmp x y == 0) = decide (x = y) := by
  unfold cmp
  split
  · rw [eq_comm]; simp; omega
  · split
    · rw [eq_comm]; simp; omega
    · rw [eq_comm]; simp; omega
set_option maxRecDepth 100000 in
set_option maxHeartbeats 1600000 in
theorem search_any (W : World) (A : Option Addr) (n c : Nat) (l : Fs) (g : Int) (hn : n = l.length) (hr : Row W W.heap.size A (fr l)) (hu : Rise l) (hl : l.length ≤ 100000) :
    Calls Try.prog 26 #[.slice A n c, .int .i64 g, .func (.func 27) #[] #[]] W fun e w' => ∃ (k : Nat) (b : Bool), e = .returned (.tuple #[.int .i64 k, .bool b]) ∧ Sr g l k b ∧ Below W.heap.size W w' := by
  subst hn
  have HR := Lib.hid hr
  have HU := Lib.hid (fun i j (h : i < j) (hj : j < l.length) => List.pairwise_iff_getElem.1 hu i j (by omega) hj h)
  clear hr hu
  go_enter Try.func26, Try.ntmps26
  go_wp2_with fail
  go_loopw [9, 10, 11] (fun i j _ wr => ∃ k m : Nat, k ≤ m ∧ m ≤ l.length ∧ i = .int .i64 k ∧ j = .int .i64 m ∧ (∀ j (_ : j < k) (h : j < l.length), (l[j]).1 < g) ∧ (∀ j (_ : m ≤ j) (h : j < l.length), g ≤ (l[j]).1) ∧ Below W.heap.size W wr) (fun i j _ _ => (intOf j).toNat - (intOf i).toNat)
  case atStart => exact ⟨0, l.length, by omega, by omega, rfl, rfl, by intro j h q; omega, by intro j h q; omega, Below.refl _ _⟩
  case round =>
    obtain ⟨k, m, hkm, hm, rfl, rfl, hp1, hp2, hbw⟩ := hrel
    have HP := Lib.hid hp1
    have HQ := Lib.hid hp2
    clear hp1 hp2
    by_cases hlt : k < m
    · obtain ⟨h, eh, hh1, hh2⟩ : ∃ h : Nat, ((k : Int) + (m : Int)) / 2 = (h : Int) ∧ k ≤ h ∧ h < m := ⟨(k + m) / 2, by omega, by omega, by omega⟩
      have hlh : h < l.length := by omega
      obtain ⟨ad, hA, hblk, hc1, hc2⟩ := row_at HR.out h hlh
      subst hA
      have cc1 := (hbw.cell (p := ad.add (h * 2)) (by rw [blk_add]; exact hblk)).trans hc1
      have cc2 := (hbw.cell (p := ⟨(ad.add (h * 2)).block, (ad.add (h * 2)).off + 1, none⟩) (by show (ad.add (h * 2)).block < _; rw [blk_add]; exact hblk)).trans hc2
      clear hc1 hc2
      have hcall := by_page wr (l[h]).1 (l[h]).2 g
      by_cases hle : (l[h]).1 < g
      · have HL := Lib.hid (show ∀ j (_ : j < h + 1) (q : j < l.length), (l[j]).1 < g from fun j hj q => by
          rcases Nat.lt_or_ge j h with q' | q'
          · have := HU.out j h q' hlh; omega
          · obtain rfl : j = h := by omega
            exact hle)
        have hd : cmp (l[h]).1 g < 0 := by rw [cmp_neg]; exact hle
        generalize cmp (l[h]).1 g = z at *
        clear hle
        generalize (l[h]).1 = p1 at *
        generalize (l[h]).2 = p2 at *
        go_wp2_with (go_at_call 27; refine hcall.mono ?_; rintro e w' ⟨rfl, hb'⟩)
        have hb2 := hbw.trans (hb'.mono hbw.size)
        clear hcall eh
        go_roundw
        case rel => exact ⟨h + 1, m, by omega, hm, by go_num, rfl, HL.out, HQ.out, hb2⟩
        case measure => simp [intOf]; omega
      · have HL := Lib.hid (show ∀ j (_ : h ≤ j) (q : j < l.length), g ≤ (l[j]).1 from fun j hj q => by
          rcases Nat.lt_or_ge h j with q' | q'
          · have := HU.out h j q' q; omega
          · obtain rfl : j = h := by omega
            omega)
        have hd : (cmp (l[h]).1 g < 0) = False := by rw [cmp_neg]; simpa using hle
        generalize cmp (l[h]).1 g = z at *
        clear hle
        generalize (l[h]).1 = p1 at *
        generalize (l[h]).2 = p2 at *
        go_wp2_with (go_at_call 27; refine hcall.mono ?_; rintro e w' ⟨rfl, hb'⟩)
        have hb2 := hbw.trans (hb'.mono hbw.size)
        clear hcall eh
        go_roundw
        case rel => exact ⟨k, h, by omega, by omega, rfl, by go_num, HP.out, HL.out, hb2⟩
        case measure => simp [intOf]; omega
    · obtain rfl : k = m := by omega
      clear hkm hlt
      by_cases hk : k < l.length
      · obtain ⟨ad, hA, hblk, hc1, hc2⟩ := row_at HR.out k hk
        subst hA
        have cc1 := (hbw.cell (p := ad.add (k * 2)) (by rw [blk_add]; exact hblk)).trans hc1
        have cc2 := (hbw.cell (p := ⟨(ad.add (k * 2)).block, (ad.add (k * 2)).off + 1, none⟩) (by show (ad.add (k * 2)).block < _; rw [blk_add]; exact hblk)).trans hc2
        clear hc1 hc2
        have hcall := by_page wr (l[k]).1 (l[k]).2 g
        have HS := Lib.hid (show Sr g l k (cmp (l[k]).1 g == 0) from ⟨hm, HP.out, HQ.out, by rw [cmp_zero]; simp [hk]⟩)
        generalize cmp (l[k]).1 g = z at *
        generalize (l[k]).1 = p1 at *
        generalize (l[k]).2 = p2 at *
        go_wp2_with (go_at_call 27; refine hcall.mono ?_; rintro e w' ⟨rfl, hb'⟩)
        go_ret2
        exact ⟨k, z == 0, rfl, HS.out, hbw.trans (hb'.mono hbw.size)⟩
      · have HS := Lib.hid (show Sr g l k false from ⟨hm, HP.out, HQ.out, by simp; omega⟩)
        have hkf : ((k : Int) < (l.length : Int)) = False := by simp; omega
        clear hk
        go_wp2_with fail
        go_ret2
        exact ⟨k, false, rfl, HS.out, hbw⟩
end Go.Proofs.Ytffbmabhlgfjkaa.FreeSearch
