/- The walk of FreeCovers. -/
import Derived.Test.YtffbmabhlgfjkaaFreeLaw
namespace Go.Proofs.Ytffbmabhlgfjkaa.FreeCovers
open Go.RowKit Base FreePlain FreeMem FreeCov FreeCover FreeRefCover FreeAwake FreeLaw

set_option maxRecDepth 100000 in
set_option maxHeartbeats 6400000 in
theorem FreeCovers_walk (A B : Option Addr) (c d : Nat) (l : Fs) (us : List Int) (pages : Int) (W : World) (hr : Row W W.heap.size A (fr l)) (hq : Row W W.heap.size B (ints us)) (hn : l.length ≤ maxLen) (hm : us.length ≤ maxLen)
    (hw : ∀ p ∈ l, W64 p.1) (hwu : ∀ x ∈ us, W64 x) (hpg : pages ≤ 9223372036854775807) :
    Calls Try.prog 7 #[.slice A l.length c, .slice B us.length d, .int .i64 pages] W (Law W) := by
  have HR := Lib.hid hr
  have HQ := Lib.hid hq
  have HW := Lib.hid hw
  have HWU := Lib.hid hwu
  clear hr hq hw hwu
  unfold Law
  simp only [maxLen] at hn hm
  by_cases h1 : 100 < l.length
  · go_enter Try.func7, Try.ntmps7
    go_wp2_with fail
    refine (awake_any W).mono ?_
    rintro e w1 ⟨rfl, b1⟩
    go_wp2_with fail
    go_ret
    exact ⟨rfl, b1⟩
  · by_cases h2 : 100 < us.length
    · go_enter Try.func7, Try.ntmps7
      go_wp2_with fail
      refine (awake_any W).mono ?_
      rintro e w1 ⟨rfl, b1⟩
      go_wp2_with fail
      go_ret
      exact ⟨rfl, b1⟩
    · obtain ⟨b, hb⟩ : ∃ b : Bool, b = true ↔ Onc (pgs l ++ us) (many pages) := by
        by_cases h : Onc (pgs l ++ us) (many pages)
        · exact ⟨true, iff_of_true rfl h⟩
        · exact ⟨false, iff_of_false (by decide) h⟩
      have HB := Lib.hid hb
      have HB2 := Lib.hid (hb.trans (onc_perm List.perm_append_comm))
      clear hb
      go_enter Try.func7, Try.ntmps7
      go_wp2_with fail
      refine (awake_any W).mono ?_
      rintro e w1 ⟨rfl, b1⟩
      obtain ⟨A2, c2, w2, hrun, ho, b2'⟩ := copyI w1 B us.length d us rfl (HQ.out.belowSize b1) (by omega)
      have b2 := b1.trans (b2'.mono b1.size)
      go_wp2_with (at_builtin; refine wpList_append_runG rfl (.tmp 19) (.tmp 20) 44 44 rfl rfl rfl hrun ?_)
      have HOR := Lib.hid ho.row
      clear hrun ho b2' b1
      refine (cover_any w2 A A2 l.length c us.length c2 l us pages b rfl rfl (HR.out.belowSize b2) HOR.out (by omega) (by omega) HW.out HWU.out hpg HB.out).mono ?_
      rintro e w3 ⟨rfl, b3'⟩
      have b3 := b2.trans (b3'.mono b2.size)
      clear b2 b3'
      go_wp2_with fail
      refine (rcover_any w3 A B l.length c us.length d l us pages b rfl rfl (HR.out.belowSize b3) (HQ.out.belowSize b3) (by omega) (by omega) hpg HB2.out).mono ?_
      rintro e w4 ⟨rfl, b4'⟩
      have b4 := b3.trans (b4'.mono b3.size)
      clear b3 b4'
      go_wp2_with fail
      go_ret
      exact ⟨ret_bool (by simp), b4⟩
end Go.Proofs.Ytffbmabhlgfjkaa.FreeCovers
