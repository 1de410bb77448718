/- The walk of FreeOldest. -/
import Derived.Test.YtffbmabhlgfjkaaFreeLaw
namespace Go.Proofs.Ytffbmabhlgfjkaa.FreeOldest
open Go.RowKit Base FreePlain FreePlain2 FreeMem FreeRefCheck FreePut FreeFind FreeAwake FreeLaw

set_option maxRecDepth 100000 in
set_option maxHeartbeats 6400000 in
theorem FreeOldest_walk (A : Option Addr) (c : Nat) (l : Fs) (x y : Int) (W : World) (hr : Row W W.heap.size A (fr l)) (hn : l.length ≤ maxLen) :
    Calls Try.prog 9 #[.slice A l.length c, .int .i64 x, .int .i64 y] W (Law W) := by
  have HR := Lib.hid hr
  clear hr
  unfold Law
  simp only [maxLen] at hn
  by_cases h1 : 200 < l.length
  · go_enter Try.func9, Try.ntmps9
    go_wp2_with fail
    refine (awake_any W).mono ?_
    rintro e w1 ⟨rfl, b1⟩
    go_wp2_with fail
    go_ret
    exact ⟨rfl, b1⟩
  · by_cases hg : Gd l
    · have hc0 := rcheck_any W A l.length c l true rfl HR.out (by omega) (iff_of_true rfl hg)
      by_cases h2 : y < x
      · go_enter Try.func9, Try.ntmps9
        clear hg
        go_wp2_with fail
        refine hc0.mono ?_
        rintro e w1 ⟨rfl, b1⟩
        clear hc0
        go_wp2_with fail
        refine (awake_any w1).mono ?_
        rintro e w2 ⟨rfl, b2⟩
        go_wp2_with fail
        go_ret
        exact ⟨rfl, bst b1 b1.size b2⟩
      · have hxy : x ≤ y := by omega
        have HU := Lib.hid (usable_mono hxy l)
        have HUL := Lib.hid (usable_le y l)
        have HSX := Lib.hid (some_iff (o := x) (l := l))
        have HSY := Lib.hid (some_iff (o := y) (l := l))
        have HOL := Lib.hid (fun (p : Int) (h : (first x l).1 = some p) => older hxy hg.2 h)
        have v2 : (y < x) = False := by simpa using h2
        clear hg h2 hxy
        go_enter Try.func9, Try.ntmps9
        go_wp2_with fail
        refine hc0.mono ?_
        rintro e w1 ⟨rfl, b1⟩
        clear hc0
        go_wp2_with fail
        refine (usable_any w1 A l.length c l x rfl (HR.out.belowSize b1) (by omega)).mono ?_
        rintro e w2 ⟨rfl, b2'⟩
        have b2 := bst b1 b1.size b2'
        clear b1 b2'
        go_wp2_with fail
        refine (usable_any w2 A l.length c l y rfl (HR.out.belowSize b2) (by omega)).mono ?_
        rintro e w3 ⟨rfl, b3'⟩
        have b3 := bst b2 b2.size b3'
        clear b2 b3'
        obtain ⟨A4, c4, w4, hrun, ho, b4'⟩ := copyF w3 A l.length c l rfl (HR.out.belowSize b3) (by omega)
        have b4 := bst b3 b3.size b4'
        go_wp2_with (at_builtin; refine wpList_append_runG rfl (.tmp 36) (.tmp 37) 22 22 rfl rfl rfl hrun ?_)
        have hcall := take_any w4 A4 l.length c4 l x rfl ho.cap.1 ho.row (by omega)
        clear hrun ho b4' b3
        refine hcall.mono ?_
        clear hcall
        rintro e w5 ⟨A5, m5, c5, rfl, _, _, b5'⟩
        have b5 := bst b4 b4.size b5'
        clear b4 b5'
        obtain ⟨A6, c6, w6, hrun, ho, b6'⟩ := copyF w5 A l.length c l rfl (HR.out.belowSize b5) (by omega)
        have b6 := bst b5 b5.size b6'
        go_wp2_with (at_builtin; refine wpList_append_runG rfl (.tmp 45) (.tmp 46) 22 22 rfl rfl rfl hrun ?_)
        have hcall := take_any w6 A6 l.length c6 l y rfl ho.cap.1 ho.row (by omega)
        clear hrun ho b6' b5
        refine hcall.mono ?_
        clear hcall
        rintro e w7 ⟨A7, m7, c7, rfl, _, _, b7'⟩
        have b7 := bst b6 b6.size b7'
        clear b6 b7'
        go_wp2_with fail
        refine (awake_any w7).mono ?_
        rintro e w8 ⟨rfl, b8'⟩
        have b8 := bst b7 b7.size b8'
        clear b7 b8'
        have hu1 := HU.out
        have hu2 := HUL.out
        have hsx := HSX.out
        have hsy := HSY.out
        have hol := HOL.out
        clear HU HUL HSX HSY HOL
        generalize usable x l = ux at *
        generalize usable y l = uy at *
        generalize (first x l).1 = fx at *
        generalize (first y l).1 = fy at *
        have vu : ((ux : Int) ≤ (uy : Int)) = True := by simp; omega
        have vl : ((uy : Int) ≤ (l.length : Int)) = True := by simp; omega
        cases fx with
        | none =>
          have e1 : (0 < ux) = False := by simpa using hsx.symm
          simp only [Option.isSome, Option.getD] at hsx hsy ⊢
          cases fy with
          | none =>
            have e2 : (0 < uy) = False := by simpa using hsy.symm
            clear hsx hsy hol
            go_wp2_with fail
            go_ret
            exact ⟨rfl, b8⟩
          | some q =>
            have e2 : (0 < uy) = True := by simpa using hsy.symm
            clear hsx hsy hol
            go_wp2_with fail
            go_ret
            exact ⟨rfl, b8⟩
        | some p =>
          have e1 : (0 < ux) = True := by simpa using hsx.symm
          obtain ⟨q, rfl, hqp⟩ := hol p rfl
          have e2 : (0 < uy) = True := by simpa using hsy.symm
          simp only [Option.isSome, Option.getD] at hsx hsy ⊢
          have vq : (q ≤ p) = True := by simpa using hqp
          clear hsx hsy hol hqp
          go_wp2_with fail
          go_ret
          exact ⟨rfl, b8⟩
    · have hc0 := rcheck_any W A l.length c l false rfl HR.out (by omega) (iff_of_false (by decide) hg)
      clear hg
      go_enter Try.func9, Try.ntmps9
      go_wp2_with fail
      refine hc0.mono ?_
      rintro e w1 ⟨rfl, b1⟩
      clear hc0
      go_wp2_with fail
      refine (awake_any w1).mono ?_
      rintro e w2 ⟨rfl, b2⟩
      go_wp2_with fail
      go_ret
      exact ⟨rfl, bst b1 b1.size b2⟩
end Go.Proofs.Ytffbmabhlgfjkaa.FreeOldest
