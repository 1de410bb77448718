/- The walk of FreeAll. -/
import Derived.Test.YtffbmabhlgfjkaaFreeLaw
namespace Go.Proofs.Ytffbmabhlgfjkaa.FreeAll
open Go.RowKit Base FreePlain FreePlain2 FreeMem FreeRefCheck FreeRefPut FreeCheck FreeSl FreePut FreeFind FreeAwake FreeLaw

set_option maxRecDepth 100000 in
set_option maxHeartbeats 6400000 in
theorem FreeAll_walk (A : Option Addr) (c : Nat) (l : Fs) (o : Int) (W : World) (hr : Row W W.heap.size A (fr l)) (hn : l.length ≤ maxLen) :
    Calls Try.prog 6 #[.slice A l.length c, .int .i64 o] W (Law W) := by
  have HR := Lib.hid hr
  clear hr
  unfold Law
  simp only [maxLen] at hn
  by_cases h1 : 100 < l.length
  · go_enter Try.func6, Try.ntmps6
    go_wp2_with fail
    refine (awake_any W).mono ?_
    rintro e w1 ⟨rfl, b1⟩
    go_wp2_with fail
    go_ret
    exact ⟨rfl, b1⟩
  · by_cases hg : Gd l
    · have hc0 := rcheck_any W A l.length c l true rfl HR.out (by omega) (iff_of_true rfl hg)
      have HG := Lib.hid hg
      have hub := usable_le o l
      have HU := Lib.hid (fun (w : World) (b : Below W.heap.size W w) => usable_any w A l.length c l o rfl (HR.out.belowSize b) (by omega))
      obtain ⟨u, hu⟩ : ∃ u, u = usable o l := ⟨_, rfl⟩
      have HUE := Lib.hid hu
      rw [← hu] at HU hub
      clear hg hu
      go_enter Try.func6, Try.ntmps6
      go_wp2_with fail
      (with_reducible refine hc0.mono ?_)
      rintro e0 w1 ⟨rfl, b1⟩
      clear hc0
      have hcall := HU.out w1 b1
      go_wp2_with fail
      (with_reducible refine hcall.mono ?_)
      clear hcall HU
      rintro e0 w2 ⟨rfl, b2'⟩
      have b2 := bst b1 b1.size b2'
      clear b1 b2'
      obtain ⟨A3, c3, w3, hrun, ho, b3'⟩ := copyF w2 A l.length c l rfl (HR.out.belowSize b2) (by omega)
      have b3 := bst b2 b2.size b3'
      have HO := Lib.hid (own_low ho b2.size)
      clear ho b3' b2
      go_wp2_with (at_builtin; refine wpList_append_runG rfl (.tmp 27) (.tmp 28) 22 22 rfl rfl rfl hrun ?_)
      clear hrun
      go_loopw [6, 7, 8, 9, 10, 11] (fun s v i _ _ _ wr => ∃ (k m : Nat) (was : Int) (lf : Fs) (A' : Option Addr) (c' : Nat), k ≤ u ∧ s = .int .i64 was ∧ v = .slice A' m c' ∧ i = .int .i64 k ∧ m = lf.length ∧ OwnF wr W.heap.size A' c' lf ∧ k + usable o lf = u ∧ lf.length + k = l.length ∧ Gd lf ∧ (∀ x ∈ lf, x.2 ≤ o → was < x.1) ∧ Below W.heap.size W wr) (fun _ _ i _ _ _ _ => u - (intOf i).toNat)
      case atStart => exact ⟨0, l.length, 0, l, A3, c3, by omega, rfl, rfl, rfl, rfl, HO.out, by rw [HUE.out]; omega, by omega, HG.out, fun x hx _ => by have := (HG.out.1 x hx).1; omega, b3⟩
      case round =>
        clear HO b3
        obtain ⟨k, m, was, lf, A', c', hk, rfl, rfl, rfl, hm, hown, hku, hlk, hgl, hwas, hb⟩ := hrel
        have HM := Lib.hid hm
        have hml : m + k = l.length := by omega
        by_cases hlt : k < u
        · obtain ⟨p, hp⟩ := first_got (o := o) (l := lf) (by omega)
          have hcall := take_any wr A' m c' lf o hm hown.cap.1 hown.row (by omega)
          rw [hp.one] at hcall
          have hp1 : was < p := by
            obtain ⟨e, he, hmem⟩ := hp.mem
            exact hwas _ hmem he
          have HK := Lib.hid (show k + 1 + usable o (first o lf).2 = u by have := hp.less; omega)
          have HL := Lib.hid (show (first o lf).2.length + (k + 1) = l.length by have := hp.len; omega)
          have HGF := Lib.hid (gd_first (o := o) hgl)
          have HUP := Lib.hid (hp.up hgl.2)
          have HLN := Lib.hid (show (first o lf).2.length + 1 = m by rw [hm]; exact hp.len)
          clear hm hown hku hlk hgl hwas hp HM
          generalize (first o lf).2 = ln at *
          go_wp2_with fail
          (with_reducible refine hcall.mono ?_)
          clear hcall
          rintro e0 w4 ⟨A5, m5, c5, rfl, hm5, ho5, b5'⟩
          have b5 := bst hb hb.size b5'
          have HO5 := Lib.hid (own_low ho5 hb.size)
          have HM5 := Lib.hid hm5
          have hmm : (m : Int) - 1 = (m5 : Int) := by have := HLN.out; omega
          have hmp : m5 ≤ 200 := by have := HLN.out; omega
          have v1 : (p ≤ was) = False := by simp; omega
          clear hb b5' ho5 hm5 hp1
          simp only [Option.getD, Option.isSome]
          go_wp2_with fail
          go_roundw
          case rel => exact ⟨k + 1, m5, p, ln, A5, c5, by omega, rfl, rfl, by go_num, HM5.out, HO5.out, HK.out, HL.out, HGF.out, HUP.out, b5⟩
          case measure => simp [intOf]; omega
        · obtain rfl : k = u := by omega
          have hz : usable o lf = 0 := by omega
          have hcall := take_any wr A' m c' lf o hm hown.cap.1 hown.row (by omega)
          rw [first_zero hz] at hcall
          have HZ := Lib.hid hz
          have HLN := Lib.hid (show (l.length : Int) - (k : Int) = (m : Int) by omega)
          clear hm hown hku hlk hgl hwas hz
          go_wp2_with fail
          (with_reducible refine hcall.mono ?_)
          clear hcall
          rintro e0 w4 ⟨A5, m5, c5, rfl, hm5, ho5, b5'⟩
          have b5 := bst hb hb.size b5'
          have hm5' : m5 = m := hm5.trans HM.out.symm
          subst hm5'
          clear hb b5' hm5
          simp only [Option.getD, Option.isSome]
          go_wp2_with fail
          refine (awake_any w4).mono ?_
          rintro e0 w6 ⟨rfl, b6'⟩
          have b6 := bst b5 b5.size b6'
          have ho6 := ho5.later b6'
          clear b5 b6' ho5
          have hcall := usable_any w6 A5 m5 c5 lf o HM.out ho6.row (by rw [← HM.out]; omega)
          rw [HZ.out] at hcall
          clear ho6
          have hln := HLN.out
          go_wp2_with fail
          (with_reducible refine hcall.mono ?_)
          clear hcall
          rintro e0 w7 ⟨rfl, b7'⟩
          have b7 := bst b6 b6.size b7'
          clear b6 b7'
          go_wp2_with fail
          go_ret
          exact ⟨rfl, b7⟩
    · have hc0 := rcheck_any W A l.length c l false rfl HR.out (by omega) (iff_of_false (by decide) hg)
      clear hg
      go_enter Try.func6, Try.ntmps6
      go_wp2_with fail
      (with_reducible refine hc0.mono ?_)
      rintro e w1 ⟨rfl, b1⟩
      clear hc0
      go_wp2_with fail
      refine (awake_any w1).mono ?_
      rintro e w2 ⟨rfl, b2⟩
      go_wp2_with fail
      go_ret
      exact ⟨rfl, bst b1 b1.size b2⟩
end Go.Proofs.Ytffbmabhlgfjkaa.FreeAll
