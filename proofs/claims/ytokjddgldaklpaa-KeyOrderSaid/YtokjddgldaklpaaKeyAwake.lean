/- The chapter's examples, which every statement of layer 1 asks for. -/
import Derived.Test.YtokjddgldaklpaaKeyRef
namespace Go.Proofs.Ytokjddgldaklpaa.KeyAwake
open Go.RowKit KeyPlain Base KeyRead KeyNum KeyPut KeyGet KeyRef

theorem Get_ex (w : World) : Calls Try.prog 16 #[.string ⟨#[97, 0, 0, 98, 0, 0]⟩] w fun e w' =>
    ∃ A c, e = .returned (.tuple #[.slice A 2 c, .int .i64 0]) ∧ Row w' w'.heap.size A ([⟨#[97]⟩, ⟨#[98]⟩].map .string) ∧ Below w.heap.size w w' := by
  refine (Get_any _ w (by decide)).mono fun e w' h => ?_
  obtain ⟨hb, ⟨ps, A, c, hk, rfl, ho⟩ | ⟨hn, _⟩⟩ := h
  · have : ps = [⟨#[97]⟩, ⟨#[98]⟩] := lst_inj (kput_inj (hk.symm.trans (by decide)))
    subst this
    exact ⟨A, c, rfl, ho.row, hb⟩
  · exact absurd (by decide) (hn [[97], [98]])
theorem After_ex (w : World) : Calls Try.prog 24 #[.string ⟨#[97, 255]⟩] w fun e w' => e = .returned (.tuple #[.string ⟨#[98]⟩, .bool true]) ∧ Below w.heap.size w w' := by
  refine (After_any _ w (by decide)).mono fun e w' h => ?_
  obtain ⟨hb, h⟩ := h
  rw [show after (⟨#[97, 255]⟩ : ByteArray).data.toList = some [98] by decide] at h
  exact ⟨h, hb⟩
theorem Num_ex (w : World) : Calls Try.prog 25 #[.int .u64 258] w fun e w' => e = .returned (.string ⟨#[0, 0, 0, 0, 0, 0, 1, 2]⟩) ∧ Below w.heap.size w w' := by
  refine (Num_any 258 w (by omega)).mono fun e w' h => ?_
  rw [show be 8 258 = [0, 0, 0, 0, 0, 0, 1, 2] by decide] at h
  exact h
theorem Of_ex (w : World) : Calls Try.prog 26 #[.string ⟨#[0, 0, 0, 0, 0, 0, 1, 2]⟩] w fun e w' => e = .returned (.tuple #[.int .u64 258, .int .i64 0]) ∧ w = w' := by
  refine (Of_yes _ w (by decide)).mono fun e w' h => ?_
  rw [show val (⟨#[0, 0, 0, 0, 0, 0, 1, 2]⟩ : ByteArray).data.toList = 258 by decide] at h
  exact h
theorem Put_ex (A : Option Addr) (c : Nat) (w : World) (hr : Row w w.heap.size A ([⟨#[97]⟩, ⟨#[98]⟩].map .string)) : Calls Try.prog 15 #[.slice A 2 c] w fun e w' => e = .returned (.string ⟨#[97, 0, 0, 98, 0, 0]⟩) ∧ Below w.heap.size w w' := by
  refine (Put_any A c [⟨#[97]⟩, ⟨#[98]⟩] w hr (by simp [maxLen]) (by decide)).mono fun e w' h => ?_
  rw [show kput (lst [⟨#[97]⟩, ⟨#[98]⟩]) = [97, 0, 0, 98, 0, 0] by decide] at h
  exact h
theorem Same_ex (A B : Option Addr) (c d : Nat) (w : World) (hr : Row w w.heap.size A ([⟨#[97]⟩, ⟨#[98]⟩].map .string)) (hq : Row w w.heap.size B ([⟨#[97]⟩, ⟨#[98]⟩].map .string)) :
    Calls Try.prog 18 #[.slice A 2 c, .slice B 2 d] w fun e w' => e = .returned (.bool true) ∧ ∃ n, w' = w.drewN n := by
  refine (Same_q A B c d [⟨#[97]⟩, ⟨#[98]⟩] [⟨#[97]⟩, ⟨#[98]⟩] w hr hq (by simp [maxLen]) (by simp [maxLen])).mono fun e w' h => ?_
  simpa using h

set_option maxHeartbeats 1000000 in
theorem awake_any (w : World) : Calls Try.prog 14 #[] w fun e w' => e = .returned (.bool true) ∧ Below w.heap.size w w' := by
  have hrow : ∀ W : World, Row (W.alloc (.cells #[.string ⟨#[97]⟩, .string ⟨#[98]⟩] 9)) (W.alloc (.cells #[.string ⟨#[97]⟩, .string ⟨#[98]⟩] 9)).heap.size (some ⟨W.heap.size, 0, none⟩) ([⟨#[97]⟩, ⟨#[98]⟩].map .string) := fun W => by
    have := row_of_block (heap_alloc_new W (.cells #[.string ⟨#[97]⟩, .string ⟨#[98]⟩] 9))
    simpa using this
  have HR := Lib.hid hrow
  clear hrow
  go_enter Try.func14, Try.ntmps14
  go_wp2_with fail
  refine (Get_ex _).mono ?_
  rintro e w1 ⟨A, c, rfl, hr1, hb1⟩
  go_wp2_with fail
  refine (After_ex _).mono ?_
  rintro e w2 ⟨rfl, hb2⟩
  go_wp2_with fail
  refine (Num_ex _).mono ?_
  rintro e w3 ⟨rfl, hb3⟩
  go_wp2_with fail
  refine (Of_ex _).mono ?_
  rintro e w3' ⟨rfl, rfl⟩
  go_wp2_with fail
  refine (Put_ex _ _ _ (HR.out _)).mono ?_
  rintro e w4 ⟨rfl, hb4⟩
  have hb34 : Below w3.heap.size w3 w4 := ((Below.refl _ w3).alloc (Nat.le_refl _) _).trans (hb4.mono (by simp))
  have hbw4 := Below.step (Below.step hb1 hb2) (Below.step hb3 hb34)
  have hr4 := ((hr1.belowSize hb2).belowSize hb3).belowSize hb34
  go_wp2_with fail
  refine (Same_ex _ _ _ _ _ ((hr4.belowSize ((Below.refl _ w4).alloc (Nat.le_refl _) _))) (HR.out _)).mono ?_
  rintro e w5 ⟨rfl, n, rfl⟩
  go_wp2_with fail
  refine (Num_ex _).mono ?_
  rintro e w6 ⟨rfl, hb6⟩
  go_wp2_with fail
  go_ret
  refine ⟨rfl, Below.step hbw4 (Below.trans (b := (w4.alloc (.cells #[.string ⟨#[97]⟩, .string ⟨#[98]⟩] 9)).drewN n) ?_ (hb6.mono (by simp)))⟩
  exact ((Below.refl _ w4).alloc (Nat.le_refl _) _).trans (Base.below_drewN _ _ _)
end Go.Proofs.Ytokjddgldaklpaa.KeyAwake
