/- KeyTotal, walked. -/
import Derived.Test.YtokjddgldaklpaaKeyLaws3
namespace Go.Proofs.Ytokjddgldaklpaa.KeyLaws
open Go.RowKit KeyPlain Base KeyRead KeyNum KeyPut KeyGet KeyRef KeyAwake

/-- how three lists stand -/
theorem total_cases (a b c : List (List UInt8)) : (less a b = true ∧ less b a = false ∧ decide (a = b) = false ∧ (less b c = true → less a c = true)) ∨ (less a b = false ∧ less b a = true ∧ decide (a = b) = false) ∨ (less a b = false ∧ less b a = false ∧ decide (a = b) = true) := by
  have ht := less_total a b
  cases h1 : less a b with
  | true =>
    have h2 := less_asymm h1
    rw [h1, h2] at ht
    exact .inl ⟨rfl, h2, by simpa using ht.symm, fun h => less_trans h1 h⟩
  | false =>
    rw [h1] at ht
    cases h2 : less b a with
    | true => rw [h2] at ht; exact .inr (.inl ⟨rfl, rfl, by simpa using ht.symm⟩)
    | false => rw [h2] at ht; exact .inr (.inr ⟨rfl, rfl, by simpa using ht.symm⟩)
theorem lst_eq_dec (ps qs : List ByteArray) : decide (ps = qs) = decide (lst ps = lst qs) := by
  rw [decide_eq_decide]; exact ⟨fun h => by rw [h], lst_inj⟩

set_option maxHeartbeats 1000000 in
theorem KeyTotal_walk (A B D : Option Addr) (c d f : Nat) (ps qs rs : List ByteArray) (w : World) (hr : Row w w.heap.size A (ps.map .string)) (hq : Row w w.heap.size B (qs.map .string)) (ht : Row w w.heap.size D (rs.map .string)) (hn : ps.length ≤ maxLen) (hm : qs.length ≤ maxLen) (hk : rs.length ≤ maxLen) :
    Calls Try.prog 10 #[.slice A ps.length c, .slice B qs.length d, .slice D rs.length f] w (Law w) := by
  by_cases hf1 : Few ps
  · by_cases hf2 : Few qs
    · by_cases hf3 : Few rs
      · have hcase : ∃ x y z u v : Bool, less (lst ps) (lst qs) = x ∧ less (lst qs) (lst ps) = y ∧ less (lst qs) (lst rs) = z ∧ less (lst ps) (lst rs) = u ∧ decide (ps = qs) = v ∧ ((x = true ∧ y = false ∧ v = false ∧ (z = true → u = true)) ∨ (x = false ∧ y = true ∧ v = false) ∨ (x = false ∧ y = false ∧ v = true)) :=
          ⟨_, _, _, _, _, rfl, rfl, rfl, rfl, rfl, by rw [lst_eq_dec]; exact total_cases _ _ _⟩
        obtain ⟨x, y, z, u, v, h1, h2, h3, h4, h5, hcase⟩ := hcase
        have H1 := Lib.hid h1
        have H2 := Lib.hid h2
        have H3 := Lib.hid h3
        have H4 := Lib.hid h4
        have H5 := Lib.hid h5
        clear h1 h2 h3 h4 h5
        go_enter Try.func10, Try.ntmps10
        go_wp2_with fail
        refine (few_yes hf1 hr hn).mono ?_
        rintro e w1 ⟨rfl, hb1⟩
        go_wp2_with fail
        refine (few_yes hf2 (hq.belowSize hb1) hm).mono ?_
        rintro e w2 ⟨rfl, hb2⟩
        have hbw2 := Below.step hb1 hb2
        go_wp2_with fail
        refine (few_yes hf3 (ht.belowSize hbw2) hk).mono ?_
        rintro e w3 ⟨rfl, hb3⟩
        have hbw3 := Below.step hbw2 hb3
        go_wp2_with fail
        refine (Less_b A B _ _ ps qs x _ (hr.belowSize hbw3) (hq.belowSize hbw3) hn hm H1.out).mono ?_
        rintro e w4 ⟨rfl, rfl⟩
        go_wp2_with fail
        refine (Less_b B A _ _ qs ps y _ (hq.belowSize hbw3) (hr.belowSize hbw3) hm hn H2.out).mono ?_
        rintro e w4 ⟨rfl, rfl⟩
        go_wp2_with fail
        refine (Less_b B D _ _ qs rs z _ (hq.belowSize hbw3) (ht.belowSize hbw3) hm hk H3.out).mono ?_
        rintro e w4 ⟨rfl, rfl⟩
        go_wp2_with fail
        refine (awakeL hbw3).mono ?_
        rintro e w4 ⟨rfl, hb4⟩
        rcases hcase with ⟨rfl, rfl, rfl, hzu⟩ | ⟨rfl, rfl, rfl⟩ | ⟨rfl, rfl, rfl⟩
        · cases z with
          | true =>
            obtain rfl : u = true := hzu rfl
            clear hzu
            go_wp2_with fail
            refine (Same_bb A B _ _ _ _ ps qs false _ (hr.belowSize hb4) (hq.belowSize hb4) rfl rfl hn hm H5.out).mono ?_
            rintro e w5 ⟨rfl, hb5⟩
            have hbw5 := Below.step hb4 hb5
            go_wp2_with fail
            refine (Less_b A D _ _ ps rs true _ (hr.belowSize hbw5) (ht.belowSize hbw5) hn hk H4.out).mono ?_
            rintro e w6 ⟨rfl, rfl⟩
            go_wp2_with fail
            go_ret
            exact ⟨rfl, hbw5⟩
          | false =>
            clear hzu
            go_wp2_with fail
            refine (Same_bb A B _ _ _ _ ps qs false _ (hr.belowSize hb4) (hq.belowSize hb4) rfl rfl hn hm H5.out).mono ?_
            rintro e w5 ⟨rfl, hb5⟩
            go_wp2_with fail
            go_ret
            exact ⟨rfl, Below.step hb4 hb5⟩
        · go_wp2_with fail
          refine (Same_bb A B _ _ _ _ ps qs false _ (hr.belowSize hb4) (hq.belowSize hb4) rfl rfl hn hm H5.out).mono ?_
          rintro e w5 ⟨rfl, hb5⟩
          go_wp2_with fail
          go_ret
          exact ⟨rfl, Below.step hb4 hb5⟩
        · go_wp2_with fail
          refine (Same_bb A B _ _ _ _ ps qs true _ (hr.belowSize hb4) (hq.belowSize hb4) rfl rfl hn hm H5.out).mono ?_
          rintro e w5 ⟨rfl, hb5⟩
          go_wp2_with fail
          go_ret
          exact ⟨rfl, Below.step hb4 hb5⟩
      · go_enter Try.func10, Try.ntmps10
        go_wp2_with fail
        refine (few_yes hf1 hr hn).mono ?_
        rintro e w1 ⟨rfl, hb1⟩
        go_wp2_with fail
        refine (few_yes hf2 (hq.belowSize hb1) hm).mono ?_
        rintro e w2 ⟨rfl, hb2⟩
        have hbw2 := Below.step hb1 hb2
        go_wp2_with fail
        refine (few_not hf3 (ht.belowSize hbw2) hk).mono ?_
        rintro e w3 ⟨rfl, hb3⟩
        go_wp2_with fail
        refine (awakeL (Below.step hbw2 hb3)).mono ?_
        rintro e w4 ⟨rfl, hb4⟩
        go_wp2_with fail
        go_ret
        exact ⟨rfl, hb4⟩
    · go_enter Try.func10, Try.ntmps10
      go_wp2_with fail
      refine (few_yes hf1 hr hn).mono ?_
      rintro e w1 ⟨rfl, hb1⟩
      go_wp2_with fail
      refine (few_not hf2 (hq.belowSize hb1) hm).mono ?_
      rintro e w2 ⟨rfl, hb2⟩
      go_wp2_with fail
      refine (awakeL (Below.step hb1 hb2)).mono ?_
      rintro e w4 ⟨rfl, hb4⟩
      go_wp2_with fail
      go_ret
      exact ⟨rfl, hb4⟩
  · go_enter Try.func10, Try.ntmps10
    go_wp2_with fail
    refine (few_not hf1 hr hn).mono ?_
    rintro e w1 ⟨rfl, hb1⟩
    go_wp2_with fail
    refine (awakeL hb1).mono ?_
    rintro e w4 ⟨rfl, hb4⟩
    go_wp2_with fail
    go_ret
    exact ⟨rfl, hb4⟩
end Go.Proofs.Ytokjddgldaklpaa.KeyLaws
