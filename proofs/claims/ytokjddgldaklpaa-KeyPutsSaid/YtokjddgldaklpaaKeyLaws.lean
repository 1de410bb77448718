/- The statements of layer 1, walked: each answers true at every input, and leaves what was there as it was. -/
import Derived.Test.YtokjddgldaklpaaKeyAwake
namespace Go.Proofs.Ytokjddgldaklpaa.KeyLaws
open Go.RowKit KeyPlain Base KeyRead KeyNum KeyPut KeyGet KeyRef KeyAwake

def Few (ps : List ByteArray) : Prop := (∀ p ∈ ps, p.size ≤ 200) ∧ ps.length ≤ 20
theorem few_yes {A : Option Addr} {c : Nat} {ps : List ByteArray} {w : World} (h : Few ps) (hr : Row w w.heap.size A (ps.map .string)) (hn : ps.length ≤ maxLen) :
    Calls Try.prog 13 #[.slice A ps.length c] w fun e w' => e = .returned (.bool true) ∧ Below w.heap.size w w' :=
  (few_q A c ps w hr hn).mono fun e w' ⟨he, n, hw⟩ => ⟨he.trans (ret_bool (decide_eq_true (p := (∀ p ∈ ps, p.size ≤ 200) ∧ ps.length ≤ 20) h)), by rw [hw]; exact Base.below_drewN _ _ _⟩
theorem few_not {A : Option Addr} {c : Nat} {ps : List ByteArray} {w : World} (h : ¬ Few ps) (hr : Row w w.heap.size A (ps.map .string)) (hn : ps.length ≤ maxLen) :
    Calls Try.prog 13 #[.slice A ps.length c] w fun e w' => e = .returned (.bool false) ∧ Below w.heap.size w w' :=
  (few_q A c ps w hr hn).mono fun e w' ⟨he, n, hw⟩ => ⟨he.trans (ret_bool (decide_eq_false (p := (∀ p ∈ ps, p.size ≤ 200) ∧ ps.length ≤ 20) h)), by rw [hw]; exact Base.below_drewN _ _ _⟩
theorem Few.len {ps : List ByteArray} (h : Few ps) : (kput (lst ps)).length ≤ 8040 := by
  have := kput_len (lst ps) (fun p hp => by
    simp only [lst, List.mem_map] at hp
    obtain ⟨q, hq, rfl⟩ := hp
    rw [ba_len]; exact h.1 q hq)
  rw [lst_len] at this
  have := h.2
  omega
/-- what a statement says of a call -/
def Law (w : World) (e : Ending) (w' : World) : Prop := e = .returned (.bool true) ∧ Below w.heap.size w w'
theorem awakeL {w W : World} (hb : Below w.heap.size w W) : Calls Try.prog 14 #[] W fun e w' => e = .returned (.bool true) ∧ Below w.heap.size w w' :=
  (awake_any W).mono fun _ _ ⟨he, h⟩ => ⟨he, Below.step hb h⟩

/-! KeyNums -/
theorem Of_num (n : Nat) (w : World) (hn : n < 18446744073709551616) : Calls Try.prog 26 #[.string ⟨(be 8 n).toArray⟩] w fun e w' => e = .returned (.tuple #[.int .u64 n, .int .i64 0]) ∧ w = w' := by
  refine (Of_yes _ w (by simp [ByteArray.size, be_len])).mono fun e w' h => ?_
  rw [show val (⟨(be 8 n).toArray⟩ : ByteArray).data.toList = n from val_be 8 n hn] at h
  exact h
theorem Num_val (s : ByteArray) (w : World) (hs : s.size = 8) : Calls Try.prog 25 #[.int .u64 (val s.data.toList)] w fun e w' => e = .returned (.string s) ∧ Below w.heap.size w w' := by
  have hl : s.data.toList.length = 8 := by rw [ba_len, hs]
  have hv := val_lt s.data.toList
  rw [hl] at hv
  refine (Num_any _ w hv).mono fun e w' h => ?_
  have : be 8 (val s.data.toList) = s.data.toList := by have := be_val s.data.toList; rwa [hl] at this
  rw [this] at h
  exact h
theorem Below_num (n m : Nat) (w : World) (hn : n < 18446744073709551616) (hm : m < 18446744073709551616) : Calls Try.prog 22 #[.string ⟨(be 8 n).toArray⟩, .string ⟨(be 8 m).toArray⟩] w fun e w' => e = .returned (.bool (decide (n < m))) ∧ Below w.heap.size w w' := by
  refine (Below_q _ _ w (by simp [ByteArray.size, be_len, maxLen]) (by simp [ByteArray.size, be_len, maxLen])).mono fun e w' ⟨he, k, hk⟩ => ?_
  rw [show Op.bytesLess (⟨(be 8 n).toArray⟩ : ByteArray).data.toList (⟨(be 8 m).toArray⟩ : ByteArray).data.toList = decide (n < m) from bl_be n m hn hm] at he
  exact ⟨he, by rw [hk]; exact Base.below_drewN _ _ _⟩

set_option maxHeartbeats 1000000 in
theorem KeyNums_walk (a b : Nat) (s : ByteArray) (w : World) (ha : a < 18446744073709551616) (hb : b < 18446744073709551616) :
    Calls Try.prog 8 #[.int .u64 a, .int .u64 b, .string s] w (Law w) := by
  by_cases hs : s.size = 8
  · have h8 : ((s.size : Int) != 8) = false := by simp [hs]
    have HS := Lib.hid hs
    clear hs
    go_enter Try.func8, Try.ntmps8
    go_wp2_with fail
    refine (Num_any a _ ha).mono ?_
    rintro e w1 ⟨rfl, hb1⟩
    go_wp2_with fail
    refine (Num_any b _ hb).mono ?_
    rintro e w2 ⟨rfl, hb2⟩
    go_wp2_with fail
    refine (Of_num a _ ha).mono ?_
    rintro e w3 ⟨rfl, rfl⟩
    go_wp2_with fail
    refine (Of_yes s _ HS.out).mono ?_
    rintro e w3 ⟨rfl, rfl⟩
    go_wp2_with fail
    refine (awakeL (Below.step hb1 hb2)).mono ?_
    rintro e w4 ⟨rfl, hb4⟩
    go_wp2_with fail
    refine (refNum_any a _ ha).mono ?_
    rintro e w5 ⟨rfl, hb5⟩
    go_wp2_with fail
    refine (Below_num a b _ ha hb).mono ?_
    rintro e w6 ⟨rfl, hb6⟩
    go_wp2_with fail
    refine (Num_val s _ HS.out).mono ?_
    rintro e w7 ⟨rfl, hb7⟩
    go_wp2_with fail
    go_ret
    exact ⟨rfl, Below.step (Below.step (Below.step hb4 hb5) hb6) hb7⟩
  · have h8 : ((s.size : Int) != 8) = true := by simp; omega
    have HS := Lib.hid hs
    clear hs
    go_enter Try.func8, Try.ntmps8
    go_wp2_with fail
    refine (Num_any a _ ha).mono ?_
    rintro e w1 ⟨rfl, hb1⟩
    go_wp2_with fail
    refine (Num_any b _ hb).mono ?_
    rintro e w2 ⟨rfl, hb2⟩
    go_wp2_with fail
    refine (Of_num a _ ha).mono ?_
    rintro e w3 ⟨rfl, rfl⟩
    go_wp2_with fail
    refine (Of_no s _ HS.out).mono ?_
    rintro e w3 ⟨rfl, rfl⟩
    go_wp2_with fail
    refine (awakeL (Below.step hb1 hb2)).mono ?_
    rintro e w4 ⟨rfl, hb4⟩
    go_wp2_with fail
    go_ret
    exact ⟨rfl, hb4⟩

/-! KeyPuts -/
theorem Get_put (ps : List ByteArray) (w : World) (h : (kput (lst ps)).length ≤ 1000000) : Calls Try.prog 16 #[.string ⟨(kput (lst ps)).toArray⟩] w fun e w' =>
    ∃ A c, e = .returned (.tuple #[.slice A ps.length c, .int .i64 0]) ∧ Row w' w'.heap.size A (ps.map .string) ∧ Below w.heap.size w w' := by
  refine (Get_any _ w (by simpa [ByteArray.size] using h)).mono fun e w' h => ?_
  obtain ⟨hb, ⟨qs, A, c, hk, rfl, ho⟩ | ⟨hn, _⟩⟩ := h
  · have : ps = qs := lst_inj (kput_inj hk)
    subst this
    exact ⟨A, c, rfl, ho.row, hb⟩
  · exact absurd rfl (hn (lst ps))
theorem Same_self (A B : Option Addr) (c d : Nat) (ps : List ByteArray) (w : World) (hr : Row w w.heap.size A (ps.map .string)) (hq : Row w w.heap.size B (ps.map .string)) (hn : ps.length ≤ maxLen) :
    Calls Try.prog 18 #[.slice A ps.length c, .slice B ps.length d] w fun e w' => e = .returned (.bool true) ∧ Below w.heap.size w w' :=
  (Same_q A B c d ps ps w hr hq hn hn).mono fun e w' ⟨he, n, hw⟩ => ⟨by simpa using he, by rw [hw]; exact Base.below_drewN _ _ _⟩

set_option maxHeartbeats 1000000 in
theorem KeyPuts_walk (A : Option Addr) (c : Nat) (ps : List ByteArray) (w : World) (hr : Row w w.heap.size A (ps.map .string)) (hn : ps.length ≤ maxLen) :
    Calls Try.prog 3 #[.slice A ps.length c] w (Law w) := by
  by_cases hf : Few ps
  · have hlen := hf.len
    have hl20 := hf.2
    go_enter Try.func3, Try.ntmps3
    go_wp2_with fail
    refine (few_yes hf hr hn).mono ?_
    rintro e w1 ⟨rfl, hb1⟩
    go_wp2_with (at_builtin; refine wpList_append_rowG rfl (.tmp 10) (.tmp 11) 22 rfl el_strs ps.length (xs := []) (news := ps.map .string) rfl rfl (Own.empty w1 9 (Nat.le_refl _)) rfl (by simp) (by simp) (hr.below (hb1.alloc hb1.size _)) (strs_one ps) hn (by omega) (by simp) ?_; intro A1 c1 w2 ho hg; obtain ⟨hr2, hb2, _⟩ := copy_step ho hg; clear ho hg)
    refine (Put_any _ _ ps _ hr2 hn (by omega)).mono ?_
    rintro e w3 ⟨rfl, hb3⟩
    have hbw3 := Below.step (Below.step hb1 hb2) hb3
    go_wp2_with fail
    refine (Get_put ps _ (by omega)).mono ?_
    rintro e w4 ⟨A4, c4, rfl, hr4, hb4⟩
    go_wp2_with fail
    refine (awake_any _).mono ?_
    rintro e w5 ⟨rfl, hb5⟩
    have hbw5 := Below.step hbw3 (Below.step hb4 hb5)
    go_wp2_with fail
    refine (refPut_any A _ ps _ (hr.belowSize hbw5) hn (by omega)).mono ?_
    rintro e w6 ⟨rfl, rfl⟩
    go_wp2_with fail
    refine (Same_self A A4 _ _ ps _ (hr.belowSize hbw5) (hr4.belowSize hb5) hn).mono ?_
    rintro e w6 ⟨rfl, hb6⟩
    go_wp2_with fail
    go_ret
    exact ⟨rfl, Below.step hbw5 hb6⟩
  · go_enter Try.func3, Try.ntmps3
    go_wp2_with fail
    refine (few_not hf hr hn).mono ?_
    rintro e w1 ⟨rfl, hb1⟩
    go_wp2_with fail
    refine (awakeL hb1).mono ?_
    rintro e w2 ⟨rfl, hb2⟩
    go_wp2_with fail
    go_ret
    exact ⟨rfl, hb2⟩

/-! KeyGets -/
theorem Get_no (s : ByteArray) (w : World) (hs : s.size ≤ 1000000) (h : ∀ qs, s.data.toList ≠ kput qs) : Calls Try.prog 16 #[.string s] w fun e w' => e = .returned (.tuple #[.slice none 0 0, .int .i64 10]) ∧ Below w.heap.size w w' := by
  refine (Get_any _ w hs).mono fun e w' g => ?_
  obtain ⟨hb, ⟨qs, A, c, hk, _⟩ | ⟨_, rfl⟩⟩ := g
  · exact absurd hk (h _)
  · exact ⟨rfl, hb⟩
theorem refGet_no (s : ByteArray) (w : World) (hs : s.size ≤ 1000000) (h : ∀ qs, s.data.toList ≠ kput qs) : Calls Try.prog 19 #[.string s] w fun e w' => ∃ v, e = .returned (.tuple #[v, .bool false]) ∧ Below w.heap.size w w' := by
  refine (refGet_any _ w hs).mono fun e w' g => ?_
  obtain ⟨hb, ⟨qs, A, c, hk, _⟩ | ⟨_, v, rfl⟩⟩ := g
  · exact absurd hk (h _)
  · exact ⟨v, rfl, hb⟩
theorem Get_yes (s : ByteArray) (ps : List ByteArray) (w : World) (hs : s.size ≤ 1000000) (h : s.data.toList = kput (lst ps)) : Calls Try.prog 16 #[.string s] w fun e w' =>
    ∃ A c, e = .returned (.tuple #[.slice A ps.length c, .int .i64 0]) ∧ Row w' w'.heap.size A (ps.map .string) ∧ Below w.heap.size w w' := by
  refine (Get_any _ w hs).mono fun e w' g => ?_
  obtain ⟨hb, ⟨qs, A, c, hk, rfl, ho⟩ | ⟨hn, _⟩⟩ := g
  · have : ps = qs := lst_inj (kput_inj (h.symm.trans hk))
    subst this
    exact ⟨A, c, rfl, ho.row, hb⟩
  · exact absurd h (hn (lst ps))
theorem refGet_yes (s : ByteArray) (ps : List ByteArray) (w : World) (hs : s.size ≤ 1000000) (h : s.data.toList = kput (lst ps)) : Calls Try.prog 19 #[.string s] w fun e w' =>
    ∃ A c, e = .returned (.tuple #[.slice A ps.length c, .bool true]) ∧ Row w' w'.heap.size A (ps.map .string) ∧ Below w.heap.size w w' := by
  refine (refGet_any _ w hs).mono fun e w' g => ?_
  obtain ⟨hb, ⟨qs, A, c, hk, rfl, ho⟩ | ⟨hn, _⟩⟩ := g
  · have : ps = qs := lst_inj (kput_inj (h.symm.trans hk))
    subst this
    exact ⟨A, c, rfl, ho.row, hb⟩
  · exact absurd h (hn (lst ps))
theorem Put_back (A : Option Addr) (c : Nat) (ps : List ByteArray) (s : ByteArray) (w : World) (hr : Row w w.heap.size A (ps.map .string)) (hn : ps.length ≤ maxLen) (hsz : s.size ≤ 300000) (h : s.data.toList = kput (lst ps)) :
    Calls Try.prog 15 #[.slice A ps.length c] w fun e w' => e = .returned (.string s) ∧ Below w.heap.size w w' := by
  refine (Put_any A c ps w hr hn (by rw [← h, ba_len]; exact hsz)).mono fun e w' ⟨he, hb⟩ => ⟨he.trans (ret_str (ba_ext (by rw [h]))), hb⟩

set_option maxHeartbeats 1000000 in
theorem KeyGets_walk (s : ByteArray) (w : World) : Calls Try.prog 4 #[.string s] w (Law w) := by
  by_cases h2 : s.size ≤ 2000
  · by_cases hk : ∃ qs, s.data.toList = kput qs
    · obtain ⟨qs, hk⟩ := hk
      obtain ⟨ps, rfl⟩ := lst_of qs
      have hpl : ps.length ≤ 2000 := by
        have := kput_len_ge (lst ps)
        rw [← hk, lst_len, ba_len] at this
        omega
      have hpm : ps.length ≤ maxLen := by simp [maxLen]; omega
      have HK := Lib.hid hk
      clear hk
      go_enter Try.func4, Try.ntmps4
      go_wp2_with fail
      refine (Get_yes s ps _ (by omega) HK.out).mono ?_
      rintro e w1 ⟨A1, c1, rfl, hr1, hb1⟩
      go_wp2_with fail
      refine (refGet_yes s ps _ (by omega) HK.out).mono ?_
      rintro e w2 ⟨A2, c2, rfl, hr2, hb2⟩
      go_wp2_with fail
      refine (awake_any _).mono ?_
      rintro e w3 ⟨rfl, hb3⟩
      go_wp2_with fail
      refine (Same_self A1 A2 _ _ ps _ ((hr1.belowSize hb2).belowSize hb3) (hr2.belowSize hb3) hpm).mono ?_
      rintro e w4 ⟨rfl, hb4⟩
      go_wp2_with fail
      refine (Put_back A1 _ ps s _ (((hr1.belowSize hb2).belowSize hb3).belowSize hb4) hpm (by omega) HK.out).mono ?_
      rintro e w5 ⟨rfl, hb5⟩
      go_wp2_with fail
      go_ret
      exact ⟨rfl, Below.step (Below.step (Below.step hb1 hb2) (Below.step hb3 hb4)) hb5⟩
    · have hk2 : ∀ qs, s.data.toList ≠ kput qs := fun qs h => hk ⟨qs, h⟩
      have HK := Lib.hid hk2
      clear hk hk2
      go_enter Try.func4, Try.ntmps4
      go_wp2_with fail
      refine (Get_no s _ (by omega) HK.out).mono ?_
      rintro e w1 ⟨rfl, hb1⟩
      go_wp2_with fail
      refine (refGet_no s _ (by omega) HK.out).mono ?_
      rintro e w2 ⟨v, rfl, hb2⟩
      go_wp2_with fail
      refine (awakeL (Below.step hb1 hb2)).mono ?_
      rintro e w3 ⟨rfl, hb3⟩
      go_wp2_with fail
      go_ret
      exact ⟨rfl, hb3⟩
  · go_enter Try.func4, Try.ntmps4
    go_wp2_with fail
    refine (awake_any _).mono ?_
    rintro e w3 ⟨rfl, hb3⟩
    go_wp2_with fail
    go_ret
    exact ⟨rfl, hb3⟩

/-! two lists -/
theorem refLess_b (A B : Option Addr) (c d : Nat) (ps qs : List ByteArray) (w : World) (hf1 : Few ps) (hf2 : Few qs) (hr : Row w w.heap.size A (ps.map .string)) (hq : Row w w.heap.size B (qs.map .string)) (hn : ps.length ≤ maxLen) (hm : qs.length ≤ maxLen) :
    Calls Try.prog 21 #[.slice A ps.length c, .slice B qs.length d] w fun e w' => e = .returned (.bool (less (lst ps) (lst qs))) ∧ Below w.heap.size w w' :=
  (refLess_q A B c d ps qs w hr hq hn hm (fun p hp => Nat.le_trans (hf1.1 p hp) (by simp [maxLen])) (fun p hp => Nat.le_trans (hf2.1 p hp) (by simp [maxLen]))).mono fun e w' ⟨he, n, hw⟩ => ⟨he, by rw [hw]; exact Base.below_drewN _ _ _⟩
theorem Below_puts (ps qs : List ByteArray) (w : World) (h1 : (kput (lst ps)).length ≤ 8040) (h2 : (kput (lst qs)).length ≤ 8040) :
    Calls Try.prog 22 #[.string ⟨(kput (lst ps)).toArray⟩, .string ⟨(kput (lst qs)).toArray⟩] w fun e w' => e = .returned (.bool (less (lst ps) (lst qs))) ∧ Below w.heap.size w w' :=
  (Below_q _ _ w (by simp [ByteArray.size, maxLen]; omega) (by simp [ByteArray.size, maxLen]; omega)).mono fun e w' ⟨he, n, hw⟩ => ⟨he.trans (ret_bool (less_kput _ _).symm), by rw [hw]; exact Base.below_drewN _ _ _⟩
theorem Same_b (A B : Option Addr) (c d : Nat) (ps qs : List ByteArray) (w : World) (hr : Row w w.heap.size A (ps.map .string)) (hq : Row w w.heap.size B (qs.map .string)) (hn : ps.length ≤ maxLen) (hm : qs.length ≤ maxLen) :
    Calls Try.prog 18 #[.slice A ps.length c, .slice B qs.length d] w fun e w' => e = .returned (.bool (decide (ps = qs))) ∧ Below w.heap.size w w' :=
  (Same_q A B c d ps qs w hr hq hn hm).mono fun e w' ⟨he, n, hw⟩ => ⟨he, by rw [hw]; exact Base.below_drewN _ _ _⟩

set_option maxHeartbeats 1000000 in
theorem KeyOrder_walk (A B : Option Addr) (c d : Nat) (ps qs : List ByteArray) (w : World) (hr : Row w w.heap.size A (ps.map .string)) (hq : Row w w.heap.size B (qs.map .string)) (hn : ps.length ≤ maxLen) (hm : qs.length ≤ maxLen) (_hnc : ps.length ≤ c) (_hmd : qs.length ≤ d) :
    Calls Try.prog 5 #[.slice A ps.length c, .slice B qs.length d] w (Law w) := by
  by_cases hf : Few ps ∧ Few qs
  · obtain ⟨hf1, hf2⟩ := hf
    have hl1 := hf1.len
    have hl2 := hf2.len
    have hn1 := hf1.2
    have hn2 := hf2.2
    go_enter Try.func5, Try.ntmps5
    go_wp2_with fail
    refine (few_yes hf1 hr hn).mono ?_
    rintro e w1 ⟨rfl, hb1⟩
    go_wp2_with fail
    refine (few_yes hf2 (hq.belowSize hb1) hm).mono ?_
    rintro e w2 ⟨rfl, hb2⟩
    have hbw2 := Below.step hb1 hb2
    go_wp2_with (first | (at_builtin; refine wpList_append_rowG rfl (.tmp 15) (.tmp 16) 22 rfl el_strs ps.length (xs := []) (news := ps.map .string) rfl rfl (Own.empty w2 9 (Nat.le_refl _)) rfl (by simp) (by simp) (hr.below (hbw2.alloc hbw2.size _)) (strs_one ps) (by simp [maxLen]; omega) (by omega) (by simp) ?_; intro A3 c3 w3 ho hg; obtain ⟨hr3, hb3, ho3⟩ := copy_step ho hg; clear ho hg) | (at_builtin; refine wpList_append_rowG rfl (.tmp 18) (.tmp 19) 22 rfl el_strs qs.length (xs := []) (news := qs.map .string) rfl rfl (Own.empty w3 9 (Nat.le_refl _)) rfl (by simp) (by simp) (hq.below ((Below.step hbw2 hb3).alloc (Below.step hbw2 hb3).size _)) (strs_one qs) (by simp [maxLen]; omega) (by omega) (by simp) ?_; intro A4 c4 w4 ho hg; obtain ⟨hr4, hb4, ho4⟩ := copy_step ho hg; clear ho hg))
    have hbw4 := Below.step hbw2 (Below.step hb3 hb4)
    refine (Less_q _ _ _ _ ps qs _ (hr3.belowSize hb4) hr4 hn hm).mono ?_
    rintro e w5 ⟨rfl, rfl⟩
    generalize hL : less (lst ps) (lst qs) = L
    have HL := Lib.hid hL
    clear hL
    go_wp2_with fail
    refine (awakeL hbw4).mono ?_
    rintro e w5 ⟨rfl, hb5⟩
    go_wp2_with fail
    refine (refLess_b A B _ _ ps qs _ hf1 hf2 (hr.belowSize hb5) (hq.belowSize hb5) hn hm).mono ?_
    rintro e w6 ⟨rfl, hb6⟩
    rw [HL.out]
    have hbw6 := Below.step hb5 hb6
    go_wp2_with (at_builtin; refine wpList_append_rowG rfl (.tmp 32) (.tmp 33) 22 rfl el_strs ps.length (xs := []) (news := ps.map .string) rfl rfl (Own.empty w6 9 (Nat.le_refl _)) rfl (by simp) (by simp) (hr.below (hbw6.alloc hbw6.size _)) (strs_one ps) (by simp [maxLen]; omega) (by omega) (by simp) ?_; intro A7 c7 w7 ho hg; obtain ⟨hr7, hb7, ho7⟩ := copy_step ho hg; clear ho hg)
    refine (Put_any _ _ ps _ hr7 hn (by omega)).mono ?_
    rintro e w8 ⟨rfl, hb8⟩
    have hbw8 := Below.step hbw6 (Below.step hb7 hb8)
    go_wp2_with (at_builtin; refine wpList_append_rowG rfl (.tmp 36) (.tmp 37) 22 rfl el_strs qs.length (xs := []) (news := qs.map .string) rfl rfl (Own.empty w8 9 (Nat.le_refl _)) rfl (by simp) (by simp) (hq.below (hbw8.alloc hbw8.size _)) (strs_one qs) (by simp [maxLen]; omega) (by omega) (by simp) ?_; intro A9 c9 w9 ho hg; obtain ⟨hr9, hb9, ho9⟩ := copy_step ho hg; clear ho hg)
    refine (Put_any _ _ qs _ hr9 hm (by omega)).mono ?_
    rintro e w10 ⟨rfl, hb10⟩
    go_wp2_with fail
    refine (Below_puts ps qs _ hl1 hl2).mono ?_
    rintro e w11 ⟨rfl, hb11⟩
    rw [HL.out]
    go_wp2_with fail
    go_ret
    exact ⟨rfl, Below.step hbw8 (Below.step (Below.step hb9 hb10) hb11)⟩
  · by_cases hf1 : Few ps
    · have hf2 : ¬ Few qs := fun h => hf ⟨hf1, h⟩
      go_enter Try.func5, Try.ntmps5
      go_wp2_with fail
      refine (few_yes hf1 hr hn).mono ?_
      rintro e w1 ⟨rfl, hb1⟩
      go_wp2_with fail
      refine (few_not hf2 (hq.belowSize hb1) hm).mono ?_
      rintro e w2 ⟨rfl, hb2⟩
      go_wp2_with fail
      refine (awakeL (Below.step hb1 hb2)).mono ?_
      rintro e w3 ⟨rfl, hb3⟩
      go_wp2_with fail
      go_ret
      exact ⟨rfl, hb3⟩
    · go_enter Try.func5, Try.ntmps5
      go_wp2_with fail
      refine (few_not hf1 hr hn).mono ?_
      rintro e w1 ⟨rfl, hb1⟩
      go_wp2_with fail
      refine (awakeL hb1).mono ?_
      rintro e w3 ⟨rfl, hb3⟩
      go_wp2_with fail
      go_ret
      exact ⟨rfl, hb3⟩

end Go.Proofs.Ytokjddgldaklpaa.KeyLaws
