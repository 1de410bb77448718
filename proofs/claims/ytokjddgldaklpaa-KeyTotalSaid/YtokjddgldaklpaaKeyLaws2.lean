/- More statements of layer 1, walked. -/
import Derived.Test.YtokjddgldaklpaaKeyLaws
namespace Go.Proofs.Ytokjddgldaklpaa.KeyLaws
open Go.RowKit KeyPlain Base KeyRead KeyNum KeyPut KeyGet KeyRef KeyAwake

theorem str_of (l : List UInt8) : ∃ x : ByteArray, x.data.toList = l := ⟨⟨l.toArray⟩, by simp⟩
theorem size_of {x : ByteArray} {l : List UInt8} (h : x.data.toList = l) : x.size = l.length := by rw [← ba_len, h]
theorem Begins_b (s t : ByteArray) (b : Bool) (w : World) (h : decide (t.data.toList <+: s.data.toList) = b) :
    Calls Try.prog 23 #[.string s, .string t] w fun e w' => e = .returned (.bool b) ∧ w = w' := by
  subst h; exact Begins_q s t w
theorem Below_b (s t : ByteArray) (b : Bool) (w : World) (hs : s.size ≤ 1000000) (ht : t.size ≤ 1000000) (h : Op.bytesLess s.data.toList t.data.toList = b) :
    Calls Try.prog 22 #[.string s, .string t] w fun e w' => e = .returned (.bool b) ∧ Below w.heap.size w w' := by
  subst h
  exact (Below_q s t w (by simp [maxLen]; omega) (by simp [maxLen]; omega)).mono fun e w' ⟨he, n, hw⟩ => ⟨he, by rw [hw]; exact Base.below_drewN _ _ _⟩
theorem Same_bb (A B : Option Addr) (c d n m : Nat) (ps qs : List ByteArray) (b : Bool) (w : World) (hr : Row w w.heap.size A (ps.map .string)) (hq : Row w w.heap.size B (qs.map .string)) (hn : ps.length = n) (hm : qs.length = m) (hnm : n ≤ maxLen) (hmm : m ≤ maxLen) (h : decide (ps = qs) = b) :
    Calls Try.prog 18 #[.slice A n c, .slice B m d] w fun e w' => e = .returned (.bool b) ∧ Below w.heap.size w w' := by
  subst h hn hm
  exact Same_b A B c d ps qs w hr hq hnm hmm
theorem Less_b (A B : Option Addr) (c d : Nat) (ps qs : List ByteArray) (b : Bool) (w : World) (hr : Row w w.heap.size A (ps.map .string)) (hq : Row w w.heap.size B (qs.map .string)) (hn : ps.length ≤ maxLen) (hm : qs.length ≤ maxLen) (h : less (lst ps) (lst qs) = b) :
    Calls Try.prog 20 #[.slice A ps.length c, .slice B qs.length d] w fun e w' => e = .returned (.bool b) ∧ w = w' := by
  subst h; exact Less_q A B c d ps qs w hr hq hn hm
theorem After_b (s z : ByteArray) (w : World) (hs : s.size ≤ 1000000) (h : after s.data.toList = some z.data.toList) :
    Calls Try.prog 24 #[.string s] w fun e w' => e = .returned (.tuple #[.string z, .bool true]) ∧ Below w.heap.size w w' := by
  refine (After_any s w hs).mono fun e w' ⟨hb, he⟩ => ?_
  rw [h] at he
  exact ⟨he, hb⟩
theorem After_n (s : ByteArray) (w : World) (hs : s.size ≤ 1000000) (h : after s.data.toList = none) :
    Calls Try.prog 24 #[.string s] w fun e w' => e = .returned (.tuple #[.string ⟨#[]⟩, .bool false]) ∧ Below w.heap.size w w' := by
  refine (After_any s w hs).mono fun e w' ⟨hb, he⟩ => ?_
  rw [h] at he
  exact ⟨he, hb⟩
theorem Put_s (A : Option Addr) (c n : Nat) (ps : List ByteArray) (s : ByteArray) (w : World) (hr : Row w w.heap.size A (ps.map .string)) (hn : ps.length = n) (hnm : n ≤ maxLen) (hsz : s.size ≤ 300000) (h : s.data.toList = kput (lst ps)) :
    Calls Try.prog 15 #[.slice A n c] w fun e w' => e = .returned (.string s) ∧ Below w.heap.size w w' := by
  subst hn; exact Put_back A c ps s w hr hnm hsz h
theorem beq_kput {x y : ByteArray} {ps qs : List ByteArray} (hx : x.data.toList = kput (lst ps)) (hy : y.data.toList = kput (lst qs)) : (x.toList == y.toList) = decide (ps = qs) := by
  rw [ba_beq, decide_eq_decide]
  constructor
  · rintro rfl; exact lst_inj (kput_inj (hx.symm.trans hy))
  · rintro rfl; exact ba_ext (hx.trans hy.symm)
theorem append_data (x y : ByteArray) : (x ++ y).data.toList = x.data.toList ++ y.data.toList := by simp
theorem two_step {w w2 w3 w4 : World} {A3 A4 : Option Addr} {c3 c4 : Nat} {ps qs : List ByteArray} (hb2 : w.heap.size ≤ w2.heap.size) (hb3 : Below w.heap.size w w3) (h23 : w2.heap.size ≤ w3.heap.size) (ho3 : Own w3 w2.heap.size 9 A3 c3 (ps.map .string))
    (ho : Own w4 w2.heap.size 9 A4 c4 (ps.map .string ++ qs.map .string)) (hg : w3.grownBy w4 (Value.slice A3 (ps.map Value.string).length c3).ownBlock) :
    Row w4 w4.heap.size A4 ((ps ++ qs).map .string) ∧ Below w.heap.size w w4 :=
  ⟨by rw [List.map_append]; exact ho.row, ho3.below hb3 hg hb2 h23⟩

set_option maxHeartbeats 1000000 in
theorem KeyApart_walk (A B : Option Addr) (c d : Nat) (ps qs : List ByteArray) (w : World) (hr : Row w w.heap.size A (ps.map .string)) (hq : Row w w.heap.size B (qs.map .string)) (hn : ps.length ≤ maxLen) (hm : qs.length ≤ maxLen) (_hnc : ps.length ≤ c) (_hmd : qs.length ≤ d) :
    Calls Try.prog 11 #[.slice A ps.length c, .slice B qs.length d] w (Law w) := by
  by_cases hf : Few ps ∧ Few qs
  · obtain ⟨hf1, hf2⟩ := hf
    have hl1 := hf1.len
    have hl2 := hf2.len
    have hn1 := hf1.2
    have hn2 := hf2.2
    go_enter Try.func11, Try.ntmps11
    go_wp2_with fail
    refine (few_yes hf1 hr hn).mono ?_
    rintro e w1 ⟨rfl, hb1⟩
    go_wp2_with fail
    refine (few_yes hf2 (hq.belowSize hb1) hm).mono ?_
    rintro e w2 ⟨rfl, hb2⟩
    have hbw2 := Below.step hb1 hb2
    obtain ⟨x, hx⟩ := str_of (kput (lst ps))
    obtain ⟨y, hy⟩ := str_of (kput (lst qs))
    have hxs : x.size ≤ 300000 := by rw [size_of hx]; omega
    have hys : y.size ≤ 300000 := by rw [size_of hy]; omega
    have HE := Lib.hid (beq_kput hx hy)
    have HX := Lib.hid hx
    have HY := Lib.hid hy
    clear hx hy
    go_wp2_with (at_builtin; refine wpList_append_rowG rfl (.tmp 16) (.tmp 17) 22 rfl el_strs ps.length (xs := []) (news := ps.map .string) rfl rfl (Own.empty w2 9 (Nat.le_refl _)) rfl (by simp) (by simp) (hr.below (hbw2.alloc hbw2.size _)) (strs_one ps) (by simp [maxLen]; omega) (by omega) (by simp) ?_; intro A3 c3 w3 ho hg; obtain ⟨hr3, hb3, ho3⟩ := copy_step ho hg; clear ho hg)
    refine (Put_s _ _ _ ps x _ hr3 rfl hn hxs HX.out).mono ?_
    rintro e w4 ⟨rfl, hb4⟩
    have hbw4 := Below.step hbw2 (Below.step hb3 hb4)
    go_wp2_with (at_builtin; refine wpList_append_rowG rfl (.tmp 20) (.tmp 21) 22 rfl el_strs qs.length (xs := []) (news := qs.map .string) rfl rfl (Own.empty w4 9 (Nat.le_refl _)) rfl (by simp) (by simp) (hq.below (hbw4.alloc hbw4.size _)) (strs_one qs) (by simp [maxLen]; omega) (by omega) (by simp) ?_; intro A5 c5 w5 ho hg; obtain ⟨hr5, hb5, ho5⟩ := copy_step ho hg; clear ho hg)
    refine (Put_s _ _ _ qs y _ hr5 rfl hm hys HY.out).mono ?_
    rintro e w6 ⟨rfl, hb6⟩
    have hbw6 := Below.step hbw4 (Below.step hb5 hb6)
    go_wp2_with fail
    refine (awakeL hbw6).mono ?_
    rintro e w7 ⟨rfl, hb7⟩
    go_wp2_with fail
    refine (Same_bb A B _ _ _ _ ps qs (x.toList == y.toList) _ (hr.belowSize hb7) (hq.belowSize hb7) rfl rfl hn hm HE.out.symm).mono ?_
    rintro e w8 ⟨rfl, hb8⟩
    generalize (x.toList == y.toList) = o
    go_wp2_with fail
    go_ret
    exact ⟨rfl, Below.step hb7 hb8⟩
  · by_cases hf1 : Few ps
    · have hf2 : ¬ Few qs := fun h => hf ⟨hf1, h⟩
      go_enter Try.func11, Try.ntmps11
      go_wp2_with fail
      refine (few_yes hf1 hr hn).mono ?_
      rintro e w1 ⟨rfl, hb1⟩
      go_wp2_with fail
      refine (few_not hf2 (hq.belowSize hb1) hm).mono ?_
      rintro e w2 ⟨rfl, hb2⟩
      go_wp2_with fail
      refine (awakeL (Below.step hb1 hb2)).mono ?_
      rintro e w3 ⟨rfl, hb3⟩
      go_wp2_with fail
      go_ret
      exact ⟨rfl, hb3⟩
    · go_enter Try.func11, Try.ntmps11
      go_wp2_with fail
      refine (few_not hf1 hr hn).mono ?_
      rintro e w1 ⟨rfl, hb1⟩
      go_wp2_with fail
      refine (awakeL hb1).mono ?_
      rintro e w3 ⟨rfl, hb3⟩
      go_wp2_with fail
      go_ret
      exact ⟨rfl, hb3⟩

set_option maxHeartbeats 1000000 in
theorem KeyConcat_walk (A B : Option Addr) (c d : Nat) (ps qs : List ByteArray) (w : World) (hr : Row w w.heap.size A (ps.map .string)) (hq : Row w w.heap.size B (qs.map .string)) (hn : ps.length ≤ maxLen) (hm : qs.length ≤ maxLen) (_hnc : ps.length ≤ c) (_hmd : qs.length ≤ d) :
    Calls Try.prog 12 #[.slice A ps.length c, .slice B qs.length d] w (Law w) := by
  by_cases hf : Few ps ∧ Few qs
  · obtain ⟨hf1, hf2⟩ := hf
    have hl1 := hf1.len
    have hl2 := hf2.len
    have hn1 := hf1.2
    have hn2 := hf2.2
    go_enter Try.func12, Try.ntmps12
    go_wp2_with fail
    refine (few_yes hf1 hr hn).mono ?_
    rintro e w1 ⟨rfl, hb1⟩
    go_wp2_with fail
    refine (few_yes hf2 (hq.belowSize hb1) hm).mono ?_
    rintro e w2 ⟨rfl, hb2⟩
    have hbw2 := Below.step hb1 hb2
    obtain ⟨x, hx⟩ := str_of (kput (lst ps))
    obtain ⟨y, hy⟩ := str_of (kput (lst qs))
    have hxs : x.size ≤ 8040 := by rw [size_of hx]; omega
    have hys : y.size ≤ 8040 := by rw [size_of hy]; omega
    have HXY := Lib.hid (show (x ++ y).data.toList = kput (lst (ps ++ qs)) by rw [append_data, hx, hy, lst_append, kput_append])
    have hxys : (x ++ y).size ≤ 1000000 := by rw [size_of (append_data x y), List.length_append, ba_len, ba_len]; omega
    have hlen : (ps ++ qs).length = ps.length + qs.length := List.length_append
    have HLEN := Lib.hid hlen
    have HX := Lib.hid hx
    have HY := Lib.hid hy
    have hmx : ps.length + qs.length ≤ maxLen := by simp [maxLen]; omega
    clear hx hy hlen
    go_wp2_with (at_builtin; refine wpList_append_rowG rfl (.tmp 17) (.tmp 18) 22 rfl el_strs ps.length (xs := []) (news := ps.map .string) rfl rfl (Own.empty w2 9 (Nat.le_refl _)) rfl (by simp) (by simp) (hr.below (hbw2.alloc hbw2.size _)) (strs_one ps) (by simp [maxLen]; omega) (by omega) (by simp) ?_; intro A3 c3 w3 ho hg; obtain ⟨hr3, hb3, ho3⟩ := copy_step ho hg; clear ho hg)
    refine (Put_s _ _ _ ps x _ hr3 rfl hn (by omega) HX.out).mono ?_
    rintro e w4 ⟨rfl, hb4⟩
    have hbw4 := Below.step hbw2 (Below.step hb3 hb4)
    go_wp2_with (at_builtin; refine wpList_append_rowG rfl (.tmp 21) (.tmp 22) 22 rfl el_strs qs.length (xs := []) (news := qs.map .string) rfl rfl (Own.empty w4 9 (Nat.le_refl _)) rfl (by simp) (by simp) (hq.below (hbw4.alloc hbw4.size _)) (strs_one qs) (by simp [maxLen]; omega) (by omega) (by simp) ?_; intro A5 c5 w5 ho hg; obtain ⟨hr5, hb5, ho5⟩ := copy_step ho hg; clear ho hg)
    refine (Put_s _ _ _ qs y _ hr5 rfl hm (by omega) HY.out).mono ?_
    rintro e w6 ⟨rfl, hb6⟩
    have hbw6 := Below.step hbw4 (Below.step hb5 hb6)
    go_wp2_with fail
    refine (Get_yes (x ++ y) (ps ++ qs) _ hxys HXY.out).mono ?_
    rintro e w7 ⟨A7, c7, rfl, hr7, hb7⟩
    have hbw7 := Below.step hbw6 hb7
    go_wp2_with fail
    refine (awake_any _).mono ?_
    rintro e w8 ⟨rfl, hb8⟩
    have hbw8 := Below.step hbw7 hb8
    go_wp2_with (first | (at_builtin; refine wpList_append_rowG rfl (.tmp 36) (.tmp 37) 22 rfl el_strs ps.length (xs := []) (news := ps.map .string) rfl rfl (Own.empty w8 9 (Nat.le_refl _)) rfl (by simp) (by simp) (hr.below (hbw8.alloc hbw8.size _)) (strs_one ps) (by simp [maxLen]; omega) (by omega) (by simp) ?_; intro A9 c9 w9 ho hg; obtain ⟨hr9, hb9, ho9⟩ := copy_step ho hg; clear ho hg) | (at_builtin; refine wpList_append_rowG rfl (.tmp 38) (.tmp 39) 22 rfl el_strs (ps.length + qs.length) (A := A9) (c := c9) (xs := ps.map .string) (news := qs.map .string) rfl (by simp) ho9 rfl (by simp) (by simp) (hq.below (Below.step hbw8 hb9)) (strs_one qs) (by simp [maxLen]; omega) (by omega) hb9.size ?_; intro A10 c10 w10 ho hg; have hb910 : Below w8.heap.size w8 w10 := ho9.below hb9 hg (Nat.le_refl _) hb9.size; obtain ⟨hr10, hb10⟩ := two_step hbw8.size (Below.step hbw8 hb9) hb9.size ho9 ho hg; clear ho hg))
    refine (Same_bb A7 A10 _ _ _ _ (ps ++ qs) (ps ++ qs) true _ ((hr7.belowSize hb8).belowSize hb910) hr10 (by simp) (by simp) hmx hmx (by simp)).mono ?_
    rintro e w11 ⟨rfl, hb11⟩
    go_wp2_with fail
    go_ret
    exact ⟨rfl, Below.step hb10 hb11⟩
  · by_cases hf1 : Few ps
    · have hf2 : ¬ Few qs := fun h => hf ⟨hf1, h⟩
      go_enter Try.func12, Try.ntmps12
      go_wp2_with fail
      refine (few_yes hf1 hr hn).mono ?_
      rintro e w1 ⟨rfl, hb1⟩
      go_wp2_with fail
      refine (few_not hf2 (hq.belowSize hb1) hm).mono ?_
      rintro e w2 ⟨rfl, hb2⟩
      go_wp2_with fail
      refine (awakeL (Below.step hb1 hb2)).mono ?_
      rintro e w3 ⟨rfl, hb3⟩
      go_wp2_with fail
      go_ret
      exact ⟨rfl, hb3⟩
    · go_enter Try.func12, Try.ntmps12
      go_wp2_with fail
      refine (few_not hf1 hr hn).mono ?_
      rintro e w1 ⟨rfl, hb1⟩
      go_wp2_with fail
      refine (awakeL hb1).mono ?_
      rintro e w3 ⟨rfl, hb3⟩
      go_wp2_with fail
      go_ret
      exact ⟨rfl, hb3⟩

set_option maxHeartbeats 1000000 in
theorem KeyBegins_walk (A B : Option Addr) (c d : Nat) (ps qs : List ByteArray) (w : World) (hr : Row w w.heap.size A (ps.map .string)) (hq : Row w w.heap.size B (qs.map .string)) (hn : ps.length ≤ maxLen) (hm : qs.length ≤ maxLen) (_hnc : ps.length ≤ c) (_hmd : qs.length ≤ d) :
    Calls Try.prog 6 #[.slice A ps.length c, .slice B qs.length d] w (Law w) := by
  by_cases hf : Few ps ∧ Few qs
  · obtain ⟨hf1, hf2⟩ := hf
    have hl1 := hf1.len
    have hl2 := hf2.len
    have hn1 := hf1.2
    have hn2 := hf2.2
    obtain ⟨x, hx⟩ := str_of (kput (lst ps))
    obtain ⟨z, hz⟩ := str_of (kput (lst qs))
    obtain ⟨y, hy⟩ := str_of (kput (lst (ps ++ qs)))
    have hxs : x.size ≤ 8040 := by rw [size_of hx]; omega
    have hzs : z.size ≤ 8040 := by rw [size_of hz]; omega
    have hyxz : y = x ++ z := ba_ext (by rw [append_data, hy, hx, hz, lst_append, kput_append])
    have hys : y.size ≤ 16080 := by rw [hyxz, size_of (append_data x z), List.length_append, ba_len, ba_len]; omega
    have hpre : x.data.toList <+: y.data.toList := ⟨z.data.toList, by rw [hyxz, append_data]⟩
    have heq : (y.toList == (x ++ z).toList) = true := by rw [hyxz]; simp
    have hmx : ps.length + qs.length ≤ maxLen := by simp [maxLen]; omega
    have HX := Lib.hid hx
    have HY := Lib.hid hy
    have HZ := Lib.hid hz
    have HPRE := Lib.hid hpre
    clear hpre
    have hbeg : ∃ S : Bool, decide (x.data.toList <+: z.data.toList) = S ∧ ((ps.length ≤ qs.length ∧ decide (ps = qs.take ps.length) = S) ∨ (¬ ps.length ≤ qs.length ∧ S = false)) := by
      refine ⟨_, rfl, ?_⟩
      rw [hx, hz]
      by_cases g : ps.length ≤ qs.length
      · exact .inl ⟨g, begins_take ps qs⟩
      · exact .inr ⟨g, begins_long g⟩
    obtain ⟨S, hS, hcase⟩ := hbeg
    have HS := Lib.hid hS
    clear hx hy hz hyxz hS
    go_enter Try.func6, Try.ntmps6
    go_wp2_with fail
    refine (few_yes hf1 hr hn).mono ?_
    rintro e w1 ⟨rfl, hb1⟩
    go_wp2_with fail
    refine (few_yes hf2 (hq.belowSize hb1) hm).mono ?_
    rintro e w2 ⟨rfl, hb2⟩
    have hbw2 := Below.step hb1 hb2
    go_wp2_with (at_builtin; refine wpList_append_rowG rfl (.tmp 18) (.tmp 19) 22 rfl el_strs ps.length (xs := []) (news := ps.map .string) rfl rfl (Own.empty w2 9 (Nat.le_refl _)) rfl (by simp) (by simp) (hr.below (hbw2.alloc hbw2.size _)) (strs_one ps) (by simp [maxLen]; omega) (by omega) (by simp) ?_; intro A3 c3 w3 ho hg; obtain ⟨hr3, hb3, ho3⟩ := copy_step ho hg; clear ho hg)
    refine (Put_s _ _ _ ps x _ hr3 rfl hn (by omega) HX.out).mono ?_
    rintro e w4 ⟨rfl, hb4⟩
    have hbw4 := Below.step hbw2 (Below.step hb3 hb4)
    go_wp2_with (first | (at_builtin; refine wpList_append_rowG rfl (.tmp 22) (.tmp 23) 22 rfl el_strs ps.length (xs := []) (news := ps.map .string) rfl rfl (Own.empty w4 9 (Nat.le_refl _)) rfl (by simp) (by simp) (hr.below (hbw4.alloc hbw4.size _)) (strs_one ps) (by simp [maxLen]; omega) (by omega) (by simp) ?_; intro A5 c5 w5 ho hg; obtain ⟨hr5, hb5, ho5⟩ := copy_step ho hg; clear ho hg) | (at_builtin; refine wpList_append_rowG rfl (.tmp 24) (.tmp 25) 22 rfl el_strs (ps.length + qs.length) (A := A5) (c := c5) (xs := ps.map .string) (news := qs.map .string) rfl (by simp) ho5 rfl (by simp) (by simp) (hq.below (Below.step hbw4 hb5)) (strs_one qs) (by simp [maxLen]; omega) (by omega) hb5.size ?_; intro A6 c6 w6 ho hg; have hb56 : Below w4.heap.size w4 w6 := ho5.below hb5 hg (Nat.le_refl _) hb5.size; obtain ⟨hr6, hb6⟩ := two_step hbw4.size (Below.step hbw4 hb5) hb5.size ho5 ho hg; clear ho hg))
    refine (Put_s _ _ _ (ps ++ qs) y _ hr6 (by simp) hmx (by omega) HY.out).mono ?_
    rintro e w7 ⟨rfl, hb7⟩
    have hbw7 := Below.step hb6 hb7
    go_wp2_with (at_builtin; refine wpList_append_rowG rfl (.tmp 28) (.tmp 29) 22 rfl el_strs qs.length (xs := []) (news := qs.map .string) rfl rfl (Own.empty w7 9 (Nat.le_refl _)) rfl (by simp) (by simp) (hq.below (hbw7.alloc hbw7.size _)) (strs_one qs) (by simp [maxLen]; omega) (by omega) (by simp) ?_; intro A8 c8 w8 ho hg; obtain ⟨hr8, hb8, ho8⟩ := copy_step ho hg; clear ho hg)
    refine (Put_s _ _ _ qs z _ hr8 rfl hm (by omega) HZ.out).mono ?_
    rintro e w9 ⟨rfl, hb9⟩
    have hbw9 := Below.step hbw7 (Below.step hb8 hb9)
    rcases hcase with ⟨hle, hSe⟩ | ⟨hle, hSf⟩
    · have HSE := Lib.hid hSe
      clear hSe
      go_wp2_with fail
      refine (Same_bb A B _ _ _ _ ps (qs.take ps.length) S _ (hr.belowSize hbw9) (by rw [List.map_take]; exact (hq.belowSize hbw9).take _) rfl (by rw [List.length_take]; omega) hn hn HSE.out).mono ?_
      rintro e w10 ⟨rfl, hb10⟩
      go_wp2_with fail
      refine (awakeL (Below.step hbw9 hb10)).mono ?_
      rintro e w11 ⟨rfl, hb11⟩
      go_wp2_with fail
      refine (Begins_b y x true _ (decide_eq_true HPRE.out)).mono ?_
      rintro e w12 ⟨rfl, rfl⟩
      go_wp2_with fail
      refine (Begins_b z x S _ HS.out).mono ?_
      rintro e w12 ⟨rfl, rfl⟩
      go_wp2_with fail
      go_ret
      exact ⟨rfl, hb11⟩
    · subst hSf
      go_wp2_with fail
      refine (awakeL hbw9).mono ?_
      rintro e w11 ⟨rfl, hb11⟩
      go_wp2_with fail
      refine (Begins_b y x true _ (decide_eq_true HPRE.out)).mono ?_
      rintro e w12 ⟨rfl, rfl⟩
      go_wp2_with fail
      refine (Begins_b z x false _ HS.out).mono ?_
      rintro e w12 ⟨rfl, rfl⟩
      go_wp2_with fail
      go_ret
      exact ⟨rfl, hb11⟩
  · by_cases hf1 : Few ps
    · have hf2 : ¬ Few qs := fun h => hf ⟨hf1, h⟩
      go_enter Try.func6, Try.ntmps6
      go_wp2_with fail
      refine (few_yes hf1 hr hn).mono ?_
      rintro e w1 ⟨rfl, hb1⟩
      go_wp2_with fail
      refine (few_not hf2 (hq.belowSize hb1) hm).mono ?_
      rintro e w2 ⟨rfl, hb2⟩
      go_wp2_with fail
      refine (awakeL (Below.step hb1 hb2)).mono ?_
      rintro e w3 ⟨rfl, hb3⟩
      go_wp2_with fail
      go_ret
      exact ⟨rfl, hb3⟩
    · go_enter Try.func6, Try.ntmps6
      go_wp2_with fail
      refine (few_not hf1 hr hn).mono ?_
      rintro e w1 ⟨rfl, hb1⟩
      go_wp2_with fail
      refine (awakeL hb1).mono ?_
      rintro e w3 ⟨rfl, hb3⟩
      go_wp2_with fail
      go_ret
      exact ⟨rfl, hb3⟩

end Go.Proofs.Ytokjddgldaklpaa.KeyLaws
