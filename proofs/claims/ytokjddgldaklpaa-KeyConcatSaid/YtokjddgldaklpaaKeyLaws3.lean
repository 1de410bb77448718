/- The last statements of layer 1, walked. -/
import Derived.Test.YtokjddgldaklpaaKeyLaws2
namespace Go.Proofs.Ytokjddgldaklpaa.KeyLaws
open Go.RowKit KeyPlain Base KeyRead KeyNum KeyPut KeyGet KeyRef KeyAwake
theorem after_len {s a : List UInt8} (h : after s = some a) : a.length ≤ s.length := by
  induction s generalizing a with
  | nil => simp [after] at h
  | cons c l ih =>
    cases e : after l with
    | some r =>
      simp only [after, e, Option.some.injEq] at h
      subst h
      have := ih e
      simp; omega
    | none =>
      by_cases hc : c = 255
      · simp [after, e, hc] at h
      · simp only [after, e, if_neg hc, Option.some.injEq] at h
        subst h
        simp

set_option maxHeartbeats 1000000 in
theorem KeyMiddle_walk (A B : Option Addr) (c d : Nat) (ps qs : List ByteArray) (w : World) (hr : Row w w.heap.size A (ps.map .string)) (hq : Row w w.heap.size B (qs.map .string)) (hn : ps.length ≤ maxLen) (hm : qs.length ≤ maxLen) (_hnc : ps.length ≤ c) (_hmd : qs.length ≤ d) :
    Calls Try.prog 9 #[.slice A ps.length c, .slice B qs.length d] w (Law w) := by
  by_cases hf : Few ps ∧ Few qs ∧ ps ≠ []
  · obtain ⟨hf1, hf2, hne⟩ := hf
    have h0 : ((ps.length : Int) == 0) = false := by
      simp
      exact hne
    have hl1 := hf1.len
    have hl2 := hf2.len
    have hn1 := hf1.2
    have hn2 := hf2.2
    obtain ⟨x, hx⟩ := str_of (kput (lst ps))
    obtain ⟨z, hz⟩ := str_of (kput (lst qs))
    obtain ⟨y, hy⟩ := str_of (kput (lst (ps ++ qs)))
    have hxs : x.size ≤ 8040 := by rw [size_of hx]; omega
    have hzs : z.size ≤ 8040 := by rw [size_of hz]; omega
    have hyxz : y = x ++ z := ba_ext (by rw [append_data, hy, hx, hz, lst_append, kput_append])
    have hys : y.size ≤ 16080 := by rw [hyxz, size_of (append_data x z), List.length_append, ba_len, ba_len]; omega
    have hpre : x.data.toList <+: y.data.toList := ⟨z.data.toList, by rw [hyxz, append_data]⟩
    have hmx : ps.length + qs.length ≤ maxLen := by simp [maxLen]; omega
    have HX := Lib.hid hx
    have HY := Lib.hid hy
    have HPRE := Lib.hid hpre
    clear hpre
    obtain ⟨zl, hzl⟩ := kput_after (a := lst ps) (fun g => hne (lst_inj (g.trans rfl)))
    obtain ⟨v, hv⟩ := str_of zl
    have hsp := after_spec hzl y.data.toList
    rw [← hx, decide_eq_true HPRE.out, Bool.and_eq_true] at hsp
    have HAF := Lib.hid (show after x.data.toList = some v.data.toList by rw [hx, hv]; exact hzl)
    have HB1 := Lib.hid (show Op.bytesLess y.data.toList x.data.toList = false by simpa using hsp.1)
    have HB2 := Lib.hid (show Op.bytesLess y.data.toList v.data.toList = true by rw [hv]; exact hsp.2)
    have hvs : v.size ≤ 1000000 := by
      have h1 : zl.length ≤ (kput (lst ps)).length := after_len hzl
      rw [size_of hv]; omega
    clear hx hy hz hyxz hsp hzl hv hne
    go_enter Try.func9, Try.ntmps9
    go_wp2_with fail
    refine (few_yes hf1 hr hn).mono ?_
    rintro e w1 ⟨rfl, hb1⟩
    go_wp2_with fail
    refine (few_yes hf2 (hq.belowSize hb1) hm).mono ?_
    rintro e w2 ⟨rfl, hb2⟩
    have hbw2 := Below.step hb1 hb2
    go_wp2_with (at_builtin; refine wpList_append_rowG rfl (.tmp 23) (.tmp 24) 22 rfl el_strs ps.length (xs := []) (news := ps.map .string) rfl rfl (Own.empty w2 9 (Nat.le_refl _)) rfl (by simp) (by simp) (hr.below (hbw2.alloc hbw2.size _)) (strs_one ps) (by simp [maxLen]; omega) (by omega) (by simp) ?_; intro A3 c3 w3 ho hg; obtain ⟨hr3, hb3, ho3⟩ := copy_step ho hg; clear ho hg)
    refine (Put_s _ _ _ ps x _ hr3 rfl hn (by omega) HX.out).mono ?_
    rintro e w4 ⟨rfl, hb4⟩
    have hbw4 := Below.step hbw2 (Below.step hb3 hb4)
    go_wp2_with (first | (at_builtin; refine wpList_append_rowG rfl (.tmp 27) (.tmp 28) 22 rfl el_strs ps.length (xs := []) (news := ps.map .string) rfl rfl (Own.empty w4 9 (Nat.le_refl _)) rfl (by simp) (by simp) (hr.below (hbw4.alloc hbw4.size _)) (strs_one ps) (by simp [maxLen]; omega) (by omega) (by simp) ?_; intro A5 c5 w5 ho hg; obtain ⟨hr5, hb5, ho5⟩ := copy_step ho hg; clear ho hg) | (at_builtin; refine wpList_append_rowG rfl (.tmp 29) (.tmp 30) 22 rfl el_strs (ps.length + qs.length) (A := A5) (c := c5) (xs := ps.map .string) (news := qs.map .string) rfl (by simp) ho5 rfl (by simp) (by simp) (hq.below (Below.step hbw4 hb5)) (strs_one qs) (by simp [maxLen]; omega) (by omega) hb5.size ?_; intro A6 c6 w6 ho hg; have hb56 : Below w4.heap.size w4 w6 := ho5.below hb5 hg (Nat.le_refl _) hb5.size; obtain ⟨hr6, hb6⟩ := two_step hbw4.size (Below.step hbw4 hb5) hb5.size ho5 ho hg; clear ho hg))
    refine (Put_s _ _ _ (ps ++ qs) y _ hr6 (by simp) hmx (by omega) HY.out).mono ?_
    rintro e w7 ⟨rfl, hb7⟩
    have hbw7 := Below.step hb6 hb7
    go_wp2_with fail
    refine (After_b x v _ (by omega) HAF.out).mono ?_
    rintro e w8 ⟨rfl, hb8⟩
    go_wp2_with fail
    refine (awakeL (Below.step hbw7 hb8)).mono ?_
    rintro e w9 ⟨rfl, hb9⟩
    go_wp2_with fail
    refine (Below_b y x false _ (by omega) (by omega) HB1.out).mono ?_
    rintro e w10 ⟨rfl, hb10⟩
    go_wp2_with fail
    refine (Below_b y v true _ (by omega) (by omega) HB2.out).mono ?_
    rintro e w11 ⟨rfl, hb11⟩
    go_wp2_with fail
    go_ret
    exact ⟨rfl, Below.step hb9 (Below.step hb10 hb11)⟩
  · by_cases hf1 : Few ps
    · by_cases hf2 : Few qs
      · obtain rfl : ps = [] := by
          by_cases g : ps = []
          · exact g
          · exact absurd ⟨hf1, hf2, g⟩ hf
        go_enter Try.func9, Try.ntmps9
        go_wp2_with fail
        refine (few_yes hf1 hr hn).mono ?_
        rintro e w1 ⟨rfl, hb1⟩
        go_wp2_with fail
        refine (few_yes hf2 (hq.belowSize hb1) hm).mono ?_
        rintro e w2 ⟨rfl, hb2⟩
        go_wp2_with fail
        refine (awakeL (Below.step hb1 hb2)).mono ?_
        rintro e w3 ⟨rfl, hb3⟩
        go_wp2_with fail
        go_ret
        exact ⟨rfl, hb3⟩
      · go_enter Try.func9, Try.ntmps9
        go_wp2_with fail
        refine (few_yes hf1 hr hn).mono ?_
        rintro e w1 ⟨rfl, hb1⟩
        go_wp2_with fail
        refine (few_not hf2 (hq.belowSize hb1) hm).mono ?_
        rintro e w2 ⟨rfl, hb2⟩
        go_wp2_with fail
        refine (awakeL (Below.step hb1 hb2)).mono ?_
        rintro e w3 ⟨rfl, hb3⟩
        go_wp2_with fail
        go_ret
        exact ⟨rfl, hb3⟩
    · go_enter Try.func9, Try.ntmps9
      go_wp2_with fail
      refine (few_not hf1 hr hn).mono ?_
      rintro e w1 ⟨rfl, hb1⟩
      go_wp2_with fail
      refine (awakeL hb1).mono ?_
      rintro e w3 ⟨rfl, hb3⟩
      go_wp2_with fail
      go_ret
      exact ⟨rfl, hb3⟩

def all255 (l : List UInt8) : Bool := l.all fun c => decide (c = 255)
theorem all255_yes {l : List UInt8} (h : ∀ c ∈ l, c = 255) : all255 l = true := by simpa [all255] using h
theorem all255_no {l : List UInt8} (h : ¬ ∀ c ∈ l, c = 255) : all255 l = false := by
  rw [← Bool.not_eq_true]; intro g; exact h (by simpa [all255] using g)
theorem none_step (s : ByteArray) (k : Nat) (h1 : k < s.size) (o : Bool) (h : o = all255 (s.data.toList.take k)) : (if o = true then decide (s[k] = 255) else false) = all255 (s.data.toList.take (k + 1)) := by
  rw [ba_take_snoc s k h1]
  unfold all255 at h ⊢
  rw [List.all_append, ← h]
  cases o <;> simp

set_option maxHeartbeats 1000000 in
theorem KeyAfter_walk (s t : ByteArray) (w : World) : Calls Try.prog 7 #[.string s, .string t] w (Law w) := by
  by_cases h1 : s.size ≤ 300
  · by_cases h2 : t.size ≤ 300
    · have hcase : ∃ (a : ByteArray) (ok : Bool), (∀ W : World, Calls Try.prog 24 #[.string s] W fun e w' => e = .returned (.tuple #[.string a, .bool ok]) ∧ Below W.heap.size W w') ∧ a.size ≤ 300 ∧ ok = !all255 s.data.toList ∧
          (ok = true → (!Op.bytesLess t.data.toList s.data.toList && Op.bytesLess t.data.toList a.data.toList) = decide (s.data.toList <+: t.data.toList)) ∧ (ok = false → a = ⟨#[]⟩) := by
        cases e : after s.data.toList with
        | none =>
          refine ⟨⟨#[]⟩, false, fun W => After_n s W (by omega) e, by simp [ByteArray.size], ?_, by simp, fun _ => rfl⟩
          rw [all255_yes ((after_none_iff _).1 e)]; rfl
        | some zl =>
          obtain ⟨a, ha⟩ := str_of zl
          refine ⟨a, true, fun W => After_b s a W (by omega) (by rw [ha]; exact e), ?_, ?_, ?_, by simp⟩
          · rw [size_of ha]
            have := after_len e
            rw [ba_len] at this
            omega
          · rw [all255_no]; rfl
            intro g
            rw [(after_none_iff _).2 g] at e
            cases e
          · intro _
            rw [ha]; exact after_spec e t.data.toList
      obtain ⟨a, ok, hA, has, hok, hyes, hno⟩ := hcase
      have HA := Lib.hid hA
      have HOK := Lib.hid hok
      have HYES := Lib.hid hyes
      have HNO := Lib.hid hno
      clear hA hok hyes hno
      go_enter Try.func7, Try.ntmps7
      go_wp2_with fail
      refine (HA.out _).mono ?_
      rintro e w1 ⟨rfl, hb1⟩
      go_wp2_with fail
      go_loop [7, 8] (fun v i => ∃ (k : Nat) (o : Bool), k ≤ s.size ∧ i = .int .i64 k ∧ v = .bool o ∧ o = all255 (s.data.toList.take k)) (fun _ i => s.size - (intOf i).toNat)
      case atStart => exact ⟨0, true, by omega, rfl, rfl, rfl⟩
      case round =>
        obtain ⟨k, o, hk, rfl, rfl, ho⟩ := hrel
        by_cases hlt : k < s.size
        · have HS := Lib.hid (none_step s k hlt o ho)
          clear ho
          cases o with
          | true =>
            by_cases hc : s[k] = 255
            · have hcb : ((s[k].toNat : Int) == 255) = true := beq_of s[k] 255 hc
              have HS2 := Lib.hid (HS.out.symm.trans (show _ = true by simp [hc]))
              clear HS hc
              go_wp2_with fail
              go_round
              case rel => exact ⟨k + 1, true, by omega, by go_num, rfl, HS2.out.symm⟩
              case measure => simp [intOf]; omega
            · have hcb : ((s[k].toNat : Int) == 255) = false := beq_no s[k] 255 hc
              have HS2 := Lib.hid (HS.out.symm.trans (show _ = false by simp [hc]))
              clear HS hc
              go_wp2_with fail
              go_round
              case rel => exact ⟨k + 1, false, by omega, by go_num, rfl, HS2.out.symm⟩
              case measure => simp [intOf]; omega
          | false =>
            have HS2 := Lib.hid (HS.out.symm.trans (show _ = false by simp))
            clear HS
            go_wp2_with fail
            go_round
            case rel => exact ⟨k + 1, false, by omega, by go_num, rfl, HS2.out.symm⟩
            case measure => simp [intOf]; omega
        · rw [List.take_of_length_le (l := s.data.toList) (by rw [ba_len]; omega)] at ho
          have hoo : ok = !o := HOK.out.trans (by rw [ho])
          clear ho
          cases o with
          | true =>
            obtain rfl : ok = false := hoo
            obtain rfl := HNO.out rfl
            go_wp2_with fail
            refine (awakeL hb1).mono ?_
            rintro e w2 ⟨rfl, hb2⟩
            go_wp2_with fail
            go_ret
            exact ⟨rfl, hb2⟩
          | false =>
            obtain rfl : ok = true := hoo
            have hy := HYES.out rfl
            obtain ⟨b1, hb1e⟩ : ∃ b, Op.bytesLess t.data.toList s.data.toList = b := ⟨_, rfl⟩
            obtain ⟨b2, hb2e⟩ : ∃ b, Op.bytesLess t.data.toList a.data.toList = b := ⟨_, rfl⟩
            rw [hb1e, hb2e] at hy
            have HB1 := Lib.hid hb1e
            have HB2 := Lib.hid hb2e
            have HY := Lib.hid hy
            clear hb1e hb2e hy
            cases b1 with
            | true =>
              go_wp2_with fail
              refine (Below_b t s true _ (by omega) (by omega) HB1.out).mono ?_
              rintro e w2 ⟨rfl, hb2⟩
              go_wp2_with fail
              refine (awakeL (Below.step hb1 hb2)).mono ?_
              rintro e w3 ⟨rfl, hb3⟩
              go_wp2_with fail
              refine (Begins_b t s false _ HY.out.symm).mono ?_
              rintro e w4 ⟨rfl, rfl⟩
              go_wp2_with fail
              go_ret
              exact ⟨rfl, hb3⟩
            | false =>
              go_wp2_with fail
              refine (Below_b t s false _ (by omega) (by omega) HB1.out).mono ?_
              rintro e w2 ⟨rfl, hb2⟩
              go_wp2_with fail
              refine (Below_b t a b2 _ (by omega) (by omega) HB2.out).mono ?_
              rintro e w3 ⟨rfl, hb3⟩
              go_wp2_with fail
              refine (awakeL (Below.step hb1 (Below.step hb2 hb3))).mono ?_
              rintro e w4 ⟨rfl, hb4⟩
              go_wp2_with fail
              refine (Begins_b t s b2 _ HY.out.symm).mono ?_
              rintro e w5 ⟨rfl, rfl⟩
              go_wp2_with fail
              go_ret
              exact ⟨rfl, hb4⟩
    · go_enter Try.func7, Try.ntmps7
      go_wp2_with fail
      refine (awake_any _).mono ?_
      rintro e w3 ⟨rfl, hb3⟩
      go_wp2_with fail
      go_ret
      exact ⟨rfl, hb3⟩
  · go_enter Try.func7, Try.ntmps7
    go_wp2_with fail
    refine (awake_any _).mono ?_
    rintro e w3 ⟨rfl, hb3⟩
    go_wp2_with fail
    go_ret
    exact ⟨rfl, hb3⟩

end Go.Proofs.Ytokjddgldaklpaa.KeyLaws
