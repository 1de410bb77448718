/- The contracts of Grow (of nil) and Concat. -/
import Derived.Test.YtffbmabhlgfjkaaFreeMem
import Derived.Lib.AppendZeros
import Derived.OwnWalk
namespace Go.Proofs.Ytffbmabhlgfjkaa.FreeCat
open Go.RowKit Base FreePlain FreeMem

theorem grow_run (W : World) (n : Nat) (h0 : 0 < n) (hn : n ≤ 1000000) :
    ∃ c w', (Builtin.append_ #[22, 3] 22 #[.slice none 0 0, .int .i64 n]).run Try.prog W = .ok (.slice (some ⟨W.heap.size, 0, none⟩) n c) w' ∧ c ≤ 9223372036854775807 ∧ OwnF w' W.heap.size (some ⟨W.heap.size, 0, none⟩) c [] ∧ Below W.heap.size W w' := by
  obtain ⟨i, i1, i2, i3, i4⟩ := info_parts info_f
  have hr := Lib.run_append_nil_zeros (P := Try.prog) W 22 3 22 25 i _ .i64 .i64 under_f Try.underlying3 i1 i2 n h0 (by omega) (by omega) (by rw [i4]; omega)
  have hc := grownCap_le_maxLen W n 0 25 (by simp [maxLen]; omega)
  have hg := grownCap_ge W n 0 25
  refine ⟨_, _, hr, by simpa [maxLen] using hc, ⟨rfl, .inr ⟨W.heap.size, _, _, rfl, Nat.le_refl _, heap_alloc_new W.drew _, Nat.zero_le _, hc, ?_, by simp [fr]⟩⟩, ⟨rfl, rfl, rfl, by simp, fun _ hk => heap_alloc_old W.drew _ hk⟩⟩
  simp only [Array.size_append, size_zeroCells, Value.cells, ← Nat.add_mul]
  rw [Nat.add_sub_cancel' hg]
  rfl
theorem grow_any (W : World) (n : Nat) (hn : n ≤ 1000000) : Calls Try.prog 40 #[.slice none 0 0, .int .i64 n] W fun e w' => ∃ A c, e = .returned (.slice A 0 c) ∧ OwnF w' W.heap.size A c [] ∧ Below W.heap.size W w' := by
  rcases Nat.eq_zero_or_pos n with rfl | h0
  · have h1 := OwnF.nil W W.heap.size
    go_enter Try.func40, Try.ntmps40
    go_wp2_with fail
    go_ret
    exact ⟨_, _, rfl, h1, Below.refl _ _⟩
  · obtain ⟨c, w', hrun, hc, hown, hb⟩ := grow_run W n h0 hn
    go_enter Try.func40, Try.ntmps40
    go_wp2_with (at_builtin; refine FreeMem.wpList_append_run rfl (.tmp 20) (.tmp 21) 22 3 rfl rfl rfl hrun ?_)
    go_ret
    exact ⟨_, _, rfl, hown, hb⟩
/-- a piece -/
abbrev Pc := Option Addr × Nat × Fs
def pcv (p : Pc) : Value := .slice p.1 p.2.2.length p.2.1
def tot (ps : List Pc) : Nat := (ps.map fun p => p.2.2.length).sum
def all (ps : List Pc) : Fs := (ps.map fun p => p.2.2).flatten
theorem all_len : ∀ ps : List Pc, (all ps).length = tot ps
  | [] => rfl
  | p :: ps => by
    have := all_len ps
    simp only [all, tot, List.map_cons, List.flatten_cons, List.length_append, List.sum_cons] at this ⊢
    omega
theorem tot_take {ps : List Pc} {k : Nat} (h : k < ps.length) : tot (ps.take (k + 1)) = tot (ps.take k) + (ps[k]).2.2.length := by
  rw [List.take_succ_eq_append_getElem h]
  simp only [tot, List.map_append, List.map_cons, List.map_nil, List.sum_append, List.sum_cons, List.sum_nil]
  omega
theorem all_take {ps : List Pc} {k : Nat} (h : k < ps.length) : all (ps.take (k + 1)) = all (ps.take k) ++ (ps[k]).2.2 := by
  rw [List.take_succ_eq_append_getElem h]
  simp only [all, List.map_append, List.map_cons, List.map_nil, List.flatten_append, List.flatten_cons, List.flatten_nil, List.append_nil]
theorem tot_le : ∀ (ps : List Pc) (k : Nat), tot (ps.take k) ≤ tot ps
  | [], k => by simp [tot]
  | p :: ps, 0 => by simp [tot]
  | p :: ps, k + 1 => by
    have := tot_le ps k
    simp only [tot, List.take_succ_cons, List.map_cons, List.sum_cons] at this ⊢
    omega
set_option maxRecDepth 100000 in
set_option maxHeartbeats 1600000 in
theorem concat_any (W : World) (A : Option Addr) (n c : Nat) (ps : List Pc) (hn : n = ps.length) (hr : Row W W.heap.size A (ps.map pcv)) (hp : ∀ p ∈ ps, Row W W.heap.size p.1 (fr p.2.2)) (hl : tot ps ≤ 100000) (hl2 : ps.length ≤ 1000) :
    Calls Try.prog 29 #[.slice A n c] W fun e w' => ∃ A' c', e = .returned (.slice A' (all ps).length c') ∧ OwnF w' W.heap.size A' c' (all ps) ∧ Below W.heap.size W w' := by
  subst hn
  have HR := Lib.hid hr
  have HP := Lib.hid hp
  have HT := Lib.hid hl
  clear hr hp hl
  go_enter Try.func29, Try.ntmps29
  go_wp2_with fail
  go_loopw [3, 5, 11] (fun s _ i wr => ∃ k : Nat, k ≤ ps.length ∧ s = .int .i64 (tot (ps.take k)) ∧ i = .int .i64 k ∧ wr = W) (fun _ _ i _ => ps.length - (intOf i).toNat)
  case atStart => exact ⟨0, by omega, rfl, rfl, rfl⟩
  case round =>
    obtain ⟨k, hk, rfl, rfl, hw⟩ := hrel
    have hw := hw.symm
    subst hw
    have ht := Nat.le_trans (tot_le ps k) HT.out
    by_cases hlt : k < ps.length
    · obtain ⟨ad, hA, hblk, hc⟩ := HR.out.get k (by simpa using hlt)
      subst hA
      have HE := Lib.hid (tot_take hlt)
      have ht2 := Nat.le_trans (tot_le ps (k + 1)) HT.out
      rw [HE.out] at ht2
      simp only [List.getElem_map, pcv] at hc
      generalize (ps[k]).2.2.length = m at *
      generalize (ps[k]).2.1 = ck at *
      generalize (ps[k]).1 = Ak at *
      generalize tot (ps.take k) = t at *
      go_wp2_with fail
      clear hc
      go_roundw
      case rel => exact ⟨k + 1, by omega, by rw [HE.out]; go_num, by go_num, trivial⟩
      case measure => simp [intOf]; omega
    · obtain rfl : k = ps.length := by omega
      have HE := Lib.hid (show tot (ps.take ps.length) = tot ps by rw [List.take_of_length_le (Nat.le_refl _)])
      rw [HE.out] at ht
      rw [HE.out]
      have HN := Lib.hid (all_len ps)
      have HW := Lib.hid (grow_any W (tot ps) (by omega))
      have HK := Lib.hid (fun k => tot_le ps k)
      clear HE
      generalize tot ps = t at *
      have hcall := HW.out
      clear HW
      go_wp2_with (go_at_call 40; refine hcall.mono ?_; rintro e w' ⟨A1, c1, rfl, hown1, hb1⟩)
      clear hcall
      go_loopw [6, 8, 27] (fun s _ i wz => ∃ (k m : Nat) (A' : Option Addr) (c' : Nat), k ≤ ps.length ∧ m = (all (ps.take k)).length ∧ s = .slice A' m c' ∧ i = .int .i64 k ∧ OwnF wz W.heap.size A' c' (all (ps.take k)) ∧ Below W.heap.size W wz) (fun _ _ i _ => ps.length - (intOf i).toNat)
      case atStart => exact ⟨0, 0, A1, c1, by omega, rfl, rfl, rfl, hown1, hb1⟩
      case round =>
        clear hown1 hb1
        obtain ⟨k, m, A2, c2, hk, hm, rfl, rfl, hown, hb⟩ := hrel
        have HM := Lib.hid hm
        clear hm
        by_cases hlt : k < ps.length
        · obtain ⟨ad, hA, hblk, hc⟩ := HR.out.get k (by simpa using hlt)
          subst hA
          have hc' := (hb.cell (p := ad.add k) (by rw [blk_add]; exact hblk)).trans hc
          clear hc
          have HE := Lib.hid (all_take hlt)
          have HF := Lib.hid (show m + (ps[k]).2.2.length ≤ t from by
            have h1 := HK.out (k + 1)
            rw [tot_take hlt, ← all_len, ← HM.out] at h1
            exact h1)
          have hrow := ((HP.out ps[k] (List.getElem_mem hlt)).below hb).more hb.size
          simp only [List.getElem_map, pcv] at hc'
          generalize (ps[k]).2.2 = lk at *
          generalize (ps[k]).2.1 = ck at *
          generalize (ps[k]).1 = Ak at *
          obtain ⟨A3, c3, w3, hrun, hown3, hgr⟩ := run_append_f hown (n := m) (m := lk.length) (k := m + lk.length) (c2 := ck) HM.out rfl rfl hrow (by have := HF.out; omega) hb.size
          have hb3 : Below W.heap.size W w3 := hown.below hb (by rw [← HM.out]; exact hgr) (Nat.le_refl _) hb.size
          clear hgr hown hrow
          go_wp2_with (at_builtin; refine FreeMem.wpList_append_run rfl (.tmp 31) (.tmp 32) 22 22 rfl rfl rfl hrun ?_)
          clear hrun
          go_roundw
          case rel => exact ⟨k + 1, m + lk.length, A3, c3, by omega, by rw [HE.out, List.length_append, HM.out], rfl, by go_num, by rw [HE.out]; exact hown3, hb3⟩
          case measure => simp [intOf]; omega
        · obtain rfl : k = ps.length := by omega
          have HE := Lib.hid (show all (ps.take ps.length) = all ps by rw [List.take_of_length_le (Nat.le_refl _)])
          rw [HE.out] at hown
          have HM2 := HM.out
          rw [HE.out] at HM2
          subst HM2
          clear HE HM
          go_wp2_with fail
          go_ret
          exact ⟨_, _, rfl, hown, hb⟩
end Go.Proofs.Ytffbmabhlgfjkaa.FreeCat
