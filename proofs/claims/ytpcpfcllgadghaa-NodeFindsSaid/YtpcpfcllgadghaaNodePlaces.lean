/- The walk of NodePlaces. -/
import Derived.Test.YtpcpfcllgadghaaNodeRooms
import Derived.Test.YtpcpfcllgadghaaNodeRefCheck
namespace Go.Proofs.Ytpcpfcllgadghaa.NodePlaces
open Go.RowKit Base NodePlain NodeRead NodeSlice NodeCheck NodeBox NodeEnt NodeCells NodeRd NodeOf2 NodeOf3 NodeFind NodeAwake NodePlumb NodeRooms NodeRefCheck

theorem at_le (n : Nd) (key : ByteArray) : at_ n key ≤ n.keys.length := by
  have hp := pos_le n.keys key
  unfold at_
  split
  · rename_i h
    have hm : key ∈ n.keys := (has_mem _ _).1 (by simp at h; exact h.1)
    rcases Nat.lt_or_ge (pos n.keys key) n.keys.length with g | g
    · omega
    · obtain ⟨i, hi, rfl⟩ := List.mem_iff_getElem.1 hm
      have := pos_below n.keys n.keys[i] (j := i) (by omega)
      rw [less_irrefl] at this
      cases this
  · omega
theorem place {n : Nd} {key : ByteArray} (hu : Up n.keys) (k : Nat) (hk : k < n.keys.length) : (less n.keys[k] key = true ∧ n.keys[k] ≠ key ∧ k < at_ n key) ∨ (less n.keys[k] key = false ∧ n.keys[k] = key ∧ has n.keys key = true ∧ (k < at_ n key ↔ n.leaf = false)) ∨ (less n.keys[k] key = false ∧ n.keys[k] ≠ key ∧ ¬ k < at_ n key) := by
  rcases Nat.lt_or_ge k (pos n.keys key) with g | g
  · have := pos_below n.keys key g
    exact .inl ⟨this, less_ne this, by unfold at_; omega⟩
  · have h1 := hu.from key g hk
    by_cases he : n.keys[k] = key
    · have hh : has n.keys key = true := (has_mem _ _).2 (he ▸ List.getElem_mem hk)
      obtain ⟨hp, hpe⟩ := (has_at hu key).1 hh
      have hkp : k = pos n.keys key := by
        rcases Nat.lt_or_ge (pos n.keys key) k with q | q
        · have := hu.at q hk
          rw [hpe, he, less_irrefl] at this
          cases this
        · omega
      refine .inr (.inl ⟨h1, he, hh, ?_⟩)
      unfold at_
      rw [hh]
      cases n.leaf <;> simp <;> omega
    · refine .inr (.inr ⟨h1, he, ?_⟩)
      unfold at_
      split
      · rename_i h
        simp at h
        obtain ⟨hp, hpe⟩ := (has_at hu key).1 h.1
        have : k ≠ pos n.keys key := fun q => he (by subst q; exact hpe)
        omega
      · omega
set_option maxRecDepth 100000 in
set_option maxHeartbeats 6400000 in
theorem NodePlaces_walk (n : Nd) (h : Hd) (key : ByteArray) (W : World) (hL : Lay W n h) (hk : n.keys.length ≤ maxLen) (hv : n.vals.length ≤ maxLen) (_hks : key.size ≤ maxLen) :
    Calls Try.prog 11 #[nv n h, .string key] W (Law W) := by
  obtain ⟨fb, hfb⟩ := pick_b (Few n)
  obtain ⟨er, her⟩ := chk_any n
  have HER := Lib.hid her
  have HCW := Lib.hid (fun w' (s : Begun W n h w') (hsm : Small n) => rcheck_any w' n h s.2.1 hsm er her)
  have HS := Lib.hid (begunL hL)
  have HFW := Lib.hid (fun w' (s : Begun W n h w') => NodeRoom.few_any w' n h s.2.1 hk hv fb hfb)
  clear hk hv hL her
  go_enter Try.func11, Try.ntmps11
  go_wp2_with fail
  refine (awake_any _).mono ?_
  rintro e w1 ⟨rfl, b1⟩
  have s1 := HS.out w1 b1
  clear HS b1
  obtain ⟨c0, c1, c2, c3, _⟩ := s1.1
  go_wp2_with fail
  refine (HFW.out w1 s1).mono ?_
  rintro e w2 ⟨rfl, b2⟩
  have s2 := s1.below b2
  clear s1 b2 HFW c0 c1 c2 c3
  cases fb with
  | false =>
    clear hfb
    go_wp2_with fail
    refine (awake_any w2).mono ?_
    rintro e w9 ⟨rfl, b9⟩
    have s9 := s2.below b9
    go_wp2_with fail
    go_ret
    exact ⟨rfl, s9.2.2⟩
  | true =>
    have hfew := hfb.1 rfl
    have hsm : Small n := hfew.small
    clear hfb
    obtain ⟨c0, c1, c2, c3, _⟩ := s2.1
    go_wp2_with fail
    refine (HCW.out w2 s2 hsm).mono ?_
    rintro e w3 ⟨rfl, b3⟩
    have s3 := s2.below b3
    clear s2 b3 HCW c0 c1 c2 c3
    by_cases he0 : er = 0
    · subst he0
      have hok := (chk_ok HER.out).1 rfl
      clear HER
      by_cases hzkey : 300 < key.size
      · have hykey : (300 : Int) < (key.size : Int) := by omega
        clear hzkey
        obtain ⟨c0, c1, c2, c3, _⟩ := s3.1
        clear hok hfew hsm
        go_wp2_with fail
        refine (awake_any w3).mono ?_
        rintro e w9 ⟨rfl, b9⟩
        have s9 := s3.below b9
        go_wp2_with fail
        go_ret
        exact ⟨rfl, s9.2.2⟩
      · have hykey : ¬ ((300 : Int) < (key.size : Int)) := by omega
        have hu : Up n.keys := hok.2.2.2
        have hfi := find_any w3 n h key s3.2.1 hu (by have := hsm.k; omega)
        have HP := Lib.hid (fun k hk => place (n := n) (key := key) hu k hk)
        have HAT := Lib.hid (at_le n key)
        have HZ := Lib.hid hsm.ks
        obtain ⟨c0, c1, c2, c3, _⟩ := s3.1
        clear hok hu hsm
        have hkl : n.keys.length ≤ 100 := hfew.1
        clear hfew
        cases hh : has n.keys key with
        | true =>
          rw [hh] at hfi HP
          clear hh
          go_wp2_with fail
          refine hfi.mono ?_
          rintro e w4 ⟨rfl, b4⟩
          have s4 := s3.below b4
          clear hfi s3 b4 c0 c1 c2 c3
          generalize at_ n key = a at *
          have hx1 : ((a : Int) < 0) = False := by simp
          have hx2 : (n.keys.length < a) = False := by have := HAT.out; simp; omega
          obtain ⟨c0, c1, c2, c3, _⟩ := s4.1
          go_wp2_with fail
          clear c0 c1 c2 c3
          go_loopw [7] (fun i wr => ∃ k : Nat, k ≤ n.keys.length ∧ i = .int .i64 k ∧ Begun W n h wr) (fun i _ => n.keys.length - (intOf i).toNat)
          case atStart => exact ⟨0, by omega, rfl, s4⟩
          case round =>
            clear s4
            obtain ⟨k, hk, rfl, s⟩ := hrel
            obtain ⟨c0, c1, c2, c3, _⟩ := s.1
            by_cases hlt : k < n.keys.length
            · have hpl := HP.out k hlt
              obtain ⟨ad, hKe, hbb, hcell⟩ := strs_get s.2.1.k k hlt
              have hzk := HZ.out _ (List.getElem_mem hlt)
              have HBL := Lib.hid (fun (w' : World) => Below_b (w := w') n.keys[k] key (by simp only [maxLen]; omega) (by simp only [maxLen]; omega))
              have HCE := Lib.hid (fun (w' : World) (s' : Begun W n h w') => strs_get s'.2.1.k k hlt)
              rw [hKe] at c1
              have HKE := Lib.hid hKe
              clear hzk hKe
              rcases hpl with ⟨h1, h2, h3⟩ | ⟨h1, h2, h3, h4⟩ | ⟨h1, h2, h3⟩
              · have hd : k < a := h3
                rw [h1] at HBL
                have heq : (n.keys[k].toList == key.toList) = false := by rw [Str.ba_beq, decide_eq_false_iff_not]; exact h2
                clear h2
                clear h1 h3
                go_wp2_with fail
                refine (HBL.out wr).mono ?_
                rintro e w5 ⟨rfl, b5⟩
                have s5 := s.below b5
                clear HBL c0 c1 c2 c3 hcell
                obtain ⟨c0, c1, c2, c3, _⟩ := s5.1
                obtain ⟨ad5, hKe5, hbb5, hcell⟩ := HCE.out w5 s5
                rw [HKE.out] at hKe5 c1
                injection hKe5 with hKe5
                subst hKe5
                clear HKE HCE
                generalize n.keys[k] = q at *
                go_wp2_with fail
                go_roundw
                case rel => exact ⟨k + 1, by omega, by go_num, s5⟩
                case measure => simp [intOf]; omega
              · have heq : (n.keys[k].toList == key.toList) = true := by rw [h2]; simp
                rw [h1] at HBL
                cases hleaf : n.leaf with
                | true =>
                  have hd : ¬ k < a := by rw [hleaf] at h4; first | exact h4.2 rfl | exact fun q => by have := h4.1 q; cases this
                  clear h1 h2 h4
                  go_wp2_with fail
                  refine (HBL.out wr).mono ?_
                  rintro e w5 ⟨rfl, b5⟩
                  have s5 := s.below b5
                  clear HBL c0 c1 c2 c3 hcell
                  obtain ⟨c0, c1, c2, c3, _⟩ := s5.1
                  obtain ⟨ad5, hKe5, hbb5, hcell⟩ := HCE.out w5 s5
                  rw [HKE.out] at hKe5 c1
                  injection hKe5 with hKe5
                  subst hKe5
                  clear HKE HCE
                  rw [hleaf] at c0
                  clear hleaf
                  generalize n.keys[k] = q at *
                  go_wp2_with fail
                  go_roundw
                  case rel => exact ⟨k + 1, by omega, by go_num, s5⟩
                  case measure => simp [intOf]; omega
                | false =>
                  have hd : k < a := by rw [hleaf] at h4; first | exact h4.2 rfl | exact fun q => by have := h4.1 q; cases this
                  clear h1 h2 h4
                  go_wp2_with fail
                  refine (HBL.out wr).mono ?_
                  rintro e w5 ⟨rfl, b5⟩
                  have s5 := s.below b5
                  clear HBL c0 c1 c2 c3 hcell
                  obtain ⟨c0, c1, c2, c3, _⟩ := s5.1
                  obtain ⟨ad5, hKe5, hbb5, hcell⟩ := HCE.out w5 s5
                  rw [HKE.out] at hKe5 c1
                  injection hKe5 with hKe5
                  subst hKe5
                  clear HKE HCE
                  rw [hleaf] at c0
                  clear hleaf
                  generalize n.keys[k] = q at *
                  go_wp2_with fail
                  go_roundw
                  case rel => exact ⟨k + 1, by omega, by go_num, s5⟩
                  case measure => simp [intOf]; omega
              · have hd : ¬ k < a := h3
                rw [h1] at HBL
                have heq : (n.keys[k].toList == key.toList) = false := by rw [Str.ba_beq, decide_eq_false_iff_not]; exact h2
                clear h2
                clear h1 h3
                cases hleaf : n.leaf with
                | true =>
                  go_wp2_with fail
                  refine (HBL.out wr).mono ?_
                  rintro e w5 ⟨rfl, b5⟩
                  have s5 := s.below b5
                  clear HBL c0 c1 c2 c3 hcell
                  obtain ⟨c0, c1, c2, c3, _⟩ := s5.1
                  obtain ⟨ad5, hKe5, hbb5, hcell⟩ := HCE.out w5 s5
                  rw [HKE.out] at hKe5 c1
                  injection hKe5 with hKe5
                  subst hKe5
                  clear HKE HCE
                  rw [hleaf] at c0
                  clear hleaf
                  generalize n.keys[k] = q at *
                  go_wp2_with fail
                  go_roundw
                  case rel => exact ⟨k + 1, by omega, by go_num, s5⟩
                  case measure => simp [intOf]; omega
                | false =>
                  go_wp2_with fail
                  refine (HBL.out wr).mono ?_
                  rintro e w5 ⟨rfl, b5⟩
                  have s5 := s.below b5
                  clear HBL c0 c1 c2 c3 hcell
                  obtain ⟨c0, c1, c2, c3, _⟩ := s5.1
                  obtain ⟨ad5, hKe5, hbb5, hcell⟩ := HCE.out w5 s5
                  rw [HKE.out] at hKe5 c1
                  injection hKe5 with hKe5
                  subst hKe5
                  clear HKE HCE
                  rw [hleaf] at c0
                  clear hleaf
                  generalize n.keys[k] = q at *
                  go_wp2_with fail
                  go_roundw
                  case rel => exact ⟨k + 1, by omega, by go_num, s5⟩
                  case measure => simp [intOf]; omega
            · go_wp2_with fail
              go_ret
              exact ⟨rfl, s.2.2⟩
        | false =>
          rw [hh] at hfi HP
          clear hh
          go_wp2_with fail
          refine hfi.mono ?_
          rintro e w4 ⟨rfl, b4⟩
          have s4 := s3.below b4
          clear hfi s3 b4 c0 c1 c2 c3
          generalize at_ n key = a at *
          have hx1 : ((a : Int) < 0) = False := by simp
          have hx2 : (n.keys.length < a) = False := by have := HAT.out; simp; omega
          obtain ⟨c0, c1, c2, c3, _⟩ := s4.1
          go_wp2_with fail
          clear c0 c1 c2 c3
          go_loopw [7] (fun i wr => ∃ k : Nat, k ≤ n.keys.length ∧ i = .int .i64 k ∧ Begun W n h wr) (fun i _ => n.keys.length - (intOf i).toNat)
          case atStart => exact ⟨0, by omega, rfl, s4⟩
          case round =>
            clear s4
            obtain ⟨k, hk, rfl, s⟩ := hrel
            obtain ⟨c0, c1, c2, c3, _⟩ := s.1
            by_cases hlt : k < n.keys.length
            · have hpl := HP.out k hlt
              obtain ⟨ad, hKe, hbb, hcell⟩ := strs_get s.2.1.k k hlt
              have hzk := HZ.out _ (List.getElem_mem hlt)
              have HBL := Lib.hid (fun (w' : World) => Below_b (w := w') n.keys[k] key (by simp only [maxLen]; omega) (by simp only [maxLen]; omega))
              have HCE := Lib.hid (fun (w' : World) (s' : Begun W n h w') => strs_get s'.2.1.k k hlt)
              rw [hKe] at c1
              have HKE := Lib.hid hKe
              clear hzk hKe
              rcases hpl with ⟨h1, h2, h3⟩ | ⟨h1, h2, h3, h4⟩ | ⟨h1, h2, h3⟩
              · have hd : k < a := h3
                rw [h1] at HBL
                have heq : (n.keys[k].toList == key.toList) = false := by rw [Str.ba_beq, decide_eq_false_iff_not]; exact h2
                clear h2
                clear h1 h3
                go_wp2_with fail
                refine (HBL.out wr).mono ?_
                rintro e w5 ⟨rfl, b5⟩
                have s5 := s.below b5
                clear HBL c0 c1 c2 c3 hcell
                obtain ⟨c0, c1, c2, c3, _⟩ := s5.1
                obtain ⟨ad5, hKe5, hbb5, hcell⟩ := HCE.out w5 s5
                rw [HKE.out] at hKe5 c1
                injection hKe5 with hKe5
                subst hKe5
                clear HKE HCE
                generalize n.keys[k] = q at *
                go_wp2_with fail
                go_roundw
                case rel => exact ⟨k + 1, by omega, by go_num, s5⟩
                case measure => simp [intOf]; omega
              · cases h3
              · have hd : ¬ k < a := h3
                rw [h1] at HBL
                have heq : (n.keys[k].toList == key.toList) = false := by rw [Str.ba_beq, decide_eq_false_iff_not]; exact h2
                clear h2
                clear h1 h3
                cases hleaf : n.leaf with
                | true =>
                  go_wp2_with fail
                  refine (HBL.out wr).mono ?_
                  rintro e w5 ⟨rfl, b5⟩
                  have s5 := s.below b5
                  clear HBL c0 c1 c2 c3 hcell
                  obtain ⟨c0, c1, c2, c3, _⟩ := s5.1
                  obtain ⟨ad5, hKe5, hbb5, hcell⟩ := HCE.out w5 s5
                  rw [HKE.out] at hKe5 c1
                  injection hKe5 with hKe5
                  subst hKe5
                  clear HKE HCE
                  rw [hleaf] at c0
                  clear hleaf
                  generalize n.keys[k] = q at *
                  go_wp2_with fail
                  go_roundw
                  case rel => exact ⟨k + 1, by omega, by go_num, s5⟩
                  case measure => simp [intOf]; omega
                | false =>
                  go_wp2_with fail
                  refine (HBL.out wr).mono ?_
                  rintro e w5 ⟨rfl, b5⟩
                  have s5 := s.below b5
                  clear HBL c0 c1 c2 c3 hcell
                  obtain ⟨c0, c1, c2, c3, _⟩ := s5.1
                  obtain ⟨ad5, hKe5, hbb5, hcell⟩ := HCE.out w5 s5
                  rw [HKE.out] at hKe5 c1
                  injection hKe5 with hKe5
                  subst hKe5
                  clear HKE HCE
                  rw [hleaf] at c0
                  clear hleaf
                  generalize n.keys[k] = q at *
                  go_wp2_with fail
                  go_roundw
                  case rel => exact ⟨k + 1, by omega, by go_num, s5⟩
                  case measure => simp [intOf]; omega
            · go_wp2_with fail
              go_ret
              exact ⟨rfl, s.2.2⟩
    · have he2 : (er != 0) = true := by simpa using he0
      clear he0 HER hfew hsm
      go_wp2_with fail
      refine (awake_any w3).mono ?_
      rintro e w9 ⟨rfl, b9⟩
      have s9 := s3.below b9
      go_wp2_with fail
      go_ret
      exact ⟨rfl, s9.2.2⟩
end Go.Proofs.Ytpcpfcllgadghaa.NodePlaces
