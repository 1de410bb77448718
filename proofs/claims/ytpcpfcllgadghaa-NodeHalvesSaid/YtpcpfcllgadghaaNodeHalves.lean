/- The walk of NodeHalves. -/
import Derived.Test.YtpcpfcllgadghaaNodeRooms
import Derived.Test.YtpcpfcllgadghaaNodeRefCheck
import Derived.Test.YtpcpfcllgadghaaNodeSplit
namespace Go.Proofs.Ytpcpfcllgadghaa.NodeHalves
open Go.RowKit Base NodePlain NodeRead NodeSlice NodeCheck NodeBox NodeEnt NodeCells NodeRd NodeOf2 NodeOf3 NodeFind NodeAwake NodePlumb NodeRooms NodeRefCheck NodeSplit

theorem has_append (a b : List ByteArray) (k : ByteArray) : has (a ++ b) k = (has a k || has b k) := by simp [has]
theorem halves {ks : List ByteArray} (hu : Up ks) (key : ByteArray) (h2 : 2 ≤ ks.length) :
    has ks key = (has (ks.take (ks.length / 2)) key || has (ks.drop (ks.length / 2)) key) ∧ (has (ks.take (ks.length / 2)) key = true → has (ks.drop (ks.length / 2)) key = false ∧ less key (ks[ks.length / 2]'(by omega)) = true) ∧ (has (ks.drop (ks.length / 2)) key = true → less key (ks[ks.length / 2]'(by omega)) = false) := by
  have hlt : ks.length / 2 < ks.length := by omega
  have hd : has (ks.drop (ks.length / 2)) key = true → less key (ks[ks.length / 2]'hlt) = false := fun h => by
    obtain ⟨i, hi, e⟩ := List.mem_iff_getElem.1 ((has_mem _ _).1 h)
    rw [List.getElem_drop] at e
    subst e
    rcases Nat.eq_zero_or_pos i with q | q
    · subst q
      simp only [Nat.add_zero]
      exact less_irrefl _
    · exact less_asymm (hu.at (by omega) (by rw [List.length_drop] at hi; omega))
  have ht : has (ks.take (ks.length / 2)) key = true → less key (ks[ks.length / 2]'hlt) = true := fun h => by
    obtain ⟨i, hi, e⟩ := List.mem_iff_getElem.1 ((has_mem _ _).1 h)
    rw [List.getElem_take] at e
    subst e
    rw [List.length_take] at hi
    exact hu.at (by omega) hlt
  refine ⟨?_, fun h => ⟨?_, ht h⟩, hd⟩
  · rw [← has_append, List.take_append_drop]
  · cases hq : has (ks.drop (ks.length / 2)) key with
    | false => rfl
    | true => have h1 := hd hq; rw [ht h] at h1; cases h1
set_option maxRecDepth 100000 in
set_option maxHeartbeats 6400000 in
theorem NodeHalves_walk (n : Nd) (h : Hd) (key : ByteArray) (W : World) (hL : Lay W n h) (hk : n.keys.length ≤ maxLen) (hv : n.vals.length ≤ maxLen) (_hks : key.size ≤ maxLen) :
    Calls Try.prog 12 #[nv n h, .string key] W (Law W) := by
  obtain ⟨fb, hfb⟩ := pick_b (Few n)
  obtain ⟨er, her⟩ := chk_any n
  have HER := Lib.hid her
  have HCW := Lib.hid (fun w' (s : Begun W n h w') (hsm : Small n) => rcheck_any w' n h s.2.1 hsm er her)
  have HS := Lib.hid (begunL hL)
  have HFW := Lib.hid (fun w' (s : Begun W n h w') => NodeRoom.few_any w' n h s.2.1 hk hv fb hfb)
  clear hk hv hL her
  go_enter Try.func12, Try.ntmps12
  go_wp2_with fail
  refine (awake_any _).mono ?_
  rintro e w1 ⟨rfl, b1⟩
  have s1 := HS.out w1 b1
  clear HS b1
  obtain ⟨c0, c1, c2, c3, _⟩ := s1.1
  go_wp2_with fail
  refine (HFW.out w1 s1).mono ?_
  rintro e w2 ⟨rfl, b2⟩
  have s2 := s1.below b2
  clear s1 b2 HFW c0 c1 c2 c3
  cases fb with
  | false =>
    clear hfb
    go_wp2_with fail
    refine (awake_any w2).mono ?_
    rintro e w9 ⟨rfl, b9⟩
    have s9 := s2.below b9
    go_wp2_with fail
    go_ret
    exact ⟨rfl, s9.2.2⟩
  | true =>
    have hfew := hfb.1 rfl
    have hsm : Small n := hfew.small
    clear hfb
    obtain ⟨c0, c1, c2, c3, _⟩ := s2.1
    go_wp2_with fail
    refine (HCW.out w2 s2 hsm).mono ?_
    rintro e w3 ⟨rfl, b3⟩
    have s3 := s2.below b3
    clear s2 b3 HCW c0 c1 c2 c3
    by_cases he0 : er = 0
    · subst he0
      have hok := (chk_ok HER.out).1 rfl
      clear HER
      cases hleaf : n.leaf with
      | false =>
        obtain ⟨c0, c1, c2, c3, _⟩ := s3.1
        rw [hleaf] at c0
        clear hok hfew hsm
        go_wp2_with fail
        refine (awake_any w3).mono ?_
        rintro e w9 ⟨rfl, b9⟩
        have s9 := s3.below b9
        go_wp2_with fail
        go_ret
        exact ⟨rfl, s9.2.2⟩
      | true =>
        by_cases htwo : n.keys.length < 2
        · have hytwo : (n.keys.length : Int) < 2 := by omega
          obtain ⟨c0, c1, c2, c3, _⟩ := s3.1
          rw [hleaf] at c0
          clear hok hfew hsm
          go_wp2_with fail
          refine (awake_any w3).mono ?_
          rintro e w9 ⟨rfl, b9⟩
          have s9 := s3.below b9
          go_wp2_with fail
          go_ret
          exact ⟨rfl, s9.2.2⟩
        · have hytwo : ¬ ((n.keys.length : Int) < 2) := by omega
          by_cases hzkey : 300 < key.size
          · have hykey : (300 : Int) < (key.size : Int) := by omega
            clear hzkey
            obtain ⟨c0, c1, c2, c3, _⟩ := s3.1
            rw [hleaf] at c0
            clear hok hfew hsm
            go_wp2_with fail
            refine (awake_any w3).mono ?_
            rintro e w9 ⟨rfl, b9⟩
            have s9 := s3.below b9
            go_wp2_with fail
            go_ret
            exact ⟨rfl, s9.2.2⟩
          · have hykey : ¬ ((300 : Int) < (key.size : Int)) := by omega
            have hu : Up n.keys := hok.2.2.2
            have hsp := split_true w3 n h s3.2.1 hsm hleaf (by omega)
            have hkl : n.keys.length ≤ 100 := hfew.1
            have hvl : n.vals.length ≤ 100 := hfew.2.1
            have HU := Lib.hid hu
            have HF := Lib.hid (halves hu key (show 2 ≤ n.keys.length by omega))
            have HZQ := Lib.hid (hsm.ks _ (List.getElem_mem (show n.keys.length / 2 < n.keys.length by omega)))
            have hcond : ((n.keys.length : Int) < 2) = False := by simp; omega
            have hcond2 : ((300 : Int) < (key.size : Int)) = False := by simp; omega
            obtain ⟨c0, c1, c2, c3, _⟩ := s3.1
            rw [hleaf] at c0
            clear hok hu hsm hfew
            unfold nv at hsp
            rw [hleaf] at hsp
            generalize n.keys[n.keys.length / 2] = by_ at *
            go_wp2_with fail
            refine hsp.mono ?_
            rintro e w4 ⟨va, vb, rfl, hva, hvb, b4⟩
            have s4 := s3.below b4
            clear hsp s3 b4 c0 c1 c2 c3
            have HUA := Lib.hid (show Up (n.keys.take (n.keys.length / 2)) ∧ (n.keys.take (n.keys.length / 2)).length ≤ 1000 from ⟨HU.out.take _, by rw [List.length_take]; omega⟩)
            have HUB := Lib.hid (show Up (n.keys.drop (n.keys.length / 2)) ∧ (n.keys.drop (n.keys.length / 2)).length ≤ 1000 from ⟨HU.out.drop _, by rw [List.length_drop]; omega⟩)
            have HLN := Lib.hid (show n.keys.length ≤ 1000 by omega)
            obtain ⟨na, hna⟩ : ∃ m : Nd, m = ⟨true, n.keys.take (n.keys.length / 2), n.vals.take (n.keys.length / 2), []⟩ := ⟨_, rfl⟩
            obtain ⟨nb, hnb⟩ : ∃ m : Nd, m = ⟨true, n.keys.drop (n.keys.length / 2), n.vals.drop (n.keys.length / 2), []⟩ := ⟨_, rfl⟩
            have hka : n.keys.take (n.keys.length / 2) = na.keys := by rw [hna]
            have hkb : n.keys.drop (n.keys.length / 2) = nb.keys := by rw [hnb]
            rw [hka] at HUA HF
            rw [hkb] at HUB HF
            rw [← hna] at hva
            rw [← hnb] at hvb
            clear hka hkb hna hnb hkl hvl
            obtain ⟨ha, hva', la⟩ := hva
            obtain ⟨hb', hvb', lb⟩ := hvb
            subst hva' hvb'
            have b5 := box_below w4 na ha
            have b6 := box_below (box w4 na ha) nb hb'
            have hsz : (box w4 na ha).heap.size = w4.heap.size + 1 := by simp
            have bxa := (bx_new w4 na ha).below b6
            have bxb := bx_new (box w4 na ha) nb hb'
            rw [hsz] at bxb
            have s6 := (s4.below b5).below b6
            have la6 := (la.below b5).below b6
            have lb6 := (lb.below b5).below b6
            obtain ⟨w6, hw6⟩ : ∃ v, v = box (box w4 na ha) nb hb' := ⟨_, rfl⟩
            rw [← hw6] at bxa bxb s6 la6 lb6
            unfold box at hw6
            have HW6 := Lib.hid hw6
            clear hw6 la lb b5 b6 hsz s4
            have hf1 := find_any w6 n h key s6.2.1 HU.out HLN.out
            unfold nv at hf1
            rw [hleaf] at hf1
            obtain ⟨c0, c1, c2, c3, _⟩ := s6.1
            rw [hleaf] at c0
            rw [HW6.out] at c0 c1 c2 c3
            go_wp2_with fail
            rw [← HW6.out]
            clear HW6 c0 c1 c2 c3
            generalize w4.heap.size = g4 at *
            refine hf1.mono ?_
            rintro e w7 ⟨rfl, b7⟩
            have s7 := s6.below b7
            have bxa7 := bxa.below b7
            have bxb7 := bxb.below b7
            have la7 := la6.below b7
            have lb7 := lb6.below b7
            clear hf1 s6 bxa bxb la6 lb6 b7
            obtain ⟨c0, c1, c2, c3, _⟩ := bxa7
            have hf2 := find_any w7 na ha key la7 HUA.out.1 HUA.out.2
            go_wp2_with fail
            refine hf2.mono ?_
            rintro e w8 ⟨rfl, b8⟩
            have s8 := s7.below b8
            have bxb8 := bxb7.below b8
            have lb8 := lb7.below b8
            clear hf2 s7 bxb7 la7 lb7 b8 c0 c1 c2 c3
            obtain ⟨c0, c1, c2, c3, _⟩ := bxb8
            have hf3 := find_any w8 nb hb' key lb8 HUB.out.1 HUB.out.2
            go_wp2_with fail
            refine hf3.mono ?_
            rintro e w9 ⟨rfl, b9⟩
            have s9 := s8.below b9
            clear hf3 s8 lb8 b9 c0 c1 c2 c3
            have hbl := Below_b (w := w9) key by_ (by simp only [maxLen]; omega) (by have := HZQ.out; simp only [maxLen]; omega)
            generalize at_ n key = a0 at *
            generalize at_ na key = a1 at *
            generalize at_ nb key = a2 at *
            obtain ⟨hf0, hfa, hfb⟩ := HF.out
            clear HF
            generalize has n.keys key = p0 at *
            generalize has na.keys key = x at *
            generalize has nb.keys key = y at *
            generalize less key by_ = lk at *
            cases x with
            | true =>
              obtain ⟨hy, hlk⟩ := hfa rfl
              subst hy hlk
              have hp0 : p0 = true := by rw [hf0]; rfl
              subst hp0
              clear hf0 hfa hfb
              go_wp2_with fail
              refine hbl.mono ?_
              rintro e w10 ⟨rfl, b10⟩
              have s10 := s9.below b10
              go_wp2_with fail
              go_ret
              exact ⟨rfl, s10.2.2⟩
            | false =>
              cases y with
              | true =>
                have hlk := hfb rfl
                subst hlk
                have hp0 : p0 = true := by rw [hf0]; rfl
                subst hp0
                clear hf0 hfa hfb
                go_wp2_with fail
                refine hbl.mono ?_
                rintro e w10 ⟨rfl, b10⟩
                have s10 := s9.below b10
                go_wp2_with fail
                go_ret
                exact ⟨rfl, s10.2.2⟩
              | false =>
                have hp0 : p0 = false := by rw [hf0]; rfl
                subst hp0
                clear hf0 hfa hfb
                go_wp2_with fail
                go_ret
                exact ⟨rfl, s9.2.2⟩
    · have he2 : (er != 0) = true := by simpa using he0
      clear he0 HER hfew hsm
      go_wp2_with fail
      refine (awake_any w3).mono ?_
      rintro e w9 ⟨rfl, b9⟩
      have s9 := s3.below b9
      go_wp2_with fail
      go_ret
      exact ⟨rfl, s9.2.2⟩
end Go.Proofs.Ytpcpfcllgadghaa.NodeHalves
