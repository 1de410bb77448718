/- The contract of the document's Find, and of got. -/
import Derived.Test.YtpcpfcllgadghaaNodePlaces
namespace Go.Proofs.Ytpcpfcllgadghaa.NodeRefFind
open Go.RowKit Base NodePlain NodeRead NodeSlice NodeCheck NodeBox NodeFind NodePlaces

theorem has_take {l : List ByteArray} (key : ByteArray) (k : Nat) (hk : k < l.length) : has (l.take (k + 1)) key = (has (l.take k) key || decide (l[k] = key)) := by
  unfold has; rw [List.take_succ_eq_append_getElem hk, List.any_append]; simp only [List.any_cons, List.any_nil, Bool.or_false]
set_option maxRecDepth 100000 in
set_option maxHeartbeats 6400000 in
theorem rfind_true (W : World) (n : Nd) (h : Hd) (key : ByteArray) (hl : Lay W n h) (hs : Small n) (hu : Up n.keys) (hks : key.size ≤ maxLen) (hleaf : n.leaf = true) :
    Calls Try.prog 25 #[nv n h, .string key] W fun e w' => e = .returned (.tuple #[.int .i64 (at_ n key : Nat), .bool (has n.keys key)]) ∧ Below W.heap.size W w' := by
  have HSH := Lib.hid hs
  have hsk := hs.k
  have hb0 := box_below W n h
  have hx0 := bx_new W n h
  have hl0 := hl.below hb0
  obtain ⟨w1, hw1⟩ : ∃ v, v = box W n h := ⟨_, rfl⟩
  rw [← hw1] at hb0 hx0 hl0
  unfold box at hw1
  rw [hleaf] at hw1
  have HW1 := Lib.hid hw1
  have HB0 := Lib.hid hb0
  have HLY := Lib.hid (fun (w' : World) (hw : Below w1.heap.size w1 w') => hl0.below hw)
  have HX0 := Lib.hid (fun (w' : World) (hw : Below w1.heap.size w1 w') => show w'.cell? ⟨W.heap.size, 0, none⟩ = some (.bool true) ∧ w'.cell? ⟨W.heap.size, 1, none⟩ = some (.slice h.K n.keys.length h.kc) by
    obtain ⟨c0, c1, _⟩ := hx0.below hw
    rw [hleaf] at c0
    exact ⟨c0, c1⟩)
  have HU := Lib.hid hu
  have HLF := Lib.hid hleaf
  have HKS := Lib.hid hks
  have HAL := Lib.hid (at_le n key)
  clear hw1 hb0 hx0 hl0 hl hs hu hks
  go_enter Try.func25, Try.ntmps25
  go_wp2_with fail
  rw [← HW1.out]
  clear HW1 hleaf
  generalize hat : at_ n key = atv at *
  have HATV := Lib.hid hat
  clear hat
  generalize hg : W.heap.size = g at *
  have HG := Lib.hid hg
  clear hg
  go_loopw [6, 7, 8] (fun a b i wr => ∃ (k m : Nat) (hb : Bool), k ≤ n.keys.length ∧ m = min k atv ∧ hb = has (n.keys.take k) key ∧ a = .int .i64 m ∧ b = .bool hb ∧ i = .int .i64 k ∧ Below w1.heap.size w1 wr) (fun _ _ i _ => n.keys.length - (intOf i).toNat)
  case atStart => exact ⟨0, 0, false, by omega, by omega, by simp [has], rfl, rfl, rfl, Below.refl _ _⟩
  case round =>
    obtain ⟨k, m, hb, hk, hm, hhb, rfl, rfl, rfl, hbw⟩ := hrel
    have HM := Lib.hid hm
    have HB := Lib.hid hhb
    clear hm hhb
    by_cases hlt : k < n.keys.length
    · have hpl := place (key := key) HU.out k hlt
      rw [HATV.out, HLF.out] at hpl
      obtain ⟨ad, hKA, hb1, hc1⟩ := strs_get (HLY.out w1 (Below.refl _ _)).k k hlt
      have HQ := Lib.hid (fun (w' : World) (hw : Below w1.heap.size w1 w') => (hw.cell (p := ad.add k) (by rw [blk_add]; exact hb1)).trans hc1)
      have HX := Lib.hid (fun (w' : World) (hw : Below w1.heap.size w1 w') => show w'.cell? ⟨g, 0, none⟩ = some (.bool true) ∧ w'.cell? ⟨g, 1, none⟩ = some (.slice (some ad) n.keys.length h.kc) by rw [← hKA]; exact HX0.out w' hw)
      have HQS := Lib.hid (show n.keys[k].size ≤ maxLen by have := HSH.out.ks _ (List.getElem_mem hlt); simp only [maxLen]; omega)
      have HT := Lib.hid (has_take key k hlt)
      have HATL := HAL.out
      clear hKA hb1 hc1
      generalize n.keys[k] = q at *
      rcases hpl with ⟨p1, p2, p3⟩ | ⟨p1, p2, p3, p4⟩ | ⟨p1, p2, p3⟩
      · have HLS := Lib.hid p1
        have HE := Lib.hid (show (q.toList == key.toList) = false by rw [Str.ba_beq]; simpa using p2)
        have HAT := Lib.hid (show k < atv by exact p3)
        rw [show decide (q = key) = false by simpa using p2] at HT
        have hm9 : m ≤ 1000 := by have := HM.out; omega
        clear p1 p2 p3
        cases hb with
        | true =>
          have heq : (q.toList == key.toList) = false := HE.out
          obtain ⟨c0, c1⟩ := HX.out wr hbw
          have hcq := HQ.out wr hbw
          have hbl := Below_b (w := wr) q key HQS.out HKS.out
          rw [HLS.out] at hbl
          go_wp2_with fail
          refine hbl.mono ?_
          rintro e w5 ⟨rfl, b5⟩
          clear hbl c0 c1 hcq
          have hbw5 := bstep hbw hbw.size b5
          clear b5 hbw
          obtain ⟨c0, c1⟩ := HX.out w5 hbw5
          have hcq := HQ.out w5 hbw5
          go_wp2_with fail
          clear c0 c1 hcq
          go_roundw
          case rel => exact ⟨k + 1, m + 1, true, by omega, by have := HM.out; have := HAT.out; omega, by rw [HT.out]; simp [← HB.out], by go_num, rfl, by go_num, hbw5⟩
          case measure => simp [intOf]; omega
        | false =>
          have heq : (q.toList == key.toList) = false := HE.out
          obtain ⟨c0, c1⟩ := HX.out wr hbw
          have hcq := HQ.out wr hbw
          have hbl := Below_b (w := wr) q key HQS.out HKS.out
          rw [HLS.out] at hbl
          go_wp2_with fail
          refine hbl.mono ?_
          rintro e w5 ⟨rfl, b5⟩
          clear hbl c0 c1 hcq
          have hbw5 := bstep hbw hbw.size b5
          clear b5 hbw
          obtain ⟨c0, c1⟩ := HX.out w5 hbw5
          have hcq := HQ.out w5 hbw5
          go_wp2_with fail
          clear c0 c1 hcq
          go_roundw
          case rel => exact ⟨k + 1, m + 1, false, by omega, by have := HM.out; have := HAT.out; omega, by rw [HT.out]; simp [← HB.out], by go_num, rfl, by go_num, hbw5⟩
          case measure => simp [intOf]; omega
      · have HLS := Lib.hid p1
        have HE := Lib.hid (show (q.toList == key.toList) = true by rw [Str.ba_beq]; simpa using p2)
        have HAT := Lib.hid (show ¬ k < atv by simpa using p4)
        rw [show decide (q = key) = true by simpa using p2] at HT
        have hm9 : m ≤ 1000 := by have := HM.out; omega
        clear p1 p2 p3 p4
        cases hb with
        | true =>
          have heq : (q.toList == key.toList) = true := HE.out
          obtain ⟨c0, c1⟩ := HX.out wr hbw
          have hcq := HQ.out wr hbw
          have hbl := Below_b (w := wr) q key HQS.out HKS.out
          rw [HLS.out] at hbl
          go_wp2_with fail
          refine hbl.mono ?_
          rintro e w5 ⟨rfl, b5⟩
          clear hbl c0 c1 hcq
          have hbw5 := bstep hbw hbw.size b5
          clear b5 hbw
          obtain ⟨c0, c1⟩ := HX.out w5 hbw5
          have hcq := HQ.out w5 hbw5
          go_wp2_with fail
          clear c0 c1 hcq
          go_roundw
          case rel => exact ⟨k + 1, m, true, by omega, by have := HM.out; have := HAT.out; omega, by rw [HT.out]; simp [← HB.out], by go_num, rfl, by go_num, hbw5⟩
          case measure => simp [intOf]; omega
        | false =>
          have heq : (q.toList == key.toList) = true := HE.out
          obtain ⟨c0, c1⟩ := HX.out wr hbw
          have hcq := HQ.out wr hbw
          have hbl := Below_b (w := wr) q key HQS.out HKS.out
          rw [HLS.out] at hbl
          go_wp2_with fail
          refine hbl.mono ?_
          rintro e w5 ⟨rfl, b5⟩
          clear hbl c0 c1 hcq
          have hbw5 := bstep hbw hbw.size b5
          clear b5 hbw
          obtain ⟨c0, c1⟩ := HX.out w5 hbw5
          have hcq := HQ.out w5 hbw5
          go_wp2_with fail
          clear c0 c1 hcq
          go_roundw
          case rel => exact ⟨k + 1, m, true, by omega, by have := HM.out; have := HAT.out; omega, by rw [HT.out]; simp [← HB.out], by go_num, rfl, by go_num, hbw5⟩
          case measure => simp [intOf]; omega
      · have HLS := Lib.hid p1
        have HE := Lib.hid (show (q.toList == key.toList) = false by rw [Str.ba_beq]; simpa using p2)
        have HAT := Lib.hid (show ¬ k < atv by exact p3)
        rw [show decide (q = key) = false by simpa using p2] at HT
        have hm9 : m ≤ 1000 := by have := HM.out; omega
        clear p1 p2 p3
        cases hb with
        | true =>
          have heq : (q.toList == key.toList) = false := HE.out
          obtain ⟨c0, c1⟩ := HX.out wr hbw
          have hcq := HQ.out wr hbw
          have hbl := Below_b (w := wr) q key HQS.out HKS.out
          rw [HLS.out] at hbl
          go_wp2_with fail
          refine hbl.mono ?_
          rintro e w5 ⟨rfl, b5⟩
          clear hbl c0 c1 hcq
          have hbw5 := bstep hbw hbw.size b5
          clear b5 hbw
          obtain ⟨c0, c1⟩ := HX.out w5 hbw5
          have hcq := HQ.out w5 hbw5
          go_wp2_with fail
          clear c0 c1 hcq
          go_roundw
          case rel => exact ⟨k + 1, m, true, by omega, by have := HM.out; have := HAT.out; omega, by rw [HT.out]; simp [← HB.out], by go_num, rfl, by go_num, hbw5⟩
          case measure => simp [intOf]; omega
        | false =>
          have heq : (q.toList == key.toList) = false := HE.out
          obtain ⟨c0, c1⟩ := HX.out wr hbw
          have hcq := HQ.out wr hbw
          have hbl := Below_b (w := wr) q key HQS.out HKS.out
          rw [HLS.out] at hbl
          go_wp2_with fail
          refine hbl.mono ?_
          rintro e w5 ⟨rfl, b5⟩
          clear hbl c0 c1 hcq
          have hbw5 := bstep hbw hbw.size b5
          clear b5 hbw
          obtain ⟨c0, c1⟩ := HX.out w5 hbw5
          have hcq := HQ.out w5 hbw5
          go_wp2_with fail
          clear c0 c1 hcq
          go_roundw
          case rel => exact ⟨k + 1, m, false, by omega, by have := HM.out; have := HAT.out; omega, by rw [HT.out]; simp [← HB.out], by go_num, rfl, by go_num, hbw5⟩
          case measure => simp [intOf]; omega
    · obtain rfl : k = n.keys.length := by omega
      have HE1 := Lib.hid (show m = at_ n key by have h1 := HM.out; have h2 := HAL.out; have h3 := HATV.out; omega)
      have HE2 := Lib.hid (show hb = has n.keys key by rw [HB.out, List.take_of_length_le (Nat.le_refl _)])
      obtain ⟨c0, c1⟩ := HX0.out wr hbw
      go_wp2_with fail
      go_ret2
      exact ⟨by rw [HE1.out, HE2.out, HATV.out]; rfl, by rw [HG.out]; exact bstep HB0.out (by have := HB0.out.size; have := HG.out; omega) hbw⟩
set_option maxRecDepth 100000 in
set_option maxHeartbeats 6400000 in
theorem rfind_false (W : World) (n : Nd) (h : Hd) (key : ByteArray) (hl : Lay W n h) (hs : Small n) (hu : Up n.keys) (hks : key.size ≤ maxLen) (hleaf : n.leaf = false) :
    Calls Try.prog 25 #[nv n h, .string key] W fun e w' => e = .returned (.tuple #[.int .i64 (at_ n key : Nat), .bool (has n.keys key)]) ∧ Below W.heap.size W w' := by
  have HSH := Lib.hid hs
  have hsk := hs.k
  have hb0 := box_below W n h
  have hx0 := bx_new W n h
  have hl0 := hl.below hb0
  obtain ⟨w1, hw1⟩ : ∃ v, v = box W n h := ⟨_, rfl⟩
  rw [← hw1] at hb0 hx0 hl0
  unfold box at hw1
  rw [hleaf] at hw1
  have HW1 := Lib.hid hw1
  have HB0 := Lib.hid hb0
  have HLY := Lib.hid (fun (w' : World) (hw : Below w1.heap.size w1 w') => hl0.below hw)
  have HX0 := Lib.hid (fun (w' : World) (hw : Below w1.heap.size w1 w') => show w'.cell? ⟨W.heap.size, 0, none⟩ = some (.bool false) ∧ w'.cell? ⟨W.heap.size, 1, none⟩ = some (.slice h.K n.keys.length h.kc) by
    obtain ⟨c0, c1, _⟩ := hx0.below hw
    rw [hleaf] at c0
    exact ⟨c0, c1⟩)
  have HU := Lib.hid hu
  have HLF := Lib.hid hleaf
  have HKS := Lib.hid hks
  have HAL := Lib.hid (at_le n key)
  clear hw1 hb0 hx0 hl0 hl hs hu hks
  go_enter Try.func25, Try.ntmps25
  go_wp2_with fail
  rw [← HW1.out]
  clear HW1 hleaf
  generalize hat : at_ n key = atv at *
  have HATV := Lib.hid hat
  clear hat
  generalize hg : W.heap.size = g at *
  have HG := Lib.hid hg
  clear hg
  go_loopw [6, 7, 8] (fun a b i wr => ∃ (k m : Nat) (hb : Bool), k ≤ n.keys.length ∧ m = min k atv ∧ hb = has (n.keys.take k) key ∧ a = .int .i64 m ∧ b = .bool hb ∧ i = .int .i64 k ∧ Below w1.heap.size w1 wr) (fun _ _ i _ => n.keys.length - (intOf i).toNat)
  case atStart => exact ⟨0, 0, false, by omega, by omega, by simp [has], rfl, rfl, rfl, Below.refl _ _⟩
  case round =>
    obtain ⟨k, m, hb, hk, hm, hhb, rfl, rfl, rfl, hbw⟩ := hrel
    have HM := Lib.hid hm
    have HB := Lib.hid hhb
    clear hm hhb
    by_cases hlt : k < n.keys.length
    · have hpl := place (key := key) HU.out k hlt
      rw [HATV.out, HLF.out] at hpl
      obtain ⟨ad, hKA, hb1, hc1⟩ := strs_get (HLY.out w1 (Below.refl _ _)).k k hlt
      have HQ := Lib.hid (fun (w' : World) (hw : Below w1.heap.size w1 w') => (hw.cell (p := ad.add k) (by rw [blk_add]; exact hb1)).trans hc1)
      have HX := Lib.hid (fun (w' : World) (hw : Below w1.heap.size w1 w') => show w'.cell? ⟨g, 0, none⟩ = some (.bool false) ∧ w'.cell? ⟨g, 1, none⟩ = some (.slice (some ad) n.keys.length h.kc) by rw [← hKA]; exact HX0.out w' hw)
      have HQS := Lib.hid (show n.keys[k].size ≤ maxLen by have := HSH.out.ks _ (List.getElem_mem hlt); simp only [maxLen]; omega)
      have HT := Lib.hid (has_take key k hlt)
      have HATL := HAL.out
      clear hKA hb1 hc1
      generalize n.keys[k] = q at *
      rcases hpl with ⟨p1, p2, p3⟩ | ⟨p1, p2, p3, p4⟩ | ⟨p1, p2, p3⟩
      · have HLS := Lib.hid p1
        have HE := Lib.hid (show (q.toList == key.toList) = false by rw [Str.ba_beq]; simpa using p2)
        have HAT := Lib.hid (show k < atv by exact p3)
        rw [show decide (q = key) = false by simpa using p2] at HT
        have hm9 : m ≤ 1000 := by have := HM.out; omega
        clear p1 p2 p3
        cases hb with
        | true =>
          have heq : (q.toList == key.toList) = false := HE.out
          obtain ⟨c0, c1⟩ := HX.out wr hbw
          have hcq := HQ.out wr hbw
          have hbl := Below_b (w := wr) q key HQS.out HKS.out
          rw [HLS.out] at hbl
          go_wp2_with fail
          refine hbl.mono ?_
          rintro e w5 ⟨rfl, b5⟩
          clear hbl c0 c1 hcq
          have hbw5 := bstep hbw hbw.size b5
          clear b5 hbw
          obtain ⟨c0, c1⟩ := HX.out w5 hbw5
          have hcq := HQ.out w5 hbw5
          go_wp2_with fail
          clear c0 c1 hcq
          go_roundw
          case rel => exact ⟨k + 1, m + 1, true, by omega, by have := HM.out; have := HAT.out; omega, by rw [HT.out]; simp [← HB.out], by go_num, rfl, by go_num, hbw5⟩
          case measure => simp [intOf]; omega
        | false =>
          have heq : (q.toList == key.toList) = false := HE.out
          obtain ⟨c0, c1⟩ := HX.out wr hbw
          have hcq := HQ.out wr hbw
          have hbl := Below_b (w := wr) q key HQS.out HKS.out
          rw [HLS.out] at hbl
          go_wp2_with fail
          refine hbl.mono ?_
          rintro e w5 ⟨rfl, b5⟩
          clear hbl c0 c1 hcq
          have hbw5 := bstep hbw hbw.size b5
          clear b5 hbw
          obtain ⟨c0, c1⟩ := HX.out w5 hbw5
          have hcq := HQ.out w5 hbw5
          go_wp2_with fail
          clear c0 c1 hcq
          go_roundw
          case rel => exact ⟨k + 1, m + 1, false, by omega, by have := HM.out; have := HAT.out; omega, by rw [HT.out]; simp [← HB.out], by go_num, rfl, by go_num, hbw5⟩
          case measure => simp [intOf]; omega
      · have HLS := Lib.hid p1
        have HE := Lib.hid (show (q.toList == key.toList) = true by rw [Str.ba_beq]; simpa using p2)
        have HAT := Lib.hid (show k < atv by simpa using p4)
        rw [show decide (q = key) = true by simpa using p2] at HT
        have hm9 : m ≤ 1000 := by have := HM.out; omega
        clear p1 p2 p3 p4
        cases hb with
        | true =>
          have heq : (q.toList == key.toList) = true := HE.out
          obtain ⟨c0, c1⟩ := HX.out wr hbw
          have hcq := HQ.out wr hbw
          have hbl := Below_b (w := wr) q key HQS.out HKS.out
          rw [HLS.out] at hbl
          go_wp2_with fail
          refine hbl.mono ?_
          rintro e w5 ⟨rfl, b5⟩
          clear hbl c0 c1 hcq
          have hbw5 := bstep hbw hbw.size b5
          clear b5 hbw
          obtain ⟨c0, c1⟩ := HX.out w5 hbw5
          have hcq := HQ.out w5 hbw5
          go_wp2_with fail
          clear c0 c1 hcq
          go_roundw
          case rel => exact ⟨k + 1, m + 1, true, by omega, by have := HM.out; have := HAT.out; omega, by rw [HT.out]; simp [← HB.out], by go_num, rfl, by go_num, hbw5⟩
          case measure => simp [intOf]; omega
        | false =>
          have heq : (q.toList == key.toList) = true := HE.out
          obtain ⟨c0, c1⟩ := HX.out wr hbw
          have hcq := HQ.out wr hbw
          have hbl := Below_b (w := wr) q key HQS.out HKS.out
          rw [HLS.out] at hbl
          go_wp2_with fail
          refine hbl.mono ?_
          rintro e w5 ⟨rfl, b5⟩
          clear hbl c0 c1 hcq
          have hbw5 := bstep hbw hbw.size b5
          clear b5 hbw
          obtain ⟨c0, c1⟩ := HX.out w5 hbw5
          have hcq := HQ.out w5 hbw5
          go_wp2_with fail
          clear c0 c1 hcq
          go_roundw
          case rel => exact ⟨k + 1, m + 1, true, by omega, by have := HM.out; have := HAT.out; omega, by rw [HT.out]; simp [← HB.out], by go_num, rfl, by go_num, hbw5⟩
          case measure => simp [intOf]; omega
      · have HLS := Lib.hid p1
        have HE := Lib.hid (show (q.toList == key.toList) = false by rw [Str.ba_beq]; simpa using p2)
        have HAT := Lib.hid (show ¬ k < atv by exact p3)
        rw [show decide (q = key) = false by simpa using p2] at HT
        have hm9 : m ≤ 1000 := by have := HM.out; omega
        clear p1 p2 p3
        cases hb with
        | true =>
          have heq : (q.toList == key.toList) = false := HE.out
          obtain ⟨c0, c1⟩ := HX.out wr hbw
          have hcq := HQ.out wr hbw
          have hbl := Below_b (w := wr) q key HQS.out HKS.out
          rw [HLS.out] at hbl
          go_wp2_with fail
          refine hbl.mono ?_
          rintro e w5 ⟨rfl, b5⟩
          clear hbl c0 c1 hcq
          have hbw5 := bstep hbw hbw.size b5
          clear b5 hbw
          obtain ⟨c0, c1⟩ := HX.out w5 hbw5
          have hcq := HQ.out w5 hbw5
          go_wp2_with fail
          clear c0 c1 hcq
          go_roundw
          case rel => exact ⟨k + 1, m, true, by omega, by have := HM.out; have := HAT.out; omega, by rw [HT.out]; simp [← HB.out], by go_num, rfl, by go_num, hbw5⟩
          case measure => simp [intOf]; omega
        | false =>
          have heq : (q.toList == key.toList) = false := HE.out
          obtain ⟨c0, c1⟩ := HX.out wr hbw
          have hcq := HQ.out wr hbw
          have hbl := Below_b (w := wr) q key HQS.out HKS.out
          rw [HLS.out] at hbl
          go_wp2_with fail
          refine hbl.mono ?_
          rintro e w5 ⟨rfl, b5⟩
          clear hbl c0 c1 hcq
          have hbw5 := bstep hbw hbw.size b5
          clear b5 hbw
          obtain ⟨c0, c1⟩ := HX.out w5 hbw5
          have hcq := HQ.out w5 hbw5
          go_wp2_with fail
          clear c0 c1 hcq
          go_roundw
          case rel => exact ⟨k + 1, m, false, by omega, by have := HM.out; have := HAT.out; omega, by rw [HT.out]; simp [← HB.out], by go_num, rfl, by go_num, hbw5⟩
          case measure => simp [intOf]; omega
    · obtain rfl : k = n.keys.length := by omega
      have HE1 := Lib.hid (show m = at_ n key by have h1 := HM.out; have h2 := HAL.out; have h3 := HATV.out; omega)
      have HE2 := Lib.hid (show hb = has n.keys key by rw [HB.out, List.take_of_length_le (Nat.le_refl _)])
      obtain ⟨c0, c1⟩ := HX0.out wr hbw
      go_wp2_with fail
      go_ret2
      exact ⟨by rw [HE1.out, HE2.out, HATV.out]; rfl, by rw [HG.out]; exact bstep HB0.out (by have := HB0.out.size; have := HG.out; omega) hbw⟩
theorem rfind_any (W : World) (n : Nd) (h : Hd) (key : ByteArray) (hl : Lay W n h) (hs : Small n) (hu : Up n.keys) (hks : key.size ≤ maxLen) :
    Calls Try.prog 25 #[nv n h, .string key] W fun e w' => e = .returned (.tuple #[.int .i64 (at_ n key : Nat), .bool (has n.keys key)]) ∧ Below W.heap.size W w' := by
  cases hl2 : n.leaf with
  | true => exact rfind_true W n h key hl hs hu hks hl2
  | false => exact rfind_false W n h key hl hs hu hks hl2
end Go.Proofs.Ytpcpfcllgadghaa.NodeRefFind
