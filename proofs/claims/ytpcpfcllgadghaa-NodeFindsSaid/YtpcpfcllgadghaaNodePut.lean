/- The contracts of parted and put. -/
import Derived.Test.YtpcpfcllgadghaaNodeBox
namespace Go.Proofs.Ytpcpfcllgadghaa.NodePut
open Go.RowKit Base NodePlain NodeRead NodeSlice NodeCheck NodeBox

set_option maxHeartbeats 1600000 in
theorem parted_any_s (w : World) (A : Option Addr) (n c e f : Nat) (vs : List Value) (hs : SlA vs (.slice A n c) w) (h1 : Ones vs) (hl : vs.length ≤ 10000) (x y : Int) (hx : x = (e : Int)) (hy : y = (f : Int)) :
    Calls Try.prog 50 #[.slice A n c, .int .i64 x, .int .i64 y] w fun e' w' => ∃ A1 m1 c1 A2 m2 c2, e' = .returned (.tuple #[.slice A1 m1 c1, .slice A2 m2 c2]) ∧ SlO w.heap.size (vs.take e) (.slice A1 m1 c1) w' ∧ SlO w.heap.size (vs.drop f) (.slice A2 m2 c2) w' ∧ Below w.heap.size w w' := by
  subst hx hy
  have hn : n = vs.length := by obtain ⟨_, _, _, e1, e2, _⟩ := hs; injection e1 with _ e1; rw [e1, e2]
  have HN := Lib.hid hn
  have HS := Lib.hid hs
  have HL := Lib.hid hl
  have HO := Lib.hid h1
  have hc1 := cutP_s w (.slice A n c) vs 0 e 0 (e : Int) hs rfl rfl
  clear hn hs hl h1
  go_enter Try.func50, Try.ntmps50
  go_wp2_with fail
  refine hc1.mono ?_
  rintro e' w1 ⟨A1, m1, c1, rfl, hA1, rfl⟩
  clear hc1
  rw [List.drop_zero] at hA1
  have hp := pcs1 (t := 22) hA1 (fun u hu => HO.out u (List.mem_of_mem_take hu))
  have b1 := al w (.cells #[.slice A1 m1 c1] 22)
  have hly := layO_s _ _ _ hp (by have := HL.out; simp; omega) (by simp)
  clear hA1 hp
  go_wp2_with fail
  refine hly.mono ?_
  rintro e' w2 ⟨A2, m2, c2, rfl, hA2, b2⟩
  clear hly
  have hb2 := Below.step b1 b2
  have hA2 : SlO w.heap.size (vs.take e) (.slice A2 m2 c2) w2 := by simpa using hA2.low b1.size
  have hc3 := cutP_s w2 (.slice A n c) vs f n f (n : Int) (HS.out.below hb2) rfl rfl
  clear b1 b2
  go_wp2_with fail
  refine hc3.mono ?_
  rintro e' w3 ⟨A3, m3, c3, rfl, hA3, rfl⟩
  clear hc3
  rw [HN.out, List.take_of_length_le (Nat.le_refl _)] at hA3
  have hp := pcs1 (t := 22) hA3 (fun u hu => HO.out u (List.mem_of_mem_drop hu))
  have b1 := al w2 (.cells #[.slice A3 m3 c3] 22)
  have hly := layO_s _ _ _ hp (by have := HL.out; simp; omega) (by simp)
  have hA2' := hA2.below b1
  have hb3 := bstep hb2 hb2.size b1
  clear hA3 hp b1 hA2 hb2
  go_wp2_with fail
  refine hly.mono ?_
  rintro e' w4 ⟨A4, m4, c4, rfl, hA4, b4⟩
  clear hly
  have hA4 : SlO w.heap.size (vs.drop f) (.slice A4 m4 c4) w4 := by simpa using hA4.low hb3.size
  have hA5 := hA2'.below b4
  have hb5 := bstep hb3 hb3.size b4
  clear hA2' hb3 b4
  go_wp2_with fail
  go_ret2
  exact ⟨_, _, _, _, _, _, rfl, hA5, hA4, hb5⟩
set_option maxHeartbeats 1600000 in
theorem parted_any_i (w : World) (A : Option Addr) (n c e f : Nat) (vs : List Value) (hs : SlA vs (.slice A n c) w) (h1 : Ones vs) (hl : vs.length ≤ 10000) (x y : Int) (hx : x = (e : Int)) (hy : y = (f : Int)) :
    Calls Try.prog 51 #[.slice A n c, .int .i64 x, .int .i64 y] w fun e' w' => ∃ A1 m1 c1 A2 m2 c2, e' = .returned (.tuple #[.slice A1 m1 c1, .slice A2 m2 c2]) ∧ SlO w.heap.size (vs.take e) (.slice A1 m1 c1) w' ∧ SlO w.heap.size (vs.drop f) (.slice A2 m2 c2) w' ∧ Below w.heap.size w w' := by
  subst hx hy
  have hn : n = vs.length := by obtain ⟨_, _, _, e1, e2, _⟩ := hs; injection e1 with _ e1; rw [e1, e2]
  have HN := Lib.hid hn
  have HS := Lib.hid hs
  have HL := Lib.hid hl
  have HO := Lib.hid h1
  have hc1 := cutP_i w (.slice A n c) vs 0 e 0 (e : Int) hs rfl rfl
  clear hn hs hl h1
  go_enter Try.func51, Try.ntmps51
  go_wp2_with fail
  refine hc1.mono ?_
  rintro e' w1 ⟨A1, m1, c1, rfl, hA1, rfl⟩
  clear hc1
  rw [List.drop_zero] at hA1
  have hp := pcs1 (t := 23) hA1 (fun u hu => HO.out u (List.mem_of_mem_take hu))
  have b1 := al w (.cells #[.slice A1 m1 c1] 23)
  have hly := layO_i _ _ _ hp (by have := HL.out; simp; omega) (by simp)
  clear hA1 hp
  go_wp2_with fail
  refine hly.mono ?_
  rintro e' w2 ⟨A2, m2, c2, rfl, hA2, b2⟩
  clear hly
  have hb2 := Below.step b1 b2
  have hA2 : SlO w.heap.size (vs.take e) (.slice A2 m2 c2) w2 := by simpa using hA2.low b1.size
  have hc3 := cutP_i w2 (.slice A n c) vs f n f (n : Int) (HS.out.below hb2) rfl rfl
  clear b1 b2
  go_wp2_with fail
  refine hc3.mono ?_
  rintro e' w3 ⟨A3, m3, c3, rfl, hA3, rfl⟩
  clear hc3
  rw [HN.out, List.take_of_length_le (Nat.le_refl _)] at hA3
  have hp := pcs1 (t := 23) hA3 (fun u hu => HO.out u (List.mem_of_mem_drop hu))
  have b1 := al w2 (.cells #[.slice A3 m3 c3] 23)
  have hly := layO_i _ _ _ hp (by have := HL.out; simp; omega) (by simp)
  have hA2' := hA2.below b1
  have hb3 := bstep hb2 hb2.size b1
  clear hA3 hp b1 hA2 hb2
  go_wp2_with fail
  refine hly.mono ?_
  rintro e' w4 ⟨A4, m4, c4, rfl, hA4, b4⟩
  clear hly
  have hA4 : SlO w.heap.size (vs.drop f) (.slice A4 m4 c4) w4 := by simpa using hA4.low hb3.size
  have hA5 := hA2'.below b4
  have hb5 := bstep hb3 hb3.size b4
  clear hA2' hb3 b4
  go_wp2_with fail
  go_ret2
  exact ⟨_, _, _, _, _, _, rfl, hA5, hA4, hb5⟩
set_option maxHeartbeats 1600000 in
theorem put_any (w : World) (A : Option Addr) (n c e f : Nat) (vs is : List Value) (B : Option Addr) (nb cb : Nat) (hs : SlA vs (.slice A n c) w) (h1 : Ones vs) (hi : SlA is (.slice B nb cb) w) (h2 : Ones is) (hl : vs.length ≤ 10000) (hli : is.length ≤ 10000) (x y : Int) (hx : x = (e : Int)) (hy : y = (f : Int)) :
    Calls Try.prog 49 #[.slice A n c, .int .i64 x, .int .i64 y, .slice B nb cb] w fun e' w' => ∃ A1 m1 c1, e' = .returned (.slice A1 m1 c1) ∧ SlO w.heap.size (vs.take e ++ (is ++ vs.drop f)) (.slice A1 m1 c1) w' ∧ Below w.heap.size w w' := by
  subst hx hy
  have hn : n = vs.length := by obtain ⟨_, _, _, e1, e2, _⟩ := hs; injection e1 with _ e1; rw [e1, e2]
  have HN := Lib.hid hn
  have HS := Lib.hid hs
  have HL := Lib.hid hl
  have HLI := Lib.hid hli
  have HO := Lib.hid h1
  have HO2 := Lib.hid h2
  have HI := Lib.hid hi
  have hc1 := cutP_s w (.slice A n c) vs 0 e 0 (e : Int) hs rfl rfl
  have hc3 := cutP_s w (.slice A n c) vs f n f (n : Int) hs rfl rfl
  clear hn hs hl h1 h2 hi hli
  go_enter Try.func49, Try.ntmps49
  go_wp2_with fail
  refine hc1.mono ?_
  rintro e' w1 ⟨A1, m1, c1, rfl, hA1, rfl⟩
  clear hc1
  rw [List.drop_zero] at hA1
  go_wp2_with fail
  refine hc3.mono ?_
  rintro e' w3 ⟨A3, m3, c3, rfl, hA3, rfl⟩
  clear hc3
  rw [HN.out, List.take_of_length_le (Nat.le_refl _)] at hA3
  have hp := pcs3 (t := 22) hA1 (fun u hu => HO.out u (List.mem_of_mem_take hu)) HI.out HO2.out hA3 (fun u hu => HO.out u (List.mem_of_mem_drop hu))
  have b1 := al w (.cells #[.slice A1 m1 c1, .slice B nb cb, .slice A3 m3 c3] 22)
  have hly := layO_s _ _ _ hp (by have := HL.out; have := HLI.out; simp; omega) (by simp)
  clear hA3 hA1 hp
  go_wp2_with fail
  refine hly.mono ?_
  rintro e' w4 ⟨A4, m4, c4, rfl, hA4, b4⟩
  clear hly
  have hA4 : SlO w.heap.size (vs.take e ++ (is ++ vs.drop f)) (.slice A4 m4 c4) w4 := by simpa using hA4.low b1.size
  have hb5 := Below.step b1 b4
  go_wp2_with fail
  go_ret
  exact ⟨_, _, _, rfl, hA4, hb5⟩
end Go.Proofs.Ytpcpfcllgadghaa.NodePut
