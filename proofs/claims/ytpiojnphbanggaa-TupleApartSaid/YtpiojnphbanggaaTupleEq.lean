/- Users and tuples compared as a whole; the law's awake. -/
import Derived.Test.YtpiojnphbanggaaTupleSpec
namespace Go.Proofs.Ytpiojnphbanggaa.TupleEq
open Go.RowKit Base KeyPlain TuplePlain TupleRef TupleSpec

instance : DecidableEq Us := fun u v => decidable_of_iff (u.k = v.k ∧ u.i = v.i ∧ u.r = v.r) (by cases u; cases v; simp)
instance : DecidableEq Tp := fun t v => decidable_of_iff (t.k = v.k ∧ t.i = v.i ∧ t.r = v.r ∧ t.u = v.u) (by cases t; cases v; simp)
theorem us_in (u v : Us) (w : World) : (Op.equalIn 10000 23 (.agg (uc u)) (.agg (uc v))).run Try.prog w = .ok (decide (u = v)) w := by
  unfold uc
  obtain ⟨k, i, r⟩ := u
  obtain ⟨k', i', r'⟩ := v
  rw [show (10000 : Nat) = 9999 + 1 from rfl, run_equalIn_agg _ _ _ _ _ (by kernel_rfl) (by kernel_rfl)]
  by_cases h0 : k = k' <;> by_cases h1 : i = i' <;> by_cases h2 : r = r' <;> simp [go_sem, Str.ba_beq, *]
theorem tp_in (t v : Tp) (w : World) : (Op.equalIn 10000 25 (.agg (tc t)) (.agg (tc v))).run Try.prog w = .ok (decide (t = v)) w := by
  unfold tc
  obtain ⟨k, i, r, ⟨uk, ui, ur⟩⟩ := t
  obtain ⟨k', i', r', ⟨uk', ui', ur'⟩⟩ := v
  rw [show (10000 : Nat) = 9999 + 1 from rfl, run_equalIn_agg _ _ _ _ _ (by kernel_rfl) (by kernel_rfl)]
  by_cases h0 : k = k' <;> by_cases h1 : i = i' <;> by_cases h2 : r = r' <;> simp [go_sem, Str.ba_beq, *]
  by_cases h3 : uk = uk' <;> by_cases h4 : ui = ui' <;> by_cases h5 : ur = ur' <;> simp [*]
theorem us_eq (u v : Us) (w : World) : (binOp .eql 23 (.agg (uc u)) (.agg (uc v))).run Try.prog w = .ok (.bool (decide (u = v))) w := by
  rw [run_eql_struct, us_in]; rfl
theorem us_ne (u v : Us) (w : World) : (binOp .neq 23 (.agg (uc u)) (.agg (uc v))).run Try.prog w = .ok (.bool (!decide (u = v))) w := by
  rw [run_neq_struct, us_in]; rfl
theorem tp_eq (t v : Tp) (w : World) : (binOp .eql 25 (.agg (tc t)) (.agg (tc v))).run Try.prog w = .ok (.bool (decide (t = v))) w := by
  rw [run_eql_struct, tp_in]; rfl
/-- the chapter's example -/
def tx : Tp := ⟨⟨#[100, 111, 99]⟩, ⟨#[97, 46, 116, 120, 116]⟩, ⟨#[118, 105, 101, 119, 101, 114]⟩, ⟨⟨#[103, 114, 111, 117, 112]⟩, ⟨#[101, 110, 103]⟩, ⟨#[109, 101, 109, 98, 101, 114]⟩⟩⟩
abbrev sx : ByteArray := ⟨#[100, 111, 99, 58, 97, 46, 116, 120, 116, 35, 118, 105, 101, 119, 101, 114, 64, 103, 114, 111, 117, 112, 58, 101, 110, 103, 35, 109, 101, 109, 98, 101, 114]⟩
theorem tx_ok : tx.ok = true := by decide +kernel
theorem tx_show : tx.show = bl sx := by decide +kernel
theorem tx_few : TpF tx := by
  refine ⟨?_, ?_, ?_, ?_, ?_, ?_⟩ <;> decide +kernel
theorem tc_tx : tc tx = #[.string ⟨#[100, 111, 99]⟩, .string ⟨#[97, 46, 116, 120, 116]⟩, .string ⟨#[118, 105, 101, 119, 101, 114]⟩, .string ⟨#[103, 114, 111, 117, 112]⟩, .string ⟨#[101, 110, 103]⟩, .string ⟨#[109, 101, 109, 98, 101, 114]⟩] := rfl
section
variable (X : Specs) (w : World)
include X
theorem read_ex : Calls Try.prog 20 #[.string sx] w fun e w' => e = .returned (.tuple #[.agg (tc tx), .int .i64 0]) ∧ Below w.heap.size w w' := by
  refine (X.read sx w (by decide +kernel)).mono ?_
  rintro e w' ⟨o, ho, rfl, hb⟩
  rw [← tx_show] at ho
  rw [RdT.shown tx_ok ho]
  exact ⟨rfl, hb⟩
theorem show_ex : Calls Try.prog 13 #[.agg (tc tx)] w fun e w' => e = .returned (.tuple #[.string sx, .int .i64 0]) ∧ Below w.heap.size w w' := by
  refine (X.show_ tx w tx_few).mono ?_
  rintro e w' ⟨rfl, hb⟩
  refine ⟨?_, hb⟩
  unfold okS okE
  rw [tx_ok, tx_show]
  rfl
theorem key_ex : Calls Try.prog 26 #[.agg (tc tx)] w fun e w' => e = .returned (.tuple #[.string ⟨tx.key.toArray⟩, .int .i64 0]) ∧ Below w.heap.size w w' := by
  refine (X.key tx w tx_few).mono ?_
  rintro e w' ⟨rfl, hb⟩
  refine ⟨?_, hb⟩
  unfold okS okE
  rw [tx_ok]
  rfl
theorem ofKey_ex : Calls Try.prog 28 #[.string ⟨tx.key.toArray⟩] w fun e w' => e = .returned (.tuple #[.agg (tc tx), .bool false, .int .i64 0]) ∧ Below w.heap.size w w' := by
  refine (X.ofKey _ w (by show tx.key.toArray.size ≤ _; rw [List.size_toArray]; have := (tx.key_len tx_ok).1; omega)).mono ?_
  rintro e w' ⟨o, ho, rfl, hb⟩
  rw [show bl ⟨tx.key.toArray⟩ = tx.key from by simp [bl]] at ho
  rw [RdK.key tx_ok ho]
  exact ⟨rfl, hb⟩
theorem check_ex : Calls Try.prog 15 #[.agg (tc tx)] w fun e w' => e = .returned (.int .i64 0) ∧ Below w.heap.size w w' := by
  refine (X.check tx w tx_few).mono ?_
  rintro e w' ⟨rfl, hb⟩
  refine ⟨?_, hb⟩
  unfold okE
  rw [tx_ok]
  rfl
theorem name_ex : Calls Try.prog 22 #[.string ⟨#[100, 111, 99]⟩] w fun e w' => e = .returned (.bool true) ∧ Below w.heap.size w w' :=
  (X.name ⟨#[100, 111, 99]⟩ w (by decide +kernel)).mono fun e w' h => ⟨h.1.trans (ret_bool (by decide +kernel)), h.2⟩
theorem id_ex : Calls Try.prog 24 #[.string ⟨#[97, 46, 116, 120, 116]⟩] w fun e w' => e = .returned (.bool true) ∧ Below w.heap.size w w' :=
  (X.id ⟨#[97, 46, 116, 120, 116]⟩ w (by decide +kernel)).mono fun e w' h => ⟨h.1.trans (ret_bool (by decide +kernel)), h.2⟩
set_option maxRecDepth 100000 in
set_option maxHeartbeats 12800000 in
theorem awake_any (W : World) : Calls Try.prog 11 #[] W (Law W) := by
  have h1 := fun w => read_ex X w
  have h2 := fun w => show_ex X w
  have h3 := fun w => key_ex X w
  have h4 := fun w => ofKey_ex X w
  have h5 := fun w => check_ex X w
  have h6 := fun w => name_ex X w
  have h7 := fun w => id_ex X w
  have q0 := fun w => tp_eq tx tx w
  rw [decide_eq_true rfl] at q0
  simp only [tc_tx] at h1 h2 h3 h4 h5 q0
  obtain ⟨ky, hky⟩ : ∃ v : ByteArray, v = ⟨tx.key.toArray⟩ := ⟨_, rfl⟩
  rw [← hky] at h3 h4
  clear hky
  obtain ⟨w1, hw1⟩ : ∃ v, v = W.alloc (.cells #[.string ⟨#[100, 111, 99]⟩, .string ⟨#[97, 46, 116, 120, 116]⟩, .string ⟨#[118, 105, 101, 119, 101, 114]⟩, .string ⟨#[103, 114, 111, 117, 112]⟩, .string ⟨#[101, 110, 103]⟩, .string ⟨#[109, 101, 109, 98, 101, 114]⟩] 25) := ⟨_, rfl⟩
  obtain ⟨b, hbe⟩ : ∃ v, v = W.heap.size := ⟨_, rfl⟩
  have b1 : Below W.heap.size W w1 := by rw [hw1]; exact al _ _
  have a1 : w1.heap[b]? = some (.cells #[.string ⟨#[100, 111, 99]⟩, .string ⟨#[97, 46, 116, 120, 116]⟩, .string ⟨#[118, 105, 101, 119, 101, 114]⟩, .string ⟨#[103, 114, 111, 117, 112]⟩, .string ⟨#[101, 110, 103]⟩, .string ⟨#[109, 101, 109, 98, 101, 114]⟩] 25 (0, 0)) := by rw [hw1, hbe]; exact heap_alloc_new W _
  have HW1 := Lib.hid hw1
  have HBE := Lib.hid hbe
  have H1 := Lib.hid h1
  have H2 := Lib.hid h2
  have H3 := Lib.hid h3
  have H4 := Lib.hid h4
  have H5 := Lib.hid h5
  have H6 := Lib.hid h6
  have H7 := Lib.hid h7
  clear hw1 hbe h1 h2 h3 h4 h5 h6 h7
  unfold Law
  go_enter Try.func11, Try.ntmps11
  go_upto_region 2 with fail
  try rw [← HW1.out]
  try rw [← HBE.out]
  clear HW1
  have hcall := H1.out w1
  go_wp2_with fail
  (with_reducible refine hcall.mono ?_)
  clear hcall
  rintro e w2 ⟨rfl, b12⟩
  obtain ⟨w3, hw3⟩ : ∃ v, v = w2.alloc (.cells #[.string ⟨#[100, 111, 99]⟩, .string ⟨#[97, 46, 116, 120, 116]⟩, .string ⟨#[118, 105, 101, 119, 101, 114]⟩, .string ⟨#[103, 114, 111, 117, 112]⟩, .string ⟨#[101, 110, 103]⟩, .string ⟨#[109, 101, 109, 98, 101, 114]⟩] 25) := ⟨_, rfl⟩
  have b23 : Below w2.heap.size w2 w3 := by rw [hw3]; exact al _ _
  have lt1 : b < w1.heap.size := (Array.getElem?_eq_some_iff.1 a1).1
  have a3 := (b23.block b (by have := b12.size; omega)).trans ((b12.block b lt1).trans a1)
  obtain ⟨b2, hb2⟩ : ∃ v, v = w2.heap.size := ⟨_, rfl⟩
  have c3 : w3.heap[b2]? = some (.cells #[.string ⟨#[100, 111, 99]⟩, .string ⟨#[97, 46, 116, 120, 116]⟩, .string ⟨#[118, 105, 101, 119, 101, 114]⟩, .string ⟨#[103, 114, 111, 117, 112]⟩, .string ⟨#[101, 110, 103]⟩, .string ⟨#[109, 101, 109, 98, 101, 114]⟩] 25 (0, 0)) := by rw [hw3, hb2]; exact heap_alloc_new w2 _
  have b3 := b1.trans ((Below.step b12 b23).mono b1.size)
  have HW3 := Lib.hid hw3
  have HB2 := Lib.hid hb2
  clear hw3 hb2 b12 b23 a1 b1 lt1
  go_upto_region 3 with fail
  try rw [← HW3.out]
  try rw [← HB2.out]
  clear HW3
  have hcall := H2.out w3
  obtain ⟨d0, d1, d2, d3, d4, d5⟩ := six_at a3
  go_wp2_with fail
  (with_reducible refine hcall.mono ?_)
  clear hcall d0 d1 d2 d3 d4 d5
  rintro e w4 ⟨rfl, b34⟩
  have lt3 : b < w3.heap.size := (Array.getElem?_eq_some_iff.1 a3).1
  have lt3' : b2 < w3.heap.size := (Array.getElem?_eq_some_iff.1 c3).1
  have a4 := (b34.block b lt3).trans a3
  have c4 := (b34.block b2 lt3').trans c3
  have b4 := b3.trans (b34.mono b3.size)
  clear a3 c3 b3 b34 lt3 lt3'
  have hcall := H3.out w4
  obtain ⟨d0, d1, d2, d3, d4, d5⟩ := six_at a4
  go_wp2_with fail
  (with_reducible refine hcall.mono ?_)
  clear hcall d0 d1 d2 d3 d4 d5
  rintro e w5 ⟨rfl, b45⟩
  have lt3 : b < w4.heap.size := (Array.getElem?_eq_some_iff.1 a4).1
  have lt3' : b2 < w4.heap.size := (Array.getElem?_eq_some_iff.1 c4).1
  have a5 := (b45.block b lt3).trans a4
  have c5 := (b45.block b2 lt3').trans c4
  have b5 := b4.trans (b45.mono b4.size)
  clear a4 c4 b4 b45 lt3 lt3'
  have hcall := H4.out w5
  go_wp2_with fail
  (with_reducible refine hcall.mono ?_)
  clear hcall
  rintro e w6 ⟨rfl, b56⟩
  obtain ⟨w7, hw7⟩ : ∃ v, v = w6.alloc (.cells #[.string ⟨#[100, 111, 99]⟩, .string ⟨#[97, 46, 116, 120, 116]⟩, .string ⟨#[118, 105, 101, 119, 101, 114]⟩, .string ⟨#[103, 114, 111, 117, 112]⟩, .string ⟨#[101, 110, 103]⟩, .string ⟨#[109, 101, 109, 98, 101, 114]⟩] 25) := ⟨_, rfl⟩
  have b67 : Below w6.heap.size w6 w7 := by rw [hw7]; exact al _ _
  have lt3 : b < w5.heap.size := (Array.getElem?_eq_some_iff.1 a5).1
  have lt3' : b2 < w5.heap.size := (Array.getElem?_eq_some_iff.1 c5).1
  have a7 := (b67.block b (by have := b56.size; omega)).trans ((b56.block b lt3).trans a5)
  have c7 := (b67.block b2 (by have := b56.size; omega)).trans ((b56.block b2 lt3').trans c5)
  obtain ⟨b8, hb8⟩ : ∃ v, v = w6.heap.size := ⟨_, rfl⟩
  have f7 : w7.heap[b8]? = some (.cells #[.string ⟨#[100, 111, 99]⟩, .string ⟨#[97, 46, 116, 120, 116]⟩, .string ⟨#[118, 105, 101, 119, 101, 114]⟩, .string ⟨#[103, 114, 111, 117, 112]⟩, .string ⟨#[101, 110, 103]⟩, .string ⟨#[109, 101, 109, 98, 101, 114]⟩] 25 (0, 0)) := by rw [hw7, hb8]; exact heap_alloc_new w6 _
  have b7 := b5.trans ((Below.step b56 b67).mono b5.size)
  have HW7 := Lib.hid hw7
  have HB8 := Lib.hid hb8
  clear hw7 hb8 b56 b67 a5 c5 b5 lt3 lt3'
  go_upto_region 6 with fail
  try rw [← HW7.out]
  try rw [← HB8.out]
  clear HW7
  have lt7 : b < w7.heap.size := (Array.getElem?_eq_some_iff.1 a7).1
  have hcall := H6.out w7
  have HA7 := Lib.hid (And.intro a7 (And.intro lt7 b7))
  obtain ⟨d0, d1, d2, d3, d4, d5⟩ := six_at a7
  obtain ⟨c0, c1, c2, c3, c4, c5⟩ := six_at c7
  obtain ⟨g0, g1, g2, g3, g4, g5⟩ := six_at f7
  clear a7 c7 f7 lt7 b7
  go_wp2_with fail
  (with_reducible refine hcall.mono ?_)
  clear hcall d0 d1 d2 d3 d4 d5 c0 c1 c2 c3 c4 c5 g0 g1 g2 g3 g4 g5
  rintro e w8 ⟨rfl, b78⟩
  have hcall := H7.out w8
  go_wp2_with fail
  (with_reducible refine hcall.mono ?_)
  clear hcall
  rintro e w9 ⟨rfl, b89⟩
  have b79 := Below.step b78 b89
  have a9 := (b79.block b HA7.out.2.1).trans HA7.out.1
  have hcall := H5.out w9
  obtain ⟨d0, d1, d2, d3, d4, d5⟩ := six_at a9
  have HB9 := Lib.hid (HA7.out.2.2.trans (b79.mono HA7.out.2.2.size))
  clear b78 b89 b79 a9
  go_wp2_with fail
  (with_reducible refine hcall.mono ?_)
  clear hcall d0 d1 d2 d3 d4 d5
  rintro e wa ⟨rfl, b9a⟩
  have HBA := Lib.hid (HB9.out.trans (b9a.mono HB9.out.size))
  clear b9a
  go_wp2_with fail
  go_ret
  exact ⟨rfl, HBA.out⟩
end
end Go.Proofs.Ytpiojnphbanggaa.TupleEq
