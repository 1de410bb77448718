/- PageSame2, PageRef. -/
import Derived.Test.YtpidnkfcccboaaaGreatKPageSame
import Derived.Test.YtpidnkfcccboaaaGreatKPlumb
import Derived.BigRegion
import Derived.ChangeKeysEq
import Derived.Laws.StructEq
import Derived.RegionTactic
namespace Go.Proofs.YtpidnkfcccboaaaGreat.PageSame2
open Go.RowKit Base PagePlain PageSmall Str PageSame

theorem cells2 (w : World) (p q : Pg) (A B : Option Addr) (c d : Nat) (x : World) (hx : Below ((w.alloc (.cells #[.int .i64 p.kind, .int .i64 p.no, .int .i64 p.epoch, .int .i64 p.link, .slice A p.cells.length c] 69)).alloc (.cells #[.int .i64 q.kind, .int .i64 q.no, .int .i64 q.epoch, .int .i64 q.link, .slice B q.cells.length d] 69)).heap.size ((w.alloc (.cells #[.int .i64 p.kind, .int .i64 p.no, .int .i64 p.epoch, .int .i64 p.link, .slice A p.cells.length c] 69)).alloc (.cells #[.int .i64 q.kind, .int .i64 q.no, .int .i64 q.epoch, .int .i64 q.link, .slice B q.cells.length d] 69)) x) :
  x.cell? ⟨w.heap.size, 0, none⟩ = some (.int .i64 p.kind) ∧ x.cell? ⟨w.heap.size, 1, none⟩ = some (.int .i64 p.no) ∧ x.cell? ⟨w.heap.size, 2, none⟩ = some (.int .i64 p.epoch) ∧ x.cell? ⟨w.heap.size, 3, none⟩ = some (.int .i64 p.link) ∧ x.cell? ⟨w.heap.size, 4, none⟩ = some (.slice A p.cells.length c) ∧ x.cell? ⟨w.heap.size + 1, 0, none⟩ = some (.int .i64 q.kind) ∧ x.cell? ⟨w.heap.size + 1, 1, none⟩ = some (.int .i64 q.no) ∧ x.cell? ⟨w.heap.size + 1, 2, none⟩ = some (.int .i64 q.epoch) ∧ x.cell? ⟨w.heap.size + 1, 3, none⟩ = some (.int .i64 q.link) ∧ x.cell? ⟨w.heap.size + 1, 4, none⟩ = some (.slice B q.cells.length d) := by
 have h1 : x.heap[w.heap.size]? = some (.cells #[.int .i64 p.kind, .int .i64 p.no, .int .i64 p.epoch, .int .i64 p.link, .slice A p.cells.length c] 69) := by
  rw [hx.block _ (by simp; omega), Below.heap_alloc _ _ _ (by simp), heap_alloc_new]
 have h2 : x.heap[w.heap.size + 1]? = some (.cells #[.int .i64 q.kind, .int .i64 q.no, .int .i64 q.epoch, .int .i64 q.link, .slice B q.cells.length d] 69) := by
  rw [hx.block _ (by simp)]
  have := heap_alloc_new (w.alloc (.cells #[.int .i64 p.kind, .int .i64 p.no, .int .i64 p.epoch, .int .i64 p.link, .slice A p.cells.length c] 69)) (.cells #[.int .i64 q.kind, .int .i64 q.no, .int .i64 q.epoch, .int .i64 q.link, .slice B q.cells.length d] 69)
  simpa using this
 refine ⟨?_, ?_, ?_, ?_, ?_, ?_, ?_, ?_, ?_, ?_⟩ <;> first | (rw [World.cell?, h1]; rfl) | (rw [World.cell?, h2]; rfl)
theorem arr3_eq (a b c a' b' c' : Int) (w : World) : (Op.equalIn 10000 178 (.agg #[.int .i64 a, .int .i64 b, .int .i64 c]) (.agg #[.int .i64 a', .int .i64 b', .int .i64 c'])).run Tryz.prog w = .ok (decide (a = a' ∧ b = b' ∧ c = c')) w := by
 have hs : (Tryz.prog.info? 3).map (·.size) = some 1 := by kernel_rfl
 have hc : Tryz.prog.cellsOf 3 = 1 := by kernel_rfl
 have hu3 := Tryz.underlying3
 cases hi : Tryz.prog.info? 3 with
 | none => rw [hi] at hs; cases hs
 | some i =>
  rw [run_equalIn_array w 9999 _ _ Tryz.underlying178 hi, hc]
  have h9 := fun (x y : Int) (w : World) => run_equalIn_int (P := Tryz.prog) w 9998 3 .i64 .i64 x y hu3
  simp [Op.eqItems, List.range, List.range.loop, part, isAgg, run_underlying hu3, h9, go_sem]
  by_cases h1 : a = a' <;> by_cases h2 : b = b' <;> by_cases h3 : c = c' <;> simp [*]
theorem undrew {w x : World} {B : Nat} (h : Below B w.drew x) : Below B w x := ⟨h.os, h.tape, h.output, h.size, h.block⟩

set_option maxRecDepth 100000 in
set_option maxHeartbeats 3200000 in
theorem same_any (w : World) (p q : Pg) (A B : Option Addr) (c d : Nat) (hA : Row w w.heap.size A (strs p.cells)) (hB : Row w w.heap.size B (strs q.cells)) (hl : p.cells.length ≤ maxLen) :
  Calls Tryz.prog 122 #[pv p A c, pv q B d] w fun e w' => e = .returned (.bool (same p q)) ∧ Below w.heap.size w w' := by
 have HC := Lib.hid (cells2 w p q A B c d)
 have hb : Below w.heap.size w ((w.alloc (.cells #[.int .i64 p.kind, .int .i64 p.no, .int .i64 p.epoch, .int .i64 p.link, .slice A p.cells.length c] 69)).alloc (.cells #[.int .i64 q.kind, .int .i64 q.no, .int .i64 q.epoch, .int .i64 q.link, .slice B q.cells.length d] 69)) := ((Below.refl _ _).alloc (Nat.le_refl _) _).alloc (by simp) _
 have HS := Lib.hid (show same p q = true ↔ p.kind = q.kind ∧ (p.no = q.no ∧ p.epoch = q.epoch ∧ p.link = q.link) ∧ p.cells = q.cells from decide_eq_true_iff)
 generalize same p q = S at *
 by_cases hk : p.kind = q.kind
 ·have hkb : (p.kind == q.kind) = true := by simp [hk]
  by_cases hf : p.no = q.no ∧ p.epoch = q.epoch ∧ p.link = q.link
  ·have HE := Lib.hid (show S = decide (p.cells = q.cells) by
    rw [Bool.eq_iff_iff, HS.out, decide_eq_true_iff]
    exact ⟨fun h => h.2.2, fun h => ⟨hk, hf, h⟩⟩)
   have hfe := arr3_eq p.no p.epoch p.link q.no q.epoch q.link
   rw [decide_eq_true hf] at hfe
   clear hk hf
   obtain ⟨w0, hw0⟩ : ∃ v, v = (w.alloc (.cells #[.int .i64 p.kind, .int .i64 p.no, .int .i64 p.epoch, .int .i64 p.link, .slice A p.cells.length c] 69)).alloc (.cells #[.int .i64 q.kind, .int .i64 q.no, .int .i64 q.epoch, .int .i64 q.link, .slice B q.cells.length d] 69) := ⟨_, rfl⟩
   rw [← hw0] at HC hb
   have HW0 := Lib.hid hw0
   clear hw0
   go_enter Tryz.func122, Tryz.ntmps122
   go_wp2_with fail
   rw [← HW0.out]
   have hrA : Row w0 w0.heap.size A (strs p.cells) := hA.belowSize hb
   have hrB : Row w0 w0.heap.size B (strs q.cells) := hB.belowSize hb
   clear hA hB
   refine wp_region_any (by kernel_rfl) ?_
   change wpAny _ _ _ _ _ _ _ (World.drew _)
   refine Held.any_of_G (S := (fun w' : World => w'.cell? ⟨w.heap.size, 0, none⟩ = some (.int .i64 p.kind) ∧ w'.cell? ⟨w.heap.size, 1, none⟩ = some (.int .i64 p.no) ∧ w'.cell? ⟨w.heap.size, 2, none⟩ = some (.int .i64 p.epoch) ∧ w'.cell? ⟨w.heap.size, 3, none⟩ = some (.int .i64 p.link) ∧ w'.cell? ⟨w.heap.size, 4, none⟩ = some (.slice A p.cells.length c) ∧ w'.cell? ⟨w.heap.size + 1, 0, none⟩ = some (.int .i64 q.kind) ∧ w'.cell? ⟨w.heap.size + 1, 1, none⟩ = some (.int .i64 q.no) ∧ w'.cell? ⟨w.heap.size + 1, 2, none⟩ = some (.int .i64 q.epoch) ∧ w'.cell? ⟨w.heap.size + 1, 3, none⟩ = some (.int .i64 q.link) ∧ w'.cell? ⟨w.heap.size + 1, 4, none⟩ = some (.slice B q.cells.length d))) (z := 19) _ _ _ _ ?_
   refine Held.G_take (i := 0) (d := 5) (v := ?_) [0, 1, 4, 5, 6, 7, 8, 9, 10, 11, 12, 13, 14, 15, 16, 17, 18, 19] rfl rfl (by kernel_rfl) (by kernel_rfl) (by kernel_rfl) (by kernel_rfl) (fun _ _ _ h => h) (Or.inl ⟨by rfl, ?_⟩) (HC.out _ (Below.refl w0.heap.size w0).drew) ?_
   rotate_left 1
   ·intro w hSw; clear hSw; go_simp <;> with_reducible rfl
   simp only [Act.put, List.setIfInBounds_toArray, List.set_cons_zero, List.set_cons_succ]
   refine Held.G_take (i := 1) (d := 6) (v := ?_) [1, 4, 5, 6, 7, 8, 9, 10, 11, 12, 13, 14, 15, 16, 17, 18, 19] rfl rfl (by kernel_rfl) (by kernel_rfl) (by kernel_rfl) (by kernel_rfl) (fun _ _ _ h => h) (Or.inl ⟨by rfl, ?_⟩) (HC.out _ (Below.refl w0.heap.size w0).drew) ?_
   rotate_left 1
   ·intro w hSw; obtain ⟨h0, h1, h2, h3, h4, h5, h6, h7, h8, h9⟩ := hSw; go_simp <;> with_reducible rfl
   simp only [Act.put, List.setIfInBounds_toArray, List.set_cons_zero, List.set_cons_succ]
   refine Held.G_take (i := 2) (d := 7) (v := ?_) [2, 3, 4, 5, 6, 7, 8, 9, 10, 11, 12, 13, 14, 15, 16, 17, 18, 19] rfl rfl (by kernel_rfl) (by kernel_rfl) (by kernel_rfl) (by kernel_rfl) (fun _ _ _ h => h) (Or.inl ⟨by rfl, ?_⟩) (HC.out _ (Below.refl w0.heap.size w0).drew) ?_
   rotate_left 1
   ·intro w hSw; clear hSw; go_simp <;> with_reducible rfl
   simp only [Act.put, List.setIfInBounds_toArray, List.set_cons_zero, List.set_cons_succ]
   refine Held.G_take (i := 3) (d := 8) (v := ?_) [3, 4, 5, 6, 7, 8, 9, 10, 11, 12, 13, 14, 15, 16, 17, 18, 19] rfl rfl (by kernel_rfl) (by kernel_rfl) (by kernel_rfl) (by kernel_rfl) (fun _ _ _ h => h) (Or.inl ⟨by rfl, ?_⟩) (HC.out _ (Below.refl w0.heap.size w0).drew) ?_
   rotate_left 1
   ·intro w hSw; obtain ⟨h0, h1, h2, h3, h4, h5, h6, h7, h8, h9⟩ := hSw; go_simp <;> with_reducible rfl
   simp only [Act.put, List.setIfInBounds_toArray, List.set_cons_zero, List.set_cons_succ]
   refine Held.G_take (i := 4) (d := 9) (v := ?_) [4, 5, 6, 7, 8, 9, 10, 11, 12, 13, 14, 15, 16, 17, 18, 19] rfl rfl (by kernel_rfl) (by kernel_rfl) (by kernel_rfl) (by kernel_rfl) (fun _ _ _ h => h) (Or.inl ⟨by rfl, ?_⟩) (HC.out _ (Below.refl w0.heap.size w0).drew) ?_
   rotate_left 1
   ·intro w hSw; clear hSw; go_simp <;> with_reducible rfl
   simp only [Act.put, List.setIfInBounds_toArray, List.set_cons_zero, List.set_cons_succ]
   refine Held.G_take (i := 5) (d := 10) (v := ?_) [5, 6, 7, 8, 9, 10, 11, 12, 13, 14, 15, 16, 17, 18, 19] rfl rfl (by kernel_rfl) (by kernel_rfl) (by kernel_rfl) (by kernel_rfl) (fun _ _ _ h => h) (Or.inl ⟨by rfl, ?_⟩) (HC.out _ (Below.refl w0.heap.size w0).drew) ?_
   rotate_left 1
   ·intro w hSw; clear hSw; go_simp <;> with_reducible rfl
   simp only [Act.put, List.setIfInBounds_toArray, List.set_cons_zero, List.set_cons_succ]
   refine Held.G_take (i := 6) (d := 11) (v := ?_) [6, 7, 9, 10, 11, 12, 13, 14, 15, 16, 17, 18, 19] rfl rfl (by kernel_rfl) (by kernel_rfl) (by kernel_rfl) (by kernel_rfl) (fun _ _ _ h => h) (Or.inl ⟨by rfl, ?_⟩) (HC.out _ (Below.refl w0.heap.size w0).drew) ?_
   rotate_left 1
   ·intro w hSw; obtain ⟨h0, h1, h2, h3, h4, h5, h6, h7, h8, h9⟩ := hSw; go_simp <;> with_reducible rfl
   simp only [Act.put, List.setIfInBounds_toArray, List.set_cons_zero, List.set_cons_succ]
   refine Held.G_take (i := 8) (d := 13) (v := ?_) [8, 9, 10, 11, 12, 13, 14, 15, 16, 17, 18, 19] rfl rfl (by kernel_rfl) (by kernel_rfl) (by kernel_rfl) (by kernel_rfl) (fun _ _ _ h => h) (Or.inl ⟨by rfl, ?_⟩) (HC.out _ (Below.refl w0.heap.size w0).drew) ?_
   rotate_left 1
   ·intro w hSw; obtain ⟨h0, h1, h2, h3, h4, h5, h6, h7, h8, h9⟩ := hSw; go_simp <;> with_reducible rfl
   simp only [Act.put, List.setIfInBounds_toArray, List.set_cons_zero, List.set_cons_succ]
   refine Held.G_ready (rs := [7]) (by decide +kernel) (by simp) ?_
   refine Held.G_cons rfl (fun KK hK => ?_) Held.G_nil
   go_simp
   (with_reducible refine (fields_any _ p A c).mono ?_)
   rintro e w1 ⟨rfl, hb1⟩
   have hq1 : Below w0.heap.size w0 w1 := undrew hb1
   clear hb1
   go_wp2_with fail
   refine ⟨(HC.out _ hq1), ?_⟩
   refine Held.G_ready (rs := [9]) (by decide +kernel) (by simp) ?_
   refine Held.G_cons rfl (fun KK hK => ?_) Held.G_nil
   go_simp
   (with_reducible refine (fields_any _ q B d).mono ?_)
   rintro e w2 ⟨rfl, hb2⟩
   have hq2 : Below w0.heap.size w0 w2 := Below.step hq1 hb2
   clear hb2
   go_wp2_with fail
   refine ⟨(HC.out _ hq2), ?_⟩
   refine Held.G_take (i := 10) (d := 15) (v := ?_) [10, 11, 12, 13, 14, 15, 16, 17, 18, 19] rfl rfl (by kernel_rfl) (by kernel_rfl) (by kernel_rfl) (by kernel_rfl) (fun _ _ _ h => h) (Or.inl ⟨by rfl, ?_⟩) (HC.out _ hq2) ?_
   rotate_left 1
   ·intro w hSw; clear hSw; go_simp <;> with_reducible rfl
   simp only [Act.put, List.setIfInBounds_toArray, List.set_cons_zero, List.set_cons_succ]
   refine Held.G_take (i := 11) (d := 16) (v := ?_) [11, 12, 13, 14, 15, 16, 17, 18, 19] rfl rfl (by kernel_rfl) (by kernel_rfl) (by kernel_rfl) (by kernel_rfl) (fun _ _ _ h => h) (Or.inl ⟨by rfl, ?_⟩) (HC.out _ hq2) ?_
   rotate_left 1
   ·intro w hSw; clear hSw; go_simp <;> with_reducible rfl
   simp only [Act.put, List.setIfInBounds_toArray, List.set_cons_zero, List.set_cons_succ]
   refine Held.G_take (i := 12) (d := 17) (v := ?_) [12, 13, 14, 15, 16, 17, 18, 19] rfl rfl (by kernel_rfl) (by kernel_rfl) (by kernel_rfl) (by kernel_rfl) (fun _ _ _ h => h) (Or.inl ⟨by rfl, ?_⟩) (HC.out _ hq2) ?_
   rotate_left 1
   ·intro w hSw; clear hSw; go_simp <;> with_reducible rfl
   simp only [Act.put, List.setIfInBounds_toArray, List.set_cons_zero, List.set_cons_succ]
   refine Held.G_take (i := 13) (d := 18) (v := ?_) [13, 14, 17, 18, 19] rfl rfl (by kernel_rfl) (by kernel_rfl) (by kernel_rfl) (by kernel_rfl) (fun _ _ _ h => h) (Or.inl ⟨by rfl, ?_⟩) (HC.out _ hq2) ?_
   rotate_left 1
   ·intro w hSw; clear hSw; go_simp <;> with_reducible rfl
   simp only [Act.put, List.setIfInBounds_toArray, List.set_cons_zero, List.set_cons_succ]
   refine Held.G_take (i := 14) (d := 19) (v := ?_) [14, 17, 18, 19] rfl rfl (by kernel_rfl) (by kernel_rfl) (by kernel_rfl) (by kernel_rfl) (fun _ _ _ h => h) (Or.inl ⟨by rfl, ?_⟩) (HC.out _ hq2) ?_
   rotate_left 1
   ·intro w hSw; obtain ⟨h0, h1, h2, h3, h4, h5, h6, h7, h8, h9⟩ := hSw; go_simp <;> with_reducible rfl
   simp only [Act.put, List.setIfInBounds_toArray, List.set_cons_zero, List.set_cons_succ]
   refine Held.G_take (i := 15) (d := 20) (v := ?_) [15, 16, 17, 18, 19] rfl rfl (by kernel_rfl) (by kernel_rfl) (by kernel_rfl) (by kernel_rfl) (fun _ _ _ h => h) (Or.inl ⟨by rfl, ?_⟩) (HC.out _ hq2) ?_
   rotate_left 1
   ·intro w hSw; clear hSw; go_simp <;> with_reducible rfl
   simp only [Act.put, List.setIfInBounds_toArray, List.set_cons_zero, List.set_cons_succ]
   refine Held.G_take (i := 16) (d := 21) (v := ?_) [16, 17, 18, 19] rfl rfl (by kernel_rfl) (by kernel_rfl) (by kernel_rfl) (by kernel_rfl) (fun _ _ _ h => h) (Or.inl ⟨by rfl, ?_⟩) (HC.out _ hq2) ?_
   rotate_left 1
   ·intro w hSw; obtain ⟨h0, h1, h2, h3, h4, h5, h6, h7, h8, h9⟩ := hSw; go_simp <;> with_reducible rfl
   simp only [Act.put, List.setIfInBounds_toArray, List.set_cons_zero, List.set_cons_succ]
   refine Held.G_ready (rs := [17]) (by decide +kernel) (by simp) ?_
   refine Held.G_cons rfl (fun KK hK => ?_) Held.G_nil
   go_simp
   (with_reducible refine (sleq_any _ A B p.cells q.cells _ _ c d rfl rfl (hrA.belowSize hq2) (hrB.belowSize hq2) hl).mono ?_)
   rintro e w3 ⟨rfl, nn, rfl⟩
   go_wp2_with fail
   refine ⟨(HC.out _ (hq2.trans (below_drewN _ _ nn))), ?_⟩
   refine Held.G_take (i := 18) (d := 23) (v := ?_) [18, 19] rfl rfl (by kernel_rfl) (by kernel_rfl) (by kernel_rfl) (by kernel_rfl) (fun _ _ _ h => h) (Or.inl ⟨by rfl, ?_⟩) (HC.out _ (hq2.trans (below_drewN _ _ nn))) ?_
   rotate_left 1
   ·intro w hSw; clear hSw; go_simp <;> with_reducible rfl
   simp only [Act.put, List.setIfInBounds_toArray, List.set_cons_zero, List.set_cons_succ]
   refine Held.G_ready (rs := [19]) (by decide +kernel) (by simp) ?_
   refine Held.G_last rfl (fun KK hK => ?_) Held.G_nil
   go_simp
   refine hK _ _ ?_
   clear hK KK
   refine Held.G_done (by kernel_rfl) ?_ _
   go_wp2_with fail
   go_ret
   exact ⟨ret_bool HE.out.symm, hb.trans ((hq2.trans (below_drewN _ _ nn)).mono hb.size)⟩
  ·have HE := Lib.hid (show S = false by
    rw [Bool.eq_false_iff]
    exact fun h => hf (HS.out.1 h).2.1)
   have hfe := arr3_eq p.no p.epoch p.link q.no q.epoch q.link
   rw [decide_eq_false hf] at hfe
   clear hk hf hA hB hl
   obtain ⟨w0, hw0⟩ : ∃ v, v = (w.alloc (.cells #[.int .i64 p.kind, .int .i64 p.no, .int .i64 p.epoch, .int .i64 p.link, .slice A p.cells.length c] 69)).alloc (.cells #[.int .i64 q.kind, .int .i64 q.no, .int .i64 q.epoch, .int .i64 q.link, .slice B q.cells.length d] 69) := ⟨_, rfl⟩
   rw [← hw0] at HC hb
   have HW0 := Lib.hid hw0
   clear hw0
   go_enter Tryz.func122, Tryz.ntmps122
   go_wp2_with fail
   rw [← HW0.out]
   refine wp_region_any (by kernel_rfl) ?_
   change wpAny _ _ _ _ _ _ _ (World.drew _)
   refine Held.any_of_G (S := (fun w' : World => w'.cell? ⟨w.heap.size, 0, none⟩ = some (.int .i64 p.kind) ∧ w'.cell? ⟨w.heap.size, 1, none⟩ = some (.int .i64 p.no) ∧ w'.cell? ⟨w.heap.size, 2, none⟩ = some (.int .i64 p.epoch) ∧ w'.cell? ⟨w.heap.size, 3, none⟩ = some (.int .i64 p.link) ∧ w'.cell? ⟨w.heap.size, 4, none⟩ = some (.slice A p.cells.length c) ∧ w'.cell? ⟨w.heap.size + 1, 0, none⟩ = some (.int .i64 q.kind) ∧ w'.cell? ⟨w.heap.size + 1, 1, none⟩ = some (.int .i64 q.no) ∧ w'.cell? ⟨w.heap.size + 1, 2, none⟩ = some (.int .i64 q.epoch) ∧ w'.cell? ⟨w.heap.size + 1, 3, none⟩ = some (.int .i64 q.link) ∧ w'.cell? ⟨w.heap.size + 1, 4, none⟩ = some (.slice B q.cells.length d))) (z := 19) _ _ _ _ ?_
   refine Held.G_take (i := 0) (d := 5) (v := ?_) [0, 1, 4, 5, 6, 7, 8, 9, 10, 11, 12, 13, 14, 15, 16, 17, 18, 19] rfl rfl (by kernel_rfl) (by kernel_rfl) (by kernel_rfl) (by kernel_rfl) (fun _ _ _ h => h) (Or.inl ⟨by rfl, ?_⟩) (HC.out _ (Below.refl w0.heap.size w0).drew) ?_
   rotate_left 1
   ·intro w hSw; clear hSw; go_simp <;> with_reducible rfl
   simp only [Act.put, List.setIfInBounds_toArray, List.set_cons_zero, List.set_cons_succ]
   refine Held.G_take (i := 1) (d := 6) (v := ?_) [1, 4, 5, 6, 7, 8, 9, 10, 11, 12, 13, 14, 15, 16, 17, 18, 19] rfl rfl (by kernel_rfl) (by kernel_rfl) (by kernel_rfl) (by kernel_rfl) (fun _ _ _ h => h) (Or.inl ⟨by rfl, ?_⟩) (HC.out _ (Below.refl w0.heap.size w0).drew) ?_
   rotate_left 1
   ·intro w hSw; obtain ⟨h0, h1, h2, h3, h4, h5, h6, h7, h8, h9⟩ := hSw; go_simp <;> with_reducible rfl
   simp only [Act.put, List.setIfInBounds_toArray, List.set_cons_zero, List.set_cons_succ]
   refine Held.G_take (i := 2) (d := 7) (v := ?_) [2, 3, 4, 5, 6, 7, 8, 9, 10, 11, 12, 13, 14, 15, 16, 17, 18, 19] rfl rfl (by kernel_rfl) (by kernel_rfl) (by kernel_rfl) (by kernel_rfl) (fun _ _ _ h => h) (Or.inl ⟨by rfl, ?_⟩) (HC.out _ (Below.refl w0.heap.size w0).drew) ?_
   rotate_left 1
   ·intro w hSw; clear hSw; go_simp <;> with_reducible rfl
   simp only [Act.put, List.setIfInBounds_toArray, List.set_cons_zero, List.set_cons_succ]
   refine Held.G_take (i := 3) (d := 8) (v := ?_) [3, 4, 5, 6, 7, 8, 9, 10, 11, 12, 13, 14, 15, 16, 17, 18, 19] rfl rfl (by kernel_rfl) (by kernel_rfl) (by kernel_rfl) (by kernel_rfl) (fun _ _ _ h => h) (Or.inl ⟨by rfl, ?_⟩) (HC.out _ (Below.refl w0.heap.size w0).drew) ?_
   rotate_left 1
   ·intro w hSw; obtain ⟨h0, h1, h2, h3, h4, h5, h6, h7, h8, h9⟩ := hSw; go_simp <;> with_reducible rfl
   simp only [Act.put, List.setIfInBounds_toArray, List.set_cons_zero, List.set_cons_succ]
   refine Held.G_take (i := 4) (d := 9) (v := ?_) [4, 5, 6, 7, 8, 9, 10, 11, 12, 13, 14, 15, 16, 17, 18, 19] rfl rfl (by kernel_rfl) (by kernel_rfl) (by kernel_rfl) (by kernel_rfl) (fun _ _ _ h => h) (Or.inl ⟨by rfl, ?_⟩) (HC.out _ (Below.refl w0.heap.size w0).drew) ?_
   rotate_left 1
   ·intro w hSw; clear hSw; go_simp <;> with_reducible rfl
   simp only [Act.put, List.setIfInBounds_toArray, List.set_cons_zero, List.set_cons_succ]
   refine Held.G_take (i := 5) (d := 10) (v := ?_) [5, 6, 7, 8, 9, 10, 11, 12, 13, 14, 15, 16, 17, 18, 19] rfl rfl (by kernel_rfl) (by kernel_rfl) (by kernel_rfl) (by kernel_rfl) (fun _ _ _ h => h) (Or.inl ⟨by rfl, ?_⟩) (HC.out _ (Below.refl w0.heap.size w0).drew) ?_
   rotate_left 1
   ·intro w hSw; clear hSw; go_simp <;> with_reducible rfl
   simp only [Act.put, List.setIfInBounds_toArray, List.set_cons_zero, List.set_cons_succ]
   refine Held.G_take (i := 6) (d := 11) (v := ?_) [6, 7, 9, 10, 11, 12, 13, 14, 15, 16, 17, 18, 19] rfl rfl (by kernel_rfl) (by kernel_rfl) (by kernel_rfl) (by kernel_rfl) (fun _ _ _ h => h) (Or.inl ⟨by rfl, ?_⟩) (HC.out _ (Below.refl w0.heap.size w0).drew) ?_
   rotate_left 1
   ·intro w hSw; obtain ⟨h0, h1, h2, h3, h4, h5, h6, h7, h8, h9⟩ := hSw; go_simp <;> with_reducible rfl
   simp only [Act.put, List.setIfInBounds_toArray, List.set_cons_zero, List.set_cons_succ]
   refine Held.G_take (i := 8) (d := 13) (v := ?_) [8, 9, 10, 11, 12, 13, 14, 15, 16, 17, 18, 19] rfl rfl (by kernel_rfl) (by kernel_rfl) (by kernel_rfl) (by kernel_rfl) (fun _ _ _ h => h) (Or.inl ⟨by rfl, ?_⟩) (HC.out _ (Below.refl w0.heap.size w0).drew) ?_
   rotate_left 1
   ·intro w hSw; obtain ⟨h0, h1, h2, h3, h4, h5, h6, h7, h8, h9⟩ := hSw; go_simp <;> with_reducible rfl
   simp only [Act.put, List.setIfInBounds_toArray, List.set_cons_zero, List.set_cons_succ]
   refine Held.G_ready (rs := [7]) (by decide +kernel) (by simp) ?_
   refine Held.G_cons rfl (fun KK hK => ?_) Held.G_nil
   go_simp
   (with_reducible refine (fields_any _ p A c).mono ?_)
   rintro e w1 ⟨rfl, hb1⟩
   have hq1 : Below w0.heap.size w0 w1 := undrew hb1
   clear hb1
   go_wp2_with fail
   refine ⟨(HC.out _ hq1), ?_⟩
   refine Held.G_ready (rs := [9]) (by decide +kernel) (by simp) ?_
   refine Held.G_cons rfl (fun KK hK => ?_) Held.G_nil
   go_simp
   (with_reducible refine (fields_any _ q B d).mono ?_)
   rintro e w2 ⟨rfl, hb2⟩
   have hq2 : Below w0.heap.size w0 w2 := Below.step hq1 hb2
   clear hb2
   go_wp2_with fail
   refine ⟨(HC.out _ hq2), ?_⟩
   refine Held.G_take (i := 10) (d := 15) (v := ?_) [10, 11, 12, 13, 14, 15, 16, 17, 18, 19] rfl rfl (by kernel_rfl) (by kernel_rfl) (by kernel_rfl) (by kernel_rfl) (fun _ _ _ h => h) (Or.inl ⟨by rfl, ?_⟩) (HC.out _ hq2) ?_
   rotate_left 1
   ·intro w hSw; clear hSw; go_simp <;> with_reducible rfl
   simp only [Act.put, List.setIfInBounds_toArray, List.set_cons_zero, List.set_cons_succ]
   refine Held.G_take (i := 11) (d := 16) (v := ?_) [11, 12, 13, 14, 15, 16, 17, 18, 19] rfl rfl (by kernel_rfl) (by kernel_rfl) (by kernel_rfl) (by kernel_rfl) (fun _ _ _ h => h) (Or.inl ⟨by rfl, ?_⟩) (HC.out _ hq2) ?_
   rotate_left 1
   ·intro w hSw; clear hSw; go_simp <;> with_reducible rfl
   simp only [Act.put, List.setIfInBounds_toArray, List.set_cons_zero, List.set_cons_succ]
   refine Held.G_take (i := 12) (d := 17) (v := ?_) [12, 13, 14, 15, 16, 17, 18, 19] rfl rfl (by kernel_rfl) (by kernel_rfl) (by kernel_rfl) (by kernel_rfl) (fun _ _ _ h => h) (Or.inl ⟨by rfl, ?_⟩) (HC.out _ hq2) ?_
   rotate_left 1
   ·intro w hSw; clear hSw; go_simp <;> with_reducible rfl
   simp only [Act.put, List.setIfInBounds_toArray, List.set_cons_zero, List.set_cons_succ]
   refine Held.G_take (i := 13) (d := 18) (v := undef) [13, 14, 17, 18, 19] rfl rfl (by kernel_rfl) (by kernel_rfl) (by kernel_rfl) (by kernel_rfl) (fun _ _ _ h => h) (Or.inr ⟨by rfl, rfl⟩) (HC.out _ hq2) ?_
   simp only [Act.put, List.setIfInBounds_toArray, List.set_cons_zero, List.set_cons_succ]
   refine Held.G_take (i := 14) (d := 19) (v := undef) [14, 17, 18, 19] rfl rfl (by kernel_rfl) (by kernel_rfl) (by kernel_rfl) (by kernel_rfl) (fun _ _ _ h => h) (Or.inr ⟨by rfl, rfl⟩) (HC.out _ hq2) ?_
   simp only [Act.put, List.setIfInBounds_toArray, List.set_cons_zero, List.set_cons_succ]
   refine Held.G_take (i := 15) (d := 20) (v := undef) [15, 16, 17, 18, 19] rfl rfl (by kernel_rfl) (by kernel_rfl) (by kernel_rfl) (by kernel_rfl) (fun _ _ _ h => h) (Or.inr ⟨by rfl, rfl⟩) (HC.out _ hq2) ?_
   simp only [Act.put, List.setIfInBounds_toArray, List.set_cons_zero, List.set_cons_succ]
   refine Held.G_take (i := 16) (d := 21) (v := undef) [16, 17, 18, 19] rfl rfl (by kernel_rfl) (by kernel_rfl) (by kernel_rfl) (by kernel_rfl) (fun _ _ _ h => h) (Or.inr ⟨by rfl, rfl⟩) (HC.out _ hq2) ?_
   simp only [Act.put, List.setIfInBounds_toArray, List.set_cons_zero, List.set_cons_succ]
   refine Held.G_take (i := 17) (d := 22) (v := undef) [17, 18, 19] rfl rfl (by kernel_rfl) (by kernel_rfl) (by kernel_rfl) (by kernel_rfl) (fun _ _ _ h => h) (Or.inr ⟨by rfl, rfl⟩) (HC.out _ hq2) ?_
   simp only [Act.put, List.setIfInBounds_toArray, List.set_cons_zero, List.set_cons_succ]
   refine Held.G_take (i := 18) (d := 23) (v := ?_) [18, 19] rfl rfl (by kernel_rfl) (by kernel_rfl) (by kernel_rfl) (by kernel_rfl) (fun _ _ _ h => h) (Or.inl ⟨by rfl, ?_⟩) (HC.out _ hq2) ?_
   rotate_left 1
   ·intro w hSw; clear hSw; go_simp <;> with_reducible rfl
   simp only [Act.put, List.setIfInBounds_toArray, List.set_cons_zero, List.set_cons_succ]
   refine Held.G_ready (rs := [19]) (by decide +kernel) (by simp) ?_
   refine Held.G_last rfl (fun KK hK => ?_) Held.G_nil
   go_simp
   refine hK _ _ ?_
   clear hK KK
   refine Held.G_done (by kernel_rfl) ?_ _
   go_wp2_with fail
   go_ret
   exact ⟨ret_bool HE.out.symm, hb.trans (hq2.mono hb.size)⟩
 ·have hkb : (p.kind == q.kind) = false := by simp [hk]
  have HE := Lib.hid (show S = false by
   rw [Bool.eq_false_iff]
   exact fun h => hk (HS.out.1 h).1)
  clear hk hA hB hl
  obtain ⟨w0, hw0⟩ : ∃ v, v = (w.alloc (.cells #[.int .i64 p.kind, .int .i64 p.no, .int .i64 p.epoch, .int .i64 p.link, .slice A p.cells.length c] 69)).alloc (.cells #[.int .i64 q.kind, .int .i64 q.no, .int .i64 q.epoch, .int .i64 q.link, .slice B q.cells.length d] 69) := ⟨_, rfl⟩
  rw [← hw0] at HC hb
  have HW0 := Lib.hid hw0
  clear hw0
  go_enter Tryz.func122, Tryz.ntmps122
  go_wp2_with fail
  rw [← HW0.out]
  obtain ⟨h0, h1, h2, h3, h4, h5, h6, h7, h8, h9⟩ := HC.out _ (Below.refl _ _)
  go_quiet (fail)
  go_wp2_with fail
  go_ret
  exact ⟨ret_bool HE.out.symm, hb.trans (below_drewN _ _ _)⟩
end Go.Proofs.YtpidnkfcccboaaaGreat.PageSame2
namespace Go.Proofs.YtpidnkfcccboaaaGreat.PageRef
open Go.RowKit Base PagePlain PageSmall Str PageSame
open PageSame2

set_option maxRecDepth 100000 in
set_option maxHeartbeats 3200000 in
theorem rsame_any (w : World) (p q : Pg) (A B : Option Addr) (c d : Nat) (hA : Row w w.heap.size A (strs p.cells)) (hB : Row w w.heap.size B (strs q.cells)) (hl : p.cells.length ≤ maxLen) :
  Calls Tryz.prog 26 #[pv p A c, pv q B d] w fun e w' => e = .returned (.bool (same p q)) ∧ Below w.heap.size w w' := by
 unfold maxLen at hl
 obtain ⟨x0, x1, x2, x3, x4, y0, y1, y2, y3, y4⟩ := cells2 w p q A B c d _ (Below.refl _ _)
 have hb : Below w.heap.size w ((w.alloc (.cells #[.int .i64 p.kind, .int .i64 p.no, .int .i64 p.epoch, .int .i64 p.link, .slice A p.cells.length c] 69)).alloc (.cells #[.int .i64 q.kind, .int .i64 q.no, .int .i64 q.epoch, .int .i64 q.link, .slice B q.cells.length d] 69)) := ((Below.refl _ _).alloc (Nat.le_refl _) _).alloc (by simp) _
 have hA0 := hA.belowSize hb
 have hB0 := hB.belowSize hb
 have HS := Lib.hid (show same p q = true ↔ p.kind = q.kind ∧ (p.no = q.no ∧ p.epoch = q.epoch ∧ p.link = q.link) ∧ p.cells = q.cells from decide_eq_true_iff)
 generalize same p q = S at *
 obtain ⟨w0, hw0⟩ : ∃ v, v = (w.alloc (.cells #[.int .i64 p.kind, .int .i64 p.no, .int .i64 p.epoch, .int .i64 p.link, .slice A p.cells.length c] 69)).alloc (.cells #[.int .i64 q.kind, .int .i64 q.no, .int .i64 q.epoch, .int .i64 q.link, .slice B q.cells.length d] 69) := ⟨_, rfl⟩
 rw [← hw0] at hb hA0 hB0 x0 x1 x2 x3 x4 y0 y1 y2 y3 y4
 have HW0 := Lib.hid hw0
 clear hw0 hA hB
 have hcase : p.kind ≠ q.kind ∨ (p.kind = q.kind ∧ p.no ≠ q.no) ∨ (p.kind = q.kind ∧ p.no = q.no ∧ p.epoch ≠ q.epoch) ∨ (p.kind = q.kind ∧ p.no = q.no ∧ p.epoch = q.epoch ∧ p.link ≠ q.link) ∨
   (p.kind = q.kind ∧ p.no = q.no ∧ p.epoch = q.epoch ∧ p.link = q.link ∧ p.cells.length ≠ q.cells.length) ∨ (p.kind = q.kind ∧ p.no = q.no ∧ p.epoch = q.epoch ∧ p.link = q.link ∧ p.cells.length = q.cells.length) := by omega
 rcases hcase with h | h | h | h | h | h
 ·have hne := h
  have b1 : (p.kind != q.kind) = true := by simpa using hne
  have HE := Lib.hid (show S = false from Bool.eq_false_iff.2 fun y => hne ((HS.out.1 y).1))
  clear hne
  clear h
  go_enter Tryz.func26, Tryz.ntmps26
  go_wp2_with fail
  rw [← HW0.out]
  go_ret
  exact ⟨ret_bool HE.out.symm, hb⟩
 ·obtain ⟨k1, hne⟩ := h
  have b1 : (p.kind != q.kind) = false := by simp [k1]
  have b2 : (p.no != q.no) = true := by simpa using hne
  have HE := Lib.hid (show S = false from Bool.eq_false_iff.2 fun y => hne ((HS.out.1 y).2.1.1))
  clear hne k1
  go_enter Tryz.func26, Tryz.ntmps26
  go_wp2_with fail
  rw [← HW0.out]
  go_ret
  exact ⟨ret_bool HE.out.symm, hb⟩
 ·obtain ⟨k1, k2, hne⟩ := h
  have b1 : (p.kind != q.kind) = false := by simp [k1]
  have b2 : (p.no != q.no) = false := by simp [k2]
  have b3 : (p.epoch != q.epoch) = true := by simpa using hne
  have HE := Lib.hid (show S = false from Bool.eq_false_iff.2 fun y => hne ((HS.out.1 y).2.1.2.1))
  clear hne k1 k2
  go_enter Tryz.func26, Tryz.ntmps26
  go_wp2_with fail
  rw [← HW0.out]
  go_ret
  exact ⟨ret_bool HE.out.symm, hb⟩
 ·obtain ⟨k1, k2, k3, hne⟩ := h
  have b1 : (p.kind != q.kind) = false := by simp [k1]
  have b2 : (p.no != q.no) = false := by simp [k2]
  have b3 : (p.epoch != q.epoch) = false := by simp [k3]
  have b4 : (p.link != q.link) = true := by simpa using hne
  have HE := Lib.hid (show S = false from Bool.eq_false_iff.2 fun y => hne ((HS.out.1 y).2.1.2.2))
  clear hne k1 k2 k3
  go_enter Tryz.func26, Tryz.ntmps26
  go_wp2_with fail
  rw [← HW0.out]
  go_ret
  exact ⟨ret_bool HE.out.symm, hb⟩
 ·obtain ⟨k1, k2, k3, k4, hne⟩ := h
  have b1 : (p.kind != q.kind) = false := by simp [k1]
  have b2 : (p.no != q.no) = false := by simp [k2]
  have b3 : (p.epoch != q.epoch) = false := by simp [k3]
  have b4 : (p.link != q.link) = false := by simp [k4]
  have b5 : ((p.cells.length : Int) != (q.cells.length : Int)) = true := by simp; omega
  have HE := Lib.hid (show S = false from Bool.eq_false_iff.2 fun y => hne (by rw [(HS.out.1 y).2.2]))
  clear hne k1 k2 k3 k4
  go_enter Tryz.func26, Tryz.ntmps26
  go_wp2_with fail
  rw [← HW0.out]
  go_ret
  exact ⟨ret_bool HE.out.symm, hb⟩
 ·obtain ⟨k1, k2, k3, k4, hlen⟩ := h
  have b1 : (p.kind != q.kind) = false := by simp [k1]
  have b2 : (p.no != q.no) = false := by simp [k2]
  have b3 : (p.epoch != q.epoch) = false := by simp [k3]
  have b4 : (p.link != q.link) = false := by simp [k4]
  have b5 : ((p.cells.length : Int) != (q.cells.length : Int)) = false := by simp [hlen]
  have HE := Lib.hid (show S = true ↔ p.cells = q.cells by
   rw [HS.out]
   exact ⟨fun h => h.2.2, fun h => ⟨k1, ⟨k2, k3, k4⟩, h⟩⟩)
  have HL := Lib.hid hlen
  clear k1 k2 k3 k4 hlen
  go_enter Tryz.func26, Tryz.ntmps26
  go_wp2_with fail
  rw [← HW0.out]
  go_loopw [5] (fun i wr => ∃ k : Nat, k ≤ p.cells.length ∧ i = .int .i64 k ∧ p.cells.take k = q.cells.take k ∧ ∃ n, wr = w0.drewN n) (fun i _ => p.cells.length - (intOf i).toNat)
  case atStart => exact ⟨0, by omega, rfl, by simp, 0, rfl⟩
  case round =>
   obtain ⟨k, hk, rfl, htk, nn, rfl⟩ := hrel
   have HT := Lib.hid htk
   clear htk b1 b2 b3 b4 b5
   by_cases hlt : k < p.cells.length
   ·have hlt2 : k < q.cells.length := by rw [← HL.out]; exact hlt
    obtain ⟨a1, hA1, e1, c1⟩ := strs_get hA0 k hlt
    obtain ⟨a2, hB1, e2, c2⟩ := strs_get hB0 k hlt2
    subst hA1 hB1
    have i1 : (k : Int) < (p.cells.length : Int) := by omega
    have i2 : (k : Int) < (q.cells.length : Int) := by omega
    have d1 : (w0.drewN nn).cell? (a1.add k) = some (.string p.cells[k]) := c1
    have d2 : (w0.drewN nn).cell? (a2.add k) = some (.string q.cells[k]) := c2
    by_cases he : p.cells[k] = q.cells[k]
    ·have HN := Lib.hid (show p.cells.take (k + 1) = q.cells.take (k + 1) by rw [List.take_succ_eq_append_getElem hlt, List.take_succ_eq_append_getElem hlt2, HT.out, he])
     have hs : (!(p.cells[k].toList == q.cells[k].toList)) = false := by rw [str_ne, decide_eq_true he]; rfl
     clear he
     generalize p.cells[k] = s at *
     generalize q.cells[k] = t at *
     go_wp2_with fail
     go_quiet (fail)
     go_wp2_with fail
     go_roundw
     case rel => exact ⟨k + 1, by omega, by go_num, HN.out, nn + nq, by first | rfl | exact drewN_two w0 nn nq⟩
     case measure => simp [intOf]; omega
    ·have hs : (!(p.cells[k].toList == q.cells[k].toList)) = true := by rw [str_ne, decide_eq_false he]; rfl
     have HN := Lib.hid (show S = false by
      rw [Bool.eq_false_iff]
      intro y
      have e := HE.out.1 y
      exact he (by simp [e]))
     clear he
     generalize p.cells[k] = s at *
     generalize q.cells[k] = t at *
     go_wp2_with fail
     go_quiet (fail)
     go_wp2_with fail
     go_ret
     exact ⟨ret_bool HN.out.symm, (hb.trans (below_drewN _ _ nn)).trans (below_drewN _ _ nq)⟩
   ·obtain rfl : k = p.cells.length := by omega
    have HN := Lib.hid (show S = true by
     apply HE.out.2
     have := HT.out
     rwa [List.take_of_length_le (Nat.le_refl _), List.take_of_length_le (by rw [← HL.out]; exact Nat.le_refl _)] at this)
    go_wp2_with fail
    go_ret
    exact ⟨ret_bool HN.out.symm, hb.trans (below_drewN _ _ nn)⟩
end Go.Proofs.YtpidnkfcccboaaaGreat.PageRef
