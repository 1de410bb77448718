/- The contract of the document's Put, of a page that may not be. -/
import Derived.Test.YtcnblgienombeaaPageFour
import Derived.Test.YtcnblgienombeaaPageAwake
import Derived.Test.YtcnblgienombeaaHeld
import Derived.Deep.DeepCutAuto
namespace Go.Proofs.Ytcnblgienombeaa.PageRefPut1
open Go.RowKit Base PagePlain PageSmall PagePut PageLay PageSame PageRef PageFour PageAwake SumMem Str SumPlain

theorem four_int (w : World) (z : Int) (h0 : 0 ≤ z) (h1 : z ≤ 4294967295) : Calls Try.prog 27 #[.int .i64 z] w fun e w' => e = .returned (.string (tx (be4 z.toNat))) ∧ Below w.heap.size w w' := by
  have := four_any w z.toNat (by omega)
  rwa [show ((z.toNat : Nat) : Int) = z by omega] at this
set_option maxRecDepth 100000 in
theorem conv_two {w : World} {b : Nat} {x : Int} {n : Nat} (h : At w b 5 #[.int .u8 (IntKind.u8.wrap x), .int .u8 (IntKind.u8.wrap (n : Int))]) (h1 : 1 ≤ x) (h2 : x ≤ 255) (h3 : n ≤ 255) : (convert 27 9 (.slice (some ⟨b, 0, none⟩) 2 2)).run Try.prog w = .ok (.string (tx [b8 x.toNat, b8 n])) w := by
  rw [show IntKind.u8.wrap x = x from IntWalk.u8_in _ (by omega), show IntKind.u8.wrap (n : Int) = n from IntWalk.u8_in _ (by omega)] at h
  have e1 : ((b8 x.toNat).toNat : Int) = x := by rw [b8_nat]; omega
  have e2 : ((b8 n).toNat : Int) = n := by rw [b8_nat]; omega
  have hr : Row w w.heap.size (some ⟨b, 0, none⟩) (bv [b8 x.toNat, b8 n]) := fun k v hv => by
    refine ⟨_, rfl, h.lt, ?_⟩
    rw [add_zero_block, h.cell]
    rw [← hv]
    match k with
    | 0 => simp [bv, e1]
    | 1 => simp [bv, e2]
    | k + 2 => simp [bv]
  exact conv_bytes (P := Try.prog) Try.underlying27 Try.underlying5 Try.underlying9 2 hr
/-- what the document's Put comes to -/
def RPost (w : World) (p : Pg) (e : Ending) (w' : World) : Prop := e = .returned (.tuple #[.string (if err p = 0 then tx (page p) else tx []), .int .i64 (err p)]) ∧ Below w.heap.size w w'
theorem box_at (w : World) (p : Pg) (A : Option Addr) (c : Nat) (x : World) (hx : Below (w.alloc (.cells #[.int .i64 p.kind, .int .i64 p.no, .int .i64 p.epoch, .int .i64 p.link, .slice A p.cells.length c] 37)).heap.size (w.alloc (.cells #[.int .i64 p.kind, .int .i64 p.no, .int .i64 p.epoch, .int .i64 p.link, .slice A p.cells.length c] 37)) x) : x.cell? ⟨w.heap.size, 0, none⟩ = some (.int .i64 p.kind) ∧ x.cell? ⟨w.heap.size, 1, none⟩ = some (.int .i64 p.no) ∧ x.cell? ⟨w.heap.size, 2, none⟩ = some (.int .i64 p.epoch) ∧ x.cell? ⟨w.heap.size, 3, none⟩ = some (.int .i64 p.link) ∧ x.cell? ⟨w.heap.size, 4, none⟩ = some (.slice A p.cells.length c) :=
  five (at_below (show PgAt (w.alloc (.cells #[.int .i64 p.kind, .int .i64 p.no, .int .i64 p.epoch, .int .i64 p.link, .slice A p.cells.length c] 37)) w.heap.size p A c from heap_alloc_new w _) hx)
set_option maxRecDepth 100000 in
set_option maxHeartbeats 3200000 in
theorem rput_long (w : World) (p : Pg) (A : Option Addr) (c : Nat) (hr : Row w w.heap.size A (strs p.cells)) (hl : p.cells.length ≤ 1000) (hz : ∀ q ∈ p.cells, q.size ≤ 1000) (h : ¬ room p.cells ≤ 236) : Calls Try.prog 15 #[pv p A c] w fun e w' => e = .returned (.tuple #[.string ⟨#[]⟩, .int .i64 40]) ∧ Below w.heap.size w w' := by
  have HC := Lib.hid (box_at w p A c)
  have hb : Below w.heap.size w (w.alloc (.cells #[.int .i64 p.kind, .int .i64 p.no, .int .i64 p.epoch, .int .i64 p.link, .slice A p.cells.length c] 37)) := (Below.refl _ _).alloc (Nat.le_refl _) _
  obtain ⟨w1, hw1⟩ : ∃ v, v = w.alloc (.cells #[.int .i64 p.kind, .int .i64 p.no, .int .i64 p.epoch, .int .i64 p.link, .slice A p.cells.length c] 37) := ⟨_, rfl⟩
  rw [← hw1] at HC hb
  have HW := Lib.hid hw1
  clear hw1
  have hfi := rfits_any w1 A p.cells.length c p.cells rfl (hr.belowSize hb) hl hz
  rw [decide_eq_false h] at hfi
  go_enter Try.func15, Try.ntmps15
  go_wp2_with fail
  rw [← HW.out]
  refine hfi.mono ?_
  rintro e w' ⟨rfl, rfl⟩
  clear hfi
  go_wp2_with fail
  go_ret2
  exact ⟨rfl, hb⟩
set_option maxRecDepth 100000 in
set_option maxHeartbeats 3200000 in
theorem rput_form (w : World) (p : Pg) (A : Option Addr) (c : Nat) (hr : Row w w.heap.size A (strs p.cells)) (hl : p.cells.length ≤ 1000) (hz : ∀ q ∈ p.cells, q.size ≤ 1000) (hro : room p.cells ≤ 236) (hno : ¬ PgOk p) : Calls Try.prog 15 #[pv p A c] w fun e w' => e = .returned (.tuple #[.string ⟨#[]⟩, .int .i64 41]) ∧ Below w.heap.size w w' := by
  have HC := Lib.hid (box_at w p A c)
  have hb : Below w.heap.size w (w.alloc (.cells #[.int .i64 p.kind, .int .i64 p.no, .int .i64 p.epoch, .int .i64 p.link, .slice A p.cells.length c] 37)) := (Below.refl _ _).alloc (Nat.le_refl _) _
  obtain ⟨w1, hw1⟩ : ∃ v, v = w.alloc (.cells #[.int .i64 p.kind, .int .i64 p.no, .int .i64 p.epoch, .int .i64 p.link, .slice A p.cells.length c] 37) := ⟨_, rfl⟩
  rw [← hw1] at HC hb
  have HW := Lib.hid hw1
  clear hw1
  have hfi := rfits_any w1 A p.cells.length c p.cells rfl (hr.belowSize hb) hl hz
  rw [decide_eq_true hro] at hfi
  have hcase : (p.kind < 1) ∨ (1 ≤ p.kind ∧ 255 < p.kind) ∨ (1 ≤ p.kind ∧ p.kind ≤ 255 ∧ p.no < 0) ∨ (1 ≤ p.kind ∧ p.kind ≤ 255 ∧ 0 ≤ p.no ∧ 4294967295 < p.no) ∨ (1 ≤ p.kind ∧ p.kind ≤ 255 ∧ 0 ≤ p.no ∧ p.no ≤ 4294967295 ∧ p.epoch < 0) ∨ (1 ≤ p.kind ∧ p.kind ≤ 255 ∧ 0 ≤ p.no ∧ p.no ≤ 4294967295 ∧ 0 ≤ p.epoch ∧ 4294967295 < p.epoch) ∨ (1 ≤ p.kind ∧ p.kind ≤ 255 ∧ 0 ≤ p.no ∧ p.no ≤ 4294967295 ∧ 0 ≤ p.epoch ∧ p.epoch ≤ 4294967295 ∧ p.link < 0) ∨ (1 ≤ p.kind ∧ p.kind ≤ 255 ∧ 0 ≤ p.no ∧ p.no ≤ 4294967295 ∧ 0 ≤ p.epoch ∧ p.epoch ≤ 4294967295 ∧ 0 ≤ p.link ∧ 4294967295 < p.link) := by
    unfold PgOk at hno
    omega
  clear hno hro hl hz hr
  rcases hcase with h | h | h | h | h | h | h | h
  · have c0 := h
    clear h
    go_enter Try.func15, Try.ntmps15
    go_wp2_with fail
    rw [← HW.out]
    refine hfi.mono ?_
    rintro e w' ⟨rfl, rfl⟩
    clear hfi
    obtain ⟨h0, h1, h2, h3, h4⟩ := HC.out w1 (Below.refl _ _)
    go_wp2_with fail
    go_ret2
    exact ⟨rfl, hb⟩
  · obtain ⟨c0, c1⟩ := h
    go_enter Try.func15, Try.ntmps15
    go_wp2_with fail
    rw [← HW.out]
    refine hfi.mono ?_
    rintro e w' ⟨rfl, rfl⟩
    clear hfi
    obtain ⟨h0, h1, h2, h3, h4⟩ := HC.out w1 (Below.refl _ _)
    go_wp2_with fail
    go_ret2
    exact ⟨rfl, hb⟩
  · obtain ⟨c0, c1, c2⟩ := h
    go_enter Try.func15, Try.ntmps15
    go_wp2_with fail
    rw [← HW.out]
    refine hfi.mono ?_
    rintro e w' ⟨rfl, rfl⟩
    clear hfi
    obtain ⟨h0, h1, h2, h3, h4⟩ := HC.out w1 (Below.refl _ _)
    go_wp2_with fail
    go_ret2
    exact ⟨rfl, hb⟩
  · obtain ⟨c0, c1, c2, c3⟩ := h
    go_enter Try.func15, Try.ntmps15
    go_wp2_with fail
    rw [← HW.out]
    refine hfi.mono ?_
    rintro e w' ⟨rfl, rfl⟩
    clear hfi
    obtain ⟨h0, h1, h2, h3, h4⟩ := HC.out w1 (Below.refl _ _)
    go_wp2_with fail
    go_ret2
    exact ⟨rfl, hb⟩
  · obtain ⟨c0, c1, c2, c3, c4⟩ := h
    go_enter Try.func15, Try.ntmps15
    go_wp2_with fail
    rw [← HW.out]
    refine hfi.mono ?_
    rintro e w' ⟨rfl, rfl⟩
    clear hfi
    obtain ⟨h0, h1, h2, h3, h4⟩ := HC.out w1 (Below.refl _ _)
    go_wp2_with fail
    go_ret2
    exact ⟨rfl, hb⟩
  · obtain ⟨c0, c1, c2, c3, c4, c5⟩ := h
    go_enter Try.func15, Try.ntmps15
    go_wp2_with fail
    rw [← HW.out]
    refine hfi.mono ?_
    rintro e w' ⟨rfl, rfl⟩
    clear hfi
    obtain ⟨h0, h1, h2, h3, h4⟩ := HC.out w1 (Below.refl _ _)
    go_wp2_with fail
    go_ret2
    exact ⟨rfl, hb⟩
  · obtain ⟨c0, c1, c2, c3, c4, c5, c6⟩ := h
    go_enter Try.func15, Try.ntmps15
    go_wp2_with fail
    rw [← HW.out]
    refine hfi.mono ?_
    rintro e w' ⟨rfl, rfl⟩
    clear hfi
    obtain ⟨h0, h1, h2, h3, h4⟩ := HC.out w1 (Below.refl _ _)
    go_wp2_with fail
    go_ret2
    exact ⟨rfl, hb⟩
  · obtain ⟨c0, c1, c2, c3, c4, c5, c6, c7⟩ := h
    go_enter Try.func15, Try.ntmps15
    go_wp2_with fail
    rw [← HW.out]
    refine hfi.mono ?_
    rintro e w' ⟨rfl, rfl⟩
    clear hfi
    obtain ⟨h0, h1, h2, h3, h4⟩ := HC.out w1 (Below.refl _ _)
    go_wp2_with fail
    go_ret2
    exact ⟨rfl, hb⟩
end Go.Proofs.Ytcnblgienombeaa.PageRefPut1
