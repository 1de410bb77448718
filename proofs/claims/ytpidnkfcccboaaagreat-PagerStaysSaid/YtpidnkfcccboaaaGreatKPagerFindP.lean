/- PagerFindNew, PagerFindP. -/
import Derived.Test.YtpidnkfcccboaaaGreatKPagerKeep
import Derived.Test.YtpidnkfcccboaaaGreatKPagerRead
import Derived.Test.YtpidnkfcccboaaaGreatKSuperPick
import Derived.Test.YtpidnkfcccboaaaGreatKSuperTold
namespace Go.Proofs.YtpidnkfcccboaaaGreat.PagerCode
open Go.RowKit Base PagePlain PageSmall FreePlain FreeMem SuperPlain SuperRefCheck PagerPlain PagerTold PagerNum PagerSpec SumOf DiskPlain DiskMem DiskSmall PagerMem PagerDisk Go.Maps
open SumFill (Ready)
open PageTold2 (results_cell_tmp_row)

section
variable {W w w' : World} {p d g mp : Nat} {S : DS} {P P' : PS} {X Y G : Blks} {m m' : Int} {nn : Nat} {FD : Blks} {A B C : Option Addr} {a b c : Nat}
abbrev Z4 : Obj := .cells #[.int .i64 0, .int .i64 0, .int .i64 0, .int .i64 0] 29
theorem t4_ (w : World) (bx : Nat) (x0 x1 x2 x3 : Value) : Turn (fun i => i = bx) w ((((w.setCell ⟨bx, 0, none⟩ x0).setCell ⟨bx, 1, none⟩ x1).setCell ⟨bx, 2, none⟩ x2).setCell ⟨bx, 3, none⟩ x3) :=
 ((((Turn.refl (fun i => i = bx) w).set ⟨bx, 0, none⟩ (Or.inr rfl) x0).set ⟨bx, 1, none⟩ (Or.inr rfl) x1).set ⟨bx, 2, none⟩ (Or.inr rfl) x2).set ⟨bx, 3, none⟩ (Or.inr rfl) x3
theorem turn4 {bx : Nat} (h : Turn (Not X) W w) (hb : W.heap.size ≤ bx) (x0 x1 x2 x3 : Value) : Turn (Not X) W ((((w.setCell ⟨bx, 0, none⟩ x0).setCell ⟨bx, 1, none⟩ x1).setCell ⟨bx, 2, none⟩ x2).setCell ⟨bx, 3, none⟩ x3) :=
 (((h.set ⟨bx, 0, none⟩ (Or.inl hb) x0).set ⟨bx, 1, none⟩ (Or.inl hb) x1).set ⟨bx, 2, none⟩ (Or.inl hb) x2).set ⟨bx, 3, none⟩ (Or.inl hb) x3
theorem cr4 {bx : Nat} (h : Cr w p d g mp S P X m nn FD A B C a b c) (hX : X bx) (x0 x1 x2 x3 : Value) : Cr ((((w.setCell ⟨bx, 0, none⟩ x0).setCell ⟨bx, 1, none⟩ x1).setCell ⟨bx, 2, none⟩ x2).setCell ⟨bx, 3, none⟩ x3) p d g mp S P X m nn FD A B C a b c :=
 h.turn (t4_ w bx x0 x1 x2 x3) fun i _ hn e => hn (by rw [show i = bx from e]; exact hX)
/-- what the disk is behind making it anew -/
def fresh2 (S : DS) : DS := ((S.write 0 (sbytes S0)).write 1 (sbytes S1)).sync
set_option maxRecDepth 100000 in
set_option maxHeartbeats 12800000 in
theorem makeAnew_any (h : Cr W p d g mp S P X m nn FD A B C a b c) (hm : m ≤ 760000000) (hf : S.fused = false) (hl : 2 ≤ S.last.length) : Calls Tryz.prog 67 #[.pointer (some ⟨p, 0, none⟩)] W fun e w' =>
  e = .returned (.tuple #[sv S1, .int .i64 0]) ∧ (∃ FD', Cr w' p d g mp (fresh2 S) P X (m + 8000) nn FD' A B C a b c) ∧ Turn (Not X) W w' := by
 have hok0 : Ok S0 := by decide
 have hok1 : Ok S1 := by decide
 have hw0 := write_live hf (n := S0.ep % 2) (b := sbytes S0) (by decide) (by show (0 : Int) < _; omega) (sbytes_len S0)
 obtain ⟨w1, hw1⟩ : ∃ v, v = W.alloc Z4 := ⟨_, rfl⟩
 have b1 : Below W.heap.size W w1 := by rw [hw1]; exact al_ _ _
 have z1 : SuperSpec.Bs w1 W.heap.size ⟨0, 0, 0, 0⟩ := by rw [hw1]; exact heap_alloc_new W _
 have h1 := h.more b1
 have hY : Plus X W w1 W.heap.size := Or.inr ⟨Nat.le_refl _, At.lt z1⟩
 have HYX := Lib.hid (show ∀ i, X i → Plus X W w1 i from fun i hi => Or.inl hi)
 have T1 := Lib.hid (show Turn (Not X) W w1 from Turn.ofBelow b1)
 have HW := Lib.hid hw1
 generalize hbx : W.heap.size = bx at z1 hY
 have HBX := Lib.hid (show W.heap.size ≤ bx by omega)
 generalize Plus X W w1 = Y at h1 hY HYX
 obtain ⟨w2, hw2⟩ : ∃ v, v = w1.alloc (.cells #[.int .i64 S0.ep, .int .i64 S0.root, .int .i64 S0.free, .int .i64 S0.pages] 29) := ⟨_, rfl⟩
 have b2 : Below w1.heap.size w1 w2 := by rw [hw2]; exact al_ _ _
 have x2 : SuperSpec.Bs w2 w1.heap.size S0 := by rw [hw2]; exact SuperSpec.bs_new w1 S0
 have z2 : SuperSpec.Bs w2 bx ⟨0, 0, 0, 0⟩ := At.same z1 (b2.block _ (At.lt z1))
 have h2 := h1.more b2
 have hY2 : Plus Y w1 w2 w1.heap.size := Or.inr ⟨Nat.le_refl _, At.lt x2⟩
 have hY2b : Plus Y w1 w2 bx := Or.inl hY
 have T2 := Lib.hid (T1.out.step (Turn.ofBelow b2))
 have HYX2 := Lib.hid (show ∀ i, X i → Plus Y w1 w2 i from fun i hi => Or.inl (HYX.out i hi))
 have HW2 := Lib.hid hw2
 generalize hby : w1.heap.size = bb at x2 hY2
 generalize Plus Y w1 w2 = Y2 at h2 hY2 hY2b HYX2
 have hcall := writeSuper_any h2 (by omega) S0 hok0 hf hl
 obtain ⟨a0, a1, a2, a3⟩ := sup_cells x2
 obtain ⟨S2, hS2⟩ : ∃ v, v = S.write (S0.ep % 2) (sbytes S0) := ⟨_, rfl⟩
 rw [← hS2] at hcall
 have HF := Lib.hid (show S2.fused = false ∧ 2 ≤ S2.last.length ∧ fresh2 S = (S2.write (S1.ep % 2) (sbytes S1)).sync from ⟨by rw [hS2, hw0.2]; exact hf, by rw [hS2, hw0.2]; exact hl, by rw [hS2]; rfl⟩)
 have HO := Lib.hid hok1
 have HM := Lib.hid hm
 clear h h1 h2 hw1 hw2 b1 b2 z1 hf hl hw0 hok0 hok1 T1 hY HYX hm hS2
 go_enter Tryz.func67, Tryz.ntmps67
 go_upto_region 1 with fail
 try rw [← HW.out]
 try rw [hbx]
 clear hbx HW
 go_upto_region 2 with fail
 try rw [show w1.alloc (.cells #[.int .i64 0, .int .i64 0, .int .i64 0, .int .i64 2] 29) = w2 from HW2.out.symm]
 try rw [hby]
 clear hby HW2
 have e0 : w2.cell? ⟨bb, 0, none⟩ = some (.int .i64 0) := a0
 have e1 : w2.cell? ⟨bb, 1, none⟩ = some (.int .i64 0) := a1
 have e2 : w2.cell? ⟨bb, 2, none⟩ = some (.int .i64 0) := a2
 have e3 : w2.cell? ⟨bb, 3, none⟩ = some (.int .i64 2) := a3
 have hcall : Calls Tryz.prog 91 #[.pointer (some ⟨p, 0, none⟩), .agg #[.int .i64 0, .int .i64 0, .int .i64 0, .int .i64 2]] w2 _ := hcall
 clear a0 a1 a2 a3
 go_wp2_with fail
 (with_reducible refine hcall.mono ?_)
 clear hcall e0 e1 e2 e3
 rintro e w3 ⟨rfl, ⟨F3, h3⟩, t3⟩
 have x3 : SuperSpec.Bs w3 bb S0 := At.same x2 (t3.block _ (At.lt x2) fun z => z hY2)
 have z3 : SuperSpec.Bs w3 bx ⟨0, 0, 0, 0⟩ := At.same z2 (t3.block _ (At.lt z2) fun z => z hY2b)
 have T3 := Lib.hid (T2.out.step (t3.mono fun i _ hi hx => hi (HYX2.out i hx)))
 obtain ⟨a0, a1, a2, a3⟩ := sup_cells x3
 have e0 : w3.cell? ⟨bb, 0, none⟩ = some (.int .i64 0) := a0
 have e1 : w3.cell? ⟨bb, 1, none⟩ = some (.int .i64 0) := a1
 have e2 : w3.cell? ⟨bb, 2, none⟩ = some (.int .i64 0) := a2
 have e3 : w3.cell? ⟨bb, 3, none⟩ = some (.int .i64 2) := a3
 have hnx := SuperCode.next_any w3 S0 0 0 2 (by decide) (by decide)
 have hnx : Calls Tryz.prog 53 #[.agg #[.int .i64 0, .int .i64 0, .int .i64 0, .int .i64 2], .int .i64 0, .int .i64 0, .int .i64 2] w3 fun e w' => e = .returned (.agg #[.int .i64 1, .int .i64 0, .int .i64 0, .int .i64 2]) ∧ Below w3.heap.size w3 w' := hnx
 clear t3 a0 a1 a2 a3 x2 z2
 go_wp2_with fail
 (with_reducible refine hnx.mono ?_)
 clear hnx e0 e1 e2 e3
 rintro e w4 ⟨rfl, b4⟩
 have h4 := h3.below b4
 have z4 : SuperSpec.Bs w4 bx ⟨0, 0, 0, 0⟩ := At.same z3 (b4.block _ (At.lt z3))
 obtain ⟨w5, hw5⟩ : ∃ v, v = w4.alloc (.cells #[.int .i64 S1.ep, .int .i64 S1.root, .int .i64 S1.free, .int .i64 S1.pages] 29) := ⟨_, rfl⟩
 have b5 : Below w4.heap.size w4 w5 := by rw [hw5]; exact al_ _ _
 have y5 : SuperSpec.Bs w5 w4.heap.size S1 := by rw [hw5]; exact SuperSpec.bs_new w4 S1
 have z5 : SuperSpec.Bs w5 bx ⟨0, 0, 0, 0⟩ := At.same z4 (b5.block _ (At.lt z4))
 have h5 := h4.more b5
 have hY5 : Plus Y2 w4 w5 w4.heap.size := Or.inr ⟨Nat.le_refl _, At.lt y5⟩
 have hY5b : Plus Y2 w4 w5 bx := Or.inl hY2b
 have T5 := Lib.hid ((T3.out.step (Turn.ofBelow b4)).step (Turn.ofBelow b5))
 have HYX5 := Lib.hid (show ∀ i, X i → Plus Y2 w4 w5 i from fun i hi => Or.inl (HYX2.out i hi))
 have HW5 := Lib.hid hw5
 clear h3 h4 b4 b5 z3 z4 x3 hw5 T3
 generalize hbz : w4.heap.size = bz at y5 hY5
 generalize Plus Y2 w4 w5 = Y5 at h5 hY5 hY5b HYX5
 have hcall := tellSuper_any h5 (by have := HM.out; omega) S1 HO.out HF.out.1 HF.out.2.1
 rw [← HF.out.2.2] at hcall
 obtain ⟨a0, a1, a2, a3⟩ := sup_cells y5
 have e0 : w5.cell? ⟨bz, 0, none⟩ = some (.int .i64 1) := a0
 have e1 : w5.cell? ⟨bz, 1, none⟩ = some (.int .i64 0) := a1
 have e2 : w5.cell? ⟨bz, 2, none⟩ = some (.int .i64 0) := a2
 have e3 : w5.cell? ⟨bz, 3, none⟩ = some (.int .i64 2) := a3
 have hcall : Calls Tryz.prog 55 #[.pointer (some ⟨p, 0, none⟩), .agg #[.int .i64 1, .int .i64 0, .int .i64 0, .int .i64 2]] w5 _ := hcall
 clear h5 a0 a1 a2 a3
 go_upto_region 6 with fail
 try rw [show w4.alloc (.cells #[.int .i64 1, .int .i64 0, .int .i64 0, .int .i64 2] 29) = w5 from HW5.out.symm]
 try rw [hbz]
 clear hbz HW5
 go_wp2_with fail
 (with_reducible refine hcall.mono ?_)
 clear hcall e0 e1 e2 e3
 rintro e w6 ⟨rfl, ⟨F6, h6⟩, t6⟩
 have y6 : SuperSpec.Bs w6 bz S1 := At.same y5 (t6.block _ (At.lt y5) fun z => z hY5)
 have z6 : SuperSpec.Bs w6 bx ⟨0, 0, 0, 0⟩ := At.same z5 (t6.block _ (At.lt z5) fun z => z hY5b)
 have T6 := Lib.hid (T5.out.step (t6.mono fun i _ hi hx => hi (HYX5.out i hx)))
 obtain ⟨a0, a1, a2, a3⟩ := sup_cells y6
 have e0 : w6.cell? ⟨bz, 0, none⟩ = some (.int .i64 1) := a0
 have e1 : w6.cell? ⟨bz, 1, none⟩ = some (.int .i64 0) := a1
 have e2 : w6.cell? ⟨bz, 2, none⟩ = some (.int .i64 0) := a2
 have e3 : w6.cell? ⟨bz, 3, none⟩ = some (.int .i64 2) := a3
 obtain ⟨k0, k1, k2, k3⟩ := sup_cells z6
 have f0 := At.frozen z6 0
 have f1 := At.frozen z6 1
 have f2 := At.frozen z6 2
 have f3 := At.frozen z6 3
 have HZ := Lib.hid (SuperCode.bs_over z6 S1)
 have HC := Lib.hid ((cr4 h6 hY5b (.int .i64 S1.ep) (.int .i64 S1.root) (.int .i64 S1.free) (.int .i64 S1.pages)).less HYX5.out)
 have HT := Lib.hid (turn4 T6.out HBX.out (.int .i64 S1.ep) (.int .i64 S1.root) (.int .i64 S1.free) (.int .i64 S1.pages))
 clear h6 t6 y6 z6 y5 z5 a0 a1 a2 a3
 go_wp2_with fail
 refine bodyPost_ret (results_cell_tmp_row rfl _ _ bx 29 _ (0, 0) _ rfl HZ.out Tryz.underlying29 rfl (by kernel_rfl)) rfl ?_
 exact ⟨rfl, ⟨F6, HC.out.up (by omega)⟩, HT.out⟩
end
end Go.Proofs.YtpidnkfcccboaaaGreat.PagerCode
namespace Go.Proofs.YtpidnkfcccboaaaGreat.PagerCode
open Go.RowKit Base PagePlain PageSmall FreePlain FreeMem SuperPlain SuperRefCheck PagerPlain PagerTold PagerNum PagerSpec SumOf DiskPlain DiskMem DiskSmall PagerMem PagerDisk Go.Maps
open SumFill (Ready)
open PageTold2 (results_cell_tmp_row)

section
variable {W w w' : World} {p d g mp : Nat} {S : DS} {P P' : PS} {X Y G : Blks} {m m' : Int} {nn : Nat} {FD : Blks} {A B C : Option Addr} {a b c : Nat}
/-- the box of a result, made -/
theorem box_start (h : Cr W p d g mp S P X m nn FD A B C a b c) : ∃ (w1 : World) (bx : Nat) (Y : Blks), w1 = W.alloc Z4 ∧ W.heap.size = bx ∧ Cr w1 p d g mp S P Y m nn FD A B C a b c ∧ (∀ i, X i → Y i) ∧ Y bx ∧ Turn (Not X) W w1 ∧ SuperSpec.Bs w1 bx ⟨0, 0, 0, 0⟩ := by
 have b1 : Below W.heap.size W (W.alloc Z4) := al_ _ _
 have z1 : SuperSpec.Bs (W.alloc Z4) W.heap.size ⟨0, 0, 0, 0⟩ := heap_alloc_new W _
 exact ⟨_, _, Plus X W (W.alloc Z4), rfl, rfl, h.more b1, fun i hi => Or.inl hi, Or.inr ⟨Nat.le_refl _, At.lt z1⟩, Turn.ofBelow b1, z1⟩
set_option maxRecDepth 100000 in
set_option maxHeartbeats 12800000 in
theorem find_new (h : Cr W p d g mp S P X m nn FD A B C a b c) (hm : m ≤ 750000000) (hf : S.fused = false) (hl : S.last = []) (hmo : 2 ≤ S.most) : Calls Tryz.prog 42 #[.pointer (some ⟨p, 0, none⟩)] W fun e w' =>
  e = .returned (.tuple #[sv S1, .int .i64 0]) ∧ (∃ FD', Cr w' p d g mp (fresh2 (S.grown 2)) P X (m + 9000) nn FD' A B C a b c) ∧ Turn (Not X) W w' := by
 obtain ⟨w1, bx, Y, hw1, hbx, h1, hYX, hYb, t1, z1⟩ := box_start h
 have HW := Lib.hid hw1
 have HYX := Lib.hid hYX
 have HBX := Lib.hid (show W.heap.size ≤ bx by omega)
 have T1 := Lib.hid t1
 obtain ⟨hg1, hg2⟩ := grow_live hf (n := 2) hmo
 have hpg := pages_dk h1.dk
 rw [hl] at hpg
 have hgr := DiskGrow.grow_dk h1.dk 2
 rw [hg1, hg2] at hgr
 have d0 := (pgc h1.st).1.1
 have HH := Lib.hid h1
 have HF := Lib.hid (show (S.grown 2).fused = false ∧ 2 ≤ (S.grown 2).last.length ∧ ((S.grown 2).loose.length : Int) * 1000 ≤ m from ⟨hf, by rw [DS.grown, hl]; simp, h1.lo⟩)
 clear h h1 hw1 hYX t1 hf hl hmo hg1 hg2
 go_enter Tryz.func42, Tryz.ntmps42
 go_upto_region 1 with fail
 try rw [← HW.out]
 try rw [hbx]
 clear hbx HW
 go_wp2_with fail
 (with_reducible refine hpg.mono ?_)
 clear hpg
 rintro e w2 ⟨rfl, rfl⟩
 have hlt0 : ((([] : List DiskPlain.Pg).length : Nat) : Int) = 0 := rfl
 rw [hlt0]
 go_wp2_with fail
 (with_reducible refine hgr.mono ?_)
 clear hgr d0
 rintro e w3 ⟨rfl, hw⟩
 obtain ⟨⟨F3, h3⟩, t3⟩ := HH.out.went hw HF.out.2.2
 have z3 : SuperSpec.Bs w3 bx ⟨0, 0, 0, 0⟩ := At.same z1 (t3.block _ (At.lt z1) fun z => z hYb)
 have hcall := makeAnew_any h3 (by omega) HF.out.1 HF.out.2.1
 have T3 := Lib.hid (T1.out.step (t3.mono fun i _ hi hx => hi (HYX.out i hx)))
 clear hw h3 t3 z1
 go_wp2_with fail
 (with_reducible refine hcall.mono ?_)
 clear hcall
 rintro e w4 ⟨rfl, ⟨F4, h4⟩, t4⟩
 have z4 : SuperSpec.Bs w4 bx ⟨0, 0, 0, 0⟩ := At.same z3 (t4.block _ (At.lt z3) fun z => z hYb)
 obtain ⟨k0, k1, k2, k3⟩ := sup_cells z4
 have f0 := At.frozen z4 0
 have f1 := At.frozen z4 1
 have f2 := At.frozen z4 2
 have f3 := At.frozen z4 3
 have HZ := Lib.hid (SuperCode.bs_over z4 S1)
 have HC := Lib.hid ((cr4 h4 hYb (.int .i64 S1.ep) (.int .i64 S1.root) (.int .i64 S1.free) (.int .i64 S1.pages)).less HYX.out)
 have HT := Lib.hid (turn4 (T3.out.step (t4.mono fun i _ hi hx => hi (HYX.out i hx))) HBX.out (.int .i64 S1.ep) (.int .i64 S1.root) (.int .i64 S1.free) (.int .i64 S1.pages))
 clear h4 t4 z4 z3
 go_wp2_with fail
 refine bodyPost_ret (results_cell_tmp_row rfl _ _ bx 29 _ (0, 0) _ rfl HZ.out Tryz.underlying29 rfl (by kernel_rfl)) rfl ?_
 exact ⟨rfl, ⟨F4, HC.out.up (by omega)⟩, HT.out⟩
set_option maxRecDepth 100000 in
set_option maxHeartbeats 12800000 in
theorem find_old (h : Cr W p d g mp S P X m nn FD A B C a b c) (hm : m ≤ 750000000) {Q : PS} (ha : Agree S Q) (hi : Inv Q) (ht : PagerTold.Told Q) : Calls Tryz.prog 42 #[.pointer (some ⟨p, 0, none⟩)] W fun e w' =>
  e = .returned (.tuple #[sv Q.x, .int .i64 0]) ∧ Cr w' p d g mp S P X (m + 9000) nn FD A B C a b c ∧ Turn (Not X) W w' := by
 obtain ⟨w1, bx, Y, hw1, hbx, h1, hYX, hYb, t1, z1⟩ := box_start h
 have HW := Lib.hid hw1
 have HYX := Lib.hid hYX
 have HBX := Lib.hid (show W.heap.size ≤ bx by omega)
 have T1 := Lib.hid t1
 have i1 := ha.pg
 have i2 := hi.xp
 have i3 := hi.xg
 have hll : 2 ≤ S.last.length := by omega
 have hS := h.dk.ok
 have hpg := pages_dk h1.dk
 have hlo := h1.lo
 have hr0 : Calls Tryz.prog 47 #[.pointer (some ⟨d, 0, none⟩), .int .i64 0] w1 _ := read_dk h1.dk 0 (by omega) (by omega)
 obtain ⟨w2, hw2⟩ : ∃ v, v = w1.alloc (.cells (DiskSync.pcell (S.rd 0)) 5) := ⟨_, rfl⟩
 rw [← hw2] at hr0
 have b2 : Below w1.heap.size w1 w2 := by rw [hw2]; exact al_ _ _
 have a2 : At w2 w1.heap.size 5 (DiskSync.pcell (S.rd 0)) := by rw [hw2]; exact heap_alloc_new w1 _
 have h2 := h1.more b2
 have hr1 : Calls Tryz.prog 47 #[.pointer (some ⟨d, 0, none⟩), .int .i64 1] w2 _ := read_dk h2.dk 1 (by omega) (by omega)
 obtain ⟨w3, hw3⟩ : ∃ v, v = w2.alloc (.cells (DiskSync.pcell (S.rd 1)) 5) := ⟨_, rfl⟩
 rw [← hw3] at hr1
 have b3 : Below w2.heap.size w2 w3 := by rw [hw3]; exact al_ _ _
 have a3 : At w3 w2.heap.size 5 (DiskSync.pcell (S.rd 1)) := by rw [hw3]; exact heap_alloc_new w2 _
 have a2' : At w3 w1.heap.size 5 (DiskSync.pcell (S.rd 0)) := a2.same (b3.block _ a2.lt)
 have h3 := h2.below b3
 have z3 : SuperSpec.Bs w3 bx ⟨0, 0, 0, 0⟩ := At.same (At.same z1 (b2.block _ (At.lt z1))) (b3.block _ (At.same z1 (b2.block _ (At.lt z1)) : SuperSpec.Bs w2 bx ⟨0, 0, 0, 0⟩).lt)
 have e0 : S.rd 0 = Q.rd 0 := ha.rd 0 (by omega)
 have e1 : S.rd 1 = Q.rd 1 := ha.rd 1 (by omega)
 have l0 := rd_len hS 0 (by omega)
 have l1 := rd_len hS 1 (by omega)
 obtain ⟨n, n0, n1, hr⟩ := h3.su
 have hg1 : g < w1.heap.size := by obtain ⟨_, _, _, q⟩ := h1.su; exact Ready.lt q
 have hgb := b2.size
 have hpk := SuperPick.pick_any g n w3 ⟨w1.heap.size, 0, none⟩ ⟨w2.heap.size, 0, none⟩ 256 256 (S.rd 0) (S.rd 1) hr n0 (by omega)
  (fun k v hv => ⟨_, rfl, a2'.lt, by show w1.heap.size ≠ g; omega, by rw [add_zero_block, a2'.cell]; simpa [DiskSync.pcell] using hv⟩)
  (fun k v hv => ⟨_, rfl, a3.lt, by show w2.heap.size ≠ g; omega, by rw [add_zero_block, a3.cell]; simpa [DiskSync.pcell] using hv⟩) l0 l1 (by omega) (by omega)
 rw [e0, e1, ht.pick] at hpk
 have hpk : Calls Tryz.prog 68 #[.pointer (some ⟨g, 0, none⟩), .slice (some ⟨w1.heap.size, 0, none⟩) 256 256, .slice (some ⟨w2.heap.size, 0, none⟩) 256 256] w3 fun e w' => e = .returned (.tuple #[.agg #[.int .i64 Q.x.ep, .int .i64 Q.x.root, .int .i64 Q.x.free, .int .i64 Q.x.pages], .int .i64 0]) ∧ SuperSpec.On g n w3 w' := hpk
 have HS := Lib.hid (show ∀ (w' : World), SuperSpec.On g n w3 w' → Cr w' p d g mp S P (Plus Y w1 w2) (m + 3000) nn FD A B C a b c ∧ Turn (Not (Plus Y w1 w2)) w3 w' from fun w' ⟨⟨n', q1, q2, q3⟩, q4⟩ => h3.sums q4 q3 (by omega) (by omega) (by omega))
 have d0 := (pgc h1.st).1.1
 have d02 := (pgc h2.st).1.1
 have d1 := (pgc h3.st).1.2.1
 have T3 := Lib.hid ((T1.out.step (Turn.ofBelow b2)).step (Turn.ofBelow b3))
 have HY2 := Lib.hid (show (∀ i, X i → Plus Y w1 w2 i) ∧ Plus Y w1 w2 bx from ⟨fun i hi => Or.inl (HYX.out i hi), Or.inl hYb⟩)
 have hlt : ¬ ((S.last.length : Int) < 2) := by omega
 generalize (S.last.length : Int) = sl at *
 generalize Plus Y w1 w2 = Y2 at HS HY2
 clear h h1 h2 h3 hw1 hYX t1 z1 hw2 hw3 b2 b3 a2 a3 a2' e0 e1 l0 l1 hr n0 n1 hg1 hgb hS ha hi ht i1 i2 i3 hll hlo hm
 go_enter Tryz.func42, Tryz.ntmps42
 go_upto_region 1 with fail
 try rw [← HW.out]
 try rw [hbx]
 clear hbx HW
 go_wp2_with fail
 (with_reducible refine hpg.mono ?_)
 clear hpg
 rintro e wa ⟨rfl, rfl⟩
 go_wp2_with fail
 (with_reducible refine hr0.mono ?_)
 clear hr0 d0
 rintro e wa ⟨rfl, rfl⟩
 go_wp2_with fail
 (with_reducible refine hr1.mono ?_)
 clear hr1 d02
 rintro e wb ⟨rfl, rfl⟩
 go_wp2_with fail
 (with_reducible refine hpk.mono ?_)
 clear hpk d1
 rintro e w4 ⟨rfl, hon⟩
 obtain ⟨h4, t4⟩ := HS.out w4 hon
 have z4 : SuperSpec.Bs w4 bx ⟨0, 0, 0, 0⟩ := At.same z3 (t4.block _ (At.lt z3) fun z => z HY2.out.2)
 obtain ⟨w5, hw5⟩ : ∃ v, v = w4.alloc (.cells #[.int .i64 Q.x.ep, .int .i64 Q.x.root, .int .i64 Q.x.free, .int .i64 Q.x.pages] 29) := ⟨_, rfl⟩
 have b5 : Below w4.heap.size w4 w5 := by rw [hw5]; exact al_ _ _
 have y5 : SuperSpec.Bs w5 w4.heap.size Q.x := by rw [hw5]; exact SuperSpec.bs_new w4 Q.x
 have z5 : SuperSpec.Bs w5 bx ⟨0, 0, 0, 0⟩ := At.same z4 (b5.block _ (At.lt z4))
 obtain ⟨a0, a1, a2, a3⟩ := sup_cells y5
 obtain ⟨k0, k1, k2, k3⟩ := sup_cells z5
 have f0 := At.frozen z5 0
 have f1 := At.frozen z5 1
 have f2 := At.frozen z5 2
 have f3 := At.frozen z5 3
 have hnb : bx ≠ w4.heap.size := Nat.ne_of_lt (At.lt z4)
 have HZ := Lib.hid (SuperCode.bs_over z5 Q.x)
 have HC := Lib.hid ((cr4 (h4.below b5) HY2.out.2 (.int .i64 Q.x.ep) (.int .i64 Q.x.root) (.int .i64 Q.x.free) (.int .i64 Q.x.pages)).less HY2.out.1)
 have HT := Lib.hid (turn4 ((T3.out.step (t4.mono fun i _ hi hx => hi (HY2.out.1 i hx))).step (Turn.ofBelow b5)) HBX.out (.int .i64 Q.x.ep) (.int .i64 Q.x.root) (.int .i64 Q.x.free) (.int .i64 Q.x.pages))
 have HW5 := Lib.hid hw5
 clear h4 t4 z4 z3 z5 y5 b5 hw5 hon
 generalize hby : w4.heap.size = by_ at a0 a1 a2 a3 hnb
 go_upto_region 9 with fail
 try rw [← HW5.out]
 try rw [hby]
 clear hby HW5
 go_wp2_with fail
 refine bodyPost_ret (results_cell_tmp_row rfl _ _ bx 29 _ (0, 0) _ rfl HZ.out Tryz.underlying29 rfl (by kernel_rfl)) rfl ?_
 exact ⟨rfl, HC.out.up (by omega), HT.out⟩
end
end Go.Proofs.YtpidnkfcccboaaaGreat.PagerCode
