/- The chapter's example holds. -/
import Derived.Test.YtpcpfcllgadghaaNodeOf3
import Derived.Test.YtpcpfcllgadghaaNodeFind
import Derived.Test.YtpcpfcllgadghaaNodeSame
import Derived.Test.YtpcpfcllgadghaaNodeRoom
namespace Go.Proofs.Ytpcpfcllgadghaa.NodeAwake
open Go.RowKit Base NodePlain NodeRead NodeSlice NodeCheck NodeBox NodeEnt NodeCells NodeOf2 NodeOf3 NodeFind

def s0 : List ByteArray := [⟨#[97]⟩, ⟨#[98]⟩]
def s1 : List ByteArray := [⟨#[120]⟩, ⟨#[]⟩]
def s2 : List ByteArray := [⟨#[1, 97, 120]⟩, ⟨#[1, 98]⟩]
def n0 : Nd := ⟨true, s0, s1, []⟩
theorem n0_ok : Ok n0 := by
  refine ⟨?_, ?_, ?_, ?_⟩
  · rintro (⟨t, ht, h⟩ | ⟨t, ht, h⟩)
    · simp [n0, s0] at ht
      rcases ht with rfl | rfl <;> exact absurd h (by decide)
    · simp [n0, s1] at ht
      rcases ht with rfl | rfl <;> exact absurd h (by decide)
  · exact ⟨rfl, rfl⟩
  · intro k hk; cases hk
  · exact up_adj fun i hi => by
      have : i = 0 := by simp [n0, s0] at hi; omega
      subst this
      rfl
theorem n0_small : Small n0 := ⟨by decide, by decide, by decide, fun q hq => by simp [n0, s0] at hq; rcases hq with rfl | rfl <;> decide, fun q hq => by simp [n0, s1] at hq; rcases hq with rfl | rfl <;> decide⟩
theorem n0_cells : cells n0 = s2 := rfl
theorem n0_chk : Chk n0 0 := .inr (.inr ⟨n0_ok.1, n0_ok.2, rfl⟩)
theorem n0_at : at_ n0 ⟨#[97, 97]⟩ = 1 := by decide +kernel
theorem n0_has : has n0.keys ⟨#[97, 97]⟩ = false := by decide +kernel
theorem n0_room : room n0 = 9 := rfl
set_option maxRecDepth 100000 in
set_option maxHeartbeats 6400000 in
theorem awake_any (W : World) : Calls Try.prog 13 #[] W fun e w' => e = .returned (.bool true) ∧ Below W.heap.size W w' := by
  have b1 := al W (.cells #[.string ⟨#[97]⟩, .string ⟨#[98]⟩] 9)
  have b2 := al (W.alloc (.cells #[.string ⟨#[97]⟩, .string ⟨#[98]⟩] 9)) (.cells #[.string ⟨#[120]⟩, .string ⟨#[]⟩] 9)
  have b12 := Below.step b1 b2
  have r0 : Row (W.alloc (.cells #[.string ⟨#[97]⟩, .string ⟨#[98]⟩] 9)) (W.alloc (.cells #[.string ⟨#[97]⟩, .string ⟨#[98]⟩] 9)).heap.size (some ⟨W.heap.size, 0, none⟩) (strs s0) := (row_of_block (heap_alloc_new W (.cells #[.string ⟨#[97]⟩, .string ⟨#[98]⟩] 9))).more (by simp)
  have e1 : (W.alloc (.cells #[.string ⟨#[97]⟩, .string ⟨#[98]⟩] 9)).heap.size = W.heap.size + 1 := by simp
  have r1 := (row_of_block (heap_alloc_new (W.alloc (.cells #[.string ⟨#[97]⟩, .string ⟨#[98]⟩] 9)) (.cells #[.string ⟨#[120]⟩, .string ⟨#[]⟩] 9))).more (B' := ((W.alloc (.cells #[.string ⟨#[97]⟩, .string ⟨#[98]⟩] 9)).alloc (.cells #[.string ⟨#[120]⟩, .string ⟨#[]⟩] 9)).heap.size) (by simp)
  rw [e1] at r1
  have e2 : ((W.alloc (.cells #[.string ⟨#[97]⟩, .string ⟨#[98]⟩] 9)).alloc (.cells #[.string ⟨#[120]⟩, .string ⟨#[]⟩] 9)).heap.size = W.heap.size + 1 + 1 := by simp
  have hlay : Lay ((W.alloc (.cells #[.string ⟨#[97]⟩, .string ⟨#[98]⟩] 9)).alloc (.cells #[.string ⟨#[120]⟩, .string ⟨#[]⟩] 9)) n0 ⟨some ⟨W.heap.size, 0, none⟩, 2, some ⟨W.heap.size + 1, 0, none⟩, 2, none, 0⟩ := ⟨r0.belowSize b2, r1, Row.nil, Nat.le_refl _, Nat.le_refl _, Nat.le_refl _⟩
  have hbx := bx_new ((W.alloc (.cells #[.string ⟨#[97]⟩, .string ⟨#[98]⟩] 9)).alloc (.cells #[.string ⟨#[120]⟩, .string ⟨#[]⟩] 9)) n0 ⟨some ⟨W.heap.size, 0, none⟩, 2, some ⟨W.heap.size + 1, 0, none⟩, 2, none, 0⟩
  have hbb := box_below ((W.alloc (.cells #[.string ⟨#[97]⟩, .string ⟨#[98]⟩] 9)).alloc (.cells #[.string ⟨#[120]⟩, .string ⟨#[]⟩] 9)) n0 ⟨some ⟨W.heap.size, 0, none⟩, 2, some ⟨W.heap.size + 1, 0, none⟩, 2, none, 0⟩
  have hl3 := hlay.below hbb
  have hb3 := Below.step b12 hbb
  rw [e2] at hbx
  obtain ⟨w3, hw3⟩ : ∃ v, v = box ((W.alloc (.cells #[.string ⟨#[97]⟩, .string ⟨#[98]⟩] 9)).alloc (.cells #[.string ⟨#[120]⟩, .string ⟨#[]⟩] 9)) n0 ⟨some ⟨W.heap.size, 0, none⟩, 2, some ⟨W.heap.size + 1, 0, none⟩, 2, none, 0⟩ := ⟨_, rfl⟩
  rw [← hw3] at hl3 hb3 hbx
  have hw3' : w3 = ((W.alloc (.cells #[.string ⟨#[97]⟩, .string ⟨#[98]⟩] 9)).alloc (.cells #[.string ⟨#[120]⟩, .string ⟨#[]⟩] 9)).alloc (.cells #[.bool true, .slice (some ⟨W.heap.size, 0, none⟩) 2 2, .slice (some ⟨W.heap.size + 1, 0, none⟩) 2 2, .slice none 0 0] 25) := hw3
  have HW3 := Lib.hid hw3'
  clear hw3 hw3' hbb hlay e2 r1 e1 r0 b12 b2 b1
  obtain ⟨hd, hhd⟩ : ∃ hd : Hd, hd = ⟨some ⟨W.heap.size, 0, none⟩, 2, some ⟨W.heap.size + 1, 0, none⟩, 2, none, 0⟩ := ⟨_, rfl⟩
  rw [← hhd] at hl3 hbx
  have hnv : nv n0 hd = .agg #[.bool true, .slice (some ⟨W.heap.size, 0, none⟩) 2 2, .slice (some ⟨W.heap.size + 1, 0, none⟩) 2 2, .slice none 0 0] := by rw [hhd]; rfl
  have HNV := Lib.hid hnv
  have hC : ∀ w', Below w3.heap.size w3 w' → w'.cell? ⟨W.heap.size + 1 + 1, 0, none⟩ = some (.bool true) ∧ w'.cell? ⟨W.heap.size + 1 + 1, 1, none⟩ = some (.slice (some ⟨W.heap.size, 0, none⟩) 2 2) ∧ w'.cell? ⟨W.heap.size + 1 + 1, 2, none⟩ = some (.slice (some ⟨W.heap.size + 1, 0, none⟩) 2 2) ∧ w'.cell? ⟨W.heap.size + 1 + 1, 3, none⟩ = some (.slice none 0 0) := fun w' hb => by
    obtain ⟨c0, c1, c2, c3, _⟩ := hbx.below hb
    rw [hhd] at c1 c2 c3
    exact ⟨c0, c1, c2, c3⟩
  have HC := Lib.hid hC
  have HL := Lib.hid (fun w' (hb : Below w3.heap.size w3 w') => hl3.below hb)
  have HB := Lib.hid hb3
  clear hC hl3 hb3 hbx hnv hhd
  have hce := cells_any w3 n0 hd (HL.out w3 (Below.refl _ _)) n0_small 0 n0_chk
  rw [HNV.out] at hce
  go_enter Try.func13, Try.ntmps13
  go_wp2_with fail
  rw [← HW3.out]
  clear HW3
  refine hce.mono ?_
  rintro e w4 ⟨b4', hcase⟩
  rcases hcase with ⟨h0, _⟩ | ⟨_, A, m, c, rfl, hA⟩
  · exact absurd rfl h0
  have b4 : Below w3.heap.size w3 w4 := b4'
  clear hce b4'
  rw [n0_cells] at hA
  -- the cells, built
  have b5 := al w4 (.cells #[.string ⟨#[1, 97, 120]⟩, .string ⟨#[1, 98]⟩] 9)
  have r5 : Row (w4.alloc (.cells #[.string ⟨#[1, 97, 120]⟩, .string ⟨#[1, 98]⟩] 9)) (w4.alloc (.cells #[.string ⟨#[1, 97, 120]⟩, .string ⟨#[1, 98]⟩] 9)).heap.size (some ⟨w4.heap.size, 0, none⟩) (strs s2) := (row_of_block (heap_alloc_new w4 (.cells #[.string ⟨#[1, 97, 120]⟩, .string ⟨#[1, 98]⟩] 9))).more (by simp)
  have hof := of_true (w4.alloc (.cells #[.string ⟨#[1, 97, 120]⟩, .string ⟨#[1, 98]⟩] 9)) (some ⟨w4.heap.size, 0, none⟩) 2 2 s2 rfl r5 (by decide) (by decide) (fun q hq => by simp [s2] at hq; rcases hq with rfl | rfl <;> decide)
  have b45 := bstep b4 b4.size b5
  have hA5 := hA.sla.below b5
  clear r5 b4 b5 hA
  go_wp2_with fail
  refine hof.mono ?_
  rintro e w6 ⟨b6, hcase⟩
  clear hof
  rcases hcase with ⟨v, nd, rfl, hN, hlf, hcc, hok, hsm⟩ | ⟨_, hno⟩
  case inr => exact absurd n0_cells (hno n0 rfl n0_ok)
  have hnd : nd = n0 := cells_inj (Ok.wd hok) (Ok.wd n0_ok) hlf (hcc.trans n0_cells.symm)
  subst hnd
  clear hlf hcc hok hsm
  have b36 := bstep b45 b45.size b6
  have hA6 := hA5.below b6
  obtain ⟨hd2, hv, hl6⟩ := hN.nv
  have b7 := box_below w6 n0 hd2
  have bx7 := bx_new w6 n0 hd2
  have hl7 := hl6.below b7
  have b37 := bstep b36 b36.size b7
  have hA7 := hA6.below b7
  clear hA6 hA5 hl6 b36 b45 b6 hN
  obtain ⟨w7, hw7⟩ : ∃ v, v = box w6 n0 hd2 := ⟨_, rfl⟩
  rw [← hw7] at bx7 hl7 b37 hA7
  have hw7' : w7 = w6.alloc (.cells #[.bool true, .slice hd2.K 2 hd2.kc, .slice hd2.V 2 hd2.vc, .slice hd2.D 0 hd2.dc] 25) := hw7
  have HW7 := Lib.hid hw7'
  clear hw7 hw7' b7
  have hv' : v = .agg #[.bool true, .slice hd2.K 2 hd2.kc, .slice hd2.V 2 hd2.vc, .slice hd2.D 0 hd2.dc] := hv
  subst hv'
  clear hv
  have HX7 := Lib.hid bx7
  have HL7 := Lib.hid hl7
  clear bx7 hl7
  have hfi := find_any w7 n0 hd ⟨#[97, 97]⟩ (HL.out w7 b37) n0_ok.2.2.2 (by decide)
  rw [HNV.out, n0_at, n0_has] at hfi
  obtain ⟨c0, c1, c2, c3⟩ := HC.out w7 b37
  rw [HW7.out] at c0 c1 c2 c3
  go_wp2_with fail
  rw [← HW7.out]
  clear HW7
  generalize w6.heap.size = g6 at *
  refine hfi.mono ?_
  rintro e w8 ⟨rfl, b8⟩
  clear hfi c0 c1 c2 c3
  have b38 := bstep b37 b37.size b8
  have hA8 := hA7.below b8
  have b9 := al w8 (.cells #[.string ⟨#[1, 97, 120]⟩, .string ⟨#[1, 98]⟩] 9)
  have r9 : Row (w8.alloc (.cells #[.string ⟨#[1, 97, 120]⟩, .string ⟨#[1, 98]⟩] 9)) (w8.alloc (.cells #[.string ⟨#[1, 97, 120]⟩, .string ⟨#[1, 98]⟩] 9)).heap.size (some ⟨w8.heap.size, 0, none⟩) (strs s2) := (row_of_block (heap_alloc_new w8 (.cells #[.string ⟨#[1, 97, 120]⟩, .string ⟨#[1, 98]⟩] 9))).more (by simp)
  have b39 := bstep b38 b38.size b9
  have b79 := Below.step b8 b9
  obtain ⟨A', m', c', e1, e2, e3, r8⟩ := hA8.below b9
  injection e1 with e1 e4 e5
  subst e1 e4 e5
  rw [strs_len] at e2
  have hsa := Same_b A (some ⟨w8.heap.size, 0, none⟩) c 2 m 2 s2 s2 e2 rfl r8 r9 (by simp [maxLen, s2]) (by simp [maxLen, s2])
  rw [decide_eq_true rfl] at hsa
  clear hA8 hA7 r8 r9 e2 e3 b9 b8 b38 b37
  go_wp2_with fail
  refine hsa.mono ?_
  rintro e w10 ⟨rfl, b10⟩
  clear hsa
  have b310 := bstep b39 b39.size b10
  have b710 := bstep b79 b79.size b10
  clear b39 b79 b10
  obtain ⟨c0, c1, c2, c3⟩ := HC.out w10 b310
  obtain ⟨d0, d1, d2, d3, _⟩ := HX7.out.below b710
  have d1 : w10.cell? ⟨g6, 1, none⟩ = some (.slice hd2.K 2 hd2.kc) := d1
  have d2 : w10.cell? ⟨g6, 2, none⟩ = some (.slice hd2.V 2 hd2.vc) := d2
  have d3 : w10.cell? ⟨g6, 3, none⟩ = some (.slice hd2.D 0 hd2.dc) := d3
  have d0 : w10.cell? ⟨g6, 0, none⟩ = some (.bool true) := d0
  have hs5 := NodeSame.rsame_any w10 n0 n0 hd hd2 (HL.out w10 b310) (HL7.out.below b710) (by decide) (by decide) (by decide) (by decide) (by decide) true (by simp)
  rw [HNV.out] at hs5
  have hs5' : Calls Try.prog 23 #[.agg #[.bool true, .slice (some ⟨W.heap.size, 0, none⟩) 2 2, .slice (some ⟨W.heap.size + 1, 0, none⟩) 2 2, .slice none 0 0], .agg #[.bool true, .slice hd2.K 2 hd2.kc, .slice hd2.V 2 hd2.vc, .slice hd2.D 0 hd2.dc]] w10 fun e w' => e = .returned (.bool true) ∧ Below w10.heap.size w10 w' := hs5
  clear hs5
  go_wp2_with fail
  refine hs5'.mono ?_
  rintro e w11 ⟨rfl, b11⟩
  clear hs5' c0 c1 c2 c3 d0 d1 d2 d3 HX7 HL7
  have b311 := bstep b310 b310.size b11
  clear b310 b710 b11
  obtain ⟨c0, c1, c2, c3⟩ := HC.out w11 b311
  have hro := NodeRoom.room_any w11 n0 hd (HL.out w11 b311) n0_small
  rw [HNV.out, n0_room] at hro
  go_wp2_with fail
  refine hro.mono ?_
  rintro e w12 ⟨rfl, b12⟩
  clear hro c0 c1 c2 c3
  have b312 := bstep b311 b311.size b12
  clear b311 b12
  obtain ⟨c0, c1, c2, c3⟩ := HC.out w12 b312
  have hck := check_any w12 n0 hd (HL.out w12 b312) n0_small 0 n0_chk
  rw [HNV.out] at hck
  go_wp2_with fail
  refine hck.mono ?_
  rintro e w13 ⟨rfl, b13⟩
  clear hck c0 c1 c2 c3
  have b313 := bstep b312 b312.size b13
  clear b312 b13
  go_wp2_with fail
  go_ret
  exact ⟨rfl, Below.step HB.out b313⟩
theorem awakeL {w w1 : World} (hb : Below w.heap.size w w1) : Calls Try.prog 13 #[] w1 fun e w' => e = .returned (.bool true) ∧ Below w1.heap.size w1 w' ∧ Below w.heap.size w w' :=
  (awake_any w1).mono fun _ _ ⟨h1, h2⟩ => ⟨h1, h2, Below.step hb h2⟩
end Go.Proofs.Ytpcpfcllgadghaa.NodeAwake
