/- DiskPlays, walked. -/
import Derived.Test.YtecdindjlfefhaaDiskAny
import Derived.Deep.DeepCutAuto
namespace Go.Proofs.Ytecdindjlfefhaa.DiskPlays
open Go.RowKit Base DiskPlain DiskMem DiskSmall DiskRead DiskGrow DiskWrite DiskSync DiskCrash DiskSpoil DiskCopy DiskLaw DiskDo DiskPlumb DiskTwo DiskGrows DiskSim DiskSyncs DiskRef DiskRefRead DiskRefDo DiskRefDo2 DiskRefDo3 DiskBox DiskSame DiskAny Go.Maps

/-- nothing else is looked at -/
def NoQ : World → Prop := fun _ => True
def NoG : Nat → Prop := fun _ => False
theorem al_start {W w : World} {g : Nat} {m : Int} (h : Mine W w g (new m)) : ∃ F, AlIn W (w.alloc (.cells #[.int .i64 m, .slice none 0 0, .slice none 0 0, .bool false, .int .i64 0] 31)) g w.heap.size (new m) (new m) none 0 none 0 0 F (fun _ => False) NoQ NoG NoG := by
  obtain ⟨F, h1, h2, h3⟩ := h
  have hb : Below w.heap.size w (w.alloc (.cells #[.int .i64 m, .slice none 0 0, .slice none 0 0, .bool false, .int .i64 0] 31)) := (Below.refl _ w).alloc (Nat.le_refl _) _
  have hs := h3.size
  refine ⟨F, ⟨h1.below hb, ⟨rowR_nil _ _, rowR_nil _ _, fun q => by cases q⟩, heap_alloc_new w _, fun _ _ q => q, fun q => by have := (h2 _ q).2; omega, fun q => q⟩, ?_, trivial, fun _ _ _ _ => trivial, fun _ q => q.elim, fun _ q => q.elim, fun _ _ q => q, fun _ _ q => q, h3.trans (hb.mono hs)⟩
  rintro i (hi | hi | rfl)
  · have := h2 i hi; simp; omega
  · exact hi.elim
  · simp; omega
theorem heap_block5 (w : World) (r b : Nat) (u0 u1 u2 u3 u4 : Value) (h : b ≠ r) : (((((w.setCell ⟨r, 0, none⟩ u0).setCell ⟨r, 1, none⟩ u1).setCell ⟨r, 2, none⟩ u2).setCell ⟨r, 3, none⟩ u3).setCell ⟨r, 4, none⟩ u4).heap[b]? = w.heap[b]? := by
  rw [Below.heap_setCell _ _ _ _ h, Below.heap_setCell _ _ _ _ h, Below.heap_setCell _ _ _ _ h, Below.heap_setCell _ _ _ _ h, Below.heap_setCell _ _ _ _ h]
theorem turn5g (w : World) (F : Nat → Prop) (r : Nat) (u0 u1 u2 u3 u4 : Value) (h : F r) : Turn F w (((((w.setCell ⟨r, 0, none⟩ u0).setCell ⟨r, 1, none⟩ u1).setCell ⟨r, 2, none⟩ u2).setCell ⟨r, 3, none⟩ u3).setCell ⟨r, 4, none⟩ u4) :=
  (turn5 w r u0 u1 u2 u3 u4).mono fun _ _ e => e ▸ h
theorem turn5m {w w3 : World} {mb a b : Nat} (t : Turn (fun i => i = mb ∨ (a ≤ i ∧ i < b)) w w3) (u0 u1 u2 u3 u4 : Value) : Turn (fun i => i = mb ∨ (a ≤ i ∧ i < b)) w (((((w3.setCell ⟨mb, 0, none⟩ u0).setCell ⟨mb, 1, none⟩ u1).setCell ⟨mb, 2, none⟩ u2).setCell ⟨mb, 3, none⟩ u3).setCell ⟨mb, 4, none⟩ u4) :=
  t.step (turn5g w3 _ mb u0 u1 u2 u3 u4 (.inl rfl))
def PlRel (w : World) (g mb : Nat) (k : Nat) (wr : World) : Prop := ∃ S A1 c1 A2 c2 f F R, AlIn w wr g mb S S A1 c1 A2 c2 f F R NoQ NoG NoG ∧ S.loose.length ≤ k
set_option maxRecDepth 100000 in
set_option maxHeartbeats 4000000 in
theorem DiskPlays_walk (m : Int) (A : Option Addr) (c : Nat) (xs : List Ac) (w : World) (hA : Acts w A xs) (hxl : xs.length ≤ maxLen) : Calls Try.prog 3 #[.int .i64 m, .slice A xs.length c] w fun e w' => e = .returned (.bool true) ∧ Below w.heap.size w w' := by
  unfold maxLen at hxl
  by_cases hm : 1 ≤ m ∧ m ≤ 4096
  · obtain ⟨hm1, hm2⟩ := hm
    have HA := Lib.hid hA
    clear hA
    have hb1 : decide (m < 1) = false := by simp; omega
    have hb2 : decide (4096 < m) = false := by simp; omega
    go_enter Try.func3, Try.ntmps3
    go_wp2_with fail
    refine (m_new w m hm1 hm2).mono ?_
    rintro e w1 ⟨rfl, m0⟩
    go_wp2_with fail
    refine (awake_any _).mono ?_
    rintro e w1a ⟨rfl, hb3⟩
    have HR := Lib.hid (show PlRel w (w.heap.size + 1) w1a.heap.size 0 (w1a.alloc (.cells #[.int .i64 m, .slice none 0 0, .slice none 0 0, .bool false, .int .i64 0] 31)) from by
      obtain ⟨F, t⟩ := al_start (m0.step hb3)
      exact ⟨_, _, _, _, _, _, _, _, t, by simp [new]⟩)
    clear hb3 m0
    go_wp2_with fail
    generalize w1a.heap.size = mb at *
    go_loopw [8] (fun i wr => ∃ k : Nat, k ≤ xs.length ∧ k ≤ 60 ∧ i = .int .i64 k ∧ PlRel w (w.heap.size + 1) mb k wr) (fun i _ => 60 - (intOf i).toNat)
    case atStart => exact ⟨0, by omega, by omega, rfl, HR.out⟩
    case round =>
      obtain ⟨k, hk, hk60, rfl, S, A1, c1, A2, c2, f, F, R, t, hll⟩ := hrel
      clear HR
      by_cases hlt : k < xs.length ∧ k < 60
      · obtain ⟨hlt1, hlt2⟩ := hlt
        obtain ⟨x, hx⟩ : ∃ x, xs[k]? = some x := ⟨_, List.getElem?_eq_getElem hlt1⟩
        obtain ⟨hok, ab, ao, K, ck, hA1, hsix, hrow⟩ := act_at HA.out hx
        have hidx := idx_acts (n := xs.length) (c := c) hA1 hlt1
        obtain ⟨q0, q1, q2, q3, q4, q5⟩ := hsix wr t.below
        have hfw := few_any x K ck wr hok.s hok.k
        have t1 := t.step ((Below.refl _ wr).alloc (Nat.le_refl _) (.cells #[.int .i64 x.kind, .int .i64 x.n, .int .i64 x.page, .int .i64 x.at_, .string x.s, .slice K x.kept.length ck] 35))
        have HC := Lib.hid hsix
        have HW := Lib.hid hrow
        have hal := act_loose S x
        clear hA1 hx hsix hrow t
        cases hfx : few x with
        | false =>
          rw [hfx] at hfw
          have HS := Lib.hid (show PlRel w (w.heap.size + 1) mb (k + 1) (wr.alloc (.cells #[.int .i64 x.kind, .int .i64 x.n, .int .i64 x.page, .int .i64 x.at_, .string x.s, .slice K x.kept.length ck] 35)) from ⟨_, _, _, _, _, _, _, _, t1, by omega⟩)
          clear t1 hfx
          go_wp2_with fail
          refine hfw.mono ?_
          rintro e w2 ⟨rfl, rfl⟩
          clear hfw
          go_wp2_with fail
          go_roundw
          case rel => exact ⟨k + 1, by omega, by omega, by go_num, HS.out⟩
          case measure => simp [intOf]; omega
        | true =>
          rw [hfx] at hfw
          go_wp2_with fail
          refine hfw.mono ?_
          rintro e wb ⟨rfl, hwb⟩
          rw [← hwb] at t1
          clear hfw q0 q1 q2 q3 q4 q5 hwb
          have hSok := t1.core.dk.ok
          have hdo := fun wx (hb : Below wb.heap.size wb wx) => al_ref t1 hb hSok x K ck hok hfx (by omega) (HW.out _ (t1.below.trans (hb.mono t1.below.size)))
          simp only [boxOf] at hdo
          have HDO := Lib.hid hdo
          have HSP := Lib.hid (show ∀ wx, Below wb.heap.size wb wx → (fun w' : World => w'.cell? ⟨mb, 0, none⟩ = some (.int .i64 S.most) ∧ w'.cell? ⟨mb, 1, none⟩ = some (.slice A1 S.last.length c1) ∧ w'.cell? ⟨mb, 2, none⟩ = some (.slice A2 S.loose.length c2) ∧ w'.cell? ⟨mb, 3, none⟩ = some (.bool S.fused) ∧ w'.cell? ⟨mb, 4, none⟩ = some (.int .i64 f) ∧ w'.cell? ⟨ab, ao + k * 6, none⟩ = some (.int .i64 x.kind) ∧ w'.cell? ⟨ab, ao + k * 6 + 1, none⟩ = some (.int .i64 x.n) ∧ w'.cell? ⟨ab, ao + k * 6 + 2, none⟩ = some (.int .i64 x.page) ∧ w'.cell? ⟨ab, ao + k * 6 + 3, none⟩ = some (.int .i64 x.at_) ∧ w'.cell? ⟨ab, ao + k * 6 + 4, none⟩ = some (.string x.s) ∧ w'.cell? ⟨ab, ao + k * 6 + 5, none⟩ = some (.slice K x.kept.length ck)) wx from fun wx hb => by
            have tx := (t1.step hb).core.box
            obtain ⟨s0, s1, s2, s3, s4, s5⟩ := HC.out _ (t1.step hb).below
            exact ⟨by rw [tx.cell]; rfl, by rw [tx.cell]; rfl, by rw [tx.cell]; rfl, by rw [tx.cell]; rfl, by rw [tx.cell]; rfl, s0, s1, s2, s3, s4, s5⟩)
          have HT := Lib.hid t1
          have hmb : mb < wb.heap.size := t1.core.box.lt
          have HFX := Lib.hid hfx
          have HOK := Lib.hid hok
          clear t1 hSok hdo hfx hok
          go_wp2_with fail
          refine wp_region_any (by kernel_rfl) ?_
          change wpAny _ _ _ _ _ _ _ (World.drew _)
          refine Held.any_of_G (S := (fun w' : World => w'.cell? ⟨mb, 0, none⟩ = some (.int .i64 S.most) ∧ w'.cell? ⟨mb, 1, none⟩ = some (.slice A1 S.last.length c1) ∧ w'.cell? ⟨mb, 2, none⟩ = some (.slice A2 S.loose.length c2) ∧ w'.cell? ⟨mb, 3, none⟩ = some (.bool S.fused) ∧ w'.cell? ⟨mb, 4, none⟩ = some (.int .i64 f) ∧ w'.cell? ⟨ab, ao + k * 6, none⟩ = some (.int .i64 x.kind) ∧ w'.cell? ⟨ab, ao + k * 6 + 1, none⟩ = some (.int .i64 x.n) ∧ w'.cell? ⟨ab, ao + k * 6 + 2, none⟩ = some (.int .i64 x.page) ∧ w'.cell? ⟨ab, ao + k * 6 + 3, none⟩ = some (.int .i64 x.at_) ∧ w'.cell? ⟨ab, ao + k * 6 + 4, none⟩ = some (.string x.s) ∧ w'.cell? ⟨ab, ao + k * 6 + 5, none⟩ = some (.slice K x.kept.length ck))) (z := 11) _ _ _ _ ?_
          refine Held.G_take (i := 0) (d := 60) (v := ?_) [0, 5, 6, 7, 8, 10, 11] rfl rfl (by kernel_rfl) (by kernel_rfl) (by kernel_rfl) (by kernel_rfl) (fun _ _ _ h => h) (Or.inl ⟨by rfl, ?_⟩) (HSP.out _ ((Below.refl wb.heap.size wb).drew)) ?_
          rotate_left 1
          · intro w hSw; obtain ⟨h0, h1, h2, h3, h4, h5, h6, h7, h8, h9, h10⟩ := hSw; go_simp <;> with_reducible rfl
          simp only [Act.put, List.setIfInBounds_toArray, List.set_cons_zero, List.set_cons_succ]
          refine Held.G_take (i := 1) (d := 61) (v := ?_) [1, 3, 4, 5, 6, 7, 8, 10, 11] rfl rfl (by kernel_rfl) (by kernel_rfl) (by kernel_rfl) (by kernel_rfl) (fun _ _ _ h => h) (Or.inl ⟨by rfl, ?_⟩) (HSP.out _ ((Below.refl wb.heap.size wb).drew)) ?_
          rotate_left 1
          · intro w hSw; clear hSw; go_simp <;> with_reducible rfl
          simp only [Act.put, List.setIfInBounds_toArray, List.set_cons_zero, List.set_cons_succ]
          refine Held.G_take (i := 2) (d := 62) (v := ?_) [2, 3, 4, 5, 6, 7, 8, 10, 11] rfl rfl (by kernel_rfl) (by kernel_rfl) (by kernel_rfl) (by kernel_rfl) (fun _ _ _ h => h) (Or.inl ⟨by rfl, ?_⟩) (HSP.out _ ((Below.refl wb.heap.size wb).drew)) ?_
          rotate_left 1
          · intro w hSw; clear hSw; go_simp <;> with_reducible rfl
          simp only [Act.put, List.setIfInBounds_toArray, List.set_cons_zero, List.set_cons_succ]
          refine Held.G_take (i := 3) (d := 63) (v := ?_) [3, 4, 5, 6, 7, 8, 10, 11] rfl rfl (by kernel_rfl) (by kernel_rfl) (by kernel_rfl) (by kernel_rfl) (fun _ _ _ h => h) (Or.inl ⟨by rfl, ?_⟩) (HSP.out _ ((Below.refl wb.heap.size wb).drew)) ?_
          rotate_left 1
          · intro w hSw; clear hSw; go_simp <;> with_reducible rfl
          simp only [Act.put, List.setIfInBounds_toArray, List.set_cons_zero, List.set_cons_succ]
          refine Held.G_take (i := 4) (d := 64) (v := ?_) [4, 5, 6, 7, 8, 10, 11] rfl rfl (by kernel_rfl) (by kernel_rfl) (by kernel_rfl) (by kernel_rfl) (fun _ _ _ h => h) (Or.inl ⟨by rfl, ?_⟩) (HSP.out _ ((Below.refl wb.heap.size wb).drew)) ?_
          rotate_left 1
          · intro w hSw; obtain ⟨h0, h1, h2, h3, h4, h5, h6, h7, h8, h9, h10⟩ := hSw; go_simp <;> with_reducible rfl
          simp only [Act.put, List.setIfInBounds_toArray, List.set_cons_zero, List.set_cons_succ]
          refine Held.G_ready (rs := [5, 9]) (by decide +kernel) (by simp) ?_
          refine Held.G_cons rfl (fun KK hK => ?_) ?_
          · go_simp
            (with_reducible refine (HDO.out _ ((Below.refl wb.heap.size wb).drew)).mono ?_)
            rintro e w2 ⟨B1, d1, B2, d2, f', rfl, HM⟩
            go_wp2_with fail
            refine ⟨(HSP.out _ ((((Below.refl wb.heap.size wb).drew).trans (HM.out.1.mono ((Below.refl wb.heap.size wb).drew).size)))), ?_⟩
            refine Held.G_take (i := 6) (d := 59) (v := ?_) [6, 7, 8, 10, 11] rfl rfl (by kernel_rfl) (by kernel_rfl) (by kernel_rfl) (by kernel_rfl) (fun _ _ _ h => h) (Or.inl ⟨by rfl, ?_⟩) (HSP.out _ ((((Below.refl wb.heap.size wb).drew).trans (HM.out.1.mono ((Below.refl wb.heap.size wb).drew).size)))) ?_
            rotate_left 1
            · intro w hSw; clear hSw; go_simp <;> with_reducible rfl
            simp only [Act.put, List.setIfInBounds_toArray, List.set_cons_zero, List.set_cons_succ]
            refine Held.G_take (i := 7) (d := 66) (v := ?_) [7, 10, 11] rfl rfl (by kernel_rfl) (by kernel_rfl) (by kernel_rfl) (by kernel_rfl) (fun _ _ _ h => h) (Or.inl ⟨by rfl, ?_⟩) (HSP.out _ ((((Below.refl wb.heap.size wb).drew).trans (HM.out.1.mono ((Below.refl wb.heap.size wb).drew).size)))) ?_
            rotate_left 1
            · intro w hSw; clear hSw; go_simp <;> with_reducible rfl
            simp only [Act.put, List.setIfInBounds_toArray, List.set_cons_zero, List.set_cons_succ]
            refine Held.G_take (i := 8) (d := 67) (v := ?_) [8, 11] rfl rfl (by kernel_rfl) (by kernel_rfl) (by kernel_rfl) (by kernel_rfl) (fun _ _ _ h => h) (Or.inl ⟨by rfl, ?_⟩) (HSP.out _ ((((Below.refl wb.heap.size wb).drew).trans (HM.out.1.mono ((Below.refl wb.heap.size wb).drew).size)))) ?_
            rotate_left 1
            · intro w hSw; clear hSw; go_simp <;> with_reducible rfl
            simp only [Act.put, List.setIfInBounds_toArray, List.set_cons_zero, List.set_cons_succ]
            refine Held.G_ready (rs := [9]) (by decide +kernel) (by simp) ?_
            refine Held.G_cons rfl (fun KK hK => ?_) Held.G_nil
            go_simp
            refine hK _ _ ⟨(HSP.out _ (((((Below.refl wb.heap.size wb).drew).trans (HM.out.1.mono ((Below.refl wb.heap.size wb).drew).size)).alloc (((Below.refl wb.heap.size wb).drew).trans (HM.out.1.mono ((Below.refl wb.heap.size wb).drew).size)).size _))), ?_⟩
            clear hK KK
            refine Held.G_ready (rs := [10]) (by decide +kernel) (by simp) ?_
            refine Held.G_cons rfl (fun KK hK => ?_) Held.G_nil
            go_simp
            refine hK _ _ ⟨(HSP.out _ (((((Below.refl wb.heap.size wb).drew).trans (HM.out.1.mono ((Below.refl wb.heap.size wb).drew).size)).alloc (((Below.refl wb.heap.size wb).drew).trans (HM.out.1.mono ((Below.refl wb.heap.size wb).drew).size)).size _))), ?_⟩
            clear hK KK
            refine Held.G_ready (rs := [11]) (by decide +kernel) (by simp) ?_
            refine Held.G_last rfl (fun KK hK => ?_) Held.G_nil
            go_simp
            refine hK _ _ ?_
            clear hK KK
            refine Held.G_done (by kernel_rfl) ?_ _
            obtain ⟨w3, hw3⟩ : ∃ w3, w3 = (w2.alloc (.cells #[.int .i64 (act S x).most, .slice B1 (act S x).last.length d1, .slice B2 (act S x).loose.length d2, .bool (act S x).fused, .int .i64 f'] 31)) := ⟨_, rfl⟩
            rw [← hw3]
            have n3 : At w3 w2.heap.size 31 #[.int .i64 (act S x).most, .slice B1 (act S x).last.length d1, .slice B2 (act S x).loose.length d2, .bool (act S x).fused, .int .i64 f'] := by rw [hw3]; exact heap_alloc_new w2 _
            have m3 : At w3 mb 31 #[.int .i64 S.most, .slice A1 S.last.length c1, .slice A2 S.loose.length c2, .bool S.fused, .int .i64 f] := by rw [hw3]; exact (HT.out.step (((Below.refl wb.heap.size wb).drew).trans (HM.out.1.mono ((Below.refl wb.heap.size wb).drew).size))).core.box.same (Below.heap_alloc w2 _ _ (by have := HM.out.1.size; simp at this; omega))
            have t3 : Turn (fun b => b = mb ∨ (wb.heap.size ≤ b ∧ b < wb.drew.heap.size)) w2 w3 := by rw [hw3]; exact (Turn.refl _ w2).alloc _
            have n30 := n3.cell 0
            have n31 := n3.cell 1
            have n32 := n3.cell 2
            have n33 := n3.cell 3
            have n34 := n3.cell 4
            have m30 := m3.cell 0
            have m31 := m3.cell 1
            have m32 := m3.cell 2
            have m33 := m3.cell 3
            have m34 := m3.cell 4
            have f30 := m3.frozen 0
            have f31 := m3.frozen 1
            have f32 := m3.frozen 2
            have f33 := m3.frozen 3
            have f34 := m3.frozen 4
            have M3 := Lib.hid m3
            have T3 := Lib.hid t3
            clear hw3 n3 m3 t3
            go_upto_region 13 with fail
            obtain ⟨w4, hw4⟩ : ∃ w4, w4 = (((((w3.setCell ⟨mb, 0, none⟩ (.int .i64 (act S x).most)).setCell ⟨mb, 1, none⟩ (.slice B1 (act S x).last.length d1)).setCell ⟨mb, 2, none⟩ (.slice B2 (act S x).loose.length d2)).setCell ⟨mb, 3, none⟩ (.bool (act S x).fused)).setCell ⟨mb, 4, none⟩ (.int .i64 f')) := ⟨_, rfl⟩
            rw [← hw4]
            obtain ⟨R', t4⟩ := HM.out.2 w4 (by rw [hw4]; exact turn5m T3.out _ _ _ _ _) (by rw [hw4]; exact at5 M3.out)
            clear hw4 n30 n31 n32 n33 n34 m30 m31 m32 m33 m34 f30 f31 f32 f33 f34
            obtain ⟨s0, s1, s2, s3, s4, s5⟩ := HC.out _ t4.below
            have hdo2 := al_do t4 x K ck HOK.out HFX.out (by omega) (HW.out _ t4.below)
            have hbe : (actE S x != actE S x) = false := by simp
            clear t4
            go_wp2_with fail
            refine hdo2.mono ?_
            rintro e w5 ⟨rfl, F', t5⟩
            clear hdo2
            have k50 := t5.core.box.cell 0
            have k51 := t5.core.box.cell 1
            have k52 := t5.core.box.cell 2
            have k53 := t5.core.box.cell 3
            have k54 := t5.core.box.cell 4
            have hsm := al_same t5 (by omega)
            simp only [boxOf] at hsm k50 k51 k52 k53 k54
            have T5 := Lib.hid t5
            clear t5
            go_wp2_with fail
            refine hsm.mono ?_
            rintro e w6 ⟨rfl, t6⟩
            have HN := Lib.hid (show PlRel w (w.heap.size + 1) mb (k + 1) w6 from ⟨_, _, _, _, _, _, _, _, t6, by omega⟩)
            clear hsm t6 k50 k51 k52 k53 k54 s0 s1 s2 s3 s4 s5 hbe
            go_wp2_with fail
            go_roundw
            case rel => exact ⟨k + 1, by omega, by omega, by go_num, HN.out⟩
            case measure => simp [intOf]; omega
          refine Held.G_cons rfl (fun KK hK => ?_) Held.G_nil
          go_simp
          refine hK _ _ ⟨(HSP.out _ (((Below.refl wb.heap.size wb).alloc (Nat.le_refl _) _).drew)), ?_⟩
          clear hK KK
          refine Held.G_ready (rs := [5]) (by decide +kernel) (by simp) ?_
          refine Held.G_cons rfl (fun KK hK => ?_) Held.G_nil
          go_simp
          (with_reducible refine (HDO.out _ (((Below.refl wb.heap.size wb).alloc (Nat.le_refl _) _).drew)).mono ?_)
          rintro e w2 ⟨B1, d1, B2, d2, f', rfl, HM⟩
          have z9 : At w2 wb.heap.size 31 #[.int .i64 0, .slice none 0 0, .slice none 0 0, .bool false, .int .i64 0] := At.same (show At (wb.alloc (.cells #[.int .i64 0, .slice none 0 0, .slice none 0 0, .bool false, .int .i64 0] 31)).drew wb.heap.size _ _ from heap_alloc_new wb _) (HM.out.1.block _ (by simp))
          have z90 := z9.cell 0
          have z91 := z9.cell 1
          have z92 := z9.cell 2
          have z93 := z9.cell 3
          have z94 := z9.cell 4
          have y90 := z9.frozen 0
          have y91 := z9.frozen 1
          have y92 := z9.frozen 2
          have y93 := z9.frozen 3
          have y94 := z9.frozen 4
          go_wp2_with fail
          refine ⟨(HSP.out _ (((((Below.refl wb.heap.size wb).alloc (Nat.le_refl _) _).drew).trans (HM.out.1.mono (((Below.refl wb.heap.size wb).alloc (Nat.le_refl _) _).drew).size)))), ?_⟩
          refine Held.G_take (i := 6) (d := 59) (v := ?_) [6, 7, 8, 10, 11] rfl rfl (by kernel_rfl) (by kernel_rfl) (by kernel_rfl) (by kernel_rfl) (fun _ _ _ h => h) (Or.inl ⟨by rfl, ?_⟩) (HSP.out _ (((((Below.refl wb.heap.size wb).alloc (Nat.le_refl _) _).drew).trans (HM.out.1.mono (((Below.refl wb.heap.size wb).alloc (Nat.le_refl _) _).drew).size)))) ?_
          rotate_left 1
          · intro w hSw; clear hSw; go_simp <;> with_reducible rfl
          simp only [Act.put, List.setIfInBounds_toArray, List.set_cons_zero, List.set_cons_succ]
          refine Held.G_take (i := 7) (d := 66) (v := ?_) [7, 10, 11] rfl rfl (by kernel_rfl) (by kernel_rfl) (by kernel_rfl) (by kernel_rfl) (fun _ _ _ h => h) (Or.inl ⟨by rfl, ?_⟩) (HSP.out _ (((((Below.refl wb.heap.size wb).alloc (Nat.le_refl _) _).drew).trans (HM.out.1.mono (((Below.refl wb.heap.size wb).alloc (Nat.le_refl _) _).drew).size)))) ?_
          rotate_left 1
          · intro w hSw; clear hSw; go_simp <;> with_reducible rfl
          simp only [Act.put, List.setIfInBounds_toArray, List.set_cons_zero, List.set_cons_succ]
          refine Held.G_take (i := 8) (d := 67) (v := ?_) [8, 11] rfl rfl (by kernel_rfl) (by kernel_rfl) (by kernel_rfl) (by kernel_rfl) (fun _ _ _ h => h) (Or.inl ⟨by rfl, ?_⟩) (HSP.out _ (((((Below.refl wb.heap.size wb).alloc (Nat.le_refl _) _).drew).trans (HM.out.1.mono (((Below.refl wb.heap.size wb).alloc (Nat.le_refl _) _).drew).size)))) ?_
          rotate_left 1
          · intro w hSw; clear hSw; go_simp <;> with_reducible rfl
          simp only [Act.put, List.setIfInBounds_toArray, List.set_cons_zero, List.set_cons_succ]
          refine Held.G_ready (rs := [10]) (by decide +kernel) (by simp) ?_
          refine Held.G_cons rfl (fun KK hK => ?_) Held.G_nil
          go_simp
          refine hK _ _ ⟨(HSP.out _ ((((((((((Below.refl wb.heap.size wb).alloc (Nat.le_refl _) _).drew).trans (HM.out.1.mono (((Below.refl wb.heap.size wb).alloc (Nat.le_refl _) _).drew).size)).setCell (Nat.le_refl _) _).setCell (Nat.le_refl _) _).setCell (Nat.le_refl _) _).setCell (Nat.le_refl _) _).setCell (Nat.le_refl _) _))), ?_⟩
          clear hK KK
          refine Held.G_ready (rs := [11]) (by decide +kernel) (by simp) ?_
          refine Held.G_last rfl (fun KK hK => ?_) Held.G_nil
          go_simp
          refine hK _ _ ?_
          clear hK KK
          refine Held.G_done (by kernel_rfl) ?_ _
          clear z90 z91 z92 z93 z94 y90 y91 y92 y93 y94
          obtain ⟨w3, hw3⟩ : ∃ w3, w3 = (((((w2.setCell ⟨wb.heap.size, 0, none⟩ (.int .i64 (act S x).most)).setCell ⟨wb.heap.size, 1, none⟩ (.slice B1 (act S x).last.length d1)).setCell ⟨wb.heap.size, 2, none⟩ (.slice B2 (act S x).loose.length d2)).setCell ⟨wb.heap.size, 3, none⟩ (.bool (act S x).fused)).setCell ⟨wb.heap.size, 4, none⟩ (.int .i64 f')) := ⟨_, rfl⟩
          rw [← hw3]
          have n3 : At w3 wb.heap.size 31 #[.int .i64 (act S x).most, .slice B1 (act S x).last.length d1, .slice B2 (act S x).loose.length d2, .bool (act S x).fused, .int .i64 f'] := by rw [hw3]; exact at5 z9
          have m3 : At w3 mb 31 #[.int .i64 S.most, .slice A1 S.last.length c1, .slice A2 S.loose.length c2, .bool S.fused, .int .i64 f] := by rw [hw3]; exact (HT.out.step ((((Below.refl wb.heap.size wb).alloc (Nat.le_refl _) _).drew).trans (HM.out.1.mono (((Below.refl wb.heap.size wb).alloc (Nat.le_refl _) _).drew).size))).core.box.same (heap_block5 w2 _ _ _ _ _ _ _ (by omega))
          have t3 : Turn (fun b => b = mb ∨ (wb.heap.size ≤ b ∧ b < (wb.alloc (.cells #[.int .i64 0, .slice none 0 0, .slice none 0 0, .bool false, .int .i64 0] 31)).drew.heap.size)) w2 w3 := by rw [hw3]; exact turn5g w2 _ _ _ _ _ _ _ (.inr ⟨Nat.le_refl _, by simp⟩)
          have n30 := n3.cell 0
          have n31 := n3.cell 1
          have n32 := n3.cell 2
          have n33 := n3.cell 3
          have n34 := n3.cell 4
          have m30 := m3.cell 0
          have m31 := m3.cell 1
          have m32 := m3.cell 2
          have m33 := m3.cell 3
          have m34 := m3.cell 4
          have f30 := m3.frozen 0
          have f31 := m3.frozen 1
          have f32 := m3.frozen 2
          have f33 := m3.frozen 3
          have f34 := m3.frozen 4
          have M3 := Lib.hid m3
          have T3 := Lib.hid t3
          clear hw3 n3 m3 t3
          clear z9
          go_upto_region 13 with fail
          obtain ⟨w4, hw4⟩ : ∃ w4, w4 = (((((w3.setCell ⟨mb, 0, none⟩ (.int .i64 (act S x).most)).setCell ⟨mb, 1, none⟩ (.slice B1 (act S x).last.length d1)).setCell ⟨mb, 2, none⟩ (.slice B2 (act S x).loose.length d2)).setCell ⟨mb, 3, none⟩ (.bool (act S x).fused)).setCell ⟨mb, 4, none⟩ (.int .i64 f')) := ⟨_, rfl⟩
          rw [← hw4]
          obtain ⟨R', t4⟩ := HM.out.2 w4 (by rw [hw4]; exact turn5m T3.out _ _ _ _ _) (by rw [hw4]; exact at5 M3.out)
          clear hw4 n30 n31 n32 n33 n34 m30 m31 m32 m33 m34 f30 f31 f32 f33 f34
          obtain ⟨s0, s1, s2, s3, s4, s5⟩ := HC.out _ t4.below
          have hdo2 := al_do t4 x K ck HOK.out HFX.out (by omega) (HW.out _ t4.below)
          have hbe : (actE S x != actE S x) = false := by simp
          clear t4
          go_wp2_with fail
          refine hdo2.mono ?_
          rintro e w5 ⟨rfl, F', t5⟩
          clear hdo2
          have k50 := t5.core.box.cell 0
          have k51 := t5.core.box.cell 1
          have k52 := t5.core.box.cell 2
          have k53 := t5.core.box.cell 3
          have k54 := t5.core.box.cell 4
          have hsm := al_same t5 (by omega)
          simp only [boxOf] at hsm k50 k51 k52 k53 k54
          have T5 := Lib.hid t5
          clear t5
          go_wp2_with fail
          refine hsm.mono ?_
          rintro e w6 ⟨rfl, t6⟩
          have HN := Lib.hid (show PlRel w (w.heap.size + 1) mb (k + 1) w6 from ⟨_, _, _, _, _, _, _, _, t6, by omega⟩)
          clear hsm t6 k50 k51 k52 k53 k54 s0 s1 s2 s3 s4 s5 hbe
          go_wp2_with fail
          go_roundw
          case rel => exact ⟨k + 1, by omega, by omega, by go_num, HN.out⟩
          case measure => simp [intOf]; omega
      · have HL := Lib.hid hlt
        have hex : decide (k < xs.length) = false ∨ (decide (k < xs.length) = true ∧ decide ((k : Int) < 60) = false) := by
          by_cases q : k < xs.length
          · exact .inr ⟨by simpa using q, by simp; omega⟩
          · exact .inl (by simpa using q)
        have HB := Lib.hid t.below
        clear hlt t
        rcases hex with hx1 | ⟨hx1, hx2⟩
        all_goals
          go_wp2_with fail
          go_ret
          exact ⟨rfl, HB.out⟩
  · have hm2 : m < 1 ∨ (1 ≤ m ∧ 4096 < m) := by omega
    clear hm hA hxl
    rcases hm2 with h1 | ⟨h1, h2⟩
    all_goals
      go_enter Try.func3, Try.ntmps3
      go_wp2_with fail
      refine (new_bad w m (by omega)).mono ?_
      rintro e w1 ⟨rfl, rfl⟩
      go_wp2_with fail
      refine (awake_any _).mono ?_
      rintro e w2 ⟨rfl, hb⟩
      have HB := Lib.hid hb
      clear hb
      go_wp2_with fail
      go_ret
      exact ⟨rfl, HB.out⟩
end Go.Proofs.Ytecdindjlfefhaa.DiskPlays
