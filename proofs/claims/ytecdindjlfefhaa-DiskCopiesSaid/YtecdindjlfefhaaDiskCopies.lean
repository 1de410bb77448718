/- DiskCopies, walked. -/
import Derived.Test.YtecdindjlfefhaaDiskPlays
namespace Go.Proofs.Ytecdindjlfefhaa.DiskCopies
open Go.RowKit Base DiskPlain DiskMem DiskSmall DiskRead DiskGrow DiskWrite DiskSync DiskCrash DiskSpoil DiskCopy DiskLaw DiskDo DiskPlumb DiskTwo DiskGrows DiskSim DiskSyncs DiskRef DiskRefRead DiskRefDo DiskRefDo2 DiskRefDo3 DiskBox DiskSame DiskAny DiskPlays Go.Maps

def CoRel (w : World) (g mb : Nat) (Q : World → Prop) (G H : Nat → Prop) (N k : Nat) (wr : World) : Prop := ∃ S A1 c1 A2 c2 f F R, AlIn w wr g mb S S A1 c1 A2 c2 f F R Q G H ∧ S.loose.length ≤ N + k
section
variable {W w w' : World} {g mb h nb : Nat} {S X : DS} {A1 A2 B1 B2 : Option Addr} {c1 c2 d1 d2 : Nat} {f fx : Int} {F R F2 R2 : Nat → Prop}
theorem al_swap (t : AlIn W w g mb S S A1 c1 A2 c2 f F R (fun v => Core v h nb X X B1 d1 B2 d2 fx F2 R2) (Foot F2 R2 nb) (fun b => F2 b ∨ b = nb)) :
    AlIn W w h nb X X B1 d1 B2 d2 fx F2 R2 (fun v => Core v g mb S S A1 c1 A2 c2 f F R) (Foot F R mb) (fun b => F b ∨ b = mb) := by
  refine ⟨t.q, t.sG, t.core, fun a b h1 h2 => Core.kept h1 fun i hi _ => h2 i hi, t.since, fun i hi => t.since i (by rcases hi with q | q; exact .inl q; exact .inr (.inr q)), ?_, ?_, t.below⟩
  · rintro i hi (q | q | q)
    · exact t.ap i (.inl q) (by rcases hi with p | p; exact .inl p; exact .inr (.inr p))
    · exact t.apH i q hi
    · exact t.ap i (.inr q) (by rcases hi with p | p; exact .inl p; exact .inr (.inr p))
  · intro i hi hj
    exact t.ap i hj (.inr (.inl hi))
/-- a copy, of both -/
theorem al_copy (t : AlIn W w g mb S S A1 c1 A2 c2 f F R NoQ NoG NoG) (hll : S.loose.length ≤ 100000000) : Calls Try.prog 16 #[.pointer (some ⟨g, 0, none⟩)] w fun e w' => e = .returned (.pointer (some ⟨w.heap.size, 0, none⟩)) ∧ Below W.heap.size W w' ∧ w'.cell? ⟨mb, 0, none⟩ = some (.int .i64 S.most) ∧ w'.cell? ⟨mb, 1, none⟩ = some (.slice A1 S.last.length c1) ∧ w'.cell? ⟨mb, 2, none⟩ = some (.slice A2 S.loose.length c2) ∧ w'.cell? ⟨mb, 3, none⟩ = some (.bool S.fused) ∧ w'.cell? ⟨mb, 4, none⟩ = some (.int .i64 f) ∧
    Hid (∃ F2, AlIn W (w'.alloc (.cells #[.int .i64 S.most, .slice A1 S.last.length c1, .slice A2 S.loose.length c2, .bool S.fused, .int .i64 f] 31)) g mb S S A1 c1 A2 c2 f F R (fun v => Core v w.heap.size w'.heap.size S S A1 c1 A2 c2 f F2 R) (Foot F2 R w'.heap.size) (fun b => F2 b ∨ b = w'.heap.size)) := by
  refine (copy_dk t.core.dk hll).mono ?_
  rintro e w' ⟨he, hd, hb⟩
  have hs := hb.size
  have t1 := t.step hb
  have hb2 : Below w'.heap.size w' (w'.alloc (.cells #[.int .i64 S.most, .slice A1 S.last.length c1, .slice A2 S.loose.length c2, .bool S.fused, .int .i64 f] 31)) := (Below.refl _ w').alloc (Nat.le_refl _) _
  have t2 := t1.step hb2
  have hw := t.below.size
  have bx := t1.core.box
  unfold boxOf at bx
  refine ⟨he, t1.below, by rw [bx.cell]; rfl, by rw [bx.cell]; rfl, by rw [bx.cell]; rfl, by rw [bx.cell]; rfl, by rw [bx.cell]; rfl, ⟨fun i => w.heap.size ≤ i ∧ i < w'.heap.size, ?_⟩⟩
  refine ⟨t2.core, t2.since, ⟨hd.below hb2, t2.core.rf, heap_alloc_new w' _, fun i hi hr => ?_, fun q => by omega, fun q => ?_⟩, fun a b h1 h2 => Core.kept h1 fun i hi _ => h2 i hi, ?_, ?_, ?_, ?_, t2.below⟩
  · have := (t.since i (.inr (.inl hr))).2; omega
  · have := (t.since _ (.inr (.inl q))).2; omega
  · rintro i (q | q | q)
    · simp; omega
    · exact t2.since i (.inr (.inl q))
    · subst q; simp; omega
  · rintro i (q | q)
    · simp; omega
    · subst q; simp; omega
  · rintro i (q | q) (p | p | p)
    · have := (t.since i (.inl q)).2; omega
    · exact t.core.FR i q p
    · have := (t.since i (.inl q)).2; omega
    · have := (t.since i (.inr (.inr q))).2; omega
    · exact t.core.mR (q ▸ p)
    · have := (t.since i (.inr (.inr q))).2; omega
  · rintro i q (p | p)
    · have := (t.since i (.inr (.inl q))).2; omega
    · have := (t.since i (.inr (.inl q))).2; omega
end
set_option maxRecDepth 100000 in
set_option maxHeartbeats 8000000 in
theorem DiskCopies_walk (A : Option Addr) (c : Nat) (xs : List Ac) (B : Option Addr) (cb : Nat) (ys : List Ac) (C : Option Addr) (cc : Nat) (zs : List Ac) (w : World) (hA : Acts w A xs) (hxl : xs.length ≤ maxLen) (hB : Acts w B ys) (hyl : ys.length ≤ maxLen) (hC : Acts w C zs) (hzl : zs.length ≤ maxLen) :
    Calls Try.prog 4 #[.slice A xs.length c, .slice B ys.length cb, .slice C zs.length cc] w fun e w' => e = .returned (.bool true) ∧ Below w.heap.size w w' := by
  unfold maxLen at hxl hyl hzl
  have HA := Lib.hid hA
  have HB := Lib.hid hB
  have HZ := Lib.hid hC
  clear hA hB hC
  go_enter Try.func4, Try.ntmps4
  go_wp2_with fail
  refine (m_new w 20 (by omega) (by omega)).mono ?_
  rintro e w1 ⟨rfl, m0⟩
  go_wp2_with fail
  refine (awake_any _).mono ?_
  rintro e w1a ⟨rfl, hb3⟩
  have HR := Lib.hid (show CoRel w (w.heap.size + 1) w1a.heap.size NoQ NoG NoG 0 0 (w1a.alloc (.cells #[.int .i64 20, .slice none 0 0, .slice none 0 0, .bool false, .int .i64 0] 31)) from by
    obtain ⟨F, t⟩ := al_start (m0.step hb3)
    exact ⟨_, _, _, _, _, _, _, _, t, by simp [new]⟩)
  clear hb3 m0
  go_wp2_with fail
  generalize w1a.heap.size = mb at *
  go_loopw [10] (fun i wr => ∃ k : Nat, k ≤ xs.length ∧ k ≤ 30 ∧ i = .int .i64 k ∧ CoRel w (w.heap.size + 1) mb NoQ NoG NoG 0 k wr) (fun i _ => 30 - (intOf i).toNat)
  case atStart => exact ⟨0, by omega, by omega, rfl, HR.out⟩
  case round =>
    obtain ⟨k, hk, hk30, rfl, S, A1, c1, A2, c2, f, F, R, t, hll⟩ := hrel
    clear HR
    by_cases hlt : k < xs.length ∧ k < 30
    · obtain ⟨hlt1, hlt2⟩ := hlt
      obtain ⟨x, hx⟩ : ∃ x, xs[k]? = some x := ⟨_, List.getElem?_eq_getElem hlt1⟩
      obtain ⟨hok, ab, ao, K, ck, hA1, hsix, hrow⟩ := act_at HA.out hx
      have hidx := idx_acts (n := xs.length) (c := c) hA1 hlt1
      obtain ⟨q0, q1, q2, q3, q4, q5⟩ := hsix wr t.below
      have hfw := few_any x K ck wr hok.s hok.k
      have t1 := t.step ((Below.refl _ wr).alloc (Nat.le_refl _) (.cells #[.int .i64 x.kind, .int .i64 x.n, .int .i64 x.page, .int .i64 x.at_, .string x.s, .slice K x.kept.length ck] 35))
      have HC := Lib.hid hsix
      have HW := Lib.hid hrow
      have hal := act_loose S x
      clear hA1 hx hsix hrow t
      cases hfx : few x with
      | false =>
        rw [hfx] at hfw
        have HS := Lib.hid (show CoRel w (w.heap.size + 1) mb NoQ NoG NoG 0 (k + 1) (wr.alloc (.cells #[.int .i64 x.kind, .int .i64 x.n, .int .i64 x.page, .int .i64 x.at_, .string x.s, .slice K x.kept.length ck] 35)) from ⟨_, _, _, _, _, _, _, _, t1, by omega⟩)
        clear t1 hfx
        go_wp2_with fail
        refine hfw.mono ?_
        rintro e w2 ⟨rfl, rfl⟩
        clear hfw
        go_wp2_with fail
        go_roundw
        case rel => exact ⟨k + 1, by omega, by omega, by go_num, HS.out⟩
        case measure => simp [intOf]; omega
      | true =>
        rw [hfx] at hfw
        go_wp2_with fail
        refine hfw.mono ?_
        rintro e wb ⟨rfl, hwb⟩
        rw [← hwb] at t1
        clear hfw q0 q1 q2 q3 q4 q5 hwb
        have hSok := t1.core.dk.ok
        have hdo := fun wx (hb : Below wb.heap.size wb wx) => al_ref t1 hb hSok x K ck hok hfx (by omega) (HW.out _ (t1.below.trans (hb.mono t1.below.size)))
        have b0 := t1.core.box.cell 0
        have b1 := t1.core.box.cell 1
        have b2 := t1.core.box.cell 2
        have b3 := t1.core.box.cell 3
        have b4 := t1.core.box.cell 4
        simp only [boxOf] at hdo b0 b1 b2 b3 b4
        have HDO := Lib.hid hdo
        obtain ⟨s0, s1, s2, s3, s4, s5⟩ := HC.out _ t1.below
        have HT := Lib.hid t1
        have HFX := Lib.hid hfx
        have HOK := Lib.hid hok
        clear t1 hSok hdo hfx hok
        go_wp2_with fail
        refine wp_region_any (by kernel_rfl) ?_
        change wpAny _ _ _ _ _ _ _ (World.drew _)
        refine Reg.take_at (i := 1) (d := 47) (v := ?_) rfl rfl (by kernel_rfl) (by kernel_rfl) (by kernel_rfl) (fun _ _ _ h => h) (Or.inl ⟨by rfl, ?_⟩) ?_
        rotate_left 1
        · intro w; go_simp <;> with_reducible rfl
        simp only [Act.put, List.setIfInBounds_toArray, List.set_cons_zero, List.set_cons_succ]
        refine Reg.take_at (i := 2) (d := 48) (v := ?_) rfl rfl (by kernel_rfl) (by kernel_rfl) (by kernel_rfl) (fun _ _ _ h => h) (Or.inl ⟨by rfl, ?_⟩) ?_
        rotate_left 1
        · intro w; go_simp <;> with_reducible rfl
        simp only [Act.put, List.setIfInBounds_toArray, List.set_cons_zero, List.set_cons_succ]
        refine Reg.take_at (i := 3) (d := 49) (v := ?_) rfl rfl (by kernel_rfl) (by kernel_rfl) (by kernel_rfl) (fun _ _ _ h => h) (Or.inl ⟨by rfl, ?_⟩) ?_
        rotate_left 1
        · intro w; go_simp <;> with_reducible rfl
        simp only [Act.put, List.setIfInBounds_toArray, List.set_cons_zero, List.set_cons_succ]
        refine wpAny_ready (rs := [0, 4]) (by decide +kernel) (by simp) ?_
        refine AllReady.cons rfl (fun KK hK => ?_) ?_
        · go_simp
          refine hK _ _ ?_
          clear hK KK
          refine wpAny_ready (rs := [4]) (by decide +kernel) (by simp) ?_
          refine AllReady.cons rfl (fun KK hK => ?_) AllReady.nil
          go_simp
          refine hK _ _ ?_
          clear hK KK
          refine wpAny_ready (rs := [5]) (by decide +kernel) (by simp) ?_
          refine AllReady.cons rfl (fun KK hK => ?_) AllReady.nil
          go_simp
          (with_reducible refine (HDO.out _ (Below.refl wb.heap.size wb).drew).mono ?_)
          rintro e w2 ⟨B1, d1, B2, d2, f', rfl, HM⟩
          have M2 := Lib.hid (HT.out.step (((Below.refl wb.heap.size wb).drew).trans (HM.out.1.mono ((Below.refl wb.heap.size wb).drew).size))).core.box
          have m20 := M2.out.cell 0
          have m21 := M2.out.cell 1
          have m22 := M2.out.cell 2
          have m23 := M2.out.cell 3
          have m24 := M2.out.cell 4
          have f20 := M2.out.frozen 0
          have f21 := M2.out.frozen 1
          have f22 := M2.out.frozen 2
          have f23 := M2.out.frozen 3
          have f24 := M2.out.frozen 4
          simp only [boxOf] at m20 m21 m22 m23 m24
          clear b0 b1 b2 b3 b4 s0 s1 s2 s3 s4 s5
          go_wp2_with fail
          refine Reg.take_at (i := 6) (d := 45) (v := ?_) rfl rfl (by kernel_rfl) (by kernel_rfl) (by kernel_rfl) (fun _ _ _ h => h) (Or.inl ⟨by rfl, ?_⟩) ?_
          rotate_left 1
          · intro w; go_simp <;> with_reducible rfl
          simp only [Act.put, List.setIfInBounds_toArray, List.set_cons_zero, List.set_cons_succ]
          refine Reg.take_at (i := 7) (d := 52) (v := ?_) rfl rfl (by kernel_rfl) (by kernel_rfl) (by kernel_rfl) (fun _ _ _ h => h) (Or.inl ⟨by rfl, ?_⟩) ?_
          rotate_left 1
          · intro w; go_simp <;> with_reducible rfl
          simp only [Act.put, List.setIfInBounds_toArray, List.set_cons_zero, List.set_cons_succ]
          refine Reg.take_at (i := 8) (d := 53) (v := ?_) rfl rfl (by kernel_rfl) (by kernel_rfl) (by kernel_rfl) (fun _ _ _ h => h) (Or.inl ⟨by rfl, ?_⟩) ?_
          rotate_left 1
          · intro w; go_simp <;> with_reducible rfl
          simp only [Act.put, List.setIfInBounds_toArray, List.set_cons_zero, List.set_cons_succ]
          refine wpAny_ready (rs := [9]) (by decide +kernel) (by simp) ?_
          refine AllReady.cons rfl (fun KK hK => ?_) AllReady.nil
          go_simp
          refine hK _ _ ?_
          clear hK KK
          refine wpAny_done (by kernel_rfl) ?_ _
          obtain ⟨w4, hw4⟩ : ∃ w4, w4 = (((((w2.setCell ⟨mb, 0, none⟩ (.int .i64 (act S x).most)).setCell ⟨mb, 1, none⟩ (.slice B1 (act S x).last.length d1)).setCell ⟨mb, 2, none⟩ (.slice B2 (act S x).loose.length d2)).setCell ⟨mb, 3, none⟩ (.bool (act S x).fused)).setCell ⟨mb, 4, none⟩ (.int .i64 f')) := ⟨_, rfl⟩
          rw [← hw4]
          obtain ⟨R', t4⟩ := HM.out.2 w4 (by rw [hw4]; exact turn5g w2 _ _ _ _ _ _ _ (.inl rfl)) (by rw [hw4]; exact at5 M2.out)
          clear hw4 m20 m21 m22 m23 m24 f20 f21 f22 f23 f24
          obtain ⟨s0, s1, s2, s3, s4, s5⟩ := HC.out _ t4.below
          have hdo2 := al_do t4 x K ck HOK.out HFX.out (by omega) (HW.out _ t4.below)
          clear t4
          go_wp2_with fail
          refine hdo2.mono ?_
          rintro e w5 ⟨rfl, F', t5⟩
          clear hdo2
          have HN := Lib.hid (show CoRel w (w.heap.size + 1) mb NoQ NoG NoG 0 (k + 1) w5 from ⟨_, _, _, _, _, _, _, _, t5, by omega⟩)
          clear t5 s0 s1 s2 s3 s4 s5
          go_wp2_with fail
          go_roundw
          case rel => exact ⟨k + 1, by omega, by omega, by go_num, HN.out⟩
          case measure => simp [intOf]; omega
        refine AllReady.cons rfl (fun KK hK => ?_) AllReady.nil
        go_simp
        refine hK _ _ ?_
        clear hK KK
        refine wpAny_ready (rs := [0]) (by decide +kernel) (by simp) ?_
        refine AllReady.cons rfl (fun KK hK => ?_) AllReady.nil
        go_simp
        refine hK _ _ ?_
        clear hK KK
        refine wpAny_ready (rs := [5]) (by decide +kernel) (by simp) ?_
        refine AllReady.cons rfl (fun KK hK => ?_) AllReady.nil
        go_simp
        (with_reducible refine (HDO.out _ (Below.refl wb.heap.size wb).drew).mono ?_)
        rintro e w2 ⟨B1, d1, B2, d2, f', rfl, HM⟩
        have M2 := Lib.hid (HT.out.step (((Below.refl wb.heap.size wb).drew).trans (HM.out.1.mono ((Below.refl wb.heap.size wb).drew).size))).core.box
        have m20 := M2.out.cell 0
        have m21 := M2.out.cell 1
        have m22 := M2.out.cell 2
        have m23 := M2.out.cell 3
        have m24 := M2.out.cell 4
        have f20 := M2.out.frozen 0
        have f21 := M2.out.frozen 1
        have f22 := M2.out.frozen 2
        have f23 := M2.out.frozen 3
        have f24 := M2.out.frozen 4
        simp only [boxOf] at m20 m21 m22 m23 m24
        clear b0 b1 b2 b3 b4 s0 s1 s2 s3 s4 s5
        go_wp2_with fail
        refine Reg.take_at (i := 6) (d := 45) (v := ?_) rfl rfl (by kernel_rfl) (by kernel_rfl) (by kernel_rfl) (fun _ _ _ h => h) (Or.inl ⟨by rfl, ?_⟩) ?_
        rotate_left 1
        · intro w; go_simp <;> with_reducible rfl
        simp only [Act.put, List.setIfInBounds_toArray, List.set_cons_zero, List.set_cons_succ]
        refine Reg.take_at (i := 7) (d := 52) (v := ?_) rfl rfl (by kernel_rfl) (by kernel_rfl) (by kernel_rfl) (fun _ _ _ h => h) (Or.inl ⟨by rfl, ?_⟩) ?_
        rotate_left 1
        · intro w; go_simp <;> with_reducible rfl
        simp only [Act.put, List.setIfInBounds_toArray, List.set_cons_zero, List.set_cons_succ]
        refine Reg.take_at (i := 8) (d := 53) (v := ?_) rfl rfl (by kernel_rfl) (by kernel_rfl) (by kernel_rfl) (fun _ _ _ h => h) (Or.inl ⟨by rfl, ?_⟩) ?_
        rotate_left 1
        · intro w; go_simp <;> with_reducible rfl
        simp only [Act.put, List.setIfInBounds_toArray, List.set_cons_zero, List.set_cons_succ]
        refine wpAny_ready (rs := [9]) (by decide +kernel) (by simp) ?_
        refine AllReady.cons rfl (fun KK hK => ?_) AllReady.nil
        go_simp
        refine hK _ _ ?_
        clear hK KK
        refine wpAny_done (by kernel_rfl) ?_ _
        obtain ⟨w4, hw4⟩ : ∃ w4, w4 = (((((w2.setCell ⟨mb, 0, none⟩ (.int .i64 (act S x).most)).setCell ⟨mb, 1, none⟩ (.slice B1 (act S x).last.length d1)).setCell ⟨mb, 2, none⟩ (.slice B2 (act S x).loose.length d2)).setCell ⟨mb, 3, none⟩ (.bool (act S x).fused)).setCell ⟨mb, 4, none⟩ (.int .i64 f')) := ⟨_, rfl⟩
        rw [← hw4]
        obtain ⟨R', t4⟩ := HM.out.2 w4 (by rw [hw4]; exact turn5g w2 _ _ _ _ _ _ _ (.inl rfl)) (by rw [hw4]; exact at5 M2.out)
        clear hw4 m20 m21 m22 m23 m24 f20 f21 f22 f23 f24
        obtain ⟨s0, s1, s2, s3, s4, s5⟩ := HC.out _ t4.below
        have hdo2 := al_do t4 x K ck HOK.out HFX.out (by omega) (HW.out _ t4.below)
        clear t4
        go_wp2_with fail
        refine hdo2.mono ?_
        rintro e w5 ⟨rfl, F', t5⟩
        clear hdo2
        have HN := Lib.hid (show CoRel w (w.heap.size + 1) mb NoQ NoG NoG 0 (k + 1) w5 from ⟨_, _, _, _, _, _, _, _, t5, by omega⟩)
        clear t5 s0 s1 s2 s3 s4 s5
        go_wp2_with fail
        go_roundw
        case rel => exact ⟨k + 1, by omega, by omega, by go_num, HN.out⟩
        case measure => simp [intOf]; omega
    · have HL := Lib.hid hlt
      have hex : decide (k < xs.length) = false ∨ (decide (k < xs.length) = true ∧ decide ((k : Int) < 30) = false) := by
        by_cases q : k < xs.length
        · exact .inr ⟨by simpa using q, by simp; omega⟩
        · exact .inl (by simpa using q)
      clear hlt
      have HLX := Lib.hid hll
      have hcp := al_copy t (by omega)
      clear t
      rcases hex with hx1 | ⟨hx1, hx2⟩
      all_goals
        go_wp2_with fail
        refine hcp.mono ?_
        rintro e w2 ⟨rfl, hbw, k0, k1, k2, k3, k4, HX⟩
        clear hcp
        generalize wr.heap.size = gx at HX ⊢
        obtain ⟨nb, hnb⟩ : ∃ nb, nb = w2.heap.size := ⟨_, rfl⟩
        have HNB := Lib.hid hnb
        have HR := Lib.hid (show ∃ F2, CoRel w (w.heap.size + 1) mb (fun v => Core v gx nb S S A1 c1 A2 c2 f F2 R) (Foot F2 R nb) (fun b => F2 b ∨ b = nb) 30 0 (w2.alloc (.cells #[.int .i64 S.most, .slice A1 S.last.length c1, .slice A2 S.loose.length c2, .bool S.fused, .int .i64 f] 31)) from by
          obtain ⟨F2, t⟩ := HX.out
          rw [hnb]
          exact ⟨F2, _, _, _, _, _, _, _, _, t, by omega⟩)
        clear hnb hbw
        go_wp2_with fail
        rw [← HNB.out]
        obtain ⟨F2, HR2⟩ := HR.out
        have HR3 := Lib.hid HR2
        clear HR HR2 k0 k1 k2 k3 k4
        have HXL := Lib.hid (show S.loose.length ≤ 30 by omega)
        clear hll
        generalize S = X at *
        generalize A1 = D1 at *
        generalize c1 = e1 at *
        generalize A2 = D2 at *
        generalize c2 = e2 at *
        generalize f = fx at *
        generalize R = R2 at *
        go_loopw [13] (fun i wr => ∃ k : Nat, k ≤ ys.length ∧ k ≤ 30 ∧ i = .int .i64 k ∧ CoRel w (w.heap.size + 1) mb (fun v => Core v gx nb X X D1 e1 D2 e2 fx F2 R2) (Foot F2 R2 nb) (fun b => F2 b ∨ b = nb) 30 k wr) (fun i _ => 30 - (intOf i).toNat)
        case atStart => exact ⟨0, by omega, by omega, rfl, HR3.out⟩
        case round =>
          clear HR3 HL HX HLX
          obtain ⟨j, hj, hj30, rfl, S, A1, c1, A2, c2, f, F, R, t, hll⟩ := hrel
          by_cases hlt : j < ys.length ∧ j < 30
          · obtain ⟨hlt1, hlt2⟩ := hlt
            obtain ⟨x, hx⟩ : ∃ x, ys[j]? = some x := ⟨_, List.getElem?_eq_getElem hlt1⟩
            obtain ⟨hok, ab, ao, K, ck, hA1, hsix, hrow⟩ := act_at HB.out hx
            have hidx := idx_acts (n := ys.length) (c := cb) hA1 hlt1
            obtain ⟨q0, q1, q2, q3, q4, q5⟩ := hsix wr t.below
            have hfw := few_any x K ck wr hok.s hok.k
            have t1 := t.step ((Below.refl _ wr).alloc (Nat.le_refl _) (.cells #[.int .i64 x.kind, .int .i64 x.n, .int .i64 x.page, .int .i64 x.at_, .string x.s, .slice K x.kept.length ck] 35))
            have HC := Lib.hid hsix
            have HW := Lib.hid hrow
            have hal := act_loose S x
            clear hA1 hx hsix hrow t
            cases hfx : few x with
            | false =>
              rw [hfx] at hfw
              have HS := Lib.hid (show CoRel w (w.heap.size + 1) mb (fun v => Core v gx nb X X D1 e1 D2 e2 fx F2 R2) (Foot F2 R2 nb) (fun b => F2 b ∨ b = nb) 30 (j + 1) (wr.alloc (.cells #[.int .i64 x.kind, .int .i64 x.n, .int .i64 x.page, .int .i64 x.at_, .string x.s, .slice K x.kept.length ck] 35)) from ⟨_, _, _, _, _, _, _, _, t1, by omega⟩)
              clear t1 hfx
              go_wp2_with fail
              refine hfw.mono ?_
              rintro e w2 ⟨rfl, rfl⟩
              clear hfw
              go_wp2_with fail
              go_roundw
              case rel => exact ⟨j + 1, by omega, by omega, by go_num, HS.out⟩
              case measure => simp [intOf]; omega
            | true =>
              rw [hfx] at hfw
              go_wp2_with fail
              refine hfw.mono ?_
              rintro e wb ⟨rfl, hwb⟩
              rw [← hwb] at t1
              clear hfw q0 q1 q2 q3 q4 q5 hwb
              have hSok := t1.core.dk.ok
              have hdo := fun wx (hb : Below wb.heap.size wb wx) => al_ref t1 hb hSok x K ck hok hfx (by omega) (HW.out _ (t1.below.trans (hb.mono t1.below.size)))
              have b0 := t1.core.box.cell 0
              have b1 := t1.core.box.cell 1
              have b2 := t1.core.box.cell 2
              have b3 := t1.core.box.cell 3
              have b4 := t1.core.box.cell 4
              simp only [boxOf] at hdo b0 b1 b2 b3 b4
              have HDO := Lib.hid hdo
              obtain ⟨s0, s1, s2, s3, s4, s5⟩ := HC.out _ t1.below
              have HT := Lib.hid t1
              have HFX := Lib.hid hfx
              have HOK := Lib.hid hok
              clear t1 hSok hdo hfx hok
              go_wp2_with fail
              refine wp_region_any (by kernel_rfl) ?_
              change wpAny _ _ _ _ _ _ _ (World.drew _)
              refine Reg.take_at (i := 1) (d := 82) (v := ?_) rfl rfl (by kernel_rfl) (by kernel_rfl) (by kernel_rfl) (fun _ _ _ h => h) (Or.inl ⟨by rfl, ?_⟩) ?_
              rotate_left 1
              · intro w; go_simp <;> with_reducible rfl
              simp only [Act.put, List.setIfInBounds_toArray, List.set_cons_zero, List.set_cons_succ]
              refine Reg.take_at (i := 2) (d := 83) (v := ?_) rfl rfl (by kernel_rfl) (by kernel_rfl) (by kernel_rfl) (fun _ _ _ h => h) (Or.inl ⟨by rfl, ?_⟩) ?_
              rotate_left 1
              · intro w; go_simp <;> with_reducible rfl
              simp only [Act.put, List.setIfInBounds_toArray, List.set_cons_zero, List.set_cons_succ]
              refine Reg.take_at (i := 3) (d := 84) (v := ?_) rfl rfl (by kernel_rfl) (by kernel_rfl) (by kernel_rfl) (fun _ _ _ h => h) (Or.inl ⟨by rfl, ?_⟩) ?_
              rotate_left 1
              · intro w; go_simp <;> with_reducible rfl
              simp only [Act.put, List.setIfInBounds_toArray, List.set_cons_zero, List.set_cons_succ]
              refine wpAny_ready (rs := [0, 4]) (by decide +kernel) (by simp) ?_
              refine AllReady.cons rfl (fun KK hK => ?_) ?_
              · go_simp
                refine hK _ _ ?_
                clear hK KK
                refine wpAny_ready (rs := [4]) (by decide +kernel) (by simp) ?_
                refine AllReady.cons rfl (fun KK hK => ?_) AllReady.nil
                go_simp
                refine hK _ _ ?_
                clear hK KK
                refine wpAny_ready (rs := [5]) (by decide +kernel) (by simp) ?_
                refine AllReady.cons rfl (fun KK hK => ?_) AllReady.nil
                go_simp
                (with_reducible refine (HDO.out _ (Below.refl wb.heap.size wb).drew).mono ?_)
                rintro e w2 ⟨B1, d1, B2, d2, f', rfl, HM⟩
                have M2 := Lib.hid (HT.out.step (((Below.refl wb.heap.size wb).drew).trans (HM.out.1.mono ((Below.refl wb.heap.size wb).drew).size))).core.box
                have m20 := M2.out.cell 0
                have m21 := M2.out.cell 1
                have m22 := M2.out.cell 2
                have m23 := M2.out.cell 3
                have m24 := M2.out.cell 4
                have f20 := M2.out.frozen 0
                have f21 := M2.out.frozen 1
                have f22 := M2.out.frozen 2
                have f23 := M2.out.frozen 3
                have f24 := M2.out.frozen 4
                simp only [boxOf] at m20 m21 m22 m23 m24
                clear b0 b1 b2 b3 b4 s0 s1 s2 s3 s4 s5
                go_wp2_with fail
                refine Reg.take_at (i := 6) (d := 80) (v := ?_) rfl rfl (by kernel_rfl) (by kernel_rfl) (by kernel_rfl) (fun _ _ _ h => h) (Or.inl ⟨by rfl, ?_⟩) ?_
                rotate_left 1
                · intro w; go_simp <;> with_reducible rfl
                simp only [Act.put, List.setIfInBounds_toArray, List.set_cons_zero, List.set_cons_succ]
                refine Reg.take_at (i := 7) (d := 87) (v := ?_) rfl rfl (by kernel_rfl) (by kernel_rfl) (by kernel_rfl) (fun _ _ _ h => h) (Or.inl ⟨by rfl, ?_⟩) ?_
                rotate_left 1
                · intro w; go_simp <;> with_reducible rfl
                simp only [Act.put, List.setIfInBounds_toArray, List.set_cons_zero, List.set_cons_succ]
                refine Reg.take_at (i := 8) (d := 88) (v := ?_) rfl rfl (by kernel_rfl) (by kernel_rfl) (by kernel_rfl) (fun _ _ _ h => h) (Or.inl ⟨by rfl, ?_⟩) ?_
                rotate_left 1
                · intro w; go_simp <;> with_reducible rfl
                simp only [Act.put, List.setIfInBounds_toArray, List.set_cons_zero, List.set_cons_succ]
                refine wpAny_ready (rs := [9]) (by decide +kernel) (by simp) ?_
                refine AllReady.cons rfl (fun KK hK => ?_) AllReady.nil
                go_simp
                refine hK _ _ ?_
                clear hK KK
                refine wpAny_done (by kernel_rfl) ?_ _
                obtain ⟨w4, hw4⟩ : ∃ w4, w4 = (((((w2.setCell ⟨mb, 0, none⟩ (.int .i64 (act S x).most)).setCell ⟨mb, 1, none⟩ (.slice B1 (act S x).last.length d1)).setCell ⟨mb, 2, none⟩ (.slice B2 (act S x).loose.length d2)).setCell ⟨mb, 3, none⟩ (.bool (act S x).fused)).setCell ⟨mb, 4, none⟩ (.int .i64 f')) := ⟨_, rfl⟩
                rw [← hw4]
                obtain ⟨R', t4⟩ := HM.out.2 w4 (by rw [hw4]; exact turn5g w2 _ _ _ _ _ _ _ (.inl rfl)) (by rw [hw4]; exact at5 M2.out)
                clear hw4 m20 m21 m22 m23 m24 f20 f21 f22 f23 f24
                obtain ⟨s0, s1, s2, s3, s4, s5⟩ := HC.out _ t4.below
                have hdo2 := al_do t4 x K ck HOK.out HFX.out (by omega) (HW.out _ t4.below)
                clear t4
                go_wp2_with fail
                refine hdo2.mono ?_
                rintro e w5 ⟨rfl, F', t5⟩
                clear hdo2
                have HN := Lib.hid (show CoRel w (w.heap.size + 1) mb (fun v => Core v gx nb X X D1 e1 D2 e2 fx F2 R2) (Foot F2 R2 nb) (fun b => F2 b ∨ b = nb) 30 (j + 1) w5 from ⟨_, _, _, _, _, _, _, _, t5, by omega⟩)
                clear t5 s0 s1 s2 s3 s4 s5
                go_wp2_with fail
                go_roundw
                case rel => exact ⟨j + 1, by omega, by omega, by go_num, HN.out⟩
                case measure => simp [intOf]; omega
              refine AllReady.cons rfl (fun KK hK => ?_) AllReady.nil
              go_simp
              refine hK _ _ ?_
              clear hK KK
              refine wpAny_ready (rs := [0]) (by decide +kernel) (by simp) ?_
              refine AllReady.cons rfl (fun KK hK => ?_) AllReady.nil
              go_simp
              refine hK _ _ ?_
              clear hK KK
              refine wpAny_ready (rs := [5]) (by decide +kernel) (by simp) ?_
              refine AllReady.cons rfl (fun KK hK => ?_) AllReady.nil
              go_simp
              (with_reducible refine (HDO.out _ (Below.refl wb.heap.size wb).drew).mono ?_)
              rintro e w2 ⟨B1, d1, B2, d2, f', rfl, HM⟩
              have M2 := Lib.hid (HT.out.step (((Below.refl wb.heap.size wb).drew).trans (HM.out.1.mono ((Below.refl wb.heap.size wb).drew).size))).core.box
              have m20 := M2.out.cell 0
              have m21 := M2.out.cell 1
              have m22 := M2.out.cell 2
              have m23 := M2.out.cell 3
              have m24 := M2.out.cell 4
              have f20 := M2.out.frozen 0
              have f21 := M2.out.frozen 1
              have f22 := M2.out.frozen 2
              have f23 := M2.out.frozen 3
              have f24 := M2.out.frozen 4
              simp only [boxOf] at m20 m21 m22 m23 m24
              clear b0 b1 b2 b3 b4 s0 s1 s2 s3 s4 s5
              go_wp2_with fail
              refine Reg.take_at (i := 6) (d := 80) (v := ?_) rfl rfl (by kernel_rfl) (by kernel_rfl) (by kernel_rfl) (fun _ _ _ h => h) (Or.inl ⟨by rfl, ?_⟩) ?_
              rotate_left 1
              · intro w; go_simp <;> with_reducible rfl
              simp only [Act.put, List.setIfInBounds_toArray, List.set_cons_zero, List.set_cons_succ]
              refine Reg.take_at (i := 7) (d := 87) (v := ?_) rfl rfl (by kernel_rfl) (by kernel_rfl) (by kernel_rfl) (fun _ _ _ h => h) (Or.inl ⟨by rfl, ?_⟩) ?_
              rotate_left 1
              · intro w; go_simp <;> with_reducible rfl
              simp only [Act.put, List.setIfInBounds_toArray, List.set_cons_zero, List.set_cons_succ]
              refine Reg.take_at (i := 8) (d := 88) (v := ?_) rfl rfl (by kernel_rfl) (by kernel_rfl) (by kernel_rfl) (fun _ _ _ h => h) (Or.inl ⟨by rfl, ?_⟩) ?_
              rotate_left 1
              · intro w; go_simp <;> with_reducible rfl
              simp only [Act.put, List.setIfInBounds_toArray, List.set_cons_zero, List.set_cons_succ]
              refine wpAny_ready (rs := [9]) (by decide +kernel) (by simp) ?_
              refine AllReady.cons rfl (fun KK hK => ?_) AllReady.nil
              go_simp
              refine hK _ _ ?_
              clear hK KK
              refine wpAny_done (by kernel_rfl) ?_ _
              obtain ⟨w4, hw4⟩ : ∃ w4, w4 = (((((w2.setCell ⟨mb, 0, none⟩ (.int .i64 (act S x).most)).setCell ⟨mb, 1, none⟩ (.slice B1 (act S x).last.length d1)).setCell ⟨mb, 2, none⟩ (.slice B2 (act S x).loose.length d2)).setCell ⟨mb, 3, none⟩ (.bool (act S x).fused)).setCell ⟨mb, 4, none⟩ (.int .i64 f')) := ⟨_, rfl⟩
              rw [← hw4]
              obtain ⟨R', t4⟩ := HM.out.2 w4 (by rw [hw4]; exact turn5g w2 _ _ _ _ _ _ _ (.inl rfl)) (by rw [hw4]; exact at5 M2.out)
              clear hw4 m20 m21 m22 m23 m24 f20 f21 f22 f23 f24
              obtain ⟨s0, s1, s2, s3, s4, s5⟩ := HC.out _ t4.below
              have hdo2 := al_do t4 x K ck HOK.out HFX.out (by omega) (HW.out _ t4.below)
              clear t4
              go_wp2_with fail
              refine hdo2.mono ?_
              rintro e w5 ⟨rfl, F', t5⟩
              clear hdo2
              have HN := Lib.hid (show CoRel w (w.heap.size + 1) mb (fun v => Core v gx nb X X D1 e1 D2 e2 fx F2 R2) (Foot F2 R2 nb) (fun b => F2 b ∨ b = nb) 30 (j + 1) w5 from ⟨_, _, _, _, _, _, _, _, t5, by omega⟩)
              clear t5 s0 s1 s2 s3 s4 s5
              go_wp2_with fail
              go_roundw
              case rel => exact ⟨j + 1, by omega, by omega, by go_num, HN.out⟩
              case measure => simp [intOf]; omega
          · have HL := Lib.hid hlt
            have hex : decide (j < ys.length) = false ∨ (decide (j < ys.length) = true ∧ decide ((j : Int) < 30) = false) := by
              by_cases q : j < ys.length
              · exact .inr ⟨by simpa using q, by simp; omega⟩
              · exact .inl (by simpa using q)
            clear hlt
            obtain ⟨gd, hgd⟩ : ∃ gd, gd = w.heap.size + 1 := ⟨_, rfl⟩
            rw [← hgd] at t
            have HGD := Lib.hid hgd
            have t9 := al_swap t
            have hok9 := t9.core.dk.ok
            have HR := Lib.hid (show CoRel w gx nb (fun v => Core v gd mb S S A1 c1 A2 c2 f F R) (Foot F R mb) (fun b => F b ∨ b = mb) 30 0 wr from ⟨_, _, _, _, _, _, _, _, t9, by have := HXL.out; omega⟩)
            have HSL := Lib.hid (show S.loose.length ≤ 1000 by omega)
            clear t t9 hgd hll
            rcases hex with hx3 | ⟨hx3, hx4⟩
            all_goals
              go_wp2_with fail
              rw [← HGD.out]
              go_loopw [14] (fun i wr => ∃ k : Nat, k ≤ zs.length ∧ k ≤ 30 ∧ i = .int .i64 k ∧ CoRel w gx nb (fun v => Core v gd mb S S A1 c1 A2 c2 f F R) (Foot F R mb) (fun b => F b ∨ b = mb) 30 k wr) (fun i _ => 30 - (intOf i).toNat)
              case atStart => exact ⟨0, by omega, by omega, rfl, HR.out⟩
              case round =>
                clear HR HL
                obtain ⟨u, hu, hu30, rfl, Y, B1, d1, B2, d2, fy, F3, R3, t, hll⟩ := hrel
                by_cases hlt : u < zs.length ∧ u < 30
                · obtain ⟨hlt1, hlt2⟩ := hlt
                  obtain ⟨x, hx⟩ : ∃ x, zs[u]? = some x := ⟨_, List.getElem?_eq_getElem hlt1⟩
                  obtain ⟨hok, ab, ao, K, ck, hA1, hsix, hrow⟩ := act_at HZ.out hx
                  have hidx := idx_acts (n := zs.length) (c := cc) hA1 hlt1
                  obtain ⟨q0, q1, q2, q3, q4, q5⟩ := hsix wr t.below
                  have hfw := few_any x K ck wr hok.s hok.k
                  have t1 := t.step ((Below.refl _ wr).alloc (Nat.le_refl _) (.cells #[.int .i64 x.kind, .int .i64 x.n, .int .i64 x.page, .int .i64 x.at_, .string x.s, .slice K x.kept.length ck] 35))
                  have HC := Lib.hid hsix
                  have HW := Lib.hid hrow
                  have hal := act_loose Y x
                  clear hA1 hx hsix hrow t
                  cases hfx : few x with
                  | false =>
                    rw [hfx] at hfw
                    have HS := Lib.hid (show CoRel w gx nb (fun v => Core v gd mb S S A1 c1 A2 c2 f F R) (Foot F R mb) (fun b => F b ∨ b = mb) 30 (u + 1) (wr.alloc (.cells #[.int .i64 x.kind, .int .i64 x.n, .int .i64 x.page, .int .i64 x.at_, .string x.s, .slice K x.kept.length ck] 35)) from ⟨_, _, _, _, _, _, _, _, t1, by omega⟩)
                    clear t1 hfx
                    go_wp2_with fail
                    refine hfw.mono ?_
                    rintro e w2 ⟨rfl, rfl⟩
                    clear hfw
                    go_wp2_with fail
                    go_roundw
                    case rel => exact ⟨u + 1, by omega, by omega, by go_num, HS.out⟩
                    case measure => simp [intOf]; omega
                  | true =>
                    rw [hfx] at hfw
                    go_wp2_with fail
                    refine hfw.mono ?_
                    rintro e wb ⟨rfl, hwb⟩
                    rw [← hwb] at t1
                    clear hfw q0 q1 q2 q3 q4 q5 hwb
                    have hSok := t1.core.dk.ok
                    have hdo := fun wx (hb : Below wb.heap.size wb wx) => al_ref t1 hb hSok x K ck hok hfx (by omega) (HW.out _ (t1.below.trans (hb.mono t1.below.size)))
                    have b0 := t1.core.box.cell 0
                    have b1 := t1.core.box.cell 1
                    have b2 := t1.core.box.cell 2
                    have b3 := t1.core.box.cell 3
                    have b4 := t1.core.box.cell 4
                    simp only [boxOf] at hdo b0 b1 b2 b3 b4
                    have HDO := Lib.hid hdo
                    obtain ⟨s0, s1, s2, s3, s4, s5⟩ := HC.out _ t1.below
                    have HT := Lib.hid t1
                    have HFX := Lib.hid hfx
                    have HOK := Lib.hid hok
                    clear t1 hSok hdo hfx hok
                    go_wp2_with fail
                    refine wp_region_any (by kernel_rfl) ?_
                    change wpAny _ _ _ _ _ _ _ (World.drew _)
                    refine Reg.take_at (i := 1) (d := 112) (v := ?_) rfl rfl (by kernel_rfl) (by kernel_rfl) (by kernel_rfl) (fun _ _ _ h => h) (Or.inl ⟨by rfl, ?_⟩) ?_
                    rotate_left 1
                    · intro w; go_simp <;> with_reducible rfl
                    simp only [Act.put, List.setIfInBounds_toArray, List.set_cons_zero, List.set_cons_succ]
                    refine Reg.take_at (i := 2) (d := 113) (v := ?_) rfl rfl (by kernel_rfl) (by kernel_rfl) (by kernel_rfl) (fun _ _ _ h => h) (Or.inl ⟨by rfl, ?_⟩) ?_
                    rotate_left 1
                    · intro w; go_simp <;> with_reducible rfl
                    simp only [Act.put, List.setIfInBounds_toArray, List.set_cons_zero, List.set_cons_succ]
                    refine Reg.take_at (i := 3) (d := 114) (v := ?_) rfl rfl (by kernel_rfl) (by kernel_rfl) (by kernel_rfl) (fun _ _ _ h => h) (Or.inl ⟨by rfl, ?_⟩) ?_
                    rotate_left 1
                    · intro w; go_simp <;> with_reducible rfl
                    simp only [Act.put, List.setIfInBounds_toArray, List.set_cons_zero, List.set_cons_succ]
                    refine wpAny_ready (rs := [0, 4]) (by decide +kernel) (by simp) ?_
                    refine AllReady.cons rfl (fun KK hK => ?_) ?_
                    · go_simp
                      refine hK _ _ ?_
                      clear hK KK
                      refine wpAny_ready (rs := [4]) (by decide +kernel) (by simp) ?_
                      refine AllReady.cons rfl (fun KK hK => ?_) AllReady.nil
                      go_simp
                      refine hK _ _ ?_
                      clear hK KK
                      refine wpAny_ready (rs := [5]) (by decide +kernel) (by simp) ?_
                      refine AllReady.cons rfl (fun KK hK => ?_) AllReady.nil
                      go_simp
                      (with_reducible refine (HDO.out _ (Below.refl wb.heap.size wb).drew).mono ?_)
                      rintro e w2 ⟨B1, d1, B2, d2, f', rfl, HM⟩
                      have M2 := Lib.hid (HT.out.step (((Below.refl wb.heap.size wb).drew).trans (HM.out.1.mono ((Below.refl wb.heap.size wb).drew).size))).core.box
                      have m20 := M2.out.cell 0
                      have m21 := M2.out.cell 1
                      have m22 := M2.out.cell 2
                      have m23 := M2.out.cell 3
                      have m24 := M2.out.cell 4
                      have f20 := M2.out.frozen 0
                      have f21 := M2.out.frozen 1
                      have f22 := M2.out.frozen 2
                      have f23 := M2.out.frozen 3
                      have f24 := M2.out.frozen 4
                      simp only [boxOf] at m20 m21 m22 m23 m24
                      clear b0 b1 b2 b3 b4 s0 s1 s2 s3 s4 s5
                      go_wp2_with fail
                      refine Reg.take_at (i := 6) (d := 110) (v := ?_) rfl rfl (by kernel_rfl) (by kernel_rfl) (by kernel_rfl) (fun _ _ _ h => h) (Or.inl ⟨by rfl, ?_⟩) ?_
                      rotate_left 1
                      · intro w; go_simp <;> with_reducible rfl
                      simp only [Act.put, List.setIfInBounds_toArray, List.set_cons_zero, List.set_cons_succ]
                      refine Reg.take_at (i := 7) (d := 117) (v := ?_) rfl rfl (by kernel_rfl) (by kernel_rfl) (by kernel_rfl) (fun _ _ _ h => h) (Or.inl ⟨by rfl, ?_⟩) ?_
                      rotate_left 1
                      · intro w; go_simp <;> with_reducible rfl
                      simp only [Act.put, List.setIfInBounds_toArray, List.set_cons_zero, List.set_cons_succ]
                      refine Reg.take_at (i := 8) (d := 118) (v := ?_) rfl rfl (by kernel_rfl) (by kernel_rfl) (by kernel_rfl) (fun _ _ _ h => h) (Or.inl ⟨by rfl, ?_⟩) ?_
                      rotate_left 1
                      · intro w; go_simp <;> with_reducible rfl
                      simp only [Act.put, List.setIfInBounds_toArray, List.set_cons_zero, List.set_cons_succ]
                      refine wpAny_ready (rs := [9]) (by decide +kernel) (by simp) ?_
                      refine AllReady.cons rfl (fun KK hK => ?_) AllReady.nil
                      go_simp
                      refine hK _ _ ?_
                      clear hK KK
                      refine wpAny_done (by kernel_rfl) ?_ _
                      obtain ⟨w4, hw4⟩ : ∃ w4, w4 = (((((w2.setCell ⟨nb, 0, none⟩ (.int .i64 (act Y x).most)).setCell ⟨nb, 1, none⟩ (.slice B1 (act Y x).last.length d1)).setCell ⟨nb, 2, none⟩ (.slice B2 (act Y x).loose.length d2)).setCell ⟨nb, 3, none⟩ (.bool (act Y x).fused)).setCell ⟨nb, 4, none⟩ (.int .i64 f')) := ⟨_, rfl⟩
                      rw [← hw4]
                      obtain ⟨R', t4⟩ := HM.out.2 w4 (by rw [hw4]; exact turn5g w2 _ _ _ _ _ _ _ (.inl rfl)) (by rw [hw4]; exact at5 M2.out)
                      clear hw4 m20 m21 m22 m23 m24 f20 f21 f22 f23 f24
                      obtain ⟨s0, s1, s2, s3, s4, s5⟩ := HC.out _ t4.below
                      have hdo2 := al_do t4 x K ck HOK.out HFX.out (by omega) (HW.out _ t4.below)
                      clear t4
                      go_wp2_with fail
                      refine hdo2.mono ?_
                      rintro e w5 ⟨rfl, F', t5⟩
                      clear hdo2
                      have HN := Lib.hid (show CoRel w gx nb (fun v => Core v gd mb S S A1 c1 A2 c2 f F R) (Foot F R mb) (fun b => F b ∨ b = mb) 30 (u + 1) w5 from ⟨_, _, _, _, _, _, _, _, t5, by omega⟩)
                      clear t5 s0 s1 s2 s3 s4 s5
                      go_wp2_with fail
                      go_roundw
                      case rel => exact ⟨u + 1, by omega, by omega, by go_num, HN.out⟩
                      case measure => simp [intOf]; omega
                    refine AllReady.cons rfl (fun KK hK => ?_) AllReady.nil
                    go_simp
                    refine hK _ _ ?_
                    clear hK KK
                    refine wpAny_ready (rs := [0]) (by decide +kernel) (by simp) ?_
                    refine AllReady.cons rfl (fun KK hK => ?_) AllReady.nil
                    go_simp
                    refine hK _ _ ?_
                    clear hK KK
                    refine wpAny_ready (rs := [5]) (by decide +kernel) (by simp) ?_
                    refine AllReady.cons rfl (fun KK hK => ?_) AllReady.nil
                    go_simp
                    (with_reducible refine (HDO.out _ (Below.refl wb.heap.size wb).drew).mono ?_)
                    rintro e w2 ⟨B1, d1, B2, d2, f', rfl, HM⟩
                    have M2 := Lib.hid (HT.out.step (((Below.refl wb.heap.size wb).drew).trans (HM.out.1.mono ((Below.refl wb.heap.size wb).drew).size))).core.box
                    have m20 := M2.out.cell 0
                    have m21 := M2.out.cell 1
                    have m22 := M2.out.cell 2
                    have m23 := M2.out.cell 3
                    have m24 := M2.out.cell 4
                    have f20 := M2.out.frozen 0
                    have f21 := M2.out.frozen 1
                    have f22 := M2.out.frozen 2
                    have f23 := M2.out.frozen 3
                    have f24 := M2.out.frozen 4
                    simp only [boxOf] at m20 m21 m22 m23 m24
                    clear b0 b1 b2 b3 b4 s0 s1 s2 s3 s4 s5
                    go_wp2_with fail
                    refine Reg.take_at (i := 6) (d := 110) (v := ?_) rfl rfl (by kernel_rfl) (by kernel_rfl) (by kernel_rfl) (fun _ _ _ h => h) (Or.inl ⟨by rfl, ?_⟩) ?_
                    rotate_left 1
                    · intro w; go_simp <;> with_reducible rfl
                    simp only [Act.put, List.setIfInBounds_toArray, List.set_cons_zero, List.set_cons_succ]
                    refine Reg.take_at (i := 7) (d := 117) (v := ?_) rfl rfl (by kernel_rfl) (by kernel_rfl) (by kernel_rfl) (fun _ _ _ h => h) (Or.inl ⟨by rfl, ?_⟩) ?_
                    rotate_left 1
                    · intro w; go_simp <;> with_reducible rfl
                    simp only [Act.put, List.setIfInBounds_toArray, List.set_cons_zero, List.set_cons_succ]
                    refine Reg.take_at (i := 8) (d := 118) (v := ?_) rfl rfl (by kernel_rfl) (by kernel_rfl) (by kernel_rfl) (fun _ _ _ h => h) (Or.inl ⟨by rfl, ?_⟩) ?_
                    rotate_left 1
                    · intro w; go_simp <;> with_reducible rfl
                    simp only [Act.put, List.setIfInBounds_toArray, List.set_cons_zero, List.set_cons_succ]
                    refine wpAny_ready (rs := [9]) (by decide +kernel) (by simp) ?_
                    refine AllReady.cons rfl (fun KK hK => ?_) AllReady.nil
                    go_simp
                    refine hK _ _ ?_
                    clear hK KK
                    refine wpAny_done (by kernel_rfl) ?_ _
                    obtain ⟨w4, hw4⟩ : ∃ w4, w4 = (((((w2.setCell ⟨nb, 0, none⟩ (.int .i64 (act Y x).most)).setCell ⟨nb, 1, none⟩ (.slice B1 (act Y x).last.length d1)).setCell ⟨nb, 2, none⟩ (.slice B2 (act Y x).loose.length d2)).setCell ⟨nb, 3, none⟩ (.bool (act Y x).fused)).setCell ⟨nb, 4, none⟩ (.int .i64 f')) := ⟨_, rfl⟩
                    rw [← hw4]
                    obtain ⟨R', t4⟩ := HM.out.2 w4 (by rw [hw4]; exact turn5g w2 _ _ _ _ _ _ _ (.inl rfl)) (by rw [hw4]; exact at5 M2.out)
                    clear hw4 m20 m21 m22 m23 m24 f20 f21 f22 f23 f24
                    obtain ⟨s0, s1, s2, s3, s4, s5⟩ := HC.out _ t4.below
                    have hdo2 := al_do t4 x K ck HOK.out HFX.out (by omega) (HW.out _ t4.below)
                    clear t4
                    go_wp2_with fail
                    refine hdo2.mono ?_
                    rintro e w5 ⟨rfl, F', t5⟩
                    clear hdo2
                    have HN := Lib.hid (show CoRel w gx nb (fun v => Core v gd mb S S A1 c1 A2 c2 f F R) (Foot F R mb) (fun b => F b ∨ b = mb) 30 (u + 1) w5 from ⟨_, _, _, _, _, _, _, _, t5, by omega⟩)
                    clear t5 s0 s1 s2 s3 s4 s5
                    go_wp2_with fail
                    go_roundw
                    case rel => exact ⟨u + 1, by omega, by omega, by go_num, HN.out⟩
                    case measure => simp [intOf]; omega
                · have HL9 := Lib.hid hlt
                  have hex : decide (u < zs.length) = false ∨ (decide (u < zs.length) = true ∧ decide ((u : Int) < 30) = false) := by
                    by_cases q : u < zs.length
                    · exact .inr ⟨by simpa using q, by simp; omega⟩
                    · exact .inl (by simpa using q)
                  clear hlt

                  have hs1 := same_any (c1 := c1) (c2 := c2) t.q.dk t.q.rf (by have := HSL.out; omega)
                  have b0 := t.q.box.cell 0
                  have b1 := t.q.box.cell 1
                  have b2 := t.q.box.cell 2
                  have b3 := t.q.box.cell 3
                  have b4 := t.q.box.cell 4
                  simp only [boxOf] at b0 b1 b2 b3 b4
                  have HT := Lib.hid t
                  have HLX := Lib.hid hll
                  clear t
                  rcases hex with hx5 | ⟨hx5, hx6⟩
                  all_goals
                    go_wp2_with fail
                    refine hs1.mono ?_
                    rintro e w6 ⟨rfl, hb6⟩
                    have t6 := HT.out.step hb6
                    have HB6 := Lib.hid t6.below
                    have hs2 := al_same t6 (by have := HLX.out; omega)
                    have k0 := t6.core.box.cell 0
                    have k1 := t6.core.box.cell 1
                    have k2 := t6.core.box.cell 2
                    have k3 := t6.core.box.cell 3
                    have k4 := t6.core.box.cell 4
                    simp only [boxOf] at k0 k1 k2 k3 k4 hs2
                    clear hs1 t6 hb6
                    go_wp2_with fail
                    refine hs2.mono ?_
                    rintro e w7 ⟨rfl, t7⟩
                    have HB7 := Lib.hid t7.below
                    clear hs2 t7 k0 k1 k2 k3 k4 b0 b1 b2 b3 b4
                    go_wp2_with fail
                    go_ret
                    exact ⟨rfl, HB7.out⟩
end Go.Proofs.Ytecdindjlfefhaa.DiskCopies
