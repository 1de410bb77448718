/- The document's disk: Do of a sync that is done. -/
import Derived.Test.YtecdindjlfefhaaDiskBox
namespace Go.Proofs.Ytecdindjlfefhaa.DiskRefSync
open Go.RowKit Base DiskPlain DiskMem DiskSmall DiskRead DiskGrow DiskWrite DiskSync DiskCrash DiskSpoil DiskCopy DiskLaw DiskDo DiskPlumb DiskTwo DiskGrows DiskSim DiskSyncs DiskRef DiskRefRead DiskRefDo DiskRefDo3 DiskBox Go.Maps

def SyRel (w : World) (m : Int) (L : List Pg) (nL : Nat) (l : List (Nat × Pg)) (n2 : Nat) (A2 : Option Addr) (c2 : Nat) (fb : Bool) (f : Int) (R : Nat → Prop) (x : Ac) (K : Option Addr) (ck : Nat) (i : Value) (wr : World) : Prop :=
  ∃ (k : Nat) (A : Option Addr) (c : Nat), k ≤ n2 ∧ i = .int .i64 k ∧ Bx w m (flush L (l.take k)) nL A c l n2 A2 c2 fb f R x K ck wr
section
variable {w : World} {S : DS} {A1 A2 : Option Addr} {c1 c2 : Nat} {f : Int} {R : Nat → Prop}
theorem fuse_next (h : RefP w S A1 A2 f R) (hok : S.Ok) (hd : S.dead = false) : S.burn.fused = true → wrap64 (f - 1) = S.burn.left := by
  intro hb
  unfold DS.burn at hb ⊢
  have hf : S.fused = true := by
    cases q : S.fused with
    | false => simp [q] at hb
    | true => rfl
  have h1 := dead_false hok hd hf
  have h2 := hok.l2
  rw [if_pos hf, h.fu hf]
  show wrap64 (S.left - 1) = S.left - 1
  exact IntWalk.wrap64_in (S.left - 1) (by omega)
theorem sync_st {S : DS} (hd : S.dead = false) : S.sync = { S.synced with left := S.burn.left } ∧ S.burn.fused = S.fused := by
  refine ⟨?_, burn_fused S⟩
  unfold DS.sync
  rw [if_neg (by simp [hd])]
  unfold DS.burn
  split
  · rename_i q
    have : S.synced.fused = S.fused := rfl
    rw [this] at q
    rw [if_pos q]
    rfl
  · rename_i q
    have : S.synced.fused = S.fused := rfl
    rw [this] at q
    rw [if_neg q]
    rfl
set_option maxRecDepth 100000 in
set_option maxHeartbeats 2000000 in
theorem rdo_sync (h : RefP w S A1 A2 f R) (hok : S.Ok) (hR : ∀ b, R b → b < w.heap.size) (x : Ac) (K : Option Addr) (ck : Nat) (hk : x.kind = 2) (hd : S.dead = false) (hll : S.loose.length ≤ 100000000) :
    Calls Try.prog 13 #[.agg #[.int .i64 S.most, .slice A1 S.last.length c1, .slice A2 S.loose.length c2, .bool S.fused, .int .i64 f], .agg #[.int .i64 x.kind, .int .i64 x.n, .int .i64 x.page, .int .i64 x.at_, .string x.s, .slice K x.kept.length ck]] w (RefPost w R S.sync 0) := by
  have hal := alive_f h hd
  have hln := hok.len4096
  have HOK := Lib.hid hok
  have HRR := Lib.hid hR
  have hst := sync_st hd
  have HE := Lib.hid (show ∀ (A : Option Addr) (c : Nat) (v wz : World), Bx w S.most (flush S.last (S.loose.take S.loose.length)) S.last.length A c [] 0 none 0 S.fused (wrap64 (f - 1)) R x K ck v → Turn (fun b => b = w.heap.size + 1 + 1) v wz →
      RefPost w R S.sync 0 (.returned (.tuple #[.agg #[.int .i64 S.most, .slice A S.last.length c, .slice none 0 0, .bool S.fused, .int .i64 (wrap64 (f - 1))], .int .i64 0])) wz from fun A c v wz hb ht => by
    rw [List.take_length] at hb
    have e := bx_end (S' := S.sync) (by rw [hst.1]; exact hb) (by rw [hst.1]; intro q; exact fuse_next h hok hd (by rw [hst.2]; exact q)) ht hR 0
    rw [hst.1] at e ⊢
    exact e)
  have HB := Lib.hid (bx_start (c1 := c1) (c2 := c2) (x := x) (K := K) (ck := ck) h (wrap64 (f - 1)))
  obtain ⟨kd, xn, xp, xa, xs, xk⟩ := x
  simp only at hk
  subst hk
  dsimp only at HE HB ⊢
  clear hd h hok hR hst
  rcases hal with hfu | ⟨hfu, hf0⟩
  · rw [hfu] at HE HB ⊢
    go_enter Try.func13, Try.ntmps13
    go_wp2_with fail
    all_goals
      go_loopw [8] (fun i wr => SyRel w S.most S.last S.last.length S.loose S.loose.length A2 c2 false (wrap64 (f - 1)) R ⟨2, xn, xp, xa, xs, xk⟩ K ck i wr) (fun i _ => S.loose.length - (intOf i).toNat)
      case atStart => exact ⟨0, A1, c1, by omega, rfl, HB.out⟩
      case round =>
        obtain ⟨k, A, c, hk, rfl, hs⟩ := hrel
        by_cases hlt : k < S.loose.length
        · have b1 := hs.d1
          have b2 := hs.d2
          obtain ⟨⟨p, y⟩, hx⟩ : ∃ x, S.loose[k]? = some x := ⟨_, List.getElem?_eq_getElem hlt⟩
          obtain ⟨bb, bo, hA2, hbb, hc2⟩ := row_at hs.lo (by rw [looseStr_len]; omega)
          have q0 := hc2 _ _ (looseStr_at hx).1
          have q1 := hc2 _ _ (looseStr_at hx).2
          rw [← Nat.add_assoc] at q1
          have hi2 := idx_loose (n := S.loose.length) (c := c2) hA2 hlt
          have HA2 := Lib.hid hA2
          have HT := Lib.hid (flush_take (L := S.last) hx)
          have hw := Lib.hid (fun wx (hb : Below wr.heap.size wr wx) => bx_with hs (p := p) (y := y) (by rw [hs.nl]; exact HOK.out.wpage _ (List.mem_of_getElem? hx)) (by rw [hs.nl]; exact hln) hb)
          have HX := Lib.hid hx
          have HS := Lib.hid hs
          clear hA2 hc2 hx hs
          generalize tx y = sy at *
          have HSP := Lib.hid (show ∀ wx, Below wr.heap.size wr wx → (fun w' : World => w'.cell? ⟨w.heap.size, 1, none⟩ = some (.slice A S.last.length c) ∧ w'.cell? ⟨w.heap.size, 2, none⟩ = some (.slice A2 S.loose.length c2) ∧ w'.cell? ⟨bb, bo + k * 2, none⟩ = some (.int .i64 (p : Int)) ∧ w'.cell? ⟨bb, bo + k * 2 + 1, none⟩ = some (.string sy)) wx from fun wx hb => ⟨(HS.out.step hb).d1, (HS.out.step hb).d2, (hb.cell (p := ⟨bb, bo + k * 2, none⟩) hbb).trans q0, (hb.cell (p := ⟨bb, bo + k * 2 + 1, none⟩) hbb).trans q1⟩)
          clear q0 q1
          go_wp2_with fail
          refine wp_region_any (by kernel_rfl) ?_
          change wpAny _ _ _ _ _ _ _ (World.drew _)
          refine Held.any_of_G (S := (fun w' : World => w'.cell? ⟨w.heap.size, 1, none⟩ = some (.slice A S.last.length c) ∧ w'.cell? ⟨w.heap.size, 2, none⟩ = some (.slice A2 S.loose.length c2) ∧ w'.cell? ⟨bb, bo + k * 2, none⟩ = some (.int .i64 (p : Int)) ∧ w'.cell? ⟨bb, bo + k * 2 + 1, none⟩ = some (.string sy))) (z := 16) _ _ _ _ ?_
          refine Held.G_take (i := 0) (d := 104) (v := ?_) [0, 1, 14, 15, 16] rfl rfl (by kernel_rfl) (by kernel_rfl) (by kernel_rfl) (by kernel_rfl) (fun _ _ _ h => h) (Or.inl ⟨by rfl, ?_⟩) (HSP.out _ (Below.refl _ _).drew) ?_
          rotate_left 1
          · intro w hSw; clear hSw; go_simp <;> with_reducible rfl
          simp only [Act.put, List.setIfInBounds_toArray, List.set_cons_zero, List.set_cons_succ]
          refine Held.G_take (i := 1) (d := 105) (v := ?_) [1, 14, 15, 16] rfl rfl (by kernel_rfl) (by kernel_rfl) (by kernel_rfl) (by kernel_rfl) (fun _ _ _ h => h) (Or.inl ⟨by rfl, ?_⟩) (HSP.out _ (Below.refl _ _).drew) ?_
          rotate_left 1
          · intro w hSw; obtain ⟨h1, h2, h3, h4⟩ := hSw; go_simp <;> with_reducible rfl
          simp only [Act.put, List.setIfInBounds_toArray, List.set_cons_zero, List.set_cons_succ]
          refine Held.G_take (i := 2) (d := 106) (v := ?_) [2, 3, 5, 6, 7, 14, 15, 16] rfl rfl (by kernel_rfl) (by kernel_rfl) (by kernel_rfl) (by kernel_rfl) (fun _ _ _ h => h) (Or.inl ⟨by rfl, ?_⟩) (HSP.out _ (Below.refl _ _).drew) ?_
          rotate_left 1
          · intro w hSw; clear hSw; go_simp <;> with_reducible rfl
          simp only [Act.put, List.setIfInBounds_toArray, List.set_cons_zero, List.set_cons_succ]
          refine Held.G_take (i := 3) (d := 107) (v := ?_) [3, 5, 6, 7, 14, 15, 16] rfl rfl (by kernel_rfl) (by kernel_rfl) (by kernel_rfl) (by kernel_rfl) (fun _ _ _ h => h) (Or.inl ⟨by rfl, ?_⟩) (HSP.out _ (Below.refl _ _).drew) ?_
          rotate_left 1
          · intro w hSw; obtain ⟨h1, h2, h3, h4⟩ := hSw; go_simp <;> with_reducible rfl
          simp only [Act.put, List.setIfInBounds_toArray, List.set_cons_zero, List.set_cons_succ]
          refine Held.G_take (i := 4) (d := 108) (v := ?_) [4, 5, 6, 7, 14, 15, 16] rfl rfl (by kernel_rfl) (by kernel_rfl) (by kernel_rfl) (by kernel_rfl) (fun _ _ _ h => h) (Or.inl ⟨by rfl, ?_⟩) (HSP.out _ (Below.refl _ _).drew) ?_
          rotate_left 1
          · intro w hSw; clear hSw; go_simp <;> with_reducible rfl
          simp only [Act.put, List.setIfInBounds_toArray, List.set_cons_zero, List.set_cons_succ]
          refine Held.G_take (i := 5) (d := 109) (v := ?_) [5, 6, 7, 14, 15, 16] rfl rfl (by kernel_rfl) (by kernel_rfl) (by kernel_rfl) (by kernel_rfl) (fun _ _ _ h => h) (Or.inl ⟨by rfl, ?_⟩) (HSP.out _ (Below.refl _ _).drew) ?_
          rotate_left 1
          · intro w hSw; clear hSw; go_simp <;> with_reducible rfl
          simp only [Act.put, List.setIfInBounds_toArray, List.set_cons_zero, List.set_cons_succ]
          refine Held.G_take (i := 6) (d := 110) (v := ?_) [6, 7, 14, 15, 16] rfl rfl (by kernel_rfl) (by kernel_rfl) (by kernel_rfl) (by kernel_rfl) (fun _ _ _ h => h) (Or.inl ⟨by rfl, ?_⟩) (HSP.out _ (Below.refl _ _).drew) ?_
          rotate_left 1
          · intro w hSw; clear hSw; go_simp <;> with_reducible rfl
          simp only [Act.put, List.setIfInBounds_toArray, List.set_cons_zero, List.set_cons_succ]
          refine Held.G_take (i := 7) (d := 111) (v := ?_) [7, 14, 15, 16] rfl rfl (by kernel_rfl) (by kernel_rfl) (by kernel_rfl) (by kernel_rfl) (fun _ _ _ h => h) (Or.inl ⟨by rfl, ?_⟩) (HSP.out _ (Below.refl _ _).drew) ?_
          rotate_left 1
          · intro w hSw; obtain ⟨h1, h2, h3, h4⟩ := hSw; go_simp <;> with_reducible rfl
          simp only [Act.put, List.setIfInBounds_toArray, List.set_cons_zero, List.set_cons_succ]
          refine Held.G_take (i := 8) (d := 112) (v := ?_) [8, 9, 11, 12, 13, 14, 15, 16] rfl rfl (by kernel_rfl) (by kernel_rfl) (by kernel_rfl) (by kernel_rfl) (fun _ _ _ h => h) (Or.inl ⟨by rfl, ?_⟩) (HSP.out _ (Below.refl _ _).drew) ?_
          rotate_left 1
          · intro w hSw; clear hSw; go_simp <;> with_reducible rfl
          simp only [Act.put, List.setIfInBounds_toArray, List.set_cons_zero, List.set_cons_succ]
          refine Held.G_take (i := 9) (d := 113) (v := ?_) [9, 11, 12, 13, 14, 15, 16] rfl rfl (by kernel_rfl) (by kernel_rfl) (by kernel_rfl) (by kernel_rfl) (fun _ _ _ h => h) (Or.inl ⟨by rfl, ?_⟩) (HSP.out _ (Below.refl _ _).drew) ?_
          rotate_left 1
          · intro w hSw; obtain ⟨h1, h2, h3, h4⟩ := hSw; go_simp <;> with_reducible rfl
          simp only [Act.put, List.setIfInBounds_toArray, List.set_cons_zero, List.set_cons_succ]
          refine Held.G_take (i := 10) (d := 114) (v := ?_) [10, 11, 12, 13, 14, 15, 16] rfl rfl (by kernel_rfl) (by kernel_rfl) (by kernel_rfl) (by kernel_rfl) (fun _ _ _ h => h) (Or.inl ⟨by rfl, ?_⟩) (HSP.out _ (Below.refl _ _).drew) ?_
          rotate_left 1
          · intro w hSw; clear hSw; go_simp <;> with_reducible rfl
          simp only [Act.put, List.setIfInBounds_toArray, List.set_cons_zero, List.set_cons_succ]
          refine Held.G_take (i := 11) (d := 115) (v := ?_) [11, 12, 13, 14, 15, 16] rfl rfl (by kernel_rfl) (by kernel_rfl) (by kernel_rfl) (by kernel_rfl) (fun _ _ _ h => h) (Or.inl ⟨by rfl, ?_⟩) (HSP.out _ (Below.refl _ _).drew) ?_
          rotate_left 1
          · intro w hSw; clear hSw; go_simp <;> with_reducible rfl
          simp only [Act.put, List.setIfInBounds_toArray, List.set_cons_zero, List.set_cons_succ]
          refine Held.G_take (i := 12) (d := 116) (v := ?_) [12, 13, 14, 15, 16] rfl rfl (by kernel_rfl) (by kernel_rfl) (by kernel_rfl) (by kernel_rfl) (fun _ _ _ h => h) (Or.inl ⟨by rfl, ?_⟩) (HSP.out _ (Below.refl _ _).drew) ?_
          rotate_left 1
          · intro w hSw; clear hSw; go_simp <;> with_reducible rfl
          simp only [Act.put, List.setIfInBounds_toArray, List.set_cons_zero, List.set_cons_succ]
          refine Held.G_take (i := 13) (d := 117) (v := ?_) [13, 14, 15, 16] rfl rfl (by kernel_rfl) (by kernel_rfl) (by kernel_rfl) (by kernel_rfl) (fun _ _ _ h => h) (Or.inl ⟨by rfl, ?_⟩) (HSP.out _ (Below.refl _ _).drew) ?_
          rotate_left 1
          · intro w hSw; obtain ⟨h1, h2, h3, h4⟩ := hSw; go_simp <;> with_reducible rfl
          simp only [Act.put, List.setIfInBounds_toArray, List.set_cons_zero, List.set_cons_succ]
          refine Held.G_ready (rs := [14]) (by decide +kernel) (by simp) ?_
          refine Held.G_cons rfl (fun KK hK => ?_) Held.G_nil
          go_simp
          (with_reducible refine (hw.out _ (Below.refl _ _).drew).mono ?_)
          rintro e wz ⟨A', c', rfl, fz, cz, HZ⟩
          go_wp2_with fail
          refine ⟨(HSP.out _ HZ.out.1), ?_⟩
          refine Held.G_take (i := 15) (d := 119) (v := ?_) [15, 16] rfl rfl (by kernel_rfl) (by kernel_rfl) (by kernel_rfl) (by kernel_rfl) (fun _ _ _ h => h) (Or.inl ⟨by rfl, ?_⟩) (HSP.out _ HZ.out.1) ?_
          rotate_left 1
          · intro w hSw; clear hSw; go_simp <;> with_reducible rfl
          simp only [Act.put, List.setIfInBounds_toArray, List.set_cons_zero, List.set_cons_succ]
          refine Held.G_ready (rs := [16]) (by decide +kernel) (by simp) ?_
          refine Held.G_last rfl (fun KK hK => ?_) Held.G_nil
          go_simp
          refine hK _ _ ?_
          clear hK KK
          refine Held.G_done (by kernel_rfl) ?_ _
          have HN := Lib.hid (HZ.out.2.1.put1 HRR.out HZ.out.2.2 (by simpa using HZ.out.2.1.nl) c')
          rw [← HT.out] at HN
          clear fz cz HZ
          go_wp2_with fail
          go_roundw
          case rel => exact ⟨k + 1, A', c', by omega, by go_num, HN.out⟩
          case measure => simp [intOf]; omega
        · obtain rfl : k = S.loose.length := by omega
          have b2 := hs.d2
          have b0 := hs.d0
          have b1 := hs.d1
          have b3 := hs.d3
          have b4 := hs.d4
          have f2 := hs.d.frozen 2
          have r0 := hs.r.cell 0
          have r1 := hs.r.cell 1
          have r2 := hs.r.cell 2
          have r3 := hs.r.cell 3
          have r4 := hs.r.cell 4
          have g0 := hs.r.frozen 0
          have g1 := hs.r.frozen 1
          have g2 := hs.r.frozen 2
          have g3 := hs.r.frozen 3
          have g4 := hs.r.frozen 4
          have HX := Lib.hid (hs.put2 HRR.out (A3 := none) (l' := []) (n3 := 0) (rowR_nil _ _) rfl 0)
          clear hs
          go_wp2_with fail
          exact bodyPost_ret (v := .tuple #[.agg #[.int .i64 S.most, .slice A S.last.length c, .slice none 0 0, .bool false, .int .i64 (wrap64 (f - 1))], .int .i64 0]) (by simp [results, Try.results13, go_sem, r0, r1, r2, r3, r4]) rfl (HE.out A c _ _ HX.out (turn5 _ _ _ _ _ _ _))
  · rw [hfu] at HE HB ⊢
    have hfb : (f == 0) = false := beq_eq_false_iff_ne.2 hf0
    have HF := Lib.hid hf0
    clear hf0
    go_enter Try.func13, Try.ntmps13
    go_wp2_with fail
    all_goals
      go_loopw [8] (fun i wr => SyRel w S.most S.last S.last.length S.loose S.loose.length A2 c2 true (wrap64 (f - 1)) R ⟨2, xn, xp, xa, xs, xk⟩ K ck i wr) (fun i _ => S.loose.length - (intOf i).toNat)
      case atStart => exact ⟨0, A1, c1, by omega, rfl, HB.out⟩
      case round =>
        obtain ⟨k, A, c, hk, rfl, hs⟩ := hrel
        by_cases hlt : k < S.loose.length
        · have b1 := hs.d1
          have b2 := hs.d2
          obtain ⟨⟨p, y⟩, hx⟩ : ∃ x, S.loose[k]? = some x := ⟨_, List.getElem?_eq_getElem hlt⟩
          obtain ⟨bb, bo, hA2, hbb, hc2⟩ := row_at hs.lo (by rw [looseStr_len]; omega)
          have q0 := hc2 _ _ (looseStr_at hx).1
          have q1 := hc2 _ _ (looseStr_at hx).2
          rw [← Nat.add_assoc] at q1
          have hi2 := idx_loose (n := S.loose.length) (c := c2) hA2 hlt
          have HA2 := Lib.hid hA2
          have HT := Lib.hid (flush_take (L := S.last) hx)
          have hw := Lib.hid (fun wx (hb : Below wr.heap.size wr wx) => bx_with hs (p := p) (y := y) (by rw [hs.nl]; exact HOK.out.wpage _ (List.mem_of_getElem? hx)) (by rw [hs.nl]; exact hln) hb)
          have HX := Lib.hid hx
          have HS := Lib.hid hs
          clear hA2 hc2 hx hs
          generalize tx y = sy at *
          have HSP := Lib.hid (show ∀ wx, Below wr.heap.size wr wx → (fun w' : World => w'.cell? ⟨w.heap.size, 1, none⟩ = some (.slice A S.last.length c) ∧ w'.cell? ⟨w.heap.size, 2, none⟩ = some (.slice A2 S.loose.length c2) ∧ w'.cell? ⟨bb, bo + k * 2, none⟩ = some (.int .i64 (p : Int)) ∧ w'.cell? ⟨bb, bo + k * 2 + 1, none⟩ = some (.string sy)) wx from fun wx hb => ⟨(HS.out.step hb).d1, (HS.out.step hb).d2, (hb.cell (p := ⟨bb, bo + k * 2, none⟩) hbb).trans q0, (hb.cell (p := ⟨bb, bo + k * 2 + 1, none⟩) hbb).trans q1⟩)
          clear q0 q1
          go_wp2_with fail
          refine wp_region_any (by kernel_rfl) ?_
          change wpAny _ _ _ _ _ _ _ (World.drew _)
          refine Held.any_of_G (S := (fun w' : World => w'.cell? ⟨w.heap.size, 1, none⟩ = some (.slice A S.last.length c) ∧ w'.cell? ⟨w.heap.size, 2, none⟩ = some (.slice A2 S.loose.length c2) ∧ w'.cell? ⟨bb, bo + k * 2, none⟩ = some (.int .i64 (p : Int)) ∧ w'.cell? ⟨bb, bo + k * 2 + 1, none⟩ = some (.string sy))) (z := 16) _ _ _ _ ?_
          refine Held.G_take (i := 0) (d := 104) (v := ?_) [0, 1, 14, 15, 16] rfl rfl (by kernel_rfl) (by kernel_rfl) (by kernel_rfl) (by kernel_rfl) (fun _ _ _ h => h) (Or.inl ⟨by rfl, ?_⟩) (HSP.out _ (Below.refl _ _).drew) ?_
          rotate_left 1
          · intro w hSw; clear hSw; go_simp <;> with_reducible rfl
          simp only [Act.put, List.setIfInBounds_toArray, List.set_cons_zero, List.set_cons_succ]
          refine Held.G_take (i := 1) (d := 105) (v := ?_) [1, 14, 15, 16] rfl rfl (by kernel_rfl) (by kernel_rfl) (by kernel_rfl) (by kernel_rfl) (fun _ _ _ h => h) (Or.inl ⟨by rfl, ?_⟩) (HSP.out _ (Below.refl _ _).drew) ?_
          rotate_left 1
          · intro w hSw; obtain ⟨h1, h2, h3, h4⟩ := hSw; go_simp <;> with_reducible rfl
          simp only [Act.put, List.setIfInBounds_toArray, List.set_cons_zero, List.set_cons_succ]
          refine Held.G_take (i := 2) (d := 106) (v := ?_) [2, 3, 5, 6, 7, 14, 15, 16] rfl rfl (by kernel_rfl) (by kernel_rfl) (by kernel_rfl) (by kernel_rfl) (fun _ _ _ h => h) (Or.inl ⟨by rfl, ?_⟩) (HSP.out _ (Below.refl _ _).drew) ?_
          rotate_left 1
          · intro w hSw; clear hSw; go_simp <;> with_reducible rfl
          simp only [Act.put, List.setIfInBounds_toArray, List.set_cons_zero, List.set_cons_succ]
          refine Held.G_take (i := 3) (d := 107) (v := ?_) [3, 5, 6, 7, 14, 15, 16] rfl rfl (by kernel_rfl) (by kernel_rfl) (by kernel_rfl) (by kernel_rfl) (fun _ _ _ h => h) (Or.inl ⟨by rfl, ?_⟩) (HSP.out _ (Below.refl _ _).drew) ?_
          rotate_left 1
          · intro w hSw; obtain ⟨h1, h2, h3, h4⟩ := hSw; go_simp <;> with_reducible rfl
          simp only [Act.put, List.setIfInBounds_toArray, List.set_cons_zero, List.set_cons_succ]
          refine Held.G_take (i := 4) (d := 108) (v := ?_) [4, 5, 6, 7, 14, 15, 16] rfl rfl (by kernel_rfl) (by kernel_rfl) (by kernel_rfl) (by kernel_rfl) (fun _ _ _ h => h) (Or.inl ⟨by rfl, ?_⟩) (HSP.out _ (Below.refl _ _).drew) ?_
          rotate_left 1
          · intro w hSw; clear hSw; go_simp <;> with_reducible rfl
          simp only [Act.put, List.setIfInBounds_toArray, List.set_cons_zero, List.set_cons_succ]
          refine Held.G_take (i := 5) (d := 109) (v := ?_) [5, 6, 7, 14, 15, 16] rfl rfl (by kernel_rfl) (by kernel_rfl) (by kernel_rfl) (by kernel_rfl) (fun _ _ _ h => h) (Or.inl ⟨by rfl, ?_⟩) (HSP.out _ (Below.refl _ _).drew) ?_
          rotate_left 1
          · intro w hSw; clear hSw; go_simp <;> with_reducible rfl
          simp only [Act.put, List.setIfInBounds_toArray, List.set_cons_zero, List.set_cons_succ]
          refine Held.G_take (i := 6) (d := 110) (v := ?_) [6, 7, 14, 15, 16] rfl rfl (by kernel_rfl) (by kernel_rfl) (by kernel_rfl) (by kernel_rfl) (fun _ _ _ h => h) (Or.inl ⟨by rfl, ?_⟩) (HSP.out _ (Below.refl _ _).drew) ?_
          rotate_left 1
          · intro w hSw; clear hSw; go_simp <;> with_reducible rfl
          simp only [Act.put, List.setIfInBounds_toArray, List.set_cons_zero, List.set_cons_succ]
          refine Held.G_take (i := 7) (d := 111) (v := ?_) [7, 14, 15, 16] rfl rfl (by kernel_rfl) (by kernel_rfl) (by kernel_rfl) (by kernel_rfl) (fun _ _ _ h => h) (Or.inl ⟨by rfl, ?_⟩) (HSP.out _ (Below.refl _ _).drew) ?_
          rotate_left 1
          · intro w hSw; obtain ⟨h1, h2, h3, h4⟩ := hSw; go_simp <;> with_reducible rfl
          simp only [Act.put, List.setIfInBounds_toArray, List.set_cons_zero, List.set_cons_succ]
          refine Held.G_take (i := 8) (d := 112) (v := ?_) [8, 9, 11, 12, 13, 14, 15, 16] rfl rfl (by kernel_rfl) (by kernel_rfl) (by kernel_rfl) (by kernel_rfl) (fun _ _ _ h => h) (Or.inl ⟨by rfl, ?_⟩) (HSP.out _ (Below.refl _ _).drew) ?_
          rotate_left 1
          · intro w hSw; clear hSw; go_simp <;> with_reducible rfl
          simp only [Act.put, List.setIfInBounds_toArray, List.set_cons_zero, List.set_cons_succ]
          refine Held.G_take (i := 9) (d := 113) (v := ?_) [9, 11, 12, 13, 14, 15, 16] rfl rfl (by kernel_rfl) (by kernel_rfl) (by kernel_rfl) (by kernel_rfl) (fun _ _ _ h => h) (Or.inl ⟨by rfl, ?_⟩) (HSP.out _ (Below.refl _ _).drew) ?_
          rotate_left 1
          · intro w hSw; obtain ⟨h1, h2, h3, h4⟩ := hSw; go_simp <;> with_reducible rfl
          simp only [Act.put, List.setIfInBounds_toArray, List.set_cons_zero, List.set_cons_succ]
          refine Held.G_take (i := 10) (d := 114) (v := ?_) [10, 11, 12, 13, 14, 15, 16] rfl rfl (by kernel_rfl) (by kernel_rfl) (by kernel_rfl) (by kernel_rfl) (fun _ _ _ h => h) (Or.inl ⟨by rfl, ?_⟩) (HSP.out _ (Below.refl _ _).drew) ?_
          rotate_left 1
          · intro w hSw; clear hSw; go_simp <;> with_reducible rfl
          simp only [Act.put, List.setIfInBounds_toArray, List.set_cons_zero, List.set_cons_succ]
          refine Held.G_take (i := 11) (d := 115) (v := ?_) [11, 12, 13, 14, 15, 16] rfl rfl (by kernel_rfl) (by kernel_rfl) (by kernel_rfl) (by kernel_rfl) (fun _ _ _ h => h) (Or.inl ⟨by rfl, ?_⟩) (HSP.out _ (Below.refl _ _).drew) ?_
          rotate_left 1
          · intro w hSw; clear hSw; go_simp <;> with_reducible rfl
          simp only [Act.put, List.setIfInBounds_toArray, List.set_cons_zero, List.set_cons_succ]
          refine Held.G_take (i := 12) (d := 116) (v := ?_) [12, 13, 14, 15, 16] rfl rfl (by kernel_rfl) (by kernel_rfl) (by kernel_rfl) (by kernel_rfl) (fun _ _ _ h => h) (Or.inl ⟨by rfl, ?_⟩) (HSP.out _ (Below.refl _ _).drew) ?_
          rotate_left 1
          · intro w hSw; clear hSw; go_simp <;> with_reducible rfl
          simp only [Act.put, List.setIfInBounds_toArray, List.set_cons_zero, List.set_cons_succ]
          refine Held.G_take (i := 13) (d := 117) (v := ?_) [13, 14, 15, 16] rfl rfl (by kernel_rfl) (by kernel_rfl) (by kernel_rfl) (by kernel_rfl) (fun _ _ _ h => h) (Or.inl ⟨by rfl, ?_⟩) (HSP.out _ (Below.refl _ _).drew) ?_
          rotate_left 1
          · intro w hSw; obtain ⟨h1, h2, h3, h4⟩ := hSw; go_simp <;> with_reducible rfl
          simp only [Act.put, List.setIfInBounds_toArray, List.set_cons_zero, List.set_cons_succ]
          refine Held.G_ready (rs := [14]) (by decide +kernel) (by simp) ?_
          refine Held.G_cons rfl (fun KK hK => ?_) Held.G_nil
          go_simp
          (with_reducible refine (hw.out _ (Below.refl _ _).drew).mono ?_)
          rintro e wz ⟨A', c', rfl, fz, cz, HZ⟩
          go_wp2_with fail
          refine ⟨(HSP.out _ HZ.out.1), ?_⟩
          refine Held.G_take (i := 15) (d := 119) (v := ?_) [15, 16] rfl rfl (by kernel_rfl) (by kernel_rfl) (by kernel_rfl) (by kernel_rfl) (fun _ _ _ h => h) (Or.inl ⟨by rfl, ?_⟩) (HSP.out _ HZ.out.1) ?_
          rotate_left 1
          · intro w hSw; clear hSw; go_simp <;> with_reducible rfl
          simp only [Act.put, List.setIfInBounds_toArray, List.set_cons_zero, List.set_cons_succ]
          refine Held.G_ready (rs := [16]) (by decide +kernel) (by simp) ?_
          refine Held.G_last rfl (fun KK hK => ?_) Held.G_nil
          go_simp
          refine hK _ _ ?_
          clear hK KK
          refine Held.G_done (by kernel_rfl) ?_ _
          have HN := Lib.hid (HZ.out.2.1.put1 HRR.out HZ.out.2.2 (by simpa using HZ.out.2.1.nl) c')
          rw [← HT.out] at HN
          clear fz cz HZ
          go_wp2_with fail
          go_roundw
          case rel => exact ⟨k + 1, A', c', by omega, by go_num, HN.out⟩
          case measure => simp [intOf]; omega
        · obtain rfl : k = S.loose.length := by omega
          have b2 := hs.d2
          have b0 := hs.d0
          have b1 := hs.d1
          have b3 := hs.d3
          have b4 := hs.d4
          have f2 := hs.d.frozen 2
          have r0 := hs.r.cell 0
          have r1 := hs.r.cell 1
          have r2 := hs.r.cell 2
          have r3 := hs.r.cell 3
          have r4 := hs.r.cell 4
          have g0 := hs.r.frozen 0
          have g1 := hs.r.frozen 1
          have g2 := hs.r.frozen 2
          have g3 := hs.r.frozen 3
          have g4 := hs.r.frozen 4
          have HX := Lib.hid (hs.put2 HRR.out (A3 := none) (l' := []) (n3 := 0) (rowR_nil _ _) rfl 0)
          clear hs
          go_wp2_with fail
          exact bodyPost_ret (v := .tuple #[.agg #[.int .i64 S.most, .slice A S.last.length c, .slice none 0 0, .bool true, .int .i64 (wrap64 (f - 1))], .int .i64 0]) (by simp [results, Try.results13, go_sem, r0, r1, r2, r3, r4]) rfl (HE.out A c _ _ HX.out (turn5 _ _ _ _ _ _ _))
end
end Go.Proofs.Ytecdindjlfefhaa.DiskRefSync
