/- The contract of the document's Put, of a page that may be. -/
import Derived.Test.YtcnblgienombeaaPageRefPut1
namespace Go.Proofs.Ytcnblgienombeaa.PageRefPut
open Go.RowKit Base PagePlain PageSmall PagePut PageLay PageSame PageRef PageFour PageAwake SumMem Str SumPlain PageRefPut1

def szOf : Value → Nat
  | .string s => s.size
  | _ => 0
set_option maxRecDepth 100000 in
set_option maxHeartbeats 6400000 in
theorem rput_good (w : World) (p : Pg) (A : Option Addr) (c : Nat) (hr : Row w w.heap.size A (strs p.cells)) (hl : p.cells.length ≤ 1000) (hz : ∀ q ∈ p.cells, q.size ≤ 1000) (hro : room p.cells ≤ 236) (hok : PgOk p) : Calls Try.prog 15 #[pv p A c] w fun e w' => e = .returned (.tuple #[.string (tx (page p)), .int .i64 0]) ∧ Below w.heap.size w w' := by
  have HC := Lib.hid (box_at w p A c)
  have hb : Below w.heap.size w (w.alloc (.cells #[.int .i64 p.kind, .int .i64 p.no, .int .i64 p.epoch, .int .i64 p.link, .slice A p.cells.length c] 37)) := (Below.refl _ _).alloc (Nat.le_refl _) _
  obtain ⟨w1, hw1⟩ : ∃ v, v = w.alloc (.cells #[.int .i64 p.kind, .int .i64 p.no, .int .i64 p.epoch, .int .i64 p.link, .slice A p.cells.length c] 37) := ⟨_, rfl⟩
  rw [← hw1] at HC hb
  have HW := Lib.hid hw1
  clear hw1
  have hfi := rfits_any w1 A p.cells.length c p.cells rfl (hr.belowSize hb) hl hz
  rw [decide_eq_true hro] at hfi
  obtain ⟨hk1, hk2, hno1, hno2, hepoch1, hepoch2, hlink1, hlink2⟩ := hok
  have hlen : 2 * p.cells.length + tot p.cells ≤ 236 := hro
  have hlen2 : p.cells.length ≤ 255 := by omega
  have HHD := Lib.hid (show ((tx [b8 p.kind.toNat, b8 p.cells.length] ++ tx (be4 p.no.toNat)) ++ tx (be4 p.epoch.toNat)) ++ tx (be4 p.link.toNat) = tx (hd p) by
    rw [tx_append, tx_append, tx_append]; unfold hd; simp only [List.append_assoc])
  have HRO := Lib.hid hro
  have hsz2 : (tx [b8 p.kind.toNat, b8 p.cells.length]).size = 2 := rfl
  have hsz4 : ∀ n, (tx (be4 n)).size = 4 := fun n => rfl
  clear hl hz hro
  go_enter Try.func15, Try.ntmps15
  go_wp2_with fail
  rw [← HW.out]
  refine hfi.mono ?_
  rintro e w' ⟨rfl, rfl⟩
  clear hfi
  obtain ⟨h0, h1, h2, h3, h4⟩ := HC.out w1 (Below.refl _ _)
  go_upto_region 6 with fail
  go_cut [5] from 53 to 73 (fun s5 wx => s5 = .string (tx (hd p)) ∧ Below w1.heap.size w1 wx)
  case first =>
    clear h0 h1 h2 h3 h4
    refine wp_region_any (by kernel_rfl) ?_
    change wpAny _ _ _ _ _ _ _ (World.drew _)
    obtain ⟨u0, hu0⟩ : ∃ v, v = World.drew w1 := ⟨_, rfl⟩
    rw [← hu0]
    have hB0 : Below w1.heap.size w1 u0 := by rw [hu0]; exact (Below.refl _ _).drew
    clear hu0
    refine Held.any_of_G (S := (fun w' : World => w'.cell? ⟨w.heap.size, 0, none⟩ = some (.int .i64 p.kind) ∧ w'.cell? ⟨w.heap.size, 1, none⟩ = some (.int .i64 p.no) ∧ w'.cell? ⟨w.heap.size, 2, none⟩ = some (.int .i64 p.epoch) ∧ w'.cell? ⟨w.heap.size, 3, none⟩ = some (.int .i64 p.link) ∧ w'.cell? ⟨w.heap.size, 4, none⟩ = some (.slice A p.cells.length c))) (z := 21) _ _ _ _ ?_
    refine Held.G_take (i := 0) (d := 53) (v := ?_) [0, 1, 2, 7, 8, 12, 16, 20, 21] rfl rfl (by kernel_rfl) (by kernel_rfl) (by kernel_rfl) (by kernel_rfl) (fun _ _ _ h => h) (Or.inl ⟨by rfl, ?_⟩) (HC.out _ hB0) ?_
    rotate_left 1
    · intro w hSw; clear hSw; go_simp <;> with_reducible rfl
    simp only [Act.put, List.setIfInBounds_toArray, List.set_cons_zero, List.set_cons_succ]
    refine Held.G_take (i := 1) (d := 54) (v := ?_) [1, 2, 7, 8, 12, 16, 20, 21] rfl rfl (by kernel_rfl) (by kernel_rfl) (by kernel_rfl) (by kernel_rfl) (fun _ _ _ h => h) (Or.inl ⟨by rfl, ?_⟩) (HC.out _ hB0) ?_
    rotate_left 1
    · intro w hSw; obtain ⟨h0, h1, h2, h3, h4⟩ := hSw; go_simp <;> with_reducible rfl
    simp only [Act.put, List.setIfInBounds_toArray, List.set_cons_zero, List.set_cons_succ]
    refine Held.G_take (i := 2) (d := 55) (v := ?_) [2, 7, 8, 12, 16, 20, 21] rfl rfl (by kernel_rfl) (by kernel_rfl) (by kernel_rfl) (by kernel_rfl) (fun _ _ _ h => h) (Or.inl ⟨by rfl, ?_⟩) (HC.out _ hB0) ?_
    rotate_left 1
    · intro w hSw; clear hSw; go_simp <;> with_reducible rfl
    simp only [Act.put, List.setIfInBounds_toArray, List.set_cons_zero, List.set_cons_succ]
    refine Held.G_take (i := 3) (d := 56) (v := ?_) [3, 4, 5, 6, 7, 8, 12, 16, 20, 21] rfl rfl (by kernel_rfl) (by kernel_rfl) (by kernel_rfl) (by kernel_rfl) (fun _ _ _ h => h) (Or.inl ⟨by rfl, ?_⟩) (HC.out _ hB0) ?_
    rotate_left 1
    · intro w hSw; clear hSw; go_simp <;> with_reducible rfl
    simp only [Act.put, List.setIfInBounds_toArray, List.set_cons_zero, List.set_cons_succ]
    refine Held.G_take (i := 4) (d := 57) (v := ?_) [4, 5, 6, 7, 8, 12, 16, 20, 21] rfl rfl (by kernel_rfl) (by kernel_rfl) (by kernel_rfl) (by kernel_rfl) (fun _ _ _ h => h) (Or.inl ⟨by rfl, ?_⟩) (HC.out _ hB0) ?_
    rotate_left 1
    · intro w hSw; obtain ⟨h0, h1, h2, h3, h4⟩ := hSw; go_simp <;> with_reducible rfl
    simp only [Act.put, List.setIfInBounds_toArray, List.set_cons_zero, List.set_cons_succ]
    refine Held.G_take (i := 5) (d := 58) (v := ?_) [5, 6, 7, 8, 12, 16, 20, 21] rfl rfl (by kernel_rfl) (by kernel_rfl) (by kernel_rfl) (by kernel_rfl) (fun _ _ _ h => h) (Or.inl ⟨by rfl, ?_⟩) (HC.out _ hB0) ?_
    rotate_left 1
    · intro w hSw; clear hSw; go_simp <;> with_reducible rfl
    simp only [Act.put, List.setIfInBounds_toArray, List.set_cons_zero, List.set_cons_succ]
    refine Held.G_take (i := 6) (d := 59) (v := ?_) [6, 7, 8, 12, 16, 20, 21] rfl rfl (by kernel_rfl) (by kernel_rfl) (by kernel_rfl) (by kernel_rfl) (fun _ _ _ h => h) (Or.inl ⟨by rfl, ?_⟩) (HC.out _ hB0) ?_
    rotate_left 1
    · intro w hSw; clear hSw; go_simp <;> with_reducible rfl
    simp only [Act.put, List.setIfInBounds_toArray, List.set_cons_zero, List.set_cons_succ]
    refine Held.G_take (i := 9) (d := 62) (v := ?_) [9, 10, 11, 12, 15, 16, 19, 20, 21] rfl rfl (by kernel_rfl) (by kernel_rfl) (by kernel_rfl) (by kernel_rfl) (fun _ _ _ h => h) (Or.inl ⟨by rfl, ?_⟩) (HC.out _ hB0) ?_
    rotate_left 1
    · intro w hSw; clear hSw; go_simp <;> with_reducible rfl
    simp only [Act.put, List.setIfInBounds_toArray, List.set_cons_zero, List.set_cons_succ]
    refine Held.G_take (i := 10) (d := 63) (v := ?_) [10, 11, 12, 15, 16, 19, 20, 21] rfl rfl (by kernel_rfl) (by kernel_rfl) (by kernel_rfl) (by kernel_rfl) (fun _ _ _ h => h) (Or.inl ⟨by rfl, ?_⟩) (HC.out _ hB0) ?_
    rotate_left 1
    · intro w hSw; obtain ⟨h0, h1, h2, h3, h4⟩ := hSw; go_simp <;> with_reducible rfl
    simp only [Act.put, List.setIfInBounds_toArray, List.set_cons_zero, List.set_cons_succ]
    refine Held.G_take (i := 13) (d := 66) (v := ?_) [13, 14, 15, 16, 19, 20, 21] rfl rfl (by kernel_rfl) (by kernel_rfl) (by kernel_rfl) (by kernel_rfl) (fun _ _ _ h => h) (Or.inl ⟨by rfl, ?_⟩) (HC.out _ hB0) ?_
    rotate_left 1
    · intro w hSw; clear hSw; go_simp <;> with_reducible rfl
    simp only [Act.put, List.setIfInBounds_toArray, List.set_cons_zero, List.set_cons_succ]
    refine Held.G_take (i := 14) (d := 67) (v := ?_) [14, 15, 16, 19, 20, 21] rfl rfl (by kernel_rfl) (by kernel_rfl) (by kernel_rfl) (by kernel_rfl) (fun _ _ _ h => h) (Or.inl ⟨by rfl, ?_⟩) (HC.out _ hB0) ?_
    rotate_left 1
    · intro w hSw; obtain ⟨h0, h1, h2, h3, h4⟩ := hSw; go_simp <;> with_reducible rfl
    simp only [Act.put, List.setIfInBounds_toArray, List.set_cons_zero, List.set_cons_succ]
    refine Held.G_take (i := 17) (d := 70) (v := ?_) [17, 18, 19, 20, 21] rfl rfl (by kernel_rfl) (by kernel_rfl) (by kernel_rfl) (by kernel_rfl) (fun _ _ _ h => h) (Or.inl ⟨by rfl, ?_⟩) (HC.out _ hB0) ?_
    rotate_left 1
    · intro w hSw; clear hSw; go_simp <;> with_reducible rfl
    simp only [Act.put, List.setIfInBounds_toArray, List.set_cons_zero, List.set_cons_succ]
    refine Held.G_take (i := 18) (d := 71) (v := ?_) [18, 19, 20, 21] rfl rfl (by kernel_rfl) (by kernel_rfl) (by kernel_rfl) (by kernel_rfl) (fun _ _ _ h => h) (Or.inl ⟨by rfl, ?_⟩) (HC.out _ hB0) ?_
    rotate_left 1
    · intro w hSw; obtain ⟨h0, h1, h2, h3, h4⟩ := hSw; go_simp <;> with_reducible rfl
    simp only [Act.put, List.setIfInBounds_toArray, List.set_cons_zero, List.set_cons_succ]
    refine Held.G_ready (rs := [7, 11]) (by decide +kernel) (by simp) ?_
    refine Held.G_cons rfl (fun KK hK => ?_) ?_
    · go_simp
      refine hK _ _ ?_
      clear hK KK
      obtain ⟨u1, hw⟩ : ∃ v, v = u0.alloc (.cells #[.int .u8 (IntKind.u8.wrap p.kind), .int .u8 (IntKind.u8.wrap (p.cells.length : Int))] 5) := ⟨_, rfl⟩
      rw [← hw]
      have hst0 : Below u0.heap.size u0 u1 := by rw [hw]; exact (Below.refl _ _).alloc (Nat.le_refl _) _
      have hB1 := Below.step hB0 hst0
      have hy : At u1 u0.heap.size 5 #[.int .u8 (IntKind.u8.wrap p.kind), .int .u8 (IntKind.u8.wrap (p.cells.length : Int))] := by rw [hw]; exact heap_alloc_new _ _
      clear hw
      refine ⟨(HC.out _ hB1), ?_⟩
      refine Held.G_ready (rs := [8, 11]) (by decide +kernel) (by simp) ?_
      refine Held.G_cons rfl (fun KK hK => ?_) ?_
      · have hcv := conv_two hy hk1 hk2 hlen2
        go_simp
        refine hK _ _ ?_
        clear hK KK hcv hy
        refine ⟨(HC.out _ hB1), ?_⟩
        refine Held.G_ready (rs := [11]) (by decide +kernel) (by simp) ?_
        refine Held.G_cons rfl (fun KK hK => ?_) Held.G_nil
        go_simp
        (with_reducible refine (four_int u1 p.no hno1 hno2).mono ?_)
        rintro e u2 ⟨rfl, hst1⟩
        have hB2 := Below.step hB1 hst1
        go_wp2_with fail
        refine ⟨(HC.out _ hB2), ?_⟩
        refine Held.G_take (i := 12) (d := 65) (v := ?_) [12, 16, 20, 21] rfl rfl (by kernel_rfl) (by kernel_rfl) (by kernel_rfl) (by kernel_rfl) (fun _ _ _ h => h) (Or.inl ⟨by rfl, ?_⟩) (HC.out _ hB2) ?_
        rotate_left 1
        · intro w hSw; clear hSw; go_simp <;> with_reducible rfl
        simp only [Act.put, List.setIfInBounds_toArray, List.set_cons_zero, List.set_cons_succ]
        refine Held.G_ready (rs := [15]) (by decide +kernel) (by simp) ?_
        refine Held.G_cons rfl (fun KK hK => ?_) Held.G_nil
        go_simp
        (with_reducible refine (four_int u2 p.epoch hepoch1 hepoch2).mono ?_)
        rintro e u3 ⟨rfl, hst2⟩
        have hB3 := Below.step hB2 hst2
        go_wp2_with fail
        refine ⟨(HC.out _ hB3), ?_⟩
        refine Held.G_take (i := 16) (d := 69) (v := ?_) [16, 20, 21] rfl rfl (by kernel_rfl) (by kernel_rfl) (by kernel_rfl) (by kernel_rfl) (fun _ _ _ h => h) (Or.inl ⟨by rfl, ?_⟩) (HC.out _ hB3) ?_
        rotate_left 1
        · intro w hSw; clear hSw; go_simp <;> with_reducible rfl
        simp only [Act.put, List.setIfInBounds_toArray, List.set_cons_zero, List.set_cons_succ]
        refine Held.G_ready (rs := [19]) (by decide +kernel) (by simp) ?_
        refine Held.G_cons rfl (fun KK hK => ?_) Held.G_nil
        go_simp
        (with_reducible refine (four_int u3 p.link hlink1 hlink2).mono ?_)
        rintro e u4 ⟨rfl, hst3⟩
        have hB4 := Below.step hB3 hst3
        go_wp2_with fail
        refine ⟨(HC.out _ hB4), ?_⟩
        refine Held.G_take (i := 20) (d := 73) (v := ?_) [20, 21] rfl rfl (by kernel_rfl) (by kernel_rfl) (by kernel_rfl) (by kernel_rfl) (fun _ _ _ h => h) (Or.inl ⟨by rfl, ?_⟩) (HC.out _ hB4) ?_
        rotate_left 1
        · intro w hSw; clear hSw; go_simp <;> with_reducible rfl
        simp only [Act.put, List.setIfInBounds_toArray, List.set_cons_zero, List.set_cons_succ]
        refine Held.G_ready (rs := [21]) (by decide +kernel) (by simp) ?_
        refine Held.G_last rfl (fun KK hK => ?_) Held.G_nil
        go_simp
        refine hK _ _ ?_
        clear hK KK
        refine Held.G_done (by kernel_rfl) ?_ _
        go_wp2_with fail
        go_meet
        exact ⟨congrArg Value.string HHD.out, hB4⟩
      refine Held.G_cons rfl (fun KK hK => ?_) Held.G_nil
      go_simp
      (with_reducible refine (four_int u1 p.no hno1 hno2).mono ?_)
      rintro e u2 ⟨rfl, hst1⟩
      have hB2 := Below.step hB1 hst1
      have hy := at_below hy hst1
      go_wp2_with fail
      refine ⟨(HC.out _ hB2), ?_⟩
      refine Held.G_ready (rs := [8, 15]) (by decide +kernel) (by simp) ?_
      refine Held.G_cons rfl (fun KK hK => ?_) ?_
      · have hcv := conv_two hy hk1 hk2 hlen2
        go_simp
        refine hK _ _ ?_
        clear hK KK hcv hy
        refine ⟨(HC.out _ hB2), ?_⟩
        refine Held.G_take (i := 12) (d := 65) (v := ?_) [12, 16, 20, 21] rfl rfl (by kernel_rfl) (by kernel_rfl) (by kernel_rfl) (by kernel_rfl) (fun _ _ _ h => h) (Or.inl ⟨by rfl, ?_⟩) (HC.out _ hB2) ?_
        rotate_left 1
        · intro w hSw; clear hSw; go_simp <;> with_reducible rfl
        simp only [Act.put, List.setIfInBounds_toArray, List.set_cons_zero, List.set_cons_succ]
        refine Held.G_ready (rs := [15]) (by decide +kernel) (by simp) ?_
        refine Held.G_cons rfl (fun KK hK => ?_) Held.G_nil
        go_simp
        (with_reducible refine (four_int u2 p.epoch hepoch1 hepoch2).mono ?_)
        rintro e u3 ⟨rfl, hst2⟩
        have hB3 := Below.step hB2 hst2
        go_wp2_with fail
        refine ⟨(HC.out _ hB3), ?_⟩
        refine Held.G_take (i := 16) (d := 69) (v := ?_) [16, 20, 21] rfl rfl (by kernel_rfl) (by kernel_rfl) (by kernel_rfl) (by kernel_rfl) (fun _ _ _ h => h) (Or.inl ⟨by rfl, ?_⟩) (HC.out _ hB3) ?_
        rotate_left 1
        · intro w hSw; clear hSw; go_simp <;> with_reducible rfl
        simp only [Act.put, List.setIfInBounds_toArray, List.set_cons_zero, List.set_cons_succ]
        refine Held.G_ready (rs := [19]) (by decide +kernel) (by simp) ?_
        refine Held.G_cons rfl (fun KK hK => ?_) Held.G_nil
        go_simp
        (with_reducible refine (four_int u3 p.link hlink1 hlink2).mono ?_)
        rintro e u4 ⟨rfl, hst3⟩
        have hB4 := Below.step hB3 hst3
        go_wp2_with fail
        refine ⟨(HC.out _ hB4), ?_⟩
        refine Held.G_take (i := 20) (d := 73) (v := ?_) [20, 21] rfl rfl (by kernel_rfl) (by kernel_rfl) (by kernel_rfl) (by kernel_rfl) (fun _ _ _ h => h) (Or.inl ⟨by rfl, ?_⟩) (HC.out _ hB4) ?_
        rotate_left 1
        · intro w hSw; clear hSw; go_simp <;> with_reducible rfl
        simp only [Act.put, List.setIfInBounds_toArray, List.set_cons_zero, List.set_cons_succ]
        refine Held.G_ready (rs := [21]) (by decide +kernel) (by simp) ?_
        refine Held.G_last rfl (fun KK hK => ?_) Held.G_nil
        go_simp
        refine hK _ _ ?_
        clear hK KK
        refine Held.G_done (by kernel_rfl) ?_ _
        go_wp2_with fail
        go_meet
        exact ⟨congrArg Value.string HHD.out, hB4⟩
      refine Held.G_cons rfl (fun KK hK => ?_) Held.G_nil
      go_simp
      (with_reducible refine (four_int u2 p.epoch hepoch1 hepoch2).mono ?_)
      rintro e u3 ⟨rfl, hst2⟩
      have hB3 := Below.step hB2 hst2
      have hy := at_below hy hst2
      go_wp2_with fail
      refine ⟨(HC.out _ hB3), ?_⟩
      refine Held.G_ready (rs := [8, 19]) (by decide +kernel) (by simp) ?_
      refine Held.G_cons rfl (fun KK hK => ?_) ?_
      · have hcv := conv_two hy hk1 hk2 hlen2
        go_simp
        refine hK _ _ ?_
        clear hK KK hcv hy
        refine ⟨(HC.out _ hB3), ?_⟩
        refine Held.G_take (i := 12) (d := 65) (v := ?_) [12, 16, 20, 21] rfl rfl (by kernel_rfl) (by kernel_rfl) (by kernel_rfl) (by kernel_rfl) (fun _ _ _ h => h) (Or.inl ⟨by rfl, ?_⟩) (HC.out _ hB3) ?_
        rotate_left 1
        · intro w hSw; clear hSw; go_simp <;> with_reducible rfl
        simp only [Act.put, List.setIfInBounds_toArray, List.set_cons_zero, List.set_cons_succ]
        refine Held.G_take (i := 16) (d := 69) (v := ?_) [16, 20, 21] rfl rfl (by kernel_rfl) (by kernel_rfl) (by kernel_rfl) (by kernel_rfl) (fun _ _ _ h => h) (Or.inl ⟨by rfl, ?_⟩) (HC.out _ hB3) ?_
        rotate_left 1
        · intro w hSw; clear hSw; go_simp <;> with_reducible rfl
        simp only [Act.put, List.setIfInBounds_toArray, List.set_cons_zero, List.set_cons_succ]
        refine Held.G_ready (rs := [19]) (by decide +kernel) (by simp) ?_
        refine Held.G_cons rfl (fun KK hK => ?_) Held.G_nil
        go_simp
        (with_reducible refine (four_int u3 p.link hlink1 hlink2).mono ?_)
        rintro e u4 ⟨rfl, hst3⟩
        have hB4 := Below.step hB3 hst3
        go_wp2_with fail
        refine ⟨(HC.out _ hB4), ?_⟩
        refine Held.G_take (i := 20) (d := 73) (v := ?_) [20, 21] rfl rfl (by kernel_rfl) (by kernel_rfl) (by kernel_rfl) (by kernel_rfl) (fun _ _ _ h => h) (Or.inl ⟨by rfl, ?_⟩) (HC.out _ hB4) ?_
        rotate_left 1
        · intro w hSw; clear hSw; go_simp <;> with_reducible rfl
        simp only [Act.put, List.setIfInBounds_toArray, List.set_cons_zero, List.set_cons_succ]
        refine Held.G_ready (rs := [21]) (by decide +kernel) (by simp) ?_
        refine Held.G_last rfl (fun KK hK => ?_) Held.G_nil
        go_simp
        refine hK _ _ ?_
        clear hK KK
        refine Held.G_done (by kernel_rfl) ?_ _
        go_wp2_with fail
        go_meet
        exact ⟨congrArg Value.string HHD.out, hB4⟩
      refine Held.G_cons rfl (fun KK hK => ?_) Held.G_nil
      go_simp
      (with_reducible refine (four_int u3 p.link hlink1 hlink2).mono ?_)
      rintro e u4 ⟨rfl, hst3⟩
      have hB4 := Below.step hB3 hst3
      have hy := at_below hy hst3
      go_wp2_with fail
      refine ⟨(HC.out _ hB4), ?_⟩
      refine Held.G_ready (rs := [8]) (by decide +kernel) (by simp) ?_
      refine Held.G_cons rfl (fun KK hK => ?_) Held.G_nil
      have hcv := conv_two hy hk1 hk2 hlen2
      go_simp
      refine hK _ _ ?_
      clear hK KK hcv hy
      refine ⟨(HC.out _ hB4), ?_⟩
      refine Held.G_take (i := 12) (d := 65) (v := ?_) [12, 16, 20, 21] rfl rfl (by kernel_rfl) (by kernel_rfl) (by kernel_rfl) (by kernel_rfl) (fun _ _ _ h => h) (Or.inl ⟨by rfl, ?_⟩) (HC.out _ hB4) ?_
      rotate_left 1
      · intro w hSw; clear hSw; go_simp <;> with_reducible rfl
      simp only [Act.put, List.setIfInBounds_toArray, List.set_cons_zero, List.set_cons_succ]
      refine Held.G_take (i := 16) (d := 69) (v := ?_) [16, 20, 21] rfl rfl (by kernel_rfl) (by kernel_rfl) (by kernel_rfl) (by kernel_rfl) (fun _ _ _ h => h) (Or.inl ⟨by rfl, ?_⟩) (HC.out _ hB4) ?_
      rotate_left 1
      · intro w hSw; clear hSw; go_simp <;> with_reducible rfl
      simp only [Act.put, List.setIfInBounds_toArray, List.set_cons_zero, List.set_cons_succ]
      refine Held.G_take (i := 20) (d := 73) (v := ?_) [20, 21] rfl rfl (by kernel_rfl) (by kernel_rfl) (by kernel_rfl) (by kernel_rfl) (fun _ _ _ h => h) (Or.inl ⟨by rfl, ?_⟩) (HC.out _ hB4) ?_
      rotate_left 1
      · intro w hSw; clear hSw; go_simp <;> with_reducible rfl
      simp only [Act.put, List.setIfInBounds_toArray, List.set_cons_zero, List.set_cons_succ]
      refine Held.G_ready (rs := [21]) (by decide +kernel) (by simp) ?_
      refine Held.G_last rfl (fun KK hK => ?_) Held.G_nil
      go_simp
      refine hK _ _ ?_
      clear hK KK
      refine Held.G_done (by kernel_rfl) ?_ _
      go_wp2_with fail
      go_meet
      exact ⟨congrArg Value.string HHD.out, hB4⟩
    refine Held.G_cons rfl (fun KK hK => ?_) Held.G_nil
    go_simp
    (with_reducible refine (four_int u0 p.no hno1 hno2).mono ?_)
    rintro e u1 ⟨rfl, hst0⟩
    have hB1 := Below.step hB0 hst0
    go_wp2_with fail
    refine ⟨(HC.out _ hB1), ?_⟩
    refine Held.G_ready (rs := [7, 15]) (by decide +kernel) (by simp) ?_
    refine Held.G_cons rfl (fun KK hK => ?_) ?_
    · go_simp
      refine hK _ _ ?_
      clear hK KK
      obtain ⟨u2, hw⟩ : ∃ v, v = u1.alloc (.cells #[.int .u8 (IntKind.u8.wrap p.kind), .int .u8 (IntKind.u8.wrap (p.cells.length : Int))] 5) := ⟨_, rfl⟩
      rw [← hw]
      have hst1 : Below u1.heap.size u1 u2 := by rw [hw]; exact (Below.refl _ _).alloc (Nat.le_refl _) _
      have hB2 := Below.step hB1 hst1
      have hy : At u2 u1.heap.size 5 #[.int .u8 (IntKind.u8.wrap p.kind), .int .u8 (IntKind.u8.wrap (p.cells.length : Int))] := by rw [hw]; exact heap_alloc_new _ _
      clear hw
      refine ⟨(HC.out _ hB2), ?_⟩
      refine Held.G_ready (rs := [8, 15]) (by decide +kernel) (by simp) ?_
      refine Held.G_cons rfl (fun KK hK => ?_) ?_
      · have hcv := conv_two hy hk1 hk2 hlen2
        go_simp
        refine hK _ _ ?_
        clear hK KK hcv hy
        refine ⟨(HC.out _ hB2), ?_⟩
        refine Held.G_take (i := 12) (d := 65) (v := ?_) [12, 16, 20, 21] rfl rfl (by kernel_rfl) (by kernel_rfl) (by kernel_rfl) (by kernel_rfl) (fun _ _ _ h => h) (Or.inl ⟨by rfl, ?_⟩) (HC.out _ hB2) ?_
        rotate_left 1
        · intro w hSw; clear hSw; go_simp <;> with_reducible rfl
        simp only [Act.put, List.setIfInBounds_toArray, List.set_cons_zero, List.set_cons_succ]
        refine Held.G_ready (rs := [15]) (by decide +kernel) (by simp) ?_
        refine Held.G_cons rfl (fun KK hK => ?_) Held.G_nil
        go_simp
        (with_reducible refine (four_int u2 p.epoch hepoch1 hepoch2).mono ?_)
        rintro e u3 ⟨rfl, hst2⟩
        have hB3 := Below.step hB2 hst2
        go_wp2_with fail
        refine ⟨(HC.out _ hB3), ?_⟩
        refine Held.G_take (i := 16) (d := 69) (v := ?_) [16, 20, 21] rfl rfl (by kernel_rfl) (by kernel_rfl) (by kernel_rfl) (by kernel_rfl) (fun _ _ _ h => h) (Or.inl ⟨by rfl, ?_⟩) (HC.out _ hB3) ?_
        rotate_left 1
        · intro w hSw; clear hSw; go_simp <;> with_reducible rfl
        simp only [Act.put, List.setIfInBounds_toArray, List.set_cons_zero, List.set_cons_succ]
        refine Held.G_ready (rs := [19]) (by decide +kernel) (by simp) ?_
        refine Held.G_cons rfl (fun KK hK => ?_) Held.G_nil
        go_simp
        (with_reducible refine (four_int u3 p.link hlink1 hlink2).mono ?_)
        rintro e u4 ⟨rfl, hst3⟩
        have hB4 := Below.step hB3 hst3
        go_wp2_with fail
        refine ⟨(HC.out _ hB4), ?_⟩
        refine Held.G_take (i := 20) (d := 73) (v := ?_) [20, 21] rfl rfl (by kernel_rfl) (by kernel_rfl) (by kernel_rfl) (by kernel_rfl) (fun _ _ _ h => h) (Or.inl ⟨by rfl, ?_⟩) (HC.out _ hB4) ?_
        rotate_left 1
        · intro w hSw; clear hSw; go_simp <;> with_reducible rfl
        simp only [Act.put, List.setIfInBounds_toArray, List.set_cons_zero, List.set_cons_succ]
        refine Held.G_ready (rs := [21]) (by decide +kernel) (by simp) ?_
        refine Held.G_last rfl (fun KK hK => ?_) Held.G_nil
        go_simp
        refine hK _ _ ?_
        clear hK KK
        refine Held.G_done (by kernel_rfl) ?_ _
        go_wp2_with fail
        go_meet
        exact ⟨congrArg Value.string HHD.out, hB4⟩
      refine Held.G_cons rfl (fun KK hK => ?_) Held.G_nil
      go_simp
      (with_reducible refine (four_int u2 p.epoch hepoch1 hepoch2).mono ?_)
      rintro e u3 ⟨rfl, hst2⟩
      have hB3 := Below.step hB2 hst2
      have hy := at_below hy hst2
      go_wp2_with fail
      refine ⟨(HC.out _ hB3), ?_⟩
      refine Held.G_ready (rs := [8, 19]) (by decide +kernel) (by simp) ?_
      refine Held.G_cons rfl (fun KK hK => ?_) ?_
      · have hcv := conv_two hy hk1 hk2 hlen2
        go_simp
        refine hK _ _ ?_
        clear hK KK hcv hy
        refine ⟨(HC.out _ hB3), ?_⟩
        refine Held.G_take (i := 12) (d := 65) (v := ?_) [12, 16, 20, 21] rfl rfl (by kernel_rfl) (by kernel_rfl) (by kernel_rfl) (by kernel_rfl) (fun _ _ _ h => h) (Or.inl ⟨by rfl, ?_⟩) (HC.out _ hB3) ?_
        rotate_left 1
        · intro w hSw; clear hSw; go_simp <;> with_reducible rfl
        simp only [Act.put, List.setIfInBounds_toArray, List.set_cons_zero, List.set_cons_succ]
        refine Held.G_take (i := 16) (d := 69) (v := ?_) [16, 20, 21] rfl rfl (by kernel_rfl) (by kernel_rfl) (by kernel_rfl) (by kernel_rfl) (fun _ _ _ h => h) (Or.inl ⟨by rfl, ?_⟩) (HC.out _ hB3) ?_
        rotate_left 1
        · intro w hSw; clear hSw; go_simp <;> with_reducible rfl
        simp only [Act.put, List.setIfInBounds_toArray, List.set_cons_zero, List.set_cons_succ]
        refine Held.G_ready (rs := [19]) (by decide +kernel) (by simp) ?_
        refine Held.G_cons rfl (fun KK hK => ?_) Held.G_nil
        go_simp
        (with_reducible refine (four_int u3 p.link hlink1 hlink2).mono ?_)
        rintro e u4 ⟨rfl, hst3⟩
        have hB4 := Below.step hB3 hst3
        go_wp2_with fail
        refine ⟨(HC.out _ hB4), ?_⟩
        refine Held.G_take (i := 20) (d := 73) (v := ?_) [20, 21] rfl rfl (by kernel_rfl) (by kernel_rfl) (by kernel_rfl) (by kernel_rfl) (fun _ _ _ h => h) (Or.inl ⟨by rfl, ?_⟩) (HC.out _ hB4) ?_
        rotate_left 1
        · intro w hSw; clear hSw; go_simp <;> with_reducible rfl
        simp only [Act.put, List.setIfInBounds_toArray, List.set_cons_zero, List.set_cons_succ]
        refine Held.G_ready (rs := [21]) (by decide +kernel) (by simp) ?_
        refine Held.G_last rfl (fun KK hK => ?_) Held.G_nil
        go_simp
        refine hK _ _ ?_
        clear hK KK
        refine Held.G_done (by kernel_rfl) ?_ _
        go_wp2_with fail
        go_meet
        exact ⟨congrArg Value.string HHD.out, hB4⟩
      refine Held.G_cons rfl (fun KK hK => ?_) Held.G_nil
      go_simp
      (with_reducible refine (four_int u3 p.link hlink1 hlink2).mono ?_)
      rintro e u4 ⟨rfl, hst3⟩
      have hB4 := Below.step hB3 hst3
      have hy := at_below hy hst3
      go_wp2_with fail
      refine ⟨(HC.out _ hB4), ?_⟩
      refine Held.G_ready (rs := [8]) (by decide +kernel) (by simp) ?_
      refine Held.G_cons rfl (fun KK hK => ?_) Held.G_nil
      have hcv := conv_two hy hk1 hk2 hlen2
      go_simp
      refine hK _ _ ?_
      clear hK KK hcv hy
      refine ⟨(HC.out _ hB4), ?_⟩
      refine Held.G_take (i := 12) (d := 65) (v := ?_) [12, 16, 20, 21] rfl rfl (by kernel_rfl) (by kernel_rfl) (by kernel_rfl) (by kernel_rfl) (fun _ _ _ h => h) (Or.inl ⟨by rfl, ?_⟩) (HC.out _ hB4) ?_
      rotate_left 1
      · intro w hSw; clear hSw; go_simp <;> with_reducible rfl
      simp only [Act.put, List.setIfInBounds_toArray, List.set_cons_zero, List.set_cons_succ]
      refine Held.G_take (i := 16) (d := 69) (v := ?_) [16, 20, 21] rfl rfl (by kernel_rfl) (by kernel_rfl) (by kernel_rfl) (by kernel_rfl) (fun _ _ _ h => h) (Or.inl ⟨by rfl, ?_⟩) (HC.out _ hB4) ?_
      rotate_left 1
      · intro w hSw; clear hSw; go_simp <;> with_reducible rfl
      simp only [Act.put, List.setIfInBounds_toArray, List.set_cons_zero, List.set_cons_succ]
      refine Held.G_take (i := 20) (d := 73) (v := ?_) [20, 21] rfl rfl (by kernel_rfl) (by kernel_rfl) (by kernel_rfl) (by kernel_rfl) (fun _ _ _ h => h) (Or.inl ⟨by rfl, ?_⟩) (HC.out _ hB4) ?_
      rotate_left 1
      · intro w hSw; clear hSw; go_simp <;> with_reducible rfl
      simp only [Act.put, List.setIfInBounds_toArray, List.set_cons_zero, List.set_cons_succ]
      refine Held.G_ready (rs := [21]) (by decide +kernel) (by simp) ?_
      refine Held.G_last rfl (fun KK hK => ?_) Held.G_nil
      go_simp
      refine hK _ _ ?_
      clear hK KK
      refine Held.G_done (by kernel_rfl) ?_ _
      go_wp2_with fail
      go_meet
      exact ⟨congrArg Value.string HHD.out, hB4⟩
    refine Held.G_cons rfl (fun KK hK => ?_) Held.G_nil
    go_simp
    (with_reducible refine (four_int u1 p.epoch hepoch1 hepoch2).mono ?_)
    rintro e u2 ⟨rfl, hst1⟩
    have hB2 := Below.step hB1 hst1
    go_wp2_with fail
    refine ⟨(HC.out _ hB2), ?_⟩
    refine Held.G_ready (rs := [7, 19]) (by decide +kernel) (by simp) ?_
    refine Held.G_cons rfl (fun KK hK => ?_) ?_
    · go_simp
      refine hK _ _ ?_
      clear hK KK
      obtain ⟨u3, hw⟩ : ∃ v, v = u2.alloc (.cells #[.int .u8 (IntKind.u8.wrap p.kind), .int .u8 (IntKind.u8.wrap (p.cells.length : Int))] 5) := ⟨_, rfl⟩
      rw [← hw]
      have hst2 : Below u2.heap.size u2 u3 := by rw [hw]; exact (Below.refl _ _).alloc (Nat.le_refl _) _
      have hB3 := Below.step hB2 hst2
      have hy : At u3 u2.heap.size 5 #[.int .u8 (IntKind.u8.wrap p.kind), .int .u8 (IntKind.u8.wrap (p.cells.length : Int))] := by rw [hw]; exact heap_alloc_new _ _
      clear hw
      refine ⟨(HC.out _ hB3), ?_⟩
      refine Held.G_ready (rs := [8, 19]) (by decide +kernel) (by simp) ?_
      refine Held.G_cons rfl (fun KK hK => ?_) ?_
      · have hcv := conv_two hy hk1 hk2 hlen2
        go_simp
        refine hK _ _ ?_
        clear hK KK hcv hy
        refine ⟨(HC.out _ hB3), ?_⟩
        refine Held.G_take (i := 12) (d := 65) (v := ?_) [12, 16, 20, 21] rfl rfl (by kernel_rfl) (by kernel_rfl) (by kernel_rfl) (by kernel_rfl) (fun _ _ _ h => h) (Or.inl ⟨by rfl, ?_⟩) (HC.out _ hB3) ?_
        rotate_left 1
        · intro w hSw; clear hSw; go_simp <;> with_reducible rfl
        simp only [Act.put, List.setIfInBounds_toArray, List.set_cons_zero, List.set_cons_succ]
        refine Held.G_take (i := 16) (d := 69) (v := ?_) [16, 20, 21] rfl rfl (by kernel_rfl) (by kernel_rfl) (by kernel_rfl) (by kernel_rfl) (fun _ _ _ h => h) (Or.inl ⟨by rfl, ?_⟩) (HC.out _ hB3) ?_
        rotate_left 1
        · intro w hSw; clear hSw; go_simp <;> with_reducible rfl
        simp only [Act.put, List.setIfInBounds_toArray, List.set_cons_zero, List.set_cons_succ]
        refine Held.G_ready (rs := [19]) (by decide +kernel) (by simp) ?_
        refine Held.G_cons rfl (fun KK hK => ?_) Held.G_nil
        go_simp
        (with_reducible refine (four_int u3 p.link hlink1 hlink2).mono ?_)
        rintro e u4 ⟨rfl, hst3⟩
        have hB4 := Below.step hB3 hst3
        go_wp2_with fail
        refine ⟨(HC.out _ hB4), ?_⟩
        refine Held.G_take (i := 20) (d := 73) (v := ?_) [20, 21] rfl rfl (by kernel_rfl) (by kernel_rfl) (by kernel_rfl) (by kernel_rfl) (fun _ _ _ h => h) (Or.inl ⟨by rfl, ?_⟩) (HC.out _ hB4) ?_
        rotate_left 1
        · intro w hSw; clear hSw; go_simp <;> with_reducible rfl
        simp only [Act.put, List.setIfInBounds_toArray, List.set_cons_zero, List.set_cons_succ]
        refine Held.G_ready (rs := [21]) (by decide +kernel) (by simp) ?_
        refine Held.G_last rfl (fun KK hK => ?_) Held.G_nil
        go_simp
        refine hK _ _ ?_
        clear hK KK
        refine Held.G_done (by kernel_rfl) ?_ _
        go_wp2_with fail
        go_meet
        exact ⟨congrArg Value.string HHD.out, hB4⟩
      refine Held.G_cons rfl (fun KK hK => ?_) Held.G_nil
      go_simp
      (with_reducible refine (four_int u3 p.link hlink1 hlink2).mono ?_)
      rintro e u4 ⟨rfl, hst3⟩
      have hB4 := Below.step hB3 hst3
      have hy := at_below hy hst3
      go_wp2_with fail
      refine ⟨(HC.out _ hB4), ?_⟩
      refine Held.G_ready (rs := [8]) (by decide +kernel) (by simp) ?_
      refine Held.G_cons rfl (fun KK hK => ?_) Held.G_nil
      have hcv := conv_two hy hk1 hk2 hlen2
      go_simp
      refine hK _ _ ?_
      clear hK KK hcv hy
      refine ⟨(HC.out _ hB4), ?_⟩
      refine Held.G_take (i := 12) (d := 65) (v := ?_) [12, 16, 20, 21] rfl rfl (by kernel_rfl) (by kernel_rfl) (by kernel_rfl) (by kernel_rfl) (fun _ _ _ h => h) (Or.inl ⟨by rfl, ?_⟩) (HC.out _ hB4) ?_
      rotate_left 1
      · intro w hSw; clear hSw; go_simp <;> with_reducible rfl
      simp only [Act.put, List.setIfInBounds_toArray, List.set_cons_zero, List.set_cons_succ]
      refine Held.G_take (i := 16) (d := 69) (v := ?_) [16, 20, 21] rfl rfl (by kernel_rfl) (by kernel_rfl) (by kernel_rfl) (by kernel_rfl) (fun _ _ _ h => h) (Or.inl ⟨by rfl, ?_⟩) (HC.out _ hB4) ?_
      rotate_left 1
      · intro w hSw; clear hSw; go_simp <;> with_reducible rfl
      simp only [Act.put, List.setIfInBounds_toArray, List.set_cons_zero, List.set_cons_succ]
      refine Held.G_take (i := 20) (d := 73) (v := ?_) [20, 21] rfl rfl (by kernel_rfl) (by kernel_rfl) (by kernel_rfl) (by kernel_rfl) (fun _ _ _ h => h) (Or.inl ⟨by rfl, ?_⟩) (HC.out _ hB4) ?_
      rotate_left 1
      · intro w hSw; clear hSw; go_simp <;> with_reducible rfl
      simp only [Act.put, List.setIfInBounds_toArray, List.set_cons_zero, List.set_cons_succ]
      refine Held.G_ready (rs := [21]) (by decide +kernel) (by simp) ?_
      refine Held.G_last rfl (fun KK hK => ?_) Held.G_nil
      go_simp
      refine hK _ _ ?_
      clear hK KK
      refine Held.G_done (by kernel_rfl) ?_ _
      go_wp2_with fail
      go_meet
      exact ⟨congrArg Value.string HHD.out, hB4⟩
    refine Held.G_cons rfl (fun KK hK => ?_) Held.G_nil
    go_simp
    (with_reducible refine (four_int u2 p.link hlink1 hlink2).mono ?_)
    rintro e u3 ⟨rfl, hst2⟩
    have hB3 := Below.step hB2 hst2
    go_wp2_with fail
    refine ⟨(HC.out _ hB3), ?_⟩
    refine Held.G_ready (rs := [7]) (by decide +kernel) (by simp) ?_
    refine Held.G_cons rfl (fun KK hK => ?_) Held.G_nil
    go_simp
    refine hK _ _ ?_
    clear hK KK
    obtain ⟨u4, hw⟩ : ∃ v, v = u3.alloc (.cells #[.int .u8 (IntKind.u8.wrap p.kind), .int .u8 (IntKind.u8.wrap (p.cells.length : Int))] 5) := ⟨_, rfl⟩
    rw [← hw]
    have hst3 : Below u3.heap.size u3 u4 := by rw [hw]; exact (Below.refl _ _).alloc (Nat.le_refl _) _
    have hB4 := Below.step hB3 hst3
    have hy : At u4 u3.heap.size 5 #[.int .u8 (IntKind.u8.wrap p.kind), .int .u8 (IntKind.u8.wrap (p.cells.length : Int))] := by rw [hw]; exact heap_alloc_new _ _
    clear hw
    refine ⟨(HC.out _ hB4), ?_⟩
    refine Held.G_ready (rs := [8]) (by decide +kernel) (by simp) ?_
    refine Held.G_cons rfl (fun KK hK => ?_) Held.G_nil
    have hcv := conv_two hy hk1 hk2 hlen2
    go_simp
    refine hK _ _ ?_
    clear hK KK hcv hy
    refine ⟨(HC.out _ hB4), ?_⟩
    refine Held.G_take (i := 12) (d := 65) (v := ?_) [12, 16, 20, 21] rfl rfl (by kernel_rfl) (by kernel_rfl) (by kernel_rfl) (by kernel_rfl) (fun _ _ _ h => h) (Or.inl ⟨by rfl, ?_⟩) (HC.out _ hB4) ?_
    rotate_left 1
    · intro w hSw; clear hSw; go_simp <;> with_reducible rfl
    simp only [Act.put, List.setIfInBounds_toArray, List.set_cons_zero, List.set_cons_succ]
    refine Held.G_take (i := 16) (d := 69) (v := ?_) [16, 20, 21] rfl rfl (by kernel_rfl) (by kernel_rfl) (by kernel_rfl) (by kernel_rfl) (fun _ _ _ h => h) (Or.inl ⟨by rfl, ?_⟩) (HC.out _ hB4) ?_
    rotate_left 1
    · intro w hSw; clear hSw; go_simp <;> with_reducible rfl
    simp only [Act.put, List.setIfInBounds_toArray, List.set_cons_zero, List.set_cons_succ]
    refine Held.G_take (i := 20) (d := 73) (v := ?_) [20, 21] rfl rfl (by kernel_rfl) (by kernel_rfl) (by kernel_rfl) (by kernel_rfl) (fun _ _ _ h => h) (Or.inl ⟨by rfl, ?_⟩) (HC.out _ hB4) ?_
    rotate_left 1
    · intro w hSw; clear hSw; go_simp <;> with_reducible rfl
    simp only [Act.put, List.setIfInBounds_toArray, List.set_cons_zero, List.set_cons_succ]
    refine Held.G_ready (rs := [21]) (by decide +kernel) (by simp) ?_
    refine Held.G_last rfl (fun KK hK => ?_) Held.G_nil
    go_simp
    refine hK _ _ ?_
    clear hK KK
    refine Held.G_done (by kernel_rfl) ?_ _
    go_wp2_with fail
    go_meet
    exact ⟨congrArg Value.string HHD.out, hB4⟩
  case rest =>
    obtain ⟨rfl, hbc⟩ := hcut
    clear h0 h1 h2 h3 h4
    obtain ⟨h0, h1, h2, h3, h4⟩ := HC.out _ hbc
    have hbw := Below.step hb hbc
    have hrw : Row wc wc.heap.size A (strs p.cells) := hr.belowSize hbw
    clear hsz2 hsz4 h0 h1 h2 h3 h4
    go_wp2_with fail
    go_loopw [5, 6, 7] (fun s5 s6 i wr => ∃ k : Nat, k ≤ p.cells.length ∧ i = .int .i64 k ∧ s5 = .string (tx (hd p ++ PagePlain.tab 252 (p.cells.take k))) ∧ s6 = .string (tx (rev (p.cells.take k))) ∧ Below w1.heap.size w1 wr) (fun _ _ i _ => p.cells.length - (intOf i).toNat)
    case atStart => exact ⟨0, by omega, rfl, by simp [PagePlain.tab], by simp [rev, tx], hbc⟩
    case round =>
      obtain ⟨k, hk, rfl, rfl, rfl, hbr⟩ := hrel
      obtain ⟨h0, h1, h2, h3, h4⟩ := HC.out _ hbr
      have hbW := Below.step hb hbr
      clear hbc hbw hrw
      by_cases hlt : k < p.cells.length
      · obtain ⟨ad, hA, hbl, hcell⟩ := strs_get (hr.belowSize hbW) k hlt
        have HT := Lib.hid (show rev (p.cells.take (k + 1)) = PagePlain.bl p.cells[k] ++ rev (p.cells.take k) by rw [List.take_succ_eq_append_getElem hlt, rev_snoc])
        have HTB := Lib.hid (show PagePlain.tab 252 (p.cells.take (k + 1)) = PagePlain.tab 252 (p.cells.take k) ++ [b8 (252 - tot (p.cells.take (k + 1))), b8 p.cells[k].size] by
          rw [List.take_succ_eq_append_getElem hlt, tab_snoc, tot_append]
          simp only [tot]
          rw [show 252 - tot (p.cells.take k) - p.cells[k].size = 252 - (tot (p.cells.take k) + (p.cells[k].size + 0)) by omega])
        have hbound : tot (p.cells.take k) + p.cells[k].size + 2 * k + 2 ≤ 236 := by
          have h1 := room_le p.cells (k + 1)
          have h2 : room (p.cells.take k) = 2 * k + tot (p.cells.take k) := by unfold room; rw [List.length_take, Nat.min_eq_left (by omega)]
          have h3 := room_take p.cells k hlt
          have := HRO.out
          omega
        have HTT := Lib.hid (tot_take p.cells k hlt)
        have z6 : (tx (rev (p.cells.take k))).size = tot (p.cells.take k) := by rw [tx_size, rev_len]
        have z5 : (tx (hd p ++ PagePlain.tab 252 (p.cells.take k))).size = 14 + 2 * k := by rw [tx_size, List.length_append, hd_len, tab_len, List.length_take, Nat.min_eq_left hk]
        have HQ := Lib.hid (str_tx p.cells[k] (rev (p.cells.take k)))
        rw [← HT.out] at HQ
        have HS := Lib.hid (tx_append (hd p ++ PagePlain.tab 252 (p.cells.take k)) [b8 (252 - tot (p.cells.take (k + 1))), b8 p.cells[k].size])
        rw [List.append_assoc, ← HTB.out, HTT.out] at HS
        have z7 : (tx (rev (p.cells.take (k + 1)))).size = tot (p.cells.take k) + p.cells[k].size := by rw [tx_size, rev_len, HTT.out]
        have hcv := conv_new wr [b8 (252 - (tot (p.cells.take k) + p.cells[k].size)), b8 p.cells[k].size] #[.int .u8 (252 - ((tot (p.cells.take k) : Int) + (p.cells[k].size : Int))), .int .u8 (p.cells[k].size : Int)] 2 2 (by
          have e1 : ((b8 (252 - (tot (p.cells.take k) + p.cells[k].size))).toNat : Int) = 252 - ((tot (p.cells.take k) : Int) + (p.cells[k].size : Int)) := by rw [b8_nat]; omega
          have e2 : ((b8 p.cells[k].size).toNat : Int) = p.cells[k].size := by rw [b8_nat]; omega
          simp [bv, e1, e2]) rfl
        have z2 : (tx [b8 (252 - (tot (p.cells.take k) + p.cells[k].size)), b8 p.cells[k].size]).size = 2 := rfl
        have hq := HQ.out
        have hs := HS.out
        generalize hS6 : tx (rev (p.cells.take (k + 1))) = S6' at *
        generalize hS5 : tx (hd p ++ PagePlain.tab 252 (p.cells.take (k + 1))) = S5' at *
        generalize tx [b8 (252 - (tot (p.cells.take k) + p.cells[k].size)), b8 p.cells[k].size] = S2 at *
        generalize tx (rev (p.cells.take k)) = S6 at *
        generalize tx (hd p ++ PagePlain.tab 252 (p.cells.take k)) = S5 at *
        generalize p.cells[k] = q at *
        generalize tot (p.cells.take k) = T at *
        subst hA
        have hb3 := hbr.alloc hbr.size (.cells #[.int .u8 (252 - ((T : Int) + (q.size : Int))), .int .u8 (q.size : Int)] 5)
        have H5 := Lib.hid hS5
        have H6 := Lib.hid hS6
        clear hS5 hS6
        go_wp2_with fail
        go_roundw
        case rel => exact ⟨k + 1, by omega, by go_num, by rw [H5.out], by rw [H6.out], hb3⟩
        case measure => simp [intOf]; omega
      · obtain rfl : k = p.cells.length := by omega
        rw [List.take_of_length_le (Nat.le_refl _)]
        have hm : 14 + 2 * p.cells.length + (238 - room p.cells) + tot p.cells = 252 := by have := HRO.out; unfold room at this ⊢; omega
        have z6 : (tx (rev p.cells)).size = tot p.cells := by rw [tx_size, rev_len]
        have HZ5 := Lib.hid (fun j => show (tx (hd p ++ PagePlain.tab 252 p.cells ++ zs j)).size = 14 + 2 * p.cells.length + j by
          rw [tx_size, List.length_append, List.length_append, hd_len, tab_len]; simp [zs])
        have HBO := Lib.hid (show tx (hd p ++ PagePlain.tab 252 p.cells ++ zs (238 - room p.cells)) ++ tx (rev p.cells) = tx (body p) by
          rw [tx_append]; unfold body prt; rw [List.take_of_length_le (Nat.le_refl _)]; rfl)
        have HST := Lib.hid (fun j => show tx (hd p ++ PagePlain.tab 252 p.cells ++ zs j) ++ ⟨#[0]⟩ = tx (hd p ++ PagePlain.tab 252 p.cells ++ zs (j + 1)) by
          rw [show (⟨#[0]⟩ : ByteArray) = tx [0] from rfl, tx_append, List.append_assoc _ _ [0]]
          congr 2
          simp [zs, List.replicate_succ'])
        have H0 := Lib.hid (show tx (hd p ++ PagePlain.tab 252 p.cells) = tx (hd p ++ PagePlain.tab 252 p.cells ++ zs 0) by simp [zs])
        have HOF := Lib.hid (show ∀ x : World, Calls Try.prog 28 #[.string (tx (body p))] x fun e w' => e = .returned (.int .u32 (sum (body p) : Nat)) ∧ Below x.heap.size x w' from fun x => by
          have h1 : (tx (body p)).data.toList = body p := by simp [tx]
          have := SumRef.ref_any (tx (body p)) x (by rw [tx_size, body_len p HRO.out]; omega)
          rw [show Blk.bl (tx (body p)) = body p from h1] at this
          exact this)
        have hsl := sum_lt (body p)
        have hsl2 : sum (body p) < 4294967296 := hsl
        have HFO := Lib.hid (fun x : World => four_any x (sum (body p)) hsl2)
        have zB : (tx (body p)).size = 252 := by rw [tx_size, body_len p HRO.out]
        have zF : (tx (be4 (sum (body p)))).size = 4 := rfl
        have HPG := Lib.hid (show tx (body p) ++ tx (be4 (sum (body p))) = tx (page p) from tx_append _ _)
        clear hk1 hk2 hno1 hno2 hepoch1 hepoch2 hlink1 hlink2 hsl
        generalize hPG : tx (page p) = PG at *
        have HG := Lib.hid hPG
        clear hPG
        generalize tx (be4 (sum (body p))) = FO at *
        generalize sum (body p) = sm at *
        generalize tx (body p) = BO at *
        generalize tx (rev p.cells) = S6 at *
        generalize hgen : (fun j => tx (hd p ++ PagePlain.tab 252 p.cells ++ zs j)) = fs at *
        have hfs : ∀ j, tx (hd p ++ PagePlain.tab 252 p.cells ++ zs j) = fs j := fun j => by rw [← hgen]
        simp only [hfs] at HZ5 HBO HST H0
        rw [H0.out]
        clear hgen hfs H0
        generalize room p.cells = r at *
        generalize tot p.cells = T at *
        generalize p.cells.length = n at *
        go_wp2_with fail
        go_loop [5] (fun s5 => ∃ j : Nat, j ≤ 238 - r ∧ s5 = .string (fs j)) (fun s5 => 300 - szOf s5)
        case atStart => exact ⟨0, by omega, rfl⟩
        case round =>
          obtain ⟨j, hj, rfl⟩ := hrel
          have z5 := HZ5.out j
          have z5' := HZ5.out (j + 1)
          by_cases hlt : j < 238 - r
          · have hst := HST.out j
            generalize fs j = S5 at *
            go_wp2_with fail
            go_round
            case rel => exact ⟨j + 1, by omega, rfl⟩
            case measure => simp only [szOf]; omega
          · obtain rfl : j = 238 - r := by omega
            have hbo := HBO.out
            generalize fs (238 - r) = S5 at *
            have hof := HOF.out wr
            go_wp2_with fail
            refine hof.mono ?_
            rintro e w6 ⟨rfl, b6⟩
            have hfo := HFO.out w6
            have hpg := HPG.out
            clear hof
            go_wp2_with fail
            refine hfo.mono ?_
            rintro e w7 ⟨rfl, b7⟩
            clear hfo
            go_wp2_with fail
            go_ret2
            exact ⟨by have e := HG.out; subst e; rfl, Below.step (Below.step hbW b6) b7⟩
end Go.Proofs.Ytcnblgienombeaa.PageRefPut
