/- The walk of PagePuts. -/
import Derived.Test.YtlcnnebnocjelaaPageOne
import Derived.Test.YtlcnnebnocjelaaPageRefPut
import Derived.Test.YtlcnnebnocjelaaPageApart
namespace Go.Proofs.Ytlcnnebnocjelaa.PagePuts
open Go.RowKit Base PagePlain PageSmall PageBytes PageLay PagePut PageTold PageTold2 PageGet PageSame PageSame2 PageRef PageAwake PageRooms PageSameL PageOne PageApart PageFour PageRefPut1 PageRefPut SumMem SumFill SumOf SumPlain

theorem rput_any (w : World) (p : Pg) (A : Option Addr) (c : Nat) (hr : Row w w.heap.size A (strs p.cells)) (hl : p.cells.length ≤ 1000) (hz : ∀ q ∈ p.cells, q.size ≤ 1000) (he : err p ≠ 0) :
    Calls Try.prog 14 #[pv p A c] w fun e w' => e = .returned (.tuple #[.string ⟨#[]⟩, .int .i64 (err p)]) ∧ Below w.heap.size w w' := by
  by_cases h : room p.cells ≤ 236
  · have hno : ¬ PgOk p := fun q => he ((err_zero p).2 ⟨h, q⟩)
    have e1 : err p = 41 := by unfold err; rw [if_pos h, if_neg hno]
    rw [e1]
    exact rput_form w p A c hr hl hz h hno
  · have e1 : err p = 40 := by unfold err; rw [if_neg h]
    rw [e1]
    exact rput_long w p A c hr hl hz h
theorem conv_nil (w : World) : (convert 29 9 (.slice none 0 0)).run Try.prog w = .ok (.string ⟨#[]⟩) w :=
  conv_bytes (P := Try.prog) (l := []) (B := 0) Try.underlying29 Try.underlying5 Try.underlying9 0 Row.nil
set_option maxRecDepth 100000 in
set_option maxHeartbeats 6400000 in
theorem PagePuts_walk (p : Pg) (A : Option Addr) (c : Nat) (W : World) (hA : Row W W.heap.size A (strs p.cells)) (hx : p.cells.length ≤ maxLen) :
    Calls Try.prog 3 #[pv p A c] W (Law W) := by
  have hnot : ∀ (x : Bool) (w : World), (Op.unary .not (.bool x)).run Try.prog w = .ok (.bool (!x)) w := fun _ _ => rfl
  by_cases f1 : Few p.cells
  · have hfa := fun (x : World) (h : Row x x.heap.size A (strs p.cells)) => few_page x p A c h hx true ⟨fun _ => f1, fun _ => rfl⟩
    have hpl : p.cells.length ≤ 1000 := Nat.le_trans f1.1 (by omega)
    have hpz : ∀ z ∈ p.cells, z.size ≤ 1000 := fun z hz => Nat.le_trans (f1.2 z hz) (by omega)
    clear f1
    by_cases e1 : err p = 0
    · have hro := (err_zero p).1 e1
      have HPL := Lib.hid (page_len p hro.1)
      have HGE := Lib.hid (gotE_page p e1)
      go_enter Try.func3, Try.ntmps3
      go_wp2_with fail
      refine (one_new W p A c hA).mono ?_
      rintro e w1 ⟨g, rfl, r1, t1⟩
      go_wp2_with fail
      refine (awake_any w1).mono ?_
      rintro e w2 ⟨rfl, b2⟩
      have t2 := t1.below b2
      have r2 := r1.below b2
      clear t1 r1 b2
      obtain ⟨h0, h1, h2, h3, h4⟩ := t2.facts
      go_wp2_with fail
      refine (hfa w2 (rowX_row t2.ra)).mono ?_
      rintro e w3 ⟨rfl, b3⟩
      have t3 := t2.below b3
      have r3 := r2.below b3
      clear h0 h1 h2 h3 h4 t2 r2 b3
      obtain ⟨h0, h1, h2, h3, h4⟩ := t3.facts
      go_wp2_with fail
      refine (put_any g 0 w3 p A c r3 (by omega) (by omega) t3.ra hpl hpz).mono ?_
      rintro e w4 ⟨hok, hbad⟩
      clear h0 h1 h2 h3 h4
      obtain ⟨x, rfl, hxw, ax, r4, o4⟩ := hok e1
      have t4 := t3.only o4
      have hxg : x ≠ g := by have := t3.gx; omega
      have hrp := rput_good w4 p A c (rowX_row t4.ra) hpl hpz hro.1 hro.2
      obtain ⟨h0, h1, h2, h3, h4⟩ := t4.facts
      clear hbad hok t3 r3 o4 hfa hro
      go_wp2_with fail
      refine hrp.mono ?_
      rintro e w5 ⟨rfl, b5⟩
      have t5 := t4.below b5
      have T5 := Lib.hid t5
      have R5 := Lib.hid (Ready.below r4 b5)
      have X5 := Lib.hid (Arr.below ax b5)
      have HRM := Lib.hid (room_any w5.drew A p.cells.length c p.cells rfl (rowX_row t5.drew.ra) hpl hpz)
      have HRR := Lib.hid (rroom_any w5.drew A p.cells.length c p.cells rfl (rowX_row t5.drew.ra) hpl hpz)
      have HFM := Lib.hid (fits_any w5.drew A p.cells.length c p.cells rfl (rowX_row t5.drew.ra) hpl hpz)
      have HFR := Lib.hid (rfits_any w5.drew A p.cells.length c p.cells rfl (rowX_row t5.drew.ra) hpl hpz)
      clear hrp t4 b5 ax r4 t5 hpl hpz h0 h1 h2 h3 h4
      go_upto_region 6 with fail
      refine wp_region_any (by kernel_rfl) ?_
      change wpAny _ _ _ _ _ _ _ (World.drew _)
      refine Held.any_of_G (S := (fun w' : World => w'.cell? ⟨W.heap.size, 0, none⟩ = some (.int .i64 p.kind) ∧ w'.cell? ⟨W.heap.size, 1, none⟩ = some (.int .i64 p.no) ∧ w'.cell? ⟨W.heap.size, 2, none⟩ = some (.int .i64 p.epoch) ∧ w'.cell? ⟨W.heap.size, 3, none⟩ = some (.int .i64 p.link) ∧ w'.cell? ⟨W.heap.size, 4, none⟩ = some (.slice A p.cells.length c))) (z := 26) _ _ _ _ ?_
      refine Held.G_take (i := 0) (d := 34) (v := ?_) [0, 1, 3, 4, 5, 6, 7, 8, 9, 10, 11, 12, 13, 14, 15, 16, 17, 18, 19, 20, 21, 22, 23, 24, 25, 26] rfl rfl (by kernel_rfl) (by kernel_rfl) (by kernel_rfl) (by kernel_rfl) (fun _ _ _ h => h) (Or.inl ⟨by rfl, ?_⟩) T5.out.drew.facts ?_
      rotate_left 1
      · intro w hSw; clear hSw; go_simp <;> with_reducible rfl
      simp only [Act.put, List.setIfInBounds_toArray, List.set_cons_zero, List.set_cons_succ]
      refine Held.G_take (i := 2) (d := 36) (v := ?_) [2, 3, 4, 5, 6, 7, 8, 9, 10, 11, 12, 13, 14, 15, 16, 17, 18, 19, 20, 21, 22, 23, 24, 25, 26] rfl rfl (by kernel_rfl) (by kernel_rfl) (by kernel_rfl) (by kernel_rfl) (fun _ _ _ h => h) (Or.inl ⟨by rfl, ?_⟩) T5.out.drew.facts ?_
      rotate_left 1
      · intro w hSw; clear hSw; go_simp <;> with_reducible rfl
      simp only [Act.put, List.setIfInBounds_toArray, List.set_cons_zero, List.set_cons_succ]
      refine Held.G_ready (rs := [1]) (by decide +kernel) (by simp) ?_
      refine Held.G_cons rfl (fun KK hK => ?_) Held.G_nil
      have hcv := (show (convert 29 9 (.slice (some ⟨x, 0, none⟩) 256 256)).run Try.prog w5.drew = .ok (.string (tx (page p))) w5.drew from conv_page (show Arr w5.drew x 65 (page p) from X5.out) HPL.out)
      go_simp
      refine hK _ _ ?_
      clear hK KK hcv
      refine ⟨T5.out.drew.facts, ?_⟩
      refine Held.G_take (i := 3) (d := 37) (v := ?_) [3, 4, 5, 6, 7, 8, 9, 10, 11, 12, 13, 14, 15, 16, 17, 18, 19, 20, 21, 22, 23, 24, 25, 26] rfl rfl (by kernel_rfl) (by kernel_rfl) (by kernel_rfl) (by kernel_rfl) (fun _ _ _ h => h) (Or.inl ⟨by rfl, ?_⟩) T5.out.drew.facts ?_
      rotate_left 1
      · intro w hSw; clear hSw; go_simp <;> with_reducible rfl
      simp only [Act.put, List.setIfInBounds_toArray, List.set_cons_zero, List.set_cons_succ]
      refine Held.G_take (i := 4) (d := 38) (v := ?_) [4, 5, 6, 7, 8, 9, 10, 11, 12, 13, 14, 15, 16, 17, 18, 19, 20, 21, 22, 23, 24, 25, 26] rfl rfl (by kernel_rfl) (by kernel_rfl) (by kernel_rfl) (by kernel_rfl) (fun _ _ _ h => h) (Or.inl ⟨by rfl, ?_⟩) T5.out.drew.facts ?_
      rotate_left 1
      · intro w hSw; clear hSw; go_simp <;> with_reducible rfl
      simp only [Act.put, List.setIfInBounds_toArray, List.set_cons_zero, List.set_cons_succ]
      refine Held.G_take (i := 5) (d := 39) (v := ?_) [5, 7, 8, 9, 10, 11, 12, 13, 14, 15, 16, 17, 18, 19, 20, 21, 22, 23, 24, 25, 26] rfl rfl (by kernel_rfl) (by kernel_rfl) (by kernel_rfl) (by kernel_rfl) (fun _ _ _ h => h) (Or.inl ⟨by rfl, ?_⟩) T5.out.drew.facts ?_
      rotate_left 1
      · intro w hSw; clear hSw; go_simp <;> with_reducible rfl
      simp only [Act.put, List.setIfInBounds_toArray, List.set_cons_zero, List.set_cons_succ]
      refine Held.G_take (i := 6) (d := 40) (v := ?_) [6, 7, 8, 9, 10, 11, 12, 13, 14, 15, 16, 17, 18, 19, 20, 21, 22, 23, 24, 25, 26] rfl rfl (by kernel_rfl) (by kernel_rfl) (by kernel_rfl) (by kernel_rfl) (fun _ _ _ h => h) (Or.inl ⟨by rfl, ?_⟩) T5.out.drew.facts ?_
      rotate_left 1
      · intro w hSw; clear hSw; go_simp <;> with_reducible rfl
      simp only [Act.put, List.setIfInBounds_toArray, List.set_cons_zero, List.set_cons_succ]
      refine Held.G_take (i := 7) (d := 41) (v := ?_) [7, 8, 9, 10, 11, 12, 13, 14, 15, 16, 17, 18, 19, 20, 21, 22, 23, 24, 25, 26] rfl rfl (by kernel_rfl) (by kernel_rfl) (by kernel_rfl) (by kernel_rfl) (fun _ _ _ h => h) (Or.inl ⟨by rfl, ?_⟩) T5.out.drew.facts ?_
      rotate_left 1
      · intro w hSw; clear hSw; go_simp <;> with_reducible rfl
      simp only [Act.put, List.setIfInBounds_toArray, List.set_cons_zero, List.set_cons_succ]
      refine Held.G_take (i := 8) (d := 42) (v := ?_) [8, 9, 10, 11, 12, 13, 14, 15, 16, 17, 18, 19, 20, 21, 22, 23, 24, 25, 26] rfl rfl (by kernel_rfl) (by kernel_rfl) (by kernel_rfl) (by kernel_rfl) (fun _ _ _ h => h) (Or.inl ⟨by rfl, ?_⟩) T5.out.drew.facts ?_
      rotate_left 1
      · intro w hSw; clear hSw; go_simp <;> with_reducible rfl
      simp only [Act.put, List.setIfInBounds_toArray, List.set_cons_zero, List.set_cons_succ]
      refine Held.G_take (i := 9) (d := 43) (v := ?_) [9, 10, 11, 12, 13, 14, 15, 16, 17, 18, 19, 20, 21, 22, 23, 24, 25, 26] rfl rfl (by kernel_rfl) (by kernel_rfl) (by kernel_rfl) (by kernel_rfl) (fun _ _ _ h => h) (Or.inl ⟨by rfl, ?_⟩) T5.out.drew.facts ?_
      rotate_left 1
      · intro w hSw; clear hSw; go_simp <;> with_reducible rfl
      simp only [Act.put, List.setIfInBounds_toArray, List.set_cons_zero, List.set_cons_succ]
      refine Held.G_take (i := 10) (d := 44) (v := ?_) [10, 11, 12, 15, 16, 17, 18, 19, 20, 21, 22, 23, 24, 25, 26] rfl rfl (by kernel_rfl) (by kernel_rfl) (by kernel_rfl) (by kernel_rfl) (fun _ _ _ h => h) (Or.inl ⟨by rfl, ?_⟩) T5.out.drew.facts ?_
      rotate_left 1
      · intro w hSw; clear hSw; go_simp <;> with_reducible rfl
      simp only [Act.put, List.setIfInBounds_toArray, List.set_cons_zero, List.set_cons_succ]
      refine Held.G_take (i := 11) (d := 45) (v := ?_) [11, 12, 15, 16, 17, 18, 19, 20, 21, 22, 23, 24, 25, 26] rfl rfl (by kernel_rfl) (by kernel_rfl) (by kernel_rfl) (by kernel_rfl) (fun _ _ _ h => h) (Or.inl ⟨by rfl, ?_⟩) T5.out.drew.facts ?_
      rotate_left 1
      · intro w hSw; obtain ⟨h0, h1, h2, h3, h4⟩ := hSw; go_simp <;> with_reducible rfl
      simp only [Act.put, List.setIfInBounds_toArray, List.set_cons_zero, List.set_cons_succ]
      refine Held.G_take (i := 13) (d := 47) (v := ?_) [13, 14, 15, 16, 17, 18, 19, 20, 21, 22, 23, 24, 25, 26] rfl rfl (by kernel_rfl) (by kernel_rfl) (by kernel_rfl) (by kernel_rfl) (fun _ _ _ h => h) (Or.inl ⟨by rfl, ?_⟩) T5.out.drew.facts ?_
      rotate_left 1
      · intro w hSw; clear hSw; go_simp <;> with_reducible rfl
      simp only [Act.put, List.setIfInBounds_toArray, List.set_cons_zero, List.set_cons_succ]
      refine Held.G_take (i := 14) (d := 48) (v := ?_) [14, 15, 16, 17, 18, 19, 20, 21, 22, 23, 24, 25, 26] rfl rfl (by kernel_rfl) (by kernel_rfl) (by kernel_rfl) (by kernel_rfl) (fun _ _ _ h => h) (Or.inl ⟨by rfl, ?_⟩) T5.out.drew.facts ?_
      rotate_left 1
      · intro w hSw; obtain ⟨h0, h1, h2, h3, h4⟩ := hSw; go_simp <;> with_reducible rfl
      simp only [Act.put, List.setIfInBounds_toArray, List.set_cons_zero, List.set_cons_succ]
      refine Held.G_ready (rs := [12]) (by decide +kernel) (by simp) ?_
      refine Held.G_cons rfl (fun KK hK => ?_) Held.G_nil
      go_simp
      (with_reducible refine (HRM.out).mono ?_)
      rintro e w' ⟨rfl, rfl⟩
      go_wp2_with fail
      refine ⟨T5.out.drew.facts, ?_⟩
      refine Held.G_ready (rs := [15]) (by decide +kernel) (by simp) ?_
      refine Held.G_cons rfl (fun KK hK => ?_) Held.G_nil
      go_simp
      (with_reducible refine (HRR.out).mono ?_)
      rintro e w' ⟨rfl, rfl⟩
      go_wp2_with fail
      refine ⟨T5.out.drew.facts, ?_⟩
      refine Held.G_take (i := 16) (d := 50) (v := ?_) [16, 17, 18, 19, 20, 21, 22, 23, 24, 25, 26] rfl rfl (by kernel_rfl) (by kernel_rfl) (by kernel_rfl) (by kernel_rfl) (fun _ _ _ h => h) (Or.inl ⟨by rfl, ?_⟩) T5.out.drew.facts ?_
      rotate_left 1
      · intro w hSw; clear hSw; go_simp <;> with_reducible rfl
      simp only [Act.put, List.setIfInBounds_toArray, List.set_cons_zero, List.set_cons_succ]
      refine Held.G_take (i := 17) (d := 51) (v := ?_) [17, 18, 19, 20, 21, 22, 23, 24, 25, 26] rfl rfl (by kernel_rfl) (by kernel_rfl) (by kernel_rfl) (by kernel_rfl) (fun _ _ _ h => h) (Or.inl ⟨by rfl, ?_⟩) T5.out.drew.facts ?_
      rotate_left 1
      · intro w hSw; clear hSw; go_simp <;> with_reducible rfl
      simp only [Act.put, List.setIfInBounds_toArray, List.set_cons_zero, List.set_cons_succ]
      refine Held.G_take (i := 18) (d := 52) (v := ?_) [18, 19, 20, 21, 22, 23, 24, 25, 26] rfl rfl (by kernel_rfl) (by kernel_rfl) (by kernel_rfl) (by kernel_rfl) (fun _ _ _ h => h) (Or.inl ⟨by rfl, ?_⟩) T5.out.drew.facts ?_
      rotate_left 1
      · intro w hSw; clear hSw; go_simp <;> with_reducible rfl
      simp only [Act.put, List.setIfInBounds_toArray, List.set_cons_zero, List.set_cons_succ]
      refine Held.G_take (i := 19) (d := 53) (v := ?_) [19, 20, 21, 24, 25, 26] rfl rfl (by kernel_rfl) (by kernel_rfl) (by kernel_rfl) (by kernel_rfl) (fun _ _ _ h => h) (Or.inl ⟨by rfl, ?_⟩) T5.out.drew.facts ?_
      rotate_left 1
      · intro w hSw; clear hSw; go_simp <;> with_reducible rfl
      simp only [Act.put, List.setIfInBounds_toArray, List.set_cons_zero, List.set_cons_succ]
      refine Held.G_take (i := 20) (d := 54) (v := ?_) [20, 21, 24, 25, 26] rfl rfl (by kernel_rfl) (by kernel_rfl) (by kernel_rfl) (by kernel_rfl) (fun _ _ _ h => h) (Or.inl ⟨by rfl, ?_⟩) T5.out.drew.facts ?_
      rotate_left 1
      · intro w hSw; obtain ⟨h0, h1, h2, h3, h4⟩ := hSw; go_simp <;> with_reducible rfl
      simp only [Act.put, List.setIfInBounds_toArray, List.set_cons_zero, List.set_cons_succ]
      refine Held.G_take (i := 22) (d := 56) (v := ?_) [22, 23, 24, 25, 26] rfl rfl (by kernel_rfl) (by kernel_rfl) (by kernel_rfl) (by kernel_rfl) (fun _ _ _ h => h) (Or.inl ⟨by rfl, ?_⟩) T5.out.drew.facts ?_
      rotate_left 1
      · intro w hSw; clear hSw; go_simp <;> with_reducible rfl
      simp only [Act.put, List.setIfInBounds_toArray, List.set_cons_zero, List.set_cons_succ]
      refine Held.G_take (i := 23) (d := 57) (v := ?_) [23, 24, 25, 26] rfl rfl (by kernel_rfl) (by kernel_rfl) (by kernel_rfl) (by kernel_rfl) (fun _ _ _ h => h) (Or.inl ⟨by rfl, ?_⟩) T5.out.drew.facts ?_
      rotate_left 1
      · intro w hSw; obtain ⟨h0, h1, h2, h3, h4⟩ := hSw; go_simp <;> with_reducible rfl
      simp only [Act.put, List.setIfInBounds_toArray, List.set_cons_zero, List.set_cons_succ]
      refine Held.G_ready (rs := [21]) (by decide +kernel) (by simp) ?_
      refine Held.G_cons rfl (fun KK hK => ?_) Held.G_nil
      go_simp
      (with_reducible refine (HFM.out).mono ?_)
      rintro e w' ⟨rfl, rfl⟩
      go_wp2_with fail
      refine ⟨T5.out.drew.facts, ?_⟩
      refine Held.G_ready (rs := [24]) (by decide +kernel) (by simp) ?_
      refine Held.G_cons rfl (fun KK hK => ?_) Held.G_nil
      go_simp
      (with_reducible refine (HFR.out).mono ?_)
      rintro e w' ⟨rfl, rfl⟩
      go_wp2_with fail
      refine ⟨T5.out.drew.facts, ?_⟩
      refine Held.G_take (i := 25) (d := 59) (v := ?_) [25, 26] rfl rfl (by kernel_rfl) (by kernel_rfl) (by kernel_rfl) (by kernel_rfl) (fun _ _ _ h => h) (Or.inl ⟨by rfl, ?_⟩) T5.out.drew.facts ?_
      rotate_left 1
      · intro w hSw; clear hSw; go_simp <;> with_reducible rfl
      simp only [Act.put, List.setIfInBounds_toArray, List.set_cons_zero, List.set_cons_succ]
      refine Held.G_ready (rs := [26]) (by decide +kernel) (by simp) ?_
      refine Held.G_last rfl (fun KK hK => ?_) Held.G_nil
      go_simp
      refine hK _ _ ?_
      clear hK KK
      refine Held.G_done (by kernel_rfl) ?_ _
      have t5 := T5.out.drew
      obtain ⟨h0, h1, h2, h3, h4⟩ := t5.facts
      clear h0 h1 h2 h3 h4
      have hget := get_256 g (0 + 252) w5.drew ⟨x, 0, none⟩ 256 256 (page p) (ready_drew R5.out) (by omega) (by omega) (Arr.rowX (show Arr w5.drew x 65 (page p) from X5.out) hxg) HPL.out.symm HPL.out (by rw [HPL.out]; omega)
      go_wp2_with fail
      refine hget.mono ?_
      rintro e w6 ⟨_, o6, he⟩
      rw [HGE.out] at he
      simp only at he
      obtain ⟨A', c', rfl, hown⟩ := he
      have t6 := t5.only o6
      clear hget o6 t5
      have hbz : Below w6.heap.size w6 (w6.alloc (.cells #[.int .i64 p.kind, .int .i64 p.no, .int .i64 p.epoch, .int .i64 p.link, .slice A' p.cells.length c'] 24)) := (Below.refl _ _).alloc (Nat.le_refl _) _
      have t7 := t6.below hbz
      have hown7 := hown.later hbz
      obtain ⟨h0, h1, h2, h3, h4⟩ := t7.facts
      have hs := rsame_any (w6.alloc (.cells #[.int .i64 p.kind, .int .i64 p.no, .int .i64 p.epoch, .int .i64 p.link, .slice A' p.cells.length c'] 24)) p p A A' c c' (rowX_row t7.ra) hown7.row hx
      rw [same_self] at hs
      clear hbz hown hown7 t6
      go_wp2_with fail
      refine hs.mono ?_
      rintro e w8 ⟨rfl, b8⟩
      have t8 := t7.below b8
      clear hs t7 b8 h0 h1 h2 h3 h4
      go_wp2_with fail
      go_ret
      exact ⟨rfl, t8.bl⟩
    · have e1b : (err p != 0) = true := by simpa using e1
      go_enter Try.func3, Try.ntmps3
      go_wp2_with fail
      refine (one_new W p A c hA).mono ?_
      rintro e w1 ⟨g, rfl, r1, t1⟩
      go_wp2_with fail
      refine (awake_any w1).mono ?_
      rintro e w2 ⟨rfl, b2⟩
      have t2 := t1.below b2
      have r2 := r1.below b2
      clear t1 r1 b2
      obtain ⟨h0, h1, h2, h3, h4⟩ := t2.facts
      go_wp2_with fail
      refine (hfa w2 (rowX_row t2.ra)).mono ?_
      rintro e w3 ⟨rfl, b3⟩
      have t3 := t2.below b3
      have r3 := r2.below b3
      clear h0 h1 h2 h3 h4 t2 r2 b3
      obtain ⟨h0, h1, h2, h3, h4⟩ := t3.facts
      go_wp2_with fail
      refine (put_any g 0 w3 p A c r3 (by omega) (by omega) t3.ra hpl hpz).mono ?_
      rintro e w4 ⟨hok, hbad⟩
      clear h0 h1 h2 h3 h4
      obtain ⟨rfl, r4, o4⟩ := hbad e1
      have t4 := t3.only o4
      have hrp := rput_any w4 p A c (rowX_row t4.ra) hpl hpz e1
      obtain ⟨h0, h1, h2, h3, h4⟩ := t4.facts
      clear hbad hok t3 r3 o4 hfa
      generalize err p = ep at *
      go_wp2_with fail
      refine hrp.mono ?_
      rintro e w5 ⟨rfl, b5⟩
      have t5 := t4.below b5
      have T5 := Lib.hid t5
      have HRM := Lib.hid (room_any w5.drew A p.cells.length c p.cells rfl (rowX_row t5.drew.ra) hpl hpz)
      have HRR := Lib.hid (rroom_any w5.drew A p.cells.length c p.cells rfl (rowX_row t5.drew.ra) hpl hpz)
      have HFM := Lib.hid (fits_any w5.drew A p.cells.length c p.cells rfl (rowX_row t5.drew.ra) hpl hpz)
      have HFR := Lib.hid (rfits_any w5.drew A p.cells.length c p.cells rfl (rowX_row t5.drew.ra) hpl hpz)
      clear hrp t4 b5 r4 t5 hpl hpz h0 h1 h2 h3 h4
      go_upto_region 6 with fail
      refine wp_region_any (by kernel_rfl) ?_
      change wpAny _ _ _ _ _ _ _ (World.drew _)
      refine Held.any_of_G (S := (fun w' : World => w'.cell? ⟨W.heap.size, 0, none⟩ = some (.int .i64 p.kind) ∧ w'.cell? ⟨W.heap.size, 1, none⟩ = some (.int .i64 p.no) ∧ w'.cell? ⟨W.heap.size, 2, none⟩ = some (.int .i64 p.epoch) ∧ w'.cell? ⟨W.heap.size, 3, none⟩ = some (.int .i64 p.link) ∧ w'.cell? ⟨W.heap.size, 4, none⟩ = some (.slice A p.cells.length c))) (z := 26) _ _ _ _ ?_
      refine Held.G_take (i := 0) (d := 34) (v := ?_) [0, 1, 3, 4, 5, 6, 7, 8, 9, 10, 11, 12, 13, 14, 15, 16, 17, 18, 19, 20, 21, 22, 23, 24, 25, 26] rfl rfl (by kernel_rfl) (by kernel_rfl) (by kernel_rfl) (by kernel_rfl) (fun _ _ _ h => h) (Or.inl ⟨by rfl, ?_⟩) T5.out.drew.facts ?_
      rotate_left 1
      · intro w hSw; clear hSw; go_simp <;> with_reducible rfl
      simp only [Act.put, List.setIfInBounds_toArray, List.set_cons_zero, List.set_cons_succ]
      refine Held.G_take (i := 2) (d := 36) (v := ?_) [2, 3, 4, 5, 6, 7, 8, 9, 10, 11, 12, 13, 14, 15, 16, 17, 18, 19, 20, 21, 22, 23, 24, 25, 26] rfl rfl (by kernel_rfl) (by kernel_rfl) (by kernel_rfl) (by kernel_rfl) (fun _ _ _ h => h) (Or.inl ⟨by rfl, ?_⟩) T5.out.drew.facts ?_
      rotate_left 1
      · intro w hSw; clear hSw; go_simp <;> with_reducible rfl
      simp only [Act.put, List.setIfInBounds_toArray, List.set_cons_zero, List.set_cons_succ]
      refine Held.G_ready (rs := [1]) (by decide +kernel) (by simp) ?_
      refine Held.G_cons rfl (fun KK hK => ?_) Held.G_nil
      have hcv := conv_nil w5.drew
      go_simp
      refine hK _ _ ?_
      clear hK KK hcv
      refine ⟨T5.out.drew.facts, ?_⟩
      refine Held.G_take (i := 3) (d := 37) (v := ?_) [3, 4, 5, 6, 7, 8, 9, 10, 11, 12, 13, 14, 15, 16, 17, 18, 19, 20, 21, 22, 23, 24, 25, 26] rfl rfl (by kernel_rfl) (by kernel_rfl) (by kernel_rfl) (by kernel_rfl) (fun _ _ _ h => h) (Or.inl ⟨by rfl, ?_⟩) T5.out.drew.facts ?_
      rotate_left 1
      · intro w hSw; clear hSw; go_simp <;> with_reducible rfl
      simp only [Act.put, List.setIfInBounds_toArray, List.set_cons_zero, List.set_cons_succ]
      refine Held.G_take (i := 4) (d := 38) (v := ?_) [4, 5, 6, 7, 8, 9, 10, 11, 12, 13, 14, 15, 16, 17, 18, 19, 20, 21, 22, 23, 24, 25, 26] rfl rfl (by kernel_rfl) (by kernel_rfl) (by kernel_rfl) (by kernel_rfl) (fun _ _ _ h => h) (Or.inl ⟨by rfl, ?_⟩) T5.out.drew.facts ?_
      rotate_left 1
      · intro w hSw; clear hSw; go_simp <;> with_reducible rfl
      simp only [Act.put, List.setIfInBounds_toArray, List.set_cons_zero, List.set_cons_succ]
      refine Held.G_take (i := 5) (d := 39) (v := ?_) [5, 7, 8, 9, 10, 11, 12, 13, 14, 15, 16, 17, 18, 19, 20, 21, 22, 23, 24, 25, 26] rfl rfl (by kernel_rfl) (by kernel_rfl) (by kernel_rfl) (by kernel_rfl) (fun _ _ _ h => h) (Or.inl ⟨by rfl, ?_⟩) T5.out.drew.facts ?_
      rotate_left 1
      · intro w hSw; clear hSw; go_simp <;> with_reducible rfl
      simp only [Act.put, List.setIfInBounds_toArray, List.set_cons_zero, List.set_cons_succ]
      refine Held.G_take (i := 6) (d := 40) (v := ?_) [6, 7, 8, 9, 10, 11, 12, 13, 14, 15, 16, 17, 18, 19, 20, 21, 22, 23, 24, 25, 26] rfl rfl (by kernel_rfl) (by kernel_rfl) (by kernel_rfl) (by kernel_rfl) (fun _ _ _ h => h) (Or.inl ⟨by rfl, ?_⟩) T5.out.drew.facts ?_
      rotate_left 1
      · intro w hSw; clear hSw; go_simp <;> with_reducible rfl
      simp only [Act.put, List.setIfInBounds_toArray, List.set_cons_zero, List.set_cons_succ]
      refine Held.G_take (i := 7) (d := 41) (v := ?_) [7, 8, 9, 10, 11, 12, 13, 14, 15, 16, 17, 18, 19, 20, 21, 22, 23, 24, 25, 26] rfl rfl (by kernel_rfl) (by kernel_rfl) (by kernel_rfl) (by kernel_rfl) (fun _ _ _ h => h) (Or.inl ⟨by rfl, ?_⟩) T5.out.drew.facts ?_
      rotate_left 1
      · intro w hSw; clear hSw; go_simp <;> with_reducible rfl
      simp only [Act.put, List.setIfInBounds_toArray, List.set_cons_zero, List.set_cons_succ]
      refine Held.G_take (i := 8) (d := 42) (v := ?_) [8, 9, 10, 11, 12, 13, 14, 15, 16, 17, 18, 19, 20, 21, 22, 23, 24, 25, 26] rfl rfl (by kernel_rfl) (by kernel_rfl) (by kernel_rfl) (by kernel_rfl) (fun _ _ _ h => h) (Or.inl ⟨by rfl, ?_⟩) T5.out.drew.facts ?_
      rotate_left 1
      · intro w hSw; clear hSw; go_simp <;> with_reducible rfl
      simp only [Act.put, List.setIfInBounds_toArray, List.set_cons_zero, List.set_cons_succ]
      refine Held.G_take (i := 9) (d := 43) (v := ?_) [9, 10, 11, 12, 13, 14, 15, 16, 17, 18, 19, 20, 21, 22, 23, 24, 25, 26] rfl rfl (by kernel_rfl) (by kernel_rfl) (by kernel_rfl) (by kernel_rfl) (fun _ _ _ h => h) (Or.inl ⟨by rfl, ?_⟩) T5.out.drew.facts ?_
      rotate_left 1
      · intro w hSw; clear hSw; go_simp <;> with_reducible rfl
      simp only [Act.put, List.setIfInBounds_toArray, List.set_cons_zero, List.set_cons_succ]
      refine Held.G_take (i := 10) (d := 44) (v := ?_) [10, 11, 12, 15, 16, 17, 18, 19, 20, 21, 22, 23, 24, 25, 26] rfl rfl (by kernel_rfl) (by kernel_rfl) (by kernel_rfl) (by kernel_rfl) (fun _ _ _ h => h) (Or.inl ⟨by rfl, ?_⟩) T5.out.drew.facts ?_
      rotate_left 1
      · intro w hSw; clear hSw; go_simp <;> with_reducible rfl
      simp only [Act.put, List.setIfInBounds_toArray, List.set_cons_zero, List.set_cons_succ]
      refine Held.G_take (i := 11) (d := 45) (v := ?_) [11, 12, 15, 16, 17, 18, 19, 20, 21, 22, 23, 24, 25, 26] rfl rfl (by kernel_rfl) (by kernel_rfl) (by kernel_rfl) (by kernel_rfl) (fun _ _ _ h => h) (Or.inl ⟨by rfl, ?_⟩) T5.out.drew.facts ?_
      rotate_left 1
      · intro w hSw; obtain ⟨h0, h1, h2, h3, h4⟩ := hSw; go_simp <;> with_reducible rfl
      simp only [Act.put, List.setIfInBounds_toArray, List.set_cons_zero, List.set_cons_succ]
      refine Held.G_take (i := 13) (d := 47) (v := ?_) [13, 14, 15, 16, 17, 18, 19, 20, 21, 22, 23, 24, 25, 26] rfl rfl (by kernel_rfl) (by kernel_rfl) (by kernel_rfl) (by kernel_rfl) (fun _ _ _ h => h) (Or.inl ⟨by rfl, ?_⟩) T5.out.drew.facts ?_
      rotate_left 1
      · intro w hSw; clear hSw; go_simp <;> with_reducible rfl
      simp only [Act.put, List.setIfInBounds_toArray, List.set_cons_zero, List.set_cons_succ]
      refine Held.G_take (i := 14) (d := 48) (v := ?_) [14, 15, 16, 17, 18, 19, 20, 21, 22, 23, 24, 25, 26] rfl rfl (by kernel_rfl) (by kernel_rfl) (by kernel_rfl) (by kernel_rfl) (fun _ _ _ h => h) (Or.inl ⟨by rfl, ?_⟩) T5.out.drew.facts ?_
      rotate_left 1
      · intro w hSw; obtain ⟨h0, h1, h2, h3, h4⟩ := hSw; go_simp <;> with_reducible rfl
      simp only [Act.put, List.setIfInBounds_toArray, List.set_cons_zero, List.set_cons_succ]
      refine Held.G_ready (rs := [12]) (by decide +kernel) (by simp) ?_
      refine Held.G_cons rfl (fun KK hK => ?_) Held.G_nil
      go_simp
      (with_reducible refine (HRM.out).mono ?_)
      rintro e w' ⟨rfl, rfl⟩
      go_wp2_with fail
      refine ⟨T5.out.drew.facts, ?_⟩
      refine Held.G_ready (rs := [15]) (by decide +kernel) (by simp) ?_
      refine Held.G_cons rfl (fun KK hK => ?_) Held.G_nil
      go_simp
      (with_reducible refine (HRR.out).mono ?_)
      rintro e w' ⟨rfl, rfl⟩
      go_wp2_with fail
      refine ⟨T5.out.drew.facts, ?_⟩
      refine Held.G_take (i := 16) (d := 50) (v := ?_) [16, 17, 18, 19, 20, 21, 22, 23, 24, 25, 26] rfl rfl (by kernel_rfl) (by kernel_rfl) (by kernel_rfl) (by kernel_rfl) (fun _ _ _ h => h) (Or.inl ⟨by rfl, ?_⟩) T5.out.drew.facts ?_
      rotate_left 1
      · intro w hSw; clear hSw; go_simp <;> with_reducible rfl
      simp only [Act.put, List.setIfInBounds_toArray, List.set_cons_zero, List.set_cons_succ]
      refine Held.G_take (i := 17) (d := 51) (v := ?_) [17, 18, 19, 20, 21, 22, 23, 24, 25, 26] rfl rfl (by kernel_rfl) (by kernel_rfl) (by kernel_rfl) (by kernel_rfl) (fun _ _ _ h => h) (Or.inl ⟨by rfl, ?_⟩) T5.out.drew.facts ?_
      rotate_left 1
      · intro w hSw; clear hSw; go_simp <;> with_reducible rfl
      simp only [Act.put, List.setIfInBounds_toArray, List.set_cons_zero, List.set_cons_succ]
      refine Held.G_take (i := 18) (d := 52) (v := ?_) [18, 19, 20, 21, 22, 23, 24, 25, 26] rfl rfl (by kernel_rfl) (by kernel_rfl) (by kernel_rfl) (by kernel_rfl) (fun _ _ _ h => h) (Or.inl ⟨by rfl, ?_⟩) T5.out.drew.facts ?_
      rotate_left 1
      · intro w hSw; clear hSw; go_simp <;> with_reducible rfl
      simp only [Act.put, List.setIfInBounds_toArray, List.set_cons_zero, List.set_cons_succ]
      refine Held.G_take (i := 19) (d := 53) (v := ?_) [19, 20, 21, 24, 25, 26] rfl rfl (by kernel_rfl) (by kernel_rfl) (by kernel_rfl) (by kernel_rfl) (fun _ _ _ h => h) (Or.inl ⟨by rfl, ?_⟩) T5.out.drew.facts ?_
      rotate_left 1
      · intro w hSw; clear hSw; go_simp <;> with_reducible rfl
      simp only [Act.put, List.setIfInBounds_toArray, List.set_cons_zero, List.set_cons_succ]
      refine Held.G_take (i := 20) (d := 54) (v := ?_) [20, 21, 24, 25, 26] rfl rfl (by kernel_rfl) (by kernel_rfl) (by kernel_rfl) (by kernel_rfl) (fun _ _ _ h => h) (Or.inl ⟨by rfl, ?_⟩) T5.out.drew.facts ?_
      rotate_left 1
      · intro w hSw; obtain ⟨h0, h1, h2, h3, h4⟩ := hSw; go_simp <;> with_reducible rfl
      simp only [Act.put, List.setIfInBounds_toArray, List.set_cons_zero, List.set_cons_succ]
      refine Held.G_take (i := 22) (d := 56) (v := ?_) [22, 23, 24, 25, 26] rfl rfl (by kernel_rfl) (by kernel_rfl) (by kernel_rfl) (by kernel_rfl) (fun _ _ _ h => h) (Or.inl ⟨by rfl, ?_⟩) T5.out.drew.facts ?_
      rotate_left 1
      · intro w hSw; clear hSw; go_simp <;> with_reducible rfl
      simp only [Act.put, List.setIfInBounds_toArray, List.set_cons_zero, List.set_cons_succ]
      refine Held.G_take (i := 23) (d := 57) (v := ?_) [23, 24, 25, 26] rfl rfl (by kernel_rfl) (by kernel_rfl) (by kernel_rfl) (by kernel_rfl) (fun _ _ _ h => h) (Or.inl ⟨by rfl, ?_⟩) T5.out.drew.facts ?_
      rotate_left 1
      · intro w hSw; obtain ⟨h0, h1, h2, h3, h4⟩ := hSw; go_simp <;> with_reducible rfl
      simp only [Act.put, List.setIfInBounds_toArray, List.set_cons_zero, List.set_cons_succ]
      refine Held.G_ready (rs := [21]) (by decide +kernel) (by simp) ?_
      refine Held.G_cons rfl (fun KK hK => ?_) Held.G_nil
      go_simp
      (with_reducible refine (HFM.out).mono ?_)
      rintro e w' ⟨rfl, rfl⟩
      go_wp2_with fail
      refine ⟨T5.out.drew.facts, ?_⟩
      refine Held.G_ready (rs := [24]) (by decide +kernel) (by simp) ?_
      refine Held.G_cons rfl (fun KK hK => ?_) Held.G_nil
      go_simp
      (with_reducible refine (HFR.out).mono ?_)
      rintro e w' ⟨rfl, rfl⟩
      go_wp2_with fail
      refine ⟨T5.out.drew.facts, ?_⟩
      refine Held.G_take (i := 25) (d := 59) (v := ?_) [25, 26] rfl rfl (by kernel_rfl) (by kernel_rfl) (by kernel_rfl) (by kernel_rfl) (fun _ _ _ h => h) (Or.inl ⟨by rfl, ?_⟩) T5.out.drew.facts ?_
      rotate_left 1
      · intro w hSw; clear hSw; go_simp <;> with_reducible rfl
      simp only [Act.put, List.setIfInBounds_toArray, List.set_cons_zero, List.set_cons_succ]
      refine Held.G_ready (rs := [26]) (by decide +kernel) (by simp) ?_
      refine Held.G_last rfl (fun KK hK => ?_) Held.G_nil
      go_simp
      refine hK _ _ ?_
      clear hK KK
      refine Held.G_done (by kernel_rfl) ?_ _
      go_wp2_with fail
      go_ret
      exact ⟨rfl, T5.out.drew.bl⟩
  · have hfa := fun (x : World) (h : Row x x.heap.size A (strs p.cells)) => few_page x p A c h hx false ⟨fun e => (by cases e), fun e => absurd e f1⟩
    go_enter Try.func3, Try.ntmps3
    go_wp2_with fail
    refine (one_new W p A c hA).mono ?_
    rintro e w1 ⟨g, rfl, r1, t1⟩
    go_wp2_with fail
    refine (awake_any w1).mono ?_
    rintro e w2 ⟨rfl, b2⟩
    have t2 := t1.below b2
    have r2 := r1.below b2
    clear t1 r1 b2
    obtain ⟨h0, h1, h2, h3, h4⟩ := t2.facts
    go_wp2_with fail
    refine (hfa w2 (rowX_row t2.ra)).mono ?_
    rintro e w3 ⟨rfl, b3⟩
    have t3 := t2.below b3
    have r3 := r2.below b3
    clear h0 h1 h2 h3 h4 t2 r2 b3
    obtain ⟨h0, h1, h2, h3, h4⟩ := t3.facts
    go_wp2_with fail
    refine (awakeL t3.bl).mono ?_
    rintro e w9 ⟨rfl, b9, b10⟩
    go_wp2_with fail
    go_ret
    exact ⟨rfl, b10⟩
end Go.Proofs.Ytlcnnebnocjelaa.PagePuts
