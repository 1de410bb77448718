/- The walk of PageSame. -/
import Derived.Test.YtlcnnebnocjelaaPageRooms
import Derived.Test.YtlcnnebnocjelaaHeld
namespace Go.Proofs.Ytlcnnebnocjelaa.PageSameL
open Go.RowKit Base PagePlain PageSmall PageTold PageSame PageSame2 PageRef PageAwake PageRooms

theorem undrew' {w x : World} {B : Nat} (h : Below B w x) : Below B w x := h
theorem few_page (w : World) (p : Pg) (A : Option Addr) (c : Nat) (hr : Row w w.heap.size A (strs p.cells)) (hm : p.cells.length ≤ maxLen) (b : Bool) (hb : b = true ↔ Few p.cells) :
    Calls Try.prog 12 #[pv p A c] w fun e w' => e = .returned (.bool b) ∧ Below w.heap.size w w' := by
  refine (few_any w p A c hr hm).mono fun e w' ⟨h1, h2⟩ => ⟨?_, h2⟩
  rw [h1]
  exact ret_bool (Bool.eq_iff_iff.2 (decide_eq_true_iff.trans hb.symm))
set_option maxRecDepth 100000 in
set_option maxHeartbeats 3200000 in
theorem PageSame_walk (p q : Pg) (A B : Option Addr) (c d : Nat) (W : World) (hA : Row W W.heap.size A (strs p.cells)) (hB : Row W W.heap.size B (strs q.cells)) (hx : p.cells.length ≤ maxLen) (hy : q.cells.length ≤ maxLen) :
    Calls Try.prog 6 #[pv p A c, pv q B d] W (Law W) := by
  have HC := Lib.hid (cells2 W p q A B c d)
  have hb : Below W.heap.size W ((W.alloc (.cells #[.int .i64 p.kind, .int .i64 p.no, .int .i64 p.epoch, .int .i64 p.link, .slice A p.cells.length c] 24)).alloc (.cells #[.int .i64 q.kind, .int .i64 q.no, .int .i64 q.epoch, .int .i64 q.link, .slice B q.cells.length d] 24)) := ((Below.refl _ _).alloc (Nat.le_refl _) _).alloc (by simp) _
  obtain ⟨w0, hw0⟩ : ∃ v, v = (W.alloc (.cells #[.int .i64 p.kind, .int .i64 p.no, .int .i64 p.epoch, .int .i64 p.link, .slice A p.cells.length c] 24)).alloc (.cells #[.int .i64 q.kind, .int .i64 q.no, .int .i64 q.epoch, .int .i64 q.link, .slice B q.cells.length d] 24) := ⟨_, rfl⟩
  rw [← hw0] at HC hb
  have HW0 := Lib.hid hw0
  clear hw0
  have hrA : ∀ x, Below w0.heap.size w0 x → Row x x.heap.size A (strs p.cells) := fun x hx => hA.belowSize (hb.trans (hx.mono hb.size))
  have hrB : ∀ x, Below w0.heap.size w0 x → Row x x.heap.size B (strs q.cells) := fun x hx => hB.belowSize (hb.trans (hx.mono hb.size))
  clear hA hB
  by_cases f1 : Few p.cells
  · have hfa := fun (x : World) (h : Below w0.heap.size w0 x) => few_page x p A c (hrA x h) hx true ⟨fun _ => f1, fun _ => rfl⟩
    by_cases f2 : Few q.cells
    · have hfb := fun (x : World) (h : Below w0.heap.size w0 x) => few_page x q B d (hrB x h) hy true ⟨fun _ => f2, fun _ => rfl⟩
      have HS1 := Lib.hid (fun (x : World) (h : Below w0.heap.size w0 x) => same_any x p q A B c d (hrA x h) (hrB x h) hx)
      have HS2 := Lib.hid (fun (x : World) (h : Below w0.heap.size w0 x) => rsame_any x p q A B c d (hrA x h) (hrB x h) hx)
      have HS3 := Lib.hid (fun (x : World) (h : Below w0.heap.size w0 x) => by have := same_any x p p A A c c (hrA x h) (hrA x h) hx; rwa [same_self] at this)
      clear f1 f2
      go_enter Try.func6, Try.ntmps6
      go_wp2_with fail
      rw [← HW0.out]
      refine (hfa w0 (Below.refl _ _)).mono ?_
      rintro e w1 ⟨rfl, b1⟩
      obtain ⟨h0, h1, h2, h3, h4, h5, h6, h7, h8, h9⟩ := HC.out w1 b1
      go_wp2_with fail
      refine (hfb w1 b1).mono ?_
      rintro e w2 ⟨rfl, b2⟩
      have hq0 : Below w0.heap.size w0 w2 := Below.step b1 b2
      clear b1 b2 h0 h1 h2 h3 h4 h5 h6 h7 h8 h9
      go_wp2_with fail
      refine wp_region_any (by kernel_rfl) ?_
      change wpAny _ _ _ _ _ _ _ (World.drew _)
      refine Held.any_of_G (S := (fun w' : World => w'.cell? ⟨W.heap.size, 0, none⟩ = some (.int .i64 p.kind) ∧ w'.cell? ⟨W.heap.size, 1, none⟩ = some (.int .i64 p.no) ∧ w'.cell? ⟨W.heap.size, 2, none⟩ = some (.int .i64 p.epoch) ∧ w'.cell? ⟨W.heap.size, 3, none⟩ = some (.int .i64 p.link) ∧ w'.cell? ⟨W.heap.size, 4, none⟩ = some (.slice A p.cells.length c) ∧ w'.cell? ⟨W.heap.size + 1, 0, none⟩ = some (.int .i64 q.kind) ∧ w'.cell? ⟨W.heap.size + 1, 1, none⟩ = some (.int .i64 q.no) ∧ w'.cell? ⟨W.heap.size + 1, 2, none⟩ = some (.int .i64 q.epoch) ∧ w'.cell? ⟨W.heap.size + 1, 3, none⟩ = some (.int .i64 q.link) ∧ w'.cell? ⟨W.heap.size + 1, 4, none⟩ = some (.slice B q.cells.length d))) (z := 15) _ _ _ _ ?_
      refine Held.G_ready (rs := [0]) (by decide +kernel) (by simp) ?_
      refine Held.G_cons rfl (fun KK hK => ?_) Held.G_nil
      go_simp
      (with_reducible refine (awake_any _).mono ?_)
      rintro e v1 ⟨rfl, hb1⟩
      have hq1 : Below w0.heap.size w0 v1 := hq0.drew.trans ((undrew' hb1).mono hq0.size)
      clear hb1
      go_wp2_with fail
      refine ⟨(HC.out _ hq1), ?_⟩
      refine Held.G_take (i := 1) (d := 15) (v := ?_) [1, 2, 3, 4, 5, 6, 7, 8, 9, 10, 11, 12, 13, 14, 15] rfl rfl (by kernel_rfl) (by kernel_rfl) (by kernel_rfl) (by kernel_rfl) (fun _ _ _ h => h) (Or.inl ⟨by rfl, ?_⟩) (HC.out _ hq1) ?_
      rotate_left 1
      · intro w hSw; clear hSw; go_simp <;> with_reducible rfl
      simp only [Act.put, List.setIfInBounds_toArray, List.set_cons_zero, List.set_cons_succ]
      refine Held.G_take (i := 2) (d := 16) (v := ?_) [2, 4, 7, 8, 9, 10, 11, 12, 13, 14, 15] rfl rfl (by kernel_rfl) (by kernel_rfl) (by kernel_rfl) (by kernel_rfl) (fun _ _ _ h => h) (Or.inl ⟨by rfl, ?_⟩) (HC.out _ hq1) ?_
      rotate_left 1
      · intro w hSw; obtain ⟨h0, h1, h2, h3, h4, h5, h6, h7, h8, h9⟩ := hSw; go_simp <;> with_reducible rfl
      simp only [Act.put, List.setIfInBounds_toArray, List.set_cons_zero, List.set_cons_succ]
      refine Held.G_take (i := 3) (d := 17) (v := ?_) [3, 4, 7, 8, 9, 10, 11, 12, 13, 14, 15] rfl rfl (by kernel_rfl) (by kernel_rfl) (by kernel_rfl) (by kernel_rfl) (fun _ _ _ h => h) (Or.inl ⟨by rfl, ?_⟩) (HC.out _ hq1) ?_
      rotate_left 1
      · intro w hSw; obtain ⟨h0, h1, h2, h3, h4, h5, h6, h7, h8, h9⟩ := hSw; go_simp <;> with_reducible rfl
      simp only [Act.put, List.setIfInBounds_toArray, List.set_cons_zero, List.set_cons_succ]
      refine Held.G_take (i := 5) (d := 19) (v := ?_) [5, 7, 8, 9, 10, 11, 12, 13, 14, 15] rfl rfl (by kernel_rfl) (by kernel_rfl) (by kernel_rfl) (by kernel_rfl) (fun _ _ _ h => h) (Or.inl ⟨by rfl, ?_⟩) (HC.out _ hq1) ?_
      rotate_left 1
      · intro w hSw; obtain ⟨h0, h1, h2, h3, h4, h5, h6, h7, h8, h9⟩ := hSw; go_simp <;> with_reducible rfl
      simp only [Act.put, List.setIfInBounds_toArray, List.set_cons_zero, List.set_cons_succ]
      refine Held.G_take (i := 6) (d := 20) (v := ?_) [6, 7, 8, 9, 10, 11, 12, 13, 14, 15] rfl rfl (by kernel_rfl) (by kernel_rfl) (by kernel_rfl) (by kernel_rfl) (fun _ _ _ h => h) (Or.inl ⟨by rfl, ?_⟩) (HC.out _ hq1) ?_
      rotate_left 1
      · intro w hSw; obtain ⟨h0, h1, h2, h3, h4, h5, h6, h7, h8, h9⟩ := hSw; go_simp <;> with_reducible rfl
      simp only [Act.put, List.setIfInBounds_toArray, List.set_cons_zero, List.set_cons_succ]
      refine Held.G_ready (rs := [4]) (by decide +kernel) (by simp) ?_
      refine Held.G_cons rfl (fun KK hK => ?_) Held.G_nil
      go_simp
      (with_reducible refine (HS1.out _ hq1).mono ?_)
      rintro e v2 ⟨rfl, hb2⟩
      have hq2 : Below w0.heap.size w0 v2 := Below.step hq1 hb2
      clear hb2
      go_wp2_with fail
      refine ⟨(HC.out _ hq2), ?_⟩
      refine Held.G_ready (rs := [7]) (by decide +kernel) (by simp) ?_
      refine Held.G_cons rfl (fun KK hK => ?_) Held.G_nil
      go_simp
      (with_reducible refine (HS2.out _ hq2).mono ?_)
      rintro e v3 ⟨rfl, hb3⟩
      have hq3 : Below w0.heap.size w0 v3 := Below.step hq2 hb3
      clear hb3
      go_wp2_with fail
      refine ⟨(HC.out _ hq3), ?_⟩
      refine Held.G_take (i := 8) (d := 22) (v := ?_) [8, 9, 10, 11, 12, 13, 14, 15] rfl rfl (by kernel_rfl) (by kernel_rfl) (by kernel_rfl) (by kernel_rfl) (fun _ _ _ h => h) (Or.inl ⟨by rfl, ?_⟩) (HC.out _ hq3) ?_
      rotate_left 1
      · intro w hSw; clear hSw; go_simp <;> with_reducible rfl
      simp only [Act.put, List.setIfInBounds_toArray, List.set_cons_zero, List.set_cons_succ]
      refine Held.G_take (i := 9) (d := 23) (v := ?_) [9, 10, 11, 12, 13, 14, 15] rfl rfl (by kernel_rfl) (by kernel_rfl) (by kernel_rfl) (by kernel_rfl) (fun _ _ _ h => h) (Or.inl ⟨by rfl, ?_⟩) (HC.out _ hq3) ?_
      rotate_left 1
      · intro w hSw; clear hSw; go_simp <;> with_reducible rfl
      simp only [Act.put, List.setIfInBounds_toArray, List.set_cons_zero, List.set_cons_succ]
      refine Held.G_take (i := 10) (d := 24) (v := ?_) [10, 11, 12, 13, 14, 15] rfl rfl (by kernel_rfl) (by kernel_rfl) (by kernel_rfl) (by kernel_rfl) (fun _ _ _ h => h) (Or.inl ⟨by rfl, ?_⟩) (HC.out _ hq3) ?_
      rotate_left 1
      · intro w hSw; clear hSw; go_simp <;> with_reducible rfl
      simp only [Act.put, List.setIfInBounds_toArray, List.set_cons_zero, List.set_cons_succ]
      refine Held.G_take (i := 11) (d := 25) (v := ?_) [11, 13, 14, 15] rfl rfl (by kernel_rfl) (by kernel_rfl) (by kernel_rfl) (by kernel_rfl) (fun _ _ _ h => h) (Or.inl ⟨by rfl, ?_⟩) (HC.out _ hq3) ?_
      rotate_left 1
      · intro w hSw; obtain ⟨h0, h1, h2, h3, h4, h5, h6, h7, h8, h9⟩ := hSw; go_simp <;> with_reducible rfl
      simp only [Act.put, List.setIfInBounds_toArray, List.set_cons_zero, List.set_cons_succ]
      refine Held.G_take (i := 12) (d := 26) (v := ?_) [12, 13, 14, 15] rfl rfl (by kernel_rfl) (by kernel_rfl) (by kernel_rfl) (by kernel_rfl) (fun _ _ _ h => h) (Or.inl ⟨by rfl, ?_⟩) (HC.out _ hq3) ?_
      rotate_left 1
      · intro w hSw; obtain ⟨h0, h1, h2, h3, h4, h5, h6, h7, h8, h9⟩ := hSw; go_simp <;> with_reducible rfl
      simp only [Act.put, List.setIfInBounds_toArray, List.set_cons_zero, List.set_cons_succ]
      refine Held.G_ready (rs := [13]) (by decide +kernel) (by simp) ?_
      refine Held.G_cons rfl (fun KK hK => ?_) Held.G_nil
      go_simp
      (with_reducible refine (HS3.out _ hq3).mono ?_)
      rintro e v4 ⟨rfl, hb4⟩
      have hq4 : Below w0.heap.size w0 v4 := Below.step hq3 hb4
      clear hb4
      go_wp2_with fail
      refine ⟨(HC.out _ hq4), ?_⟩
      refine Held.G_take (i := 14) (d := 28) (v := ?_) [14, 15] rfl rfl (by kernel_rfl) (by kernel_rfl) (by kernel_rfl) (by kernel_rfl) (fun _ _ _ h => h) (Or.inl ⟨by rfl, ?_⟩) (HC.out _ hq4) ?_
      rotate_left 1
      · intro w hSw; clear hSw; go_simp <;> with_reducible rfl
      simp only [Act.put, List.setIfInBounds_toArray, List.set_cons_zero, List.set_cons_succ]
      refine Held.G_ready (rs := [15]) (by decide +kernel) (by simp) ?_
      refine Held.G_last rfl (fun KK hK => ?_) Held.G_nil
      go_simp
      refine hK _ _ ?_
      clear hK KK
      refine Held.G_done (by kernel_rfl) ?_ _
      go_wp2_with fail
      go_ret
      exact ⟨rfl, hb.trans (hq4.mono hb.size)⟩
    · have hfb := fun (x : World) (h : Below w0.heap.size w0 x) => few_page x q B d (hrB x h) hy false ⟨fun e => (by cases e), fun e => absurd e f2⟩
      go_enter Try.func6, Try.ntmps6
      go_wp2_with fail
      rw [← HW0.out]
      refine (hfa w0 (Below.refl _ _)).mono ?_
      rintro e w1 ⟨rfl, b1⟩
      obtain ⟨h0, h1, h2, h3, h4, h5, h6, h7, h8, h9⟩ := HC.out w1 b1
      go_wp2_with fail
      refine (hfb w1 b1).mono ?_
      rintro e w2 ⟨rfl, b2⟩
      have hq0 : Below w0.heap.size w0 w2 := Below.step b1 b2
      clear b1 b2 h0 h1 h2 h3 h4 h5 h6 h7 h8 h9
      go_wp2_with fail
      refine (awakeL (hb.trans (hq0.mono hb.size))).mono ?_
      rintro e w3 ⟨rfl, b3, b4⟩
      go_wp2_with fail
      go_ret
      exact ⟨rfl, b4⟩
  · have hfa := fun (x : World) (h : Below w0.heap.size w0 x) => few_page x p A c (hrA x h) hx false ⟨fun e => (by cases e), fun e => absurd e f1⟩
    go_enter Try.func6, Try.ntmps6
    go_wp2_with fail
    rw [← HW0.out]
    refine (hfa w0 (Below.refl _ _)).mono ?_
    rintro e w1 ⟨rfl, b1⟩
    obtain ⟨h0, h1, h2, h3, h4, h5, h6, h7, h8, h9⟩ := HC.out w1 b1
    go_wp2_with fail
    refine (awakeL (hb.trans (b1.mono hb.size))).mono ?_
    rintro e w3 ⟨rfl, b3, b4⟩
    go_wp2_with fail
    go_ret
    exact ⟨rfl, b4⟩
end Go.Proofs.Ytlcnnebnocjelaa.PageSameL
