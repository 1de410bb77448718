/- The walk of PageApart. -/
import Derived.Test.YtlcnnebnocjelaaPageTwo
namespace Go.Proofs.Ytlcnnebnocjelaa.PageApart
open Go.RowKit Base PagePlain PageSmall PageBytes PageLay PagePut PageTold PageSame PageSame2 PageRef PageAwake PageRooms PageSameL PageTwo SumMem SumFill SumOf Str

theorem conv_page {w : World} {b : Nat} {t : TypeId} {l : List UInt8} (h : Arr w b t l) (hl : l.length = 256) : (convert 29 9 (.slice (some ⟨b, 0, none⟩) 256 256)).run Try.prog w = .ok (.string ⟨l.toArray⟩) w := by
  have := conv_bytes (P := Try.prog) Try.underlying29 Try.underlying5 Try.underlying9 256 (Arr.row h)
  rw [hl] at this
  exact this
theorem pages_eq {p q : Pg} (hp : err p = 0) (hq : err q = 0) : ((page p == page q) == same p q) = true := by
  obtain ⟨p1, p2⟩ := (err_zero p).1 hp
  obtain ⟨q1, q2⟩ := (err_zero q).1 hq
  by_cases h : p = q
  · subst h
    simp [same_self]
  · have h1 : same p q = false := Bool.eq_false_iff.2 fun e => h ((same_iff p q).1 e)
    rw [h1, beq_eq_false_iff_ne.2 (fun e => h (page_inj p1 p2 q1 q2 e))]; rfl
set_option maxRecDepth 100000 in
set_option maxHeartbeats 3200000 in
theorem PageApart_walk (p q : Pg) (A B : Option Addr) (c d : Nat) (W : World) (hA : Row W W.heap.size A (strs p.cells)) (hB : Row W W.heap.size B (strs q.cells)) (hx : p.cells.length ≤ maxLen) (hy : q.cells.length ≤ maxLen) :
    Calls Try.prog 8 #[pv p A c, pv q B d] W (Law W) := by
  have hnot : ∀ (x : Bool) (w : World), (Op.unary .not (.bool x)).run Try.prog w = .ok (.bool (!x)) w := fun _ _ => rfl
  by_cases f1 : Few p.cells
  · have hfa := fun (x : World) (h : Row x x.heap.size A (strs p.cells)) => few_page x p A c h hx true ⟨fun _ => f1, fun _ => rfl⟩
    by_cases f2 : Few q.cells
    · have hfb := fun (x : World) (h : Row x x.heap.size B (strs q.cells)) => few_page x q B d h hy true ⟨fun _ => f2, fun _ => rfl⟩
      have hpl : p.cells.length ≤ 1000 := Nat.le_trans f1.1 (by omega)
      have hpz : ∀ z ∈ p.cells, z.size ≤ 1000 := fun z hz => Nat.le_trans (f1.2 z hz) (by omega)
      have hql : q.cells.length ≤ 1000 := Nat.le_trans f2.1 (by omega)
      have hqz : ∀ z ∈ q.cells, z.size ≤ 1000 := fun z hz => Nat.le_trans (f2.2 z hz) (by omega)
      clear f1 f2
      by_cases e1 : err p = 0
      · by_cases e2 : err q = 0
        · have HPL := Lib.hid (page_len p ((err_zero p).1 e1).1)
          have HQL := Lib.hid (page_len q ((err_zero q).1 e2).1)
          have HE := Lib.hid (pages_eq e1 e2)
          go_enter Try.func8, Try.ntmps8
          go_wp2_with fail
          refine (two_new W p q A B c d hA hB).mono ?_
          rintro e w1 ⟨g, rfl, r1, t1⟩
          go_wp2_with fail
          refine (awake_any w1).mono ?_
          rintro e w2 ⟨rfl, b2⟩
          have t2 := t1.below b2
          have r2 := r1.below b2
          clear t1 r1 b2
          obtain ⟨h0, h1, h2, h3, h4, h5, h6, h7, h8, h9⟩ := t2.facts
          go_wp2_with fail
          refine (hfa w2 (rowX_row t2.ra)).mono ?_
          rintro e w3 ⟨rfl, b3⟩
          have t3 := t2.below b3
          have r3 := r2.below b3
          clear h0 h1 h2 h3 h4 h5 h6 h7 h8 h9 t2 r2 b3
          obtain ⟨h0, h1, h2, h3, h4, h5, h6, h7, h8, h9⟩ := t3.facts
          go_wp2_with fail
          refine (hfb w3 (rowX_row t3.rb)).mono ?_
          rintro e w4 ⟨rfl, b4⟩
          have t4 := t3.below b4
          have r4 := r3.below b4
          clear h0 h1 h2 h3 h4 h5 h6 h7 h8 h9 t3 r3 b4
          obtain ⟨h0, h1, h2, h3, h4, h5, h6, h7, h8, h9⟩ := t4.facts
          go_wp2_with fail
          refine (put_any g 0 w4 p A c r4 (by omega) (by omega) t4.ra hpl hpz).mono ?_
          rintro e w5 ⟨hok, hbad⟩
          clear h0 h1 h2 h3 h4 h5 h6 h7 h8 h9
          obtain ⟨x, rfl, hxw, ax, r5, o5⟩ := hok e1
          have t5 := t4.only o5
          have hxg : x ≠ g := by have := t4.gx; omega
          clear hbad hok t4 r4 o5
          obtain ⟨h0, h1, h2, h3, h4, h5, h6, h7, h8, h9⟩ := t5.facts
          go_wp2_with fail
          refine (put_any g (0 + 252) w5 q B d r5 (by omega) (by omega) t5.rb hql hqz).mono ?_
          rintro e w6 ⟨hok, hbad⟩
          clear h0 h1 h2 h3 h4 h5 h6 h7 h8 h9
          obtain ⟨y, rfl, hyw, ay, r6, o6⟩ := hok e2
          have T6 := Lib.hid (t5.only o6)
          have X6 := Lib.hid (Arr.only ax o6 hxg)
          have Y6 := Lib.hid ay
          clear hbad hok t5 r5 o6 ax ay r6
          go_upto_region 6 with fail
          refine wp_region_any (by kernel_rfl) ?_
          change wpAny _ _ _ _ _ _ _ (World.drew _)
          refine Held.any_of_G (S := (fun w' : World => w'.cell? ⟨W.heap.size, 0, none⟩ = some (.int .i64 p.kind) ∧ w'.cell? ⟨W.heap.size, 1, none⟩ = some (.int .i64 p.no) ∧ w'.cell? ⟨W.heap.size, 2, none⟩ = some (.int .i64 p.epoch) ∧ w'.cell? ⟨W.heap.size, 3, none⟩ = some (.int .i64 p.link) ∧ w'.cell? ⟨W.heap.size, 4, none⟩ = some (.slice A p.cells.length c) ∧ w'.cell? ⟨W.heap.size + 1, 0, none⟩ = some (.int .i64 q.kind) ∧ w'.cell? ⟨W.heap.size + 1, 1, none⟩ = some (.int .i64 q.no) ∧ w'.cell? ⟨W.heap.size + 1, 2, none⟩ = some (.int .i64 q.epoch) ∧ w'.cell? ⟨W.heap.size + 1, 3, none⟩ = some (.int .i64 q.link) ∧ w'.cell? ⟨W.heap.size + 1, 4, none⟩ = some (.slice B q.cells.length d))) (z := 17) _ _ _ _ ?_
          refine Held.G_take (i := 0) (d := 40) (v := ?_) [0, 1, 2, 3, 4, 5, 6, 7, 8, 9, 10, 11, 12, 13, 14, 15, 16, 17] rfl rfl (by kernel_rfl) (by kernel_rfl) (by kernel_rfl) (by kernel_rfl) (fun _ _ _ h => h) (Or.inl ⟨by rfl, ?_⟩) (T6.out.drew).facts ?_
          rotate_left 1
          · intro w hSw; clear hSw; go_simp <;> with_reducible rfl
          simp only [Act.put, List.setIfInBounds_toArray, List.set_cons_zero, List.set_cons_succ]
          refine Held.G_take (i := 1) (d := 41) (v := ?_) [1, 2, 3, 4, 5, 6, 7, 8, 9, 10, 11, 12, 13, 14, 15, 16, 17] rfl rfl (by kernel_rfl) (by kernel_rfl) (by kernel_rfl) (by kernel_rfl) (fun _ _ _ h => h) (Or.inl ⟨by rfl, ?_⟩) (T6.out.drew).facts ?_
          rotate_left 1
          · intro w hSw; clear hSw; go_simp <;> with_reducible rfl
          simp only [Act.put, List.setIfInBounds_toArray, List.set_cons_zero, List.set_cons_succ]
          refine Held.G_take (i := 2) (d := 42) (v := ?_) [2, 3, 4, 5, 6, 7, 8, 9, 10, 11, 12, 13, 14, 15, 16, 17] rfl rfl (by kernel_rfl) (by kernel_rfl) (by kernel_rfl) (by kernel_rfl) (fun _ _ _ h => h) (Or.inl ⟨by rfl, ?_⟩) (T6.out.drew).facts ?_
          rotate_left 1
          · intro w hSw; clear hSw; go_simp <;> with_reducible rfl
          simp only [Act.put, List.setIfInBounds_toArray, List.set_cons_zero, List.set_cons_succ]
          refine Held.G_take (i := 3) (d := 43) (v := ?_) [3, 4, 5, 6, 7, 8, 9, 10, 11, 12, 13, 14, 15, 16, 17] rfl rfl (by kernel_rfl) (by kernel_rfl) (by kernel_rfl) (by kernel_rfl) (fun _ _ _ h => h) (Or.inl ⟨by rfl, ?_⟩) (T6.out.drew).facts ?_
          rotate_left 1
          · intro w hSw; clear hSw; go_simp <;> with_reducible rfl
          simp only [Act.put, List.setIfInBounds_toArray, List.set_cons_zero, List.set_cons_succ]
          refine Held.G_take (i := 4) (d := 44) (v := ?_) [4, 5, 6, 7, 8, 9, 10, 11, 12, 13, 14, 15, 16, 17] rfl rfl (by kernel_rfl) (by kernel_rfl) (by kernel_rfl) (by kernel_rfl) (fun _ _ _ h => h) (Or.inl ⟨by rfl, ?_⟩) (T6.out.drew).facts ?_
          rotate_left 1
          · intro w hSw; clear hSw; go_simp <;> with_reducible rfl
          simp only [Act.put, List.setIfInBounds_toArray, List.set_cons_zero, List.set_cons_succ]
          refine Held.G_take (i := 5) (d := 45) (v := ?_) [5, 6, 7, 8, 9, 10, 11, 12, 13, 14, 15, 16, 17] rfl rfl (by kernel_rfl) (by kernel_rfl) (by kernel_rfl) (by kernel_rfl) (fun _ _ _ h => h) (Or.inl ⟨by rfl, ?_⟩) (T6.out.drew).facts ?_
          rotate_left 1
          · intro w hSw; clear hSw; go_simp <;> with_reducible rfl
          simp only [Act.put, List.setIfInBounds_toArray, List.set_cons_zero, List.set_cons_succ]
          refine Held.G_take (i := 6) (d := 46) (v := ?_) [6, 7, 8, 9, 10, 11, 12, 13, 14, 15, 16, 17] rfl rfl (by kernel_rfl) (by kernel_rfl) (by kernel_rfl) (by kernel_rfl) (fun _ _ _ h => h) (Or.inl ⟨by rfl, ?_⟩) (T6.out.drew).facts ?_
          rotate_left 1
          · intro w hSw; clear hSw; go_simp <;> with_reducible rfl
          simp only [Act.put, List.setIfInBounds_toArray, List.set_cons_zero, List.set_cons_succ]
          refine Held.G_take (i := 7) (d := 47) (v := ?_) [7, 8, 11, 15, 16, 17] rfl rfl (by kernel_rfl) (by kernel_rfl) (by kernel_rfl) (by kernel_rfl) (fun _ _ _ h => h) (Or.inl ⟨by rfl, ?_⟩) (T6.out.drew).facts ?_
          rotate_left 1
          · intro w hSw; clear hSw; go_simp <;> with_reducible rfl
          simp only [Act.put, List.setIfInBounds_toArray, List.set_cons_zero, List.set_cons_succ]
          refine Held.G_take (i := 9) (d := 49) (v := ?_) [9, 10, 11, 15, 16, 17] rfl rfl (by kernel_rfl) (by kernel_rfl) (by kernel_rfl) (by kernel_rfl) (fun _ _ _ h => h) (Or.inl ⟨by rfl, ?_⟩) (T6.out.drew).facts ?_
          rotate_left 1
          · intro w hSw; clear hSw; go_simp <;> with_reducible rfl
          simp only [Act.put, List.setIfInBounds_toArray, List.set_cons_zero, List.set_cons_succ]
          refine Held.G_take (i := 12) (d := 52) (v := ?_) [12, 14, 15, 16, 17] rfl rfl (by kernel_rfl) (by kernel_rfl) (by kernel_rfl) (by kernel_rfl) (fun _ _ _ h => h) (Or.inl ⟨by rfl, ?_⟩) (T6.out.drew).facts ?_
          rotate_left 1
          · intro w hSw; obtain ⟨h0, h1, h2, h3, h4, h5, h6, h7, h8, h9⟩ := hSw; go_simp <;> with_reducible rfl
          simp only [Act.put, List.setIfInBounds_toArray, List.set_cons_zero, List.set_cons_succ]
          refine Held.G_take (i := 13) (d := 53) (v := ?_) [13, 14, 15, 16, 17] rfl rfl (by kernel_rfl) (by kernel_rfl) (by kernel_rfl) (by kernel_rfl) (fun _ _ _ h => h) (Or.inl ⟨by rfl, ?_⟩) (T6.out.drew).facts ?_
          rotate_left 1
          · intro w hSw; obtain ⟨h0, h1, h2, h3, h4, h5, h6, h7, h8, h9⟩ := hSw; go_simp <;> with_reducible rfl
          simp only [Act.put, List.setIfInBounds_toArray, List.set_cons_zero, List.set_cons_succ]
          refine Held.G_ready (rs := [8, 10, 14]) (by decide +kernel) (by simp) ?_
          refine Held.G_cons rfl (fun KK hK => ?_) ?_
          · have hcv := conv_page (show Arr w6.drew _ _ _ from X6.out) HPL.out
            go_simp
            refine hK _ _ ?_
            clear hK KK hcv
            refine ⟨(T6.out.drew).facts, ?_⟩
            refine Held.G_ready (rs := [10, 14]) (by decide +kernel) (by simp) ?_
            refine Held.G_cons rfl (fun KK hK => ?_) ?_
            · have hcv := conv_page (show Arr w6.drew _ _ _ from Y6.out) HQL.out
              go_simp
              refine hK _ _ ?_
              clear hK KK hcv
              refine ⟨(T6.out.drew).facts, ?_⟩
              refine Held.G_take (i := 11) (d := 51) (v := ?_) [11, 15, 16, 17] rfl rfl (by kernel_rfl) (by kernel_rfl) (by kernel_rfl) (by kernel_rfl) (fun _ _ _ h => h) (Or.inl ⟨by rfl, ?_⟩) (T6.out.drew).facts ?_
              rotate_left 1
              · intro w hSw; clear hSw; go_simp <;> with_reducible rfl
              simp only [Act.put, List.setIfInBounds_toArray, List.set_cons_zero, List.set_cons_succ]
              refine Held.G_ready (rs := [14]) (by decide +kernel) (by simp) ?_
              refine Held.G_cons rfl (fun KK hK => ?_) Held.G_nil
              go_simp
              (with_reducible refine (rsame_any _ p q A B c d (rowX_row T6.out.drew.ra) (rowX_row T6.out.drew.rb) hx).mono ?_)
              rintro e w7 ⟨rfl, hb7⟩
              have t7 := T6.out.drew.below hb7
              have x7 := Arr.below (show Arr w6.drew _ _ _ from X6.out) hb7
              have y7 := Arr.below (show Arr w6.drew _ _ _ from Y6.out) hb7
              clear hb7
              go_wp2_with fail
              refine ⟨t7.facts, ?_⟩
              refine Held.G_take (i := 15) (d := 55) (v := ?_) [15, 16, 17] rfl rfl (by kernel_rfl) (by kernel_rfl) (by kernel_rfl) (by kernel_rfl) (fun _ _ _ h => h) (Or.inl ⟨by rfl, ?_⟩) t7.facts ?_
              rotate_left 1
              · intro w hSw; clear hSw; go_simp <;> with_reducible rfl
              simp only [Act.put, List.setIfInBounds_toArray, List.set_cons_zero, List.set_cons_succ]
              refine Held.G_take (i := 16) (d := 56) (v := ?_) [16, 17] rfl rfl (by kernel_rfl) (by kernel_rfl) (by kernel_rfl) (by kernel_rfl) (fun _ _ _ h => h) (Or.inl ⟨by rfl, ?_⟩) t7.facts ?_
              rotate_left 1
              · intro w hSw; clear hSw; go_simp <;> with_reducible rfl
              simp only [Act.put, List.setIfInBounds_toArray, List.set_cons_zero, List.set_cons_succ]
              refine Held.G_ready (rs := [17]) (by decide +kernel) (by simp) ?_
              refine Held.G_last rfl (fun KK hK => ?_) Held.G_nil
              go_simp
              refine hK _ _ ?_
              clear hK KK
              refine Held.G_done (by kernel_rfl) ?_ _
              go_wp2_with fail
              go_ret
              exact ⟨ret_bool HE.out, t7.bl⟩
            refine Held.G_cons rfl (fun KK hK => ?_) Held.G_nil
            go_simp
            (with_reducible refine (rsame_any _ p q A B c d (rowX_row T6.out.drew.ra) (rowX_row T6.out.drew.rb) hx).mono ?_)
            rintro e w7 ⟨rfl, hb7⟩
            have t7 := T6.out.drew.below hb7
            have x7 := Arr.below (show Arr w6.drew _ _ _ from X6.out) hb7
            have y7 := Arr.below (show Arr w6.drew _ _ _ from Y6.out) hb7
            clear hb7
            go_wp2_with fail
            refine ⟨t7.facts, ?_⟩
            refine Held.G_ready (rs := [10]) (by decide +kernel) (by simp) ?_
            refine Held.G_cons rfl (fun KK hK => ?_) Held.G_nil
            have hcv := conv_page (y7) HQL.out
            go_simp
            refine hK _ _ ?_
            clear hK KK hcv
            refine ⟨t7.facts, ?_⟩
            refine Held.G_take (i := 11) (d := 51) (v := ?_) [11, 15, 16, 17] rfl rfl (by kernel_rfl) (by kernel_rfl) (by kernel_rfl) (by kernel_rfl) (fun _ _ _ h => h) (Or.inl ⟨by rfl, ?_⟩) t7.facts ?_
            rotate_left 1
            · intro w hSw; clear hSw; go_simp <;> with_reducible rfl
            simp only [Act.put, List.setIfInBounds_toArray, List.set_cons_zero, List.set_cons_succ]
            refine Held.G_take (i := 15) (d := 55) (v := ?_) [15, 16, 17] rfl rfl (by kernel_rfl) (by kernel_rfl) (by kernel_rfl) (by kernel_rfl) (fun _ _ _ h => h) (Or.inl ⟨by rfl, ?_⟩) t7.facts ?_
            rotate_left 1
            · intro w hSw; clear hSw; go_simp <;> with_reducible rfl
            simp only [Act.put, List.setIfInBounds_toArray, List.set_cons_zero, List.set_cons_succ]
            refine Held.G_take (i := 16) (d := 56) (v := ?_) [16, 17] rfl rfl (by kernel_rfl) (by kernel_rfl) (by kernel_rfl) (by kernel_rfl) (fun _ _ _ h => h) (Or.inl ⟨by rfl, ?_⟩) t7.facts ?_
            rotate_left 1
            · intro w hSw; clear hSw; go_simp <;> with_reducible rfl
            simp only [Act.put, List.setIfInBounds_toArray, List.set_cons_zero, List.set_cons_succ]
            refine Held.G_ready (rs := [17]) (by decide +kernel) (by simp) ?_
            refine Held.G_last rfl (fun KK hK => ?_) Held.G_nil
            go_simp
            refine hK _ _ ?_
            clear hK KK
            refine Held.G_done (by kernel_rfl) ?_ _
            go_wp2_with fail
            go_ret
            exact ⟨ret_bool HE.out, t7.bl⟩
          refine Held.G_cons rfl (fun KK hK => ?_) ?_
          · have hcv := conv_page (show Arr w6.drew _ _ _ from Y6.out) HQL.out
            go_simp
            refine hK _ _ ?_
            clear hK KK hcv
            refine ⟨(T6.out.drew).facts, ?_⟩
            refine Held.G_ready (rs := [8, 14]) (by decide +kernel) (by simp) ?_
            refine Held.G_cons rfl (fun KK hK => ?_) ?_
            · have hcv := conv_page (show Arr w6.drew _ _ _ from X6.out) HPL.out
              go_simp
              refine hK _ _ ?_
              clear hK KK hcv
              refine ⟨(T6.out.drew).facts, ?_⟩
              refine Held.G_take (i := 11) (d := 51) (v := ?_) [11, 15, 16, 17] rfl rfl (by kernel_rfl) (by kernel_rfl) (by kernel_rfl) (by kernel_rfl) (fun _ _ _ h => h) (Or.inl ⟨by rfl, ?_⟩) (T6.out.drew).facts ?_
              rotate_left 1
              · intro w hSw; clear hSw; go_simp <;> with_reducible rfl
              simp only [Act.put, List.setIfInBounds_toArray, List.set_cons_zero, List.set_cons_succ]
              refine Held.G_ready (rs := [14]) (by decide +kernel) (by simp) ?_
              refine Held.G_cons rfl (fun KK hK => ?_) Held.G_nil
              go_simp
              (with_reducible refine (rsame_any _ p q A B c d (rowX_row T6.out.drew.ra) (rowX_row T6.out.drew.rb) hx).mono ?_)
              rintro e w7 ⟨rfl, hb7⟩
              have t7 := T6.out.drew.below hb7
              have x7 := Arr.below (show Arr w6.drew _ _ _ from X6.out) hb7
              have y7 := Arr.below (show Arr w6.drew _ _ _ from Y6.out) hb7
              clear hb7
              go_wp2_with fail
              refine ⟨t7.facts, ?_⟩
              refine Held.G_take (i := 15) (d := 55) (v := ?_) [15, 16, 17] rfl rfl (by kernel_rfl) (by kernel_rfl) (by kernel_rfl) (by kernel_rfl) (fun _ _ _ h => h) (Or.inl ⟨by rfl, ?_⟩) t7.facts ?_
              rotate_left 1
              · intro w hSw; clear hSw; go_simp <;> with_reducible rfl
              simp only [Act.put, List.setIfInBounds_toArray, List.set_cons_zero, List.set_cons_succ]
              refine Held.G_take (i := 16) (d := 56) (v := ?_) [16, 17] rfl rfl (by kernel_rfl) (by kernel_rfl) (by kernel_rfl) (by kernel_rfl) (fun _ _ _ h => h) (Or.inl ⟨by rfl, ?_⟩) t7.facts ?_
              rotate_left 1
              · intro w hSw; clear hSw; go_simp <;> with_reducible rfl
              simp only [Act.put, List.setIfInBounds_toArray, List.set_cons_zero, List.set_cons_succ]
              refine Held.G_ready (rs := [17]) (by decide +kernel) (by simp) ?_
              refine Held.G_last rfl (fun KK hK => ?_) Held.G_nil
              go_simp
              refine hK _ _ ?_
              clear hK KK
              refine Held.G_done (by kernel_rfl) ?_ _
              go_wp2_with fail
              go_ret
              exact ⟨ret_bool HE.out, t7.bl⟩
            refine Held.G_cons rfl (fun KK hK => ?_) Held.G_nil
            go_simp
            (with_reducible refine (rsame_any _ p q A B c d (rowX_row T6.out.drew.ra) (rowX_row T6.out.drew.rb) hx).mono ?_)
            rintro e w7 ⟨rfl, hb7⟩
            have t7 := T6.out.drew.below hb7
            have x7 := Arr.below (show Arr w6.drew _ _ _ from X6.out) hb7
            have y7 := Arr.below (show Arr w6.drew _ _ _ from Y6.out) hb7
            clear hb7
            go_wp2_with fail
            refine ⟨t7.facts, ?_⟩
            refine Held.G_ready (rs := [8]) (by decide +kernel) (by simp) ?_
            refine Held.G_cons rfl (fun KK hK => ?_) Held.G_nil
            have hcv := conv_page (x7) HPL.out
            go_simp
            refine hK _ _ ?_
            clear hK KK hcv
            refine ⟨t7.facts, ?_⟩
            refine Held.G_take (i := 11) (d := 51) (v := ?_) [11, 15, 16, 17] rfl rfl (by kernel_rfl) (by kernel_rfl) (by kernel_rfl) (by kernel_rfl) (fun _ _ _ h => h) (Or.inl ⟨by rfl, ?_⟩) t7.facts ?_
            rotate_left 1
            · intro w hSw; clear hSw; go_simp <;> with_reducible rfl
            simp only [Act.put, List.setIfInBounds_toArray, List.set_cons_zero, List.set_cons_succ]
            refine Held.G_take (i := 15) (d := 55) (v := ?_) [15, 16, 17] rfl rfl (by kernel_rfl) (by kernel_rfl) (by kernel_rfl) (by kernel_rfl) (fun _ _ _ h => h) (Or.inl ⟨by rfl, ?_⟩) t7.facts ?_
            rotate_left 1
            · intro w hSw; clear hSw; go_simp <;> with_reducible rfl
            simp only [Act.put, List.setIfInBounds_toArray, List.set_cons_zero, List.set_cons_succ]
            refine Held.G_take (i := 16) (d := 56) (v := ?_) [16, 17] rfl rfl (by kernel_rfl) (by kernel_rfl) (by kernel_rfl) (by kernel_rfl) (fun _ _ _ h => h) (Or.inl ⟨by rfl, ?_⟩) t7.facts ?_
            rotate_left 1
            · intro w hSw; clear hSw; go_simp <;> with_reducible rfl
            simp only [Act.put, List.setIfInBounds_toArray, List.set_cons_zero, List.set_cons_succ]
            refine Held.G_ready (rs := [17]) (by decide +kernel) (by simp) ?_
            refine Held.G_last rfl (fun KK hK => ?_) Held.G_nil
            go_simp
            refine hK _ _ ?_
            clear hK KK
            refine Held.G_done (by kernel_rfl) ?_ _
            go_wp2_with fail
            go_ret
            exact ⟨ret_bool HE.out, t7.bl⟩
          refine Held.G_cons rfl (fun KK hK => ?_) Held.G_nil
          go_simp
          (with_reducible refine (rsame_any _ p q A B c d (rowX_row T6.out.drew.ra) (rowX_row T6.out.drew.rb) hx).mono ?_)
          rintro e w7 ⟨rfl, hb7⟩
          have t7 := T6.out.drew.below hb7
          have x7 := Arr.below (show Arr w6.drew _ _ _ from X6.out) hb7
          have y7 := Arr.below (show Arr w6.drew _ _ _ from Y6.out) hb7
          clear hb7
          go_wp2_with fail
          refine ⟨t7.facts, ?_⟩
          refine Held.G_ready (rs := [8, 10]) (by decide +kernel) (by simp) ?_
          refine Held.G_cons rfl (fun KK hK => ?_) ?_
          · have hcv := conv_page (x7) HPL.out
            go_simp
            refine hK _ _ ?_
            clear hK KK hcv
            refine ⟨t7.facts, ?_⟩
            refine Held.G_ready (rs := [10]) (by decide +kernel) (by simp) ?_
            refine Held.G_cons rfl (fun KK hK => ?_) Held.G_nil
            have hcv := conv_page (y7) HQL.out
            go_simp
            refine hK _ _ ?_
            clear hK KK hcv
            refine ⟨t7.facts, ?_⟩
            refine Held.G_take (i := 11) (d := 51) (v := ?_) [11, 15, 16, 17] rfl rfl (by kernel_rfl) (by kernel_rfl) (by kernel_rfl) (by kernel_rfl) (fun _ _ _ h => h) (Or.inl ⟨by rfl, ?_⟩) t7.facts ?_
            rotate_left 1
            · intro w hSw; clear hSw; go_simp <;> with_reducible rfl
            simp only [Act.put, List.setIfInBounds_toArray, List.set_cons_zero, List.set_cons_succ]
            refine Held.G_take (i := 15) (d := 55) (v := ?_) [15, 16, 17] rfl rfl (by kernel_rfl) (by kernel_rfl) (by kernel_rfl) (by kernel_rfl) (fun _ _ _ h => h) (Or.inl ⟨by rfl, ?_⟩) t7.facts ?_
            rotate_left 1
            · intro w hSw; clear hSw; go_simp <;> with_reducible rfl
            simp only [Act.put, List.setIfInBounds_toArray, List.set_cons_zero, List.set_cons_succ]
            refine Held.G_take (i := 16) (d := 56) (v := ?_) [16, 17] rfl rfl (by kernel_rfl) (by kernel_rfl) (by kernel_rfl) (by kernel_rfl) (fun _ _ _ h => h) (Or.inl ⟨by rfl, ?_⟩) t7.facts ?_
            rotate_left 1
            · intro w hSw; clear hSw; go_simp <;> with_reducible rfl
            simp only [Act.put, List.setIfInBounds_toArray, List.set_cons_zero, List.set_cons_succ]
            refine Held.G_ready (rs := [17]) (by decide +kernel) (by simp) ?_
            refine Held.G_last rfl (fun KK hK => ?_) Held.G_nil
            go_simp
            refine hK _ _ ?_
            clear hK KK
            refine Held.G_done (by kernel_rfl) ?_ _
            go_wp2_with fail
            go_ret
            exact ⟨ret_bool HE.out, t7.bl⟩
          refine Held.G_cons rfl (fun KK hK => ?_) Held.G_nil
          have hcv := conv_page (y7) HQL.out
          go_simp
          refine hK _ _ ?_
          clear hK KK hcv
          refine ⟨t7.facts, ?_⟩
          refine Held.G_ready (rs := [8]) (by decide +kernel) (by simp) ?_
          refine Held.G_cons rfl (fun KK hK => ?_) Held.G_nil
          have hcv := conv_page (x7) HPL.out
          go_simp
          refine hK _ _ ?_
          clear hK KK hcv
          refine ⟨t7.facts, ?_⟩
          refine Held.G_take (i := 11) (d := 51) (v := ?_) [11, 15, 16, 17] rfl rfl (by kernel_rfl) (by kernel_rfl) (by kernel_rfl) (by kernel_rfl) (fun _ _ _ h => h) (Or.inl ⟨by rfl, ?_⟩) t7.facts ?_
          rotate_left 1
          · intro w hSw; clear hSw; go_simp <;> with_reducible rfl
          simp only [Act.put, List.setIfInBounds_toArray, List.set_cons_zero, List.set_cons_succ]
          refine Held.G_take (i := 15) (d := 55) (v := ?_) [15, 16, 17] rfl rfl (by kernel_rfl) (by kernel_rfl) (by kernel_rfl) (by kernel_rfl) (fun _ _ _ h => h) (Or.inl ⟨by rfl, ?_⟩) t7.facts ?_
          rotate_left 1
          · intro w hSw; clear hSw; go_simp <;> with_reducible rfl
          simp only [Act.put, List.setIfInBounds_toArray, List.set_cons_zero, List.set_cons_succ]
          refine Held.G_take (i := 16) (d := 56) (v := ?_) [16, 17] rfl rfl (by kernel_rfl) (by kernel_rfl) (by kernel_rfl) (by kernel_rfl) (fun _ _ _ h => h) (Or.inl ⟨by rfl, ?_⟩) t7.facts ?_
          rotate_left 1
          · intro w hSw; clear hSw; go_simp <;> with_reducible rfl
          simp only [Act.put, List.setIfInBounds_toArray, List.set_cons_zero, List.set_cons_succ]
          refine Held.G_ready (rs := [17]) (by decide +kernel) (by simp) ?_
          refine Held.G_last rfl (fun KK hK => ?_) Held.G_nil
          go_simp
          refine hK _ _ ?_
          clear hK KK
          refine Held.G_done (by kernel_rfl) ?_ _
          go_wp2_with fail
          go_ret
          exact ⟨ret_bool HE.out, t7.bl⟩
        · have e2b : (err q != 0) = true := by simpa using e2
          go_enter Try.func8, Try.ntmps8
          go_wp2_with fail
          refine (two_new W p q A B c d hA hB).mono ?_
          rintro e w1 ⟨g, rfl, r1, t1⟩
          go_wp2_with fail
          refine (awake_any w1).mono ?_
          rintro e w2 ⟨rfl, b2⟩
          have t2 := t1.below b2
          have r2 := r1.below b2
          clear t1 r1 b2
          obtain ⟨h0, h1, h2, h3, h4, h5, h6, h7, h8, h9⟩ := t2.facts
          go_wp2_with fail
          refine (hfa w2 (rowX_row t2.ra)).mono ?_
          rintro e w3 ⟨rfl, b3⟩
          have t3 := t2.below b3
          have r3 := r2.below b3
          clear h0 h1 h2 h3 h4 h5 h6 h7 h8 h9 t2 r2 b3
          obtain ⟨h0, h1, h2, h3, h4, h5, h6, h7, h8, h9⟩ := t3.facts
          go_wp2_with fail
          refine (hfb w3 (rowX_row t3.rb)).mono ?_
          rintro e w4 ⟨rfl, b4⟩
          have t4 := t3.below b4
          have r4 := r3.below b4
          clear h0 h1 h2 h3 h4 h5 h6 h7 h8 h9 t3 r3 b4
          obtain ⟨h0, h1, h2, h3, h4, h5, h6, h7, h8, h9⟩ := t4.facts
          go_wp2_with fail
          refine (put_any g 0 w4 p A c r4 (by omega) (by omega) t4.ra hpl hpz).mono ?_
          rintro e w5 ⟨hok, hbad⟩
          clear h0 h1 h2 h3 h4 h5 h6 h7 h8 h9
          obtain ⟨x, rfl, hxw, ax, r5, o5⟩ := hok e1
          have t5 := t4.only o5
          clear hbad hok t4 r4 o5 ax
          obtain ⟨h0, h1, h2, h3, h4, h5, h6, h7, h8, h9⟩ := t5.facts
          go_wp2_with fail
          refine (put_any g (0 + 252) w5 q B d r5 (by omega) (by omega) t5.rb hql hqz).mono ?_
          rintro e w6 ⟨hok, hbad⟩
          clear h0 h1 h2 h3 h4 h5 h6 h7 h8 h9
          obtain ⟨rfl, r6, o6⟩ := hbad e2
          have t6 := t5.only o6
          clear hbad hok t5 r5 o6
          generalize err q = eq at *
          go_wp2_with fail
          go_quiet (fail)
          go_wp2_with fail
          go_ret
          exact ⟨rfl, t6.bl.trans (below_drewN _ _ _)⟩
      · have e1b : (err p != 0) = true := by simpa using e1
        go_enter Try.func8, Try.ntmps8
        go_wp2_with fail
        refine (two_new W p q A B c d hA hB).mono ?_
        rintro e w1 ⟨g, rfl, r1, t1⟩
        go_wp2_with fail
        refine (awake_any w1).mono ?_
        rintro e w2 ⟨rfl, b2⟩
        have t2 := t1.below b2
        have r2 := r1.below b2
        clear t1 r1 b2
        obtain ⟨h0, h1, h2, h3, h4, h5, h6, h7, h8, h9⟩ := t2.facts
        go_wp2_with fail
        refine (hfa w2 (rowX_row t2.ra)).mono ?_
        rintro e w3 ⟨rfl, b3⟩
        have t3 := t2.below b3
        have r3 := r2.below b3
        clear h0 h1 h2 h3 h4 h5 h6 h7 h8 h9 t2 r2 b3
        obtain ⟨h0, h1, h2, h3, h4, h5, h6, h7, h8, h9⟩ := t3.facts
        go_wp2_with fail
        refine (hfb w3 (rowX_row t3.rb)).mono ?_
        rintro e w4 ⟨rfl, b4⟩
        have t4 := t3.below b4
        have r4 := r3.below b4
        clear h0 h1 h2 h3 h4 h5 h6 h7 h8 h9 t3 r3 b4
        obtain ⟨h0, h1, h2, h3, h4, h5, h6, h7, h8, h9⟩ := t4.facts
        go_wp2_with fail
        refine (put_any g 0 w4 p A c r4 (by omega) (by omega) t4.ra hpl hpz).mono ?_
        rintro e w5 ⟨hok, hbad⟩
        clear h0 h1 h2 h3 h4 h5 h6 h7 h8 h9
        obtain ⟨rfl, r5, o5⟩ := hbad e1
        have t5 := t4.only o5
        clear hbad hok t4 r4 o5
        obtain ⟨h0, h1, h2, h3, h4, h5, h6, h7, h8, h9⟩ := t5.facts
        generalize err p = ep at *
        go_wp2_with fail
        refine (put_any g 0 w5 q B d r5 (by omega) (by omega) t5.rb hql hqz).mono ?_
        rintro e w6 ⟨hok, hbad⟩
        clear h0 h1 h2 h3 h4 h5 h6 h7 h8 h9
        have ho6 : Only g w5 w6 ∧ ∃ v ee, e = .returned (.tuple #[v, .int .i64 ee]) := by
          by_cases e2 : err q = 0
          · obtain ⟨y, rfl, _, _, _, o6⟩ := hok e2
            exact ⟨o6, _, _, rfl⟩
          · obtain ⟨rfl, _, o6⟩ := hbad e2
            exact ⟨o6, _, _, rfl⟩
        obtain ⟨o6, v6, ee, rfl⟩ := ho6
        have t6 := t5.only o6
        clear hbad hok t5 r5 o6
        go_wp2_with fail
        go_quiet (fail)
        go_wp2_with fail
        go_ret
        exact ⟨rfl, t6.bl.trans (below_drewN _ _ _)⟩
    · have hfb := fun (x : World) (h : Row x x.heap.size B (strs q.cells)) => few_page x q B d h hy false ⟨fun e => (by cases e), fun e => absurd e f2⟩
      go_enter Try.func8, Try.ntmps8
      go_wp2_with fail
      refine (two_new W p q A B c d hA hB).mono ?_
      rintro e w1 ⟨g, rfl, r1, t1⟩
      go_wp2_with fail
      refine (awake_any w1).mono ?_
      rintro e w2 ⟨rfl, b2⟩
      have t2 := t1.below b2
      have r2 := r1.below b2
      clear t1 r1 b2
      obtain ⟨h0, h1, h2, h3, h4, h5, h6, h7, h8, h9⟩ := t2.facts
      go_wp2_with fail
      refine (hfa w2 (rowX_row t2.ra)).mono ?_
      rintro e w3 ⟨rfl, b3⟩
      have t3 := t2.below b3
      have r3 := r2.below b3
      clear h0 h1 h2 h3 h4 h5 h6 h7 h8 h9 t2 r2 b3
      obtain ⟨h0, h1, h2, h3, h4, h5, h6, h7, h8, h9⟩ := t3.facts
      go_wp2_with fail
      refine (hfb w3 (rowX_row t3.rb)).mono ?_
      rintro e w4 ⟨rfl, b4⟩
      have t4 := t3.below b4
      have r4 := r3.below b4
      clear h0 h1 h2 h3 h4 h5 h6 h7 h8 h9 t3 r3 b4
      obtain ⟨h0, h1, h2, h3, h4, h5, h6, h7, h8, h9⟩ := t4.facts
      go_wp2_with fail
      refine (awakeL t4.bl).mono ?_
      rintro e w9 ⟨rfl, b9, b10⟩
      go_wp2_with fail
      go_ret
      exact ⟨rfl, b10⟩
  · have hfa := fun (x : World) (h : Row x x.heap.size A (strs p.cells)) => few_page x p A c h hx false ⟨fun e => (by cases e), fun e => absurd e f1⟩
    go_enter Try.func8, Try.ntmps8
    go_wp2_with fail
    refine (two_new W p q A B c d hA hB).mono ?_
    rintro e w1 ⟨g, rfl, r1, t1⟩
    go_wp2_with fail
    refine (awake_any w1).mono ?_
    rintro e w2 ⟨rfl, b2⟩
    have t2 := t1.below b2
    have r2 := r1.below b2
    clear t1 r1 b2
    obtain ⟨h0, h1, h2, h3, h4, h5, h6, h7, h8, h9⟩ := t2.facts
    go_wp2_with fail
    refine (hfa w2 (rowX_row t2.ra)).mono ?_
    rintro e w3 ⟨rfl, b3⟩
    have t3 := t2.below b3
    have r3 := r2.below b3
    clear h0 h1 h2 h3 h4 h5 h6 h7 h8 h9 t2 r2 b3
    obtain ⟨h0, h1, h2, h3, h4, h5, h6, h7, h8, h9⟩ := t3.facts
    go_wp2_with fail
    refine (awakeL t3.bl).mono ?_
    rintro e w9 ⟨rfl, b9, b10⟩
    go_wp2_with fail
    go_ret
    exact ⟨rfl, b10⟩
end Go.Proofs.Ytlcnnebnocjelaa.PageApart
