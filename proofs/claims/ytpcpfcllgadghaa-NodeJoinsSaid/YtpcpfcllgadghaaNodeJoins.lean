/- The walk of NodeJoins. -/
import Derived.Test.YtpcpfcllgadghaaNodeRooms
import Derived.Test.YtpcpfcllgadghaaNodeRefCheck
import Derived.Test.YtpcpfcllgadghaaNodeWant
import Derived.Test.YtpcpfcllgadghaaHeld
namespace Go.Proofs.Ytpcpfcllgadghaa.NodeJoins
open Go.RowKit Base NodePlain NodeRead NodeSlice NodeCheck NodeBox NodeEnt NodeCells NodeRd NodeOf2 NodeOf3 NodeFind NodeAwake NodePlumb NodeRooms NodeRefCheck NodeLeaf NodeStore NodeSame NodeJoin NodeWant

set_option maxRecDepth 100000 in
set_option maxHeartbeats 25600000 in
theorem NodeJoins_walk (na nb : Nd) (ha hb : Hd) (key : ByteArray) (W : World) (hLa : Lay W na ha) (hLb : Lay W nb hb) (hka : na.keys.length ≤ maxLen) (hva : na.vals.length ≤ maxLen) (hkb : nb.keys.length ≤ maxLen) (hvb : nb.vals.length ≤ maxLen) (_hks : key.size ≤ maxLen) :
    Calls Try.prog 8 #[nv na ha, nv nb hb, .string key] W (Law W) := by
  obtain ⟨fa, hfa⟩ := pick_b (Few na)
  obtain ⟨fb, hfb⟩ := pick_b (Few nb)
  have HS := Lib.hid (begN hLa hLb)
  have HFA := Lib.hid (fun w' (s : BegN W na ha nb hb w') => NodeRoom.few_any w' na ha s.2.1 hka hva fa hfa)
  have HFB := Lib.hid (fun w' (s : BegN W na ha nb hb w') => NodeRoom.few_any w' nb hb s.2.2.2.2 hkb hvb fb hfb)
  clear hka hva hkb hvb hLa hLb
  go_enter Try.func8, Try.ntmps8
  go_wp2_with fail
  refine (awake_any _).mono ?_
  rintro e w1 ⟨rfl, b1⟩
  have s1 := HS.out w1 b1
  clear HS b1
  obtain ⟨c0, c1, c2, c3, _⟩ := s1.1
  go_wp2_with fail
  refine (HFA.out w1 s1).mono ?_
  rintro e w2 ⟨rfl, b2⟩
  have s2 := s1.below b2
  clear s1 b2 HFA c0 c1 c2 c3
  cases fa with
  | false =>
    clear hfa hfb
    obtain ⟨c0, c1, c2, c3, _⟩ := s2.1
    obtain ⟨d0, d1, d2, d3, _⟩ := s2.2.2.2.1
    go_wp2_with fail
    refine (awake_any w2).mono ?_
    rintro e w9 ⟨rfl, b9⟩
    have s9 := s2.below b9
    go_wp2_with fail
    go_ret
    exact ⟨rfl, s9.2.2.1⟩
  | true =>
    have HFWA := Lib.hid (hfa.1 rfl)
    clear hfa
    obtain ⟨c0, c1, c2, c3, _⟩ := s2.1
    obtain ⟨d0, d1, d2, d3, _⟩ := s2.2.2.2.1
    go_wp2_with fail
    refine (HFB.out w2 s2).mono ?_
    rintro e w4 ⟨rfl, b2⟩
    have s4 := s2.below b2
    clear s2 b2 HFB c0 c1 c2 c3 d0 d1 d2 d3
    cases fb with
    | false =>
      clear hfb
      obtain ⟨c0, c1, c2, c3, _⟩ := s4.1
      obtain ⟨d0, d1, d2, d3, _⟩ := s4.2.2.2.1
      go_wp2_with fail
      refine (awake_any w4).mono ?_
      rintro e w9 ⟨rfl, b9⟩
      have s9 := s4.below b9
      go_wp2_with fail
      go_ret
      exact ⟨rfl, s9.2.2.1⟩
    | true =>
      have HFWB := Lib.hid (hfb.1 rfl)
      clear hfb
      have HSA := Lib.hid HFWA.out.small
      have HSB := Lib.hid HFWB.out.small
      have HKL := Lib.hid (show na.keys.length ≤ 100 ∧ nb.keys.length ≤ 100 ∧ na.vals.length ≤ 100 ∧ nb.vals.length ≤ 100 ∧ na.kids.length ≤ 101 ∧ nb.kids.length ≤ 101 from ⟨HFWA.out.1, HFWB.out.1, HFWA.out.2.1, HFWB.out.2.1, HFWA.out.2.2.1, HFWB.out.2.2.1⟩)
      by_cases hz : 300 < key.size
      · have hy : (300 : Int) < (key.size : Int) := by omega
        clear hz
        obtain ⟨c0, c1, c2, c3, _⟩ := s4.1
        obtain ⟨d0, d1, d2, d3, _⟩ := s4.2.2.2.1
        go_wp2_with fail
        refine (awake_any w4).mono ?_
        rintro e w9 ⟨rfl, b9⟩
        have s9 := s4.below b9
        go_wp2_with fail
        go_ret
        exact ⟨rfl, s9.2.2.1⟩
      · have hy : ¬ ((300 : Int) < (key.size : Int)) := by omega
        clear hz
        cases hla : na.leaf with
        | true =>
          cases hlb : nb.leaf with
          | true =>
            have hj := join_leaf w4 na nb ha hb key s4.2.1 s4.2.2.2.2 HSA.out HSB.out hla hlb
            unfold nv at hj
            rw [hla, hlb] at hj
            obtain ⟨c0, c1, c2, c3, _⟩ := s4.1
            obtain ⟨d0, d1, d2, d3, _⟩ := s4.2.2.2.1
            rw [hla] at c0
            rw [hlb] at d0
            go_wp2_with fail
            clear c0 c1 c2 c3 d0 d1 d2 d3
            refine hj.mono ?_
            rintro e v4 ⟨v, rfl, hv, b4⟩
            have s4' := s4.below b4
            clear hj s4 b4
            obtain ⟨c, hqc⟩ : ∃ m : Nd, m = ⟨true, na.keys ++ nb.keys, na.vals ++ nb.vals, []⟩ := ⟨_, rfl⟩
            rw [← hqc] at hv
            obtain ⟨hc, rfl, lc⟩ := hv
            have HQC := Lib.hid hqc
            clear hqc
            have b5 := box_below v4 c hc
            have bxc := bx_new v4 c hc
            have lc5 := lc.below b5
            have s5 := s4'.below b5
            obtain ⟨v5, hv5⟩ : ∃ v, v = box v4 c hc := ⟨_, rfl⟩
            rw [← hv5] at bxc lc5 s5 b5
            unfold box at hv5
            have HV5 := Lib.hid hv5
            clear hv5 lc s4' b5
            have HX := Lib.hid (fun (w' : World) (h : Below v5.heap.size v5 w') => show BegN W na ha nb hb w' ∧ Bx w' v4.heap.size c hc ∧ Lay w' c hc from ⟨s5.below h, bxc.below h, lc5.below h⟩)
            have hw0 := Wn.new v5 #[.bool true, .slice none 0 0, .slice none 0 0, .slice none 0 0] 9 9
            obtain ⟨v6, hv6⟩ : ∃ v, v = v5.alloc (.cells #[.bool true, .slice none 0 0, .slice none 0 0, .slice none 0 0] 25) := ⟨_, rfl⟩
            rw [← hv6] at hw0
            rw [HV5.out] at hv6
            have hgw : v5.heap.size = v4.heap.size + 1 := by rw [HV5.out]; simp
            rw [hgw] at hw0
            have qa0 := s5.1.c0
            have qb0 := s5.2.2.2.1.c0
            rw [hla] at qa0
            rw [hlb] at qb0
            rw [HV5.out] at qa0 qb0
            have HXG := Lib.hid (fun (w' : World) (h : Below (v4.heap.size + 1) v5 w') => HX.out w' (by rw [hgw]; exact h))
            have HV6 := Lib.hid hv6
            clear hv6 hgw HX bxc lc5 s5
            obtain ⟨s6, _, _⟩ := HXG.out v6 hw0.b
            obtain ⟨c0, c1, c2, c3, _⟩ := s6.1
            obtain ⟨d0, d1, d2, d3, _⟩ := s6.2.2.2.1
            rw [hla] at c0
            rw [hlb] at d0
            obtain ⟨K1, kc1, v7, hrun, hw1⟩ := hw0.app 22 el_strs (c2 := ha.kc) (n := 0) (m := na.keys.length) (k := na.keys.length) rfl (strs_len _).symm (by omega) s6.2.1.k (strs_1 _) (by have := HSA.out.k; simp only [maxLen]; omega) (by have := HSA.out.k; omega)
            obtain ⟨u0, u1, u2, u3, _⟩ := hw0.at'.f4
            rw [HV6.out] at c0 c1 c2 c3 d0 d1 d2 d3 u0 u1 u2 u3 hrun
            obtain ⟨y0, y1, y2, y3, z0, z1, z2, z3⟩ := hw1.at'.f4
            have hw2 := hw1.set 1 (.slice K1 na.keys.length kc1)
            change Wn (v4.heap.size + 1) #[.bool true, .slice K1 na.keys.length kc1, .slice none 0 0, .slice none 0 0] 9 9 K1 kc1 _ none 0 [] v5 _ at hw2
            rw [List.nil_append] at hw2
            obtain ⟨v8, hv8⟩ : ∃ v, v = v7.setCell ⟨v4.heap.size + 1, 1, none⟩ (.slice K1 na.keys.length kc1) := ⟨_, rfl⟩
            rw [← hv8] at hw2
            have HV8 := Lib.hid hv8
            obtain ⟨s8, _, _⟩ := HXG.out v8 hw2.b
            clear hw0 hw1 s6
            obtain ⟨p0, _, _, _, _⟩ := s8.1
            rw [hla] at p0
            have HZ8 := Lib.hid (show v8.heap.size = v7.heap.size by rw [hv8]; simp)
            rw [hv8] at p0
            clear hv8
            skip
            go_wp2_with (at_builtin; refine wpList_append_run rfl (.tmp 43) (.tmp 45) 22 22 rfl rfl rfl hrun ?_)
            rw [← HV8.out]
            clear HV8 HV6 HV5 hrun p0 qa0 qb0 c0 c1 c2 c3 d0 d1 d2 d3 u0 u1 u2 u3 y0 y1 y2 y3 z0 z1 z2 z3
            generalize v4.heap.size = g4 at *
            obtain ⟨t0, ht0⟩ : ∃ v, v = World.drew v8 := ⟨_, rfl⟩
            have hq0 := (hw2.below (w' := t0) (by rw [ht0]; exact (Below.refl _ _).drew)).symm
            have HT0 := Lib.hid ht0
            clear ht0 hw2 s8
            have HSP := Lib.hid (fun (w' : World) (h1 : At w' (g4 + 1) 25 #[.bool true, .slice K1 na.keys.length kc1, .slice none 0 0, .slice none 0 0]) (h2 : Below (g4 + 1) v5 w') => show w'.cell? ⟨g4 + 1, 2, none⟩ = some (.slice none 0 0) ∧ w'.cell? ⟨W.heap.size, 2, none⟩ = some (.slice ha.V na.vals.length ha.vc) ∧ w'.cell? ⟨W.heap.size + 1, 2, none⟩ = some (.slice hb.V nb.vals.length hb.vc) from ⟨by rw [h1.cell]; rfl, (HXG.out w' h2).1.1.c2, (HXG.out w' h2).1.2.2.2.1.c2⟩)
            refine wp_region_any (by kernel_rfl) ?_
            change wpAny _ _ _ _ _ _ _ (World.drew _)
            rw [← HT0.out]
            clear HT0
            refine Held.any_of_G (S := (fun w' : World => w'.cell? ⟨g4 + 1, 2, none⟩ = some (.slice none 0 0) ∧ w'.cell? ⟨W.heap.size, 2, none⟩ = some (.slice ha.V na.vals.length ha.vc) ∧ w'.cell? ⟨W.heap.size + 1, 2, none⟩ = some (.slice hb.V nb.vals.length hb.vc))) (z := 9) _ _ _ _ ?_
            refine Held.G_take (i := 0) (d := 50) (v := ?_) [0, 1, 4, 7, 8, 9] rfl rfl (by kernel_rfl) (by kernel_rfl) (by kernel_rfl) (by kernel_rfl) (fun _ _ _ h => h) (Or.inl ⟨by rfl, ?_⟩) (HSP.out _ hq0.at' hq0.b) ?_
            rotate_left 1
            · intro w hSw; clear hSw; go_simp <;> with_reducible rfl
            simp only [Act.put, List.setIfInBounds_toArray, List.set_cons_zero, List.set_cons_succ]
            refine Held.G_take (i := 1) (d := 51) (v := ?_) [1, 4, 7, 8, 9] rfl rfl (by kernel_rfl) (by kernel_rfl) (by kernel_rfl) (by kernel_rfl) (fun _ _ _ h => h) (Or.inl ⟨by rfl, ?_⟩) (HSP.out _ hq0.at' hq0.b) ?_
            rotate_left 1
            · intro w hSw; obtain ⟨j0, j1, j2⟩ := hSw; go_simp <;> with_reducible rfl
            simp only [Act.put, List.setIfInBounds_toArray, List.set_cons_zero, List.set_cons_succ]
            refine Held.G_take (i := 2) (d := 52) (v := ?_) [2, 3, 4, 7, 8, 9] rfl rfl (by kernel_rfl) (by kernel_rfl) (by kernel_rfl) (by kernel_rfl) (fun _ _ _ h => h) (Or.inl ⟨by rfl, ?_⟩) (HSP.out _ hq0.at' hq0.b) ?_
            rotate_left 1
            · intro w hSw; clear hSw; go_simp <;> with_reducible rfl
            simp only [Act.put, List.setIfInBounds_toArray, List.set_cons_zero, List.set_cons_succ]
            refine Held.G_take (i := 3) (d := 53) (v := ?_) [3, 4, 7, 8, 9] rfl rfl (by kernel_rfl) (by kernel_rfl) (by kernel_rfl) (by kernel_rfl) (fun _ _ _ h => h) (Or.inl ⟨by rfl, ?_⟩) (HSP.out _ hq0.at' hq0.b) ?_
            rotate_left 1
            · intro w hSw; obtain ⟨j0, j1, j2⟩ := hSw; go_simp <;> with_reducible rfl
            simp only [Act.put, List.setIfInBounds_toArray, List.set_cons_zero, List.set_cons_succ]
            refine Held.G_take (i := 5) (d := 55) (v := ?_) [5, 6, 7, 8, 9] rfl rfl (by kernel_rfl) (by kernel_rfl) (by kernel_rfl) (by kernel_rfl) (fun _ _ _ h => h) (Or.inl ⟨by rfl, ?_⟩) (HSP.out _ hq0.at' hq0.b) ?_
            rotate_left 1
            · intro w hSw; clear hSw; go_simp <;> with_reducible rfl
            simp only [Act.put, List.setIfInBounds_toArray, List.set_cons_zero, List.set_cons_succ]
            refine Held.G_take (i := 6) (d := 56) (v := ?_) [6, 7, 8, 9] rfl rfl (by kernel_rfl) (by kernel_rfl) (by kernel_rfl) (by kernel_rfl) (fun _ _ _ h => h) (Or.inl ⟨by rfl, ?_⟩) (HSP.out _ hq0.at' hq0.b) ?_
            rotate_left 1
            · intro w hSw; obtain ⟨j0, j1, j2⟩ := hSw; go_simp <;> with_reducible rfl
            simp only [Act.put, List.setIfInBounds_toArray, List.set_cons_zero, List.set_cons_succ]
            refine Held.G_ready (rs := [4]) (by decide +kernel) (by simp) ?_
            refine Held.G_cons rfl (fun KK hK => ?_) Held.G_nil
            obtain ⟨sa, _, _⟩ := HXG.out t0 hq0.b
            obtain ⟨X1, xc1, t1, hrun, hq1⟩ := hq0.app 22 el_strs (c2 := ha.vc) (n := 0) (m := na.vals.length) (k := na.vals.length) rfl (strs_len _).symm (by omega) sa.2.1.v (strs_1 _) (by have := HSA.out.v; simp only [maxLen]; omega) (by have := HSA.out.v; omega)
            rw [List.nil_append] at hq1
            refine NodeEnt.step_append_d (d := 54) rfl rfl (.tmp 51) (.tmp 53) 22 22 rfl (vs := .slice none 0 0) (vx := .slice ha.V na.vals.length ha.vc) (by simp [Act.eval]) (by simp [Act.eval]) hrun ?_
            refine hK _ _ ?_
            clear hK KK hrun sa
            simp only [Act.put, List.setIfInBounds_toArray, List.set_cons_zero, List.set_cons_succ]
            refine ⟨(HSP.out _ hq1.at' hq1.b), ?_⟩
            refine Held.G_ready (rs := [7]) (by decide +kernel) (by simp) ?_
            refine Held.G_cons rfl (fun KK hK => ?_) Held.G_nil
            obtain ⟨sb, _, _⟩ := HXG.out t1 hq1.b
            obtain ⟨X2, xc2, t2, hrun, hq2⟩ := hq1.app 22 el_strs (c2 := hb.vc) (n := na.vals.length) (m := nb.vals.length) (k := na.vals.length + nb.vals.length) (strs_len _).symm (strs_len _).symm rfl sb.2.2.2.2.v (strs_1 _) (by have := HSA.out.v; have := HSB.out.v; simp only [maxLen]; omega) (by have := HSA.out.v; have := HSB.out.v; omega)
            refine NodeEnt.step_append_d (d := 57) rfl rfl (.tmp 54) (.tmp 56) 22 22 rfl (vs := .slice X1 na.vals.length xc1) (vx := .slice hb.V nb.vals.length hb.vc) (by simp [Act.eval]) (by simp [Act.eval]) hrun ?_
            refine hK _ _ ?_
            clear hK KK hrun sb
            simp only [Act.put, List.setIfInBounds_toArray, List.set_cons_zero, List.set_cons_succ]
            refine ⟨(HSP.out _ hq2.at' hq2.b), ?_⟩
            refine Held.G_take (i := 8) (d := 58) (v := ?_) [8, 9] rfl rfl (by kernel_rfl) (by kernel_rfl) (by kernel_rfl) (by kernel_rfl) (fun _ _ _ h => h) (Or.inl ⟨by rfl, ?_⟩) (HSP.out _ hq2.at' hq2.b) ?_
            rotate_left 1
            · intro w hSw; clear hSw; go_simp <;> with_reducible rfl
            simp only [Act.put, List.setIfInBounds_toArray, List.set_cons_zero, List.set_cons_succ]
            refine Held.G_ready (rs := [9]) (by decide +kernel) (by simp) ?_
            refine Held.G_last rfl (fun KK hK => ?_) Held.G_nil
            obtain ⟨y0, y1, y2, y3, z0, z1, z2, z3⟩ := hq2.at'.f4
            go_simp
            refine hK _ _ ?_
            clear hK KK y0 y1 y2 y3 z0 z1 z2 z3
            have hq3 := (hq2.set 2 (.slice X2 (na.vals.length + nb.vals.length) xc2)).symm
            change Wn (g4 + 1) #[.bool true, .slice K1 na.keys.length kc1, .slice X2 (na.vals.length + nb.vals.length) xc2, .slice none 0 0] 9 9 K1 kc1 _ X2 xc2 _ v5 _ at hq3
            obtain ⟨t3, ht3⟩ : ∃ v, v = t2.setCell ⟨g4 + 1, 2, none⟩ (.slice X2 (na.vals.length + nb.vals.length) xc2) := ⟨_, rfl⟩
            rw [← ht3] at hq3 ⊢
            clear ht3 hq0 hq1 hq2 HSP
            refine Held.G_done (by kernel_rfl) ?_ _
            obtain ⟨s3', _, _⟩ := HXG.out t3 hq3.b
            obtain ⟨c0, c1, c2, c3, _⟩ := s3'.1
            obtain ⟨d0, d1, d2, d3, _⟩ := s3'.2.2.2.1
            rw [hla] at c0
            rw [hlb] at d0
            obtain ⟨K9, kc9, t4, hrun, hq4⟩ := hq3.app 22 el_strs (c2 := hb.kc) (n := na.keys.length) (m := nb.keys.length) (k := na.keys.length + nb.keys.length) (by simp [strs]) (strs_len _).symm rfl s3'.2.2.2.2.k (strs_1 _) (by have := HSA.out.k; have := HSB.out.k; simp only [maxLen]; omega) (by have := HSA.out.k; have := HSB.out.k; omega)
            obtain ⟨u0, u1, u2, u3, _⟩ := hq3.at'.f4
            obtain ⟨y0, y1, y2, y3, z0, z1, z2, z3⟩ := hq4.at'.f4
            have hq5 := hq4.set 1 (.slice K9 (na.keys.length + nb.keys.length) kc9)
            change Wn (g4 + 1) #[.bool true, .slice K9 (na.keys.length + nb.keys.length) kc9, .slice X2 (na.vals.length + nb.vals.length) xc2, .slice none 0 0] 9 9 K9 kc9 _ X2 xc2 _ v5 _ at hq5
            obtain ⟨t5, ht5⟩ : ∃ v, v = t4.setCell ⟨g4 + 1, 1, none⟩ (.slice K9 (na.keys.length + nb.keys.length) kc9) := ⟨_, rfl⟩
            rw [← ht5] at hq5
            obtain ⟨s5, bx5, lc5⟩ := HXG.out t5 hq5.b
            obtain ⟨e0, e1, e2, e3, _⟩ := bx5
            obtain ⟨f0, f1, f2, f3, _⟩ := hq5.at'.f4
            obtain ⟨wn, hwn⟩ : ∃ m : Nd, m = ⟨true, na.keys ++ nb.keys, na.vals ++ nb.vals, []⟩ := ⟨_, rfl⟩
            have lw : Lay t5 wn ⟨K9, kc9, X2, xc2, none, 0⟩ := by rw [hwn]; exact ⟨by have := hq5.k.row; simpa [strs] using this, by have := hq5.x.row; simpa [strs] using this, Row.nil, by have := hq5.k.cap.1; simpa [strs] using this, by have := hq5.x.cap.1; simpa [strs] using this, Nat.le_refl _⟩
            have hwk : wn.keys.length = na.keys.length + nb.keys.length := by rw [hwn]; simp
            have hwv : wn.vals.length = na.vals.length + nb.vals.length := by rw [hwn]; simp
            have hwz : wn.kids.length = 0 := by rw [hwn]; rfl
            have hwl : wn.leaf = true := by rw [hwn]
            have hcw : c = wn := by rw [HQC.out, hwn]
            have hh := rsame_any t5 c wn hc ⟨K9, kc9, X2, xc2, none, 0⟩ lc5 lw (by rw [hcw, hwk]; have := HKL.out; omega) (by rw [hwk]; have := HKL.out; omega) (by rw [hcw, hwv]; have := HKL.out; omega) (by rw [hwv]; have := HKL.out; omega) (by rw [hcw, hwz]; have := HKL.out; omega) true ⟨fun _ => hcw, fun _ => rfl⟩
            unfold nv at hh
            rw [hwl, hwk, hwv, hwz] at hh
            have hcl : c.leaf = true := by rw [hcw, hwl]
            rw [ht5] at hh e0 e1 e2 e3 f0 f1 f2 f3
            have HT5 := Lib.hid ht5
            have HT5 := Lib.hid ht5
            clear ht5 hwn lw hwk hwv hwz hwl hcw hcl hq3 hq4 lc5 s3'
            go_wp2_with (at_builtin; refine wpList_append_run rfl (.tmp 75) (.tmp 77) 22 22 rfl rfl rfl hrun ?_)
            refine hh.mono ?_
            rintro e t6 ⟨rfl, b6⟩
            rw [← HT5.out] at b6
            have s6 := s5.below b6
            clear hh
            go_wp2_with fail
            go_ret
            exact ⟨rfl, s6.2.2.1⟩
          | false =>
            have hj := join_tf w4 na nb ha hb key s4.2.1 s4.2.2.2.2 HSA.out HSB.out hla hlb
            unfold nv at hj
            rw [hla, hlb] at hj
            obtain ⟨c0, c1, c2, c3, _⟩ := s4.1
            obtain ⟨d0, d1, d2, d3, _⟩ := s4.2.2.2.1
            rw [hla] at c0
            rw [hlb] at d0
            go_wp2_with fail
            clear c0 c1 c2 c3 d0 d1 d2 d3
            refine hj.mono ?_
            rintro e v4 ⟨v, rfl, hv, b4⟩
            have s4' := s4.below b4
            clear hj s4 b4
            obtain ⟨c, hqc⟩ : ∃ m : Nd, m = na := ⟨_, rfl⟩
            rw [← hqc] at hv
            obtain ⟨hc, rfl, lc⟩ := hv
            have HQC := Lib.hid hqc
            clear hqc
            have b5 := box_below v4 c hc
            have bxc := bx_new v4 c hc
            have lc5 := lc.below b5
            have s5 := s4'.below b5
            obtain ⟨v5, hv5⟩ : ∃ v, v = box v4 c hc := ⟨_, rfl⟩
            rw [← hv5] at bxc lc5 s5 b5
            unfold box at hv5
            have HV5 := Lib.hid hv5
            clear hv5 lc s4' b5
            have hs7 := rsame_any v5 c na hc ha lc5 s5.2.1 (by have := HSA.out.k; rw [HQC.out]; omega) HSA.out.k (by have := HSA.out.v; rw [HQC.out]; omega) HSA.out.v (by have := HSA.out.d; rw [HQC.out]; omega) true ⟨fun _ => HQC.out, fun _ => rfl⟩
            unfold nv at hs7
            rw [hla] at hs7
            obtain ⟨c0, c1, c2, c3, _⟩ := s5.1
            obtain ⟨d0, d1, d2, d3, _⟩ := s5.2.2.2.1
            rw [hla] at c0
            rw [hlb] at d0
            rw [HV5.out] at c0 c1 c2 c3 d0 d1 d2 d3
            go_wp2_with fail
            rw [← HV5.out]
            clear HV5
            refine hs7.mono ?_
            rintro e v7 ⟨rfl, b7⟩
            have s7 := s5.below b7
            clear hs7 s5 bxc lc5 b7 c0 c1 c2 c3 d0 d1 d2 d3
            go_wp2_with fail
            go_ret
            exact ⟨rfl, s7.2.2.1⟩
        | false =>
          cases hlb : nb.leaf with
          | true =>
            have hj := join_ft w4 na nb ha hb key s4.2.1 s4.2.2.2.2 HSA.out HSB.out hla hlb
            unfold nv at hj
            rw [hla, hlb] at hj
            obtain ⟨c0, c1, c2, c3, _⟩ := s4.1
            obtain ⟨d0, d1, d2, d3, _⟩ := s4.2.2.2.1
            rw [hla] at c0
            rw [hlb] at d0
            go_wp2_with fail
            clear c0 c1 c2 c3 d0 d1 d2 d3
            refine hj.mono ?_
            rintro e v4 ⟨v, rfl, hv, b4⟩
            have s4' := s4.below b4
            clear hj s4 b4
            obtain ⟨c, hqc⟩ : ∃ m : Nd, m = na := ⟨_, rfl⟩
            rw [← hqc] at hv
            obtain ⟨hc, rfl, lc⟩ := hv
            have HQC := Lib.hid hqc
            clear hqc
            have b5 := box_below v4 c hc
            have bxc := bx_new v4 c hc
            have lc5 := lc.below b5
            have s5 := s4'.below b5
            obtain ⟨v5, hv5⟩ : ∃ v, v = box v4 c hc := ⟨_, rfl⟩
            rw [← hv5] at bxc lc5 s5 b5
            unfold box at hv5
            have HV5 := Lib.hid hv5
            clear hv5 lc s4' b5
            have hs7 := rsame_any v5 c na hc ha lc5 s5.2.1 (by have := HSA.out.k; rw [HQC.out]; omega) HSA.out.k (by have := HSA.out.v; rw [HQC.out]; omega) HSA.out.v (by have := HSA.out.d; rw [HQC.out]; omega) true ⟨fun _ => HQC.out, fun _ => rfl⟩
            unfold nv at hs7
            rw [hla] at hs7
            obtain ⟨c0, c1, c2, c3, _⟩ := s5.1
            obtain ⟨d0, d1, d2, d3, _⟩ := s5.2.2.2.1
            rw [hla] at c0
            rw [hlb] at d0
            rw [HV5.out] at c0 c1 c2 c3 d0 d1 d2 d3
            go_wp2_with fail
            rw [← HV5.out]
            clear HV5
            refine hs7.mono ?_
            rintro e v7 ⟨rfl, b7⟩
            have s7 := s5.below b7
            clear hs7 s5 bxc lc5 b7 c0 c1 c2 c3 d0 d1 d2 d3
            go_wp2_with fail
            go_ret
            exact ⟨rfl, s7.2.2.1⟩
          | false =>
            have hj := join_branch w4 na nb ha hb key s4.2.1 s4.2.2.2.2 HSA.out HSB.out hla hlb
            unfold nv at hj
            rw [hla, hlb] at hj
            obtain ⟨c0, c1, c2, c3, _⟩ := s4.1
            obtain ⟨d0, d1, d2, d3, _⟩ := s4.2.2.2.1
            rw [hla] at c0
            rw [hlb] at d0
            go_wp2_with fail
            clear c0 c1 c2 c3 d0 d1 d2 d3
            refine hj.mono ?_
            rintro e v4 ⟨v, rfl, hv, b4⟩
            have s4' := s4.below b4
            clear hj s4 b4
            obtain ⟨c, hqc⟩ : ∃ m : Nd, m = ⟨false, na.keys ++ key :: nb.keys, [], na.kids ++ nb.kids⟩ := ⟨_, rfl⟩
            rw [← hqc] at hv
            obtain ⟨hc, rfl, lc⟩ := hv
            have HQC := Lib.hid hqc
            clear hqc
            have b5 := box_below v4 c hc
            have bxc := bx_new v4 c hc
            have lc5 := lc.below b5
            have s5 := s4'.below b5
            obtain ⟨v5, hv5⟩ : ∃ v, v = box v4 c hc := ⟨_, rfl⟩
            rw [← hv5] at bxc lc5 s5 b5
            unfold box at hv5
            have HV5 := Lib.hid hv5
            clear hv5 lc s4' b5
            have HX := Lib.hid (fun (w' : World) (h : Below v5.heap.size v5 w') => show BegN W na ha nb hb w' ∧ Bx w' v4.heap.size c hc ∧ Lay w' c hc from ⟨s5.below h, bxc.below h, lc5.below h⟩)
            have hw0 := Wn.new v5 #[.bool false, .slice none 0 0, .slice none 0 0, .slice none 0 0] 9 3
            obtain ⟨v6, hv6⟩ : ∃ v, v = v5.alloc (.cells #[.bool false, .slice none 0 0, .slice none 0 0, .slice none 0 0] 25) := ⟨_, rfl⟩
            rw [← hv6] at hw0
            rw [HV5.out] at hv6
            have hgw : v5.heap.size = v4.heap.size + 1 := by rw [HV5.out]; simp
            rw [hgw] at hw0
            have qa0 := s5.1.c0
            have qb0 := s5.2.2.2.1.c0
            rw [hla] at qa0
            rw [hlb] at qb0
            rw [HV5.out] at qa0 qb0
            have HXG := Lib.hid (fun (w' : World) (h : Below (v4.heap.size + 1) v5 w') => HX.out w' (by rw [hgw]; exact h))
            have HV6 := Lib.hid hv6
            clear hv6 hgw HX bxc lc5 s5
            obtain ⟨s6, _, _⟩ := HXG.out v6 hw0.b
            obtain ⟨c0, c1, c2, c3, _⟩ := s6.1
            obtain ⟨d0, d1, d2, d3, _⟩ := s6.2.2.2.1
            rw [hla] at c0
            rw [hlb] at d0
            obtain ⟨K1, kc1, v7, hrun, hw1⟩ := hw0.app 22 el_strs (c2 := ha.kc) (n := 0) (m := na.keys.length) (k := na.keys.length) rfl (strs_len _).symm (by omega) s6.2.1.k (strs_1 _) (by have := HSA.out.k; simp only [maxLen]; omega) (by have := HSA.out.k; omega)
            obtain ⟨u0, u1, u2, u3, _⟩ := hw0.at'.f4
            rw [HV6.out] at c0 c1 c2 c3 d0 d1 d2 d3 u0 u1 u2 u3 hrun
            obtain ⟨y0, y1, y2, y3, z0, z1, z2, z3⟩ := hw1.at'.f4
            have hw2 := hw1.set 1 (.slice K1 na.keys.length kc1)
            change Wn (v4.heap.size + 1) #[.bool false, .slice K1 na.keys.length kc1, .slice none 0 0, .slice none 0 0] 9 3 K1 kc1 _ none 0 [] v5 _ at hw2
            rw [List.nil_append] at hw2
            obtain ⟨v8, hv8⟩ : ∃ v, v = v7.setCell ⟨v4.heap.size + 1, 1, none⟩ (.slice K1 na.keys.length kc1) := ⟨_, rfl⟩
            rw [← hv8] at hw2
            have HV8 := Lib.hid hv8
            obtain ⟨s8, _, _⟩ := HXG.out v8 hw2.b
            clear hw0 hw1 s6
            obtain ⟨p0, _, _, _, _⟩ := s8.1
            rw [hla] at p0
            have HZ8 := Lib.hid (show v8.heap.size = v7.heap.size by rw [hv8]; simp)
            rw [hv8] at p0
            clear hv8
            skip
            have hal := al v8 (.cells #[.string key] 9)
            have hw3 := hw2.below hal
            have hr1 : Row (v8.alloc (.cells #[.string key] 9)) (v8.alloc (.cells #[.string key] 9)).heap.size (some ⟨v8.heap.size, 0, none⟩) [.string key] := (row_of_block (heap_alloc_new v8 (.cells #[.string key] 9))).more (by simp)
            obtain ⟨K2, kc2, v9, hrun2, hw4⟩ := hw3.app 22 el_strs (c2 := 1) (n := na.keys.length) (m := 1) (k := na.keys.length + 1) (strs_len _).symm rfl rfl hr1 (by intro u hu; simp at hu; subst hu; rfl) (by have := HSA.out.k; simp only [maxLen]; omega) (by have := HSA.out.k; omega)
            rw [HZ8.out, HV8.out] at hrun2
            obtain ⟨m0, m1, m2, m3, k0, k1, k2, k3⟩ := hw4.at'.f4
            have hw5 := hw4.set 1 (.slice K2 (na.keys.length + 1) kc2)
            change Wn (v4.heap.size + 1) #[.bool false, .slice K2 (na.keys.length + 1) kc2, .slice none 0 0, .slice none 0 0] 9 3 K2 kc2 _ none 0 [] v5 _ at hw5
            obtain ⟨v10, hv10⟩ : ∃ v, v = v9.setCell ⟨v4.heap.size + 1, 1, none⟩ (.slice K2 (na.keys.length + 1) kc2) := ⟨_, rfl⟩
            rw [← hv10] at hw5
            have HV10 := Lib.hid hv10
            clear hv10 hw2 hw3 hw4 hal hr1 s8
            go_wp2_with (at_builtin; first | refine wpList_append_run rfl (.tmp 43) (.tmp 45) 22 22 rfl rfl rfl hrun ?_ | refine wpList_append_run rfl (.tmp 60) (.tmp 62) 22 22 rfl rfl rfl hrun2 ?_)
            rw [← HV10.out]
            clear HV10 HV8 HZ8 HV6 HV5 hrun hrun2 p0 qa0 qb0 c0 c1 c2 c3 d0 d1 d2 d3 u0 u1 u2 u3 y0 y1 y2 y3 z0 z1 z2 z3 m0 m1 m2 m3 k0 k1 k2 k3
            generalize v4.heap.size = g4 at *
            obtain ⟨s10, _, _⟩ := HXG.out v10 hw5.b
            obtain ⟨t0, ht0⟩ : ∃ v, v = World.drew v10 := ⟨_, rfl⟩
            have hq0 := (hw5.below (w' := t0) (by rw [ht0]; exact (Below.refl _ _).drew)).symm
            have HT0 := Lib.hid ht0
            clear ht0 hw5 s10
            have HSP := Lib.hid (fun (w' : World) (h1 : At w' (g4 + 1) 25 #[.bool false, .slice K2 (na.keys.length + 1) kc2, .slice none 0 0, .slice none 0 0]) (h2 : Below (g4 + 1) v5 w') => show w'.cell? ⟨g4 + 1, 3, none⟩ = some (.slice none 0 0) ∧ w'.cell? ⟨W.heap.size, 3, none⟩ = some (.slice ha.D na.kids.length ha.dc) ∧ w'.cell? ⟨W.heap.size + 1, 3, none⟩ = some (.slice hb.D nb.kids.length hb.dc) from ⟨by rw [h1.cell]; rfl, (HXG.out w' h2).1.1.c3, (HXG.out w' h2).1.2.2.2.1.c3⟩)
            refine wp_region_any (by kernel_rfl) ?_
            change wpAny _ _ _ _ _ _ _ (World.drew _)
            rw [← HT0.out]
            clear HT0
            refine Held.any_of_G (S := (fun w' : World => w'.cell? ⟨g4 + 1, 3, none⟩ = some (.slice none 0 0) ∧ w'.cell? ⟨W.heap.size, 3, none⟩ = some (.slice ha.D na.kids.length ha.dc) ∧ w'.cell? ⟨W.heap.size + 1, 3, none⟩ = some (.slice hb.D nb.kids.length hb.dc))) (z := 9) _ _ _ _ ?_
            refine Held.G_take (i := 0) (d := 65) (v := ?_) [0, 1, 4, 7, 8, 9] rfl rfl (by kernel_rfl) (by kernel_rfl) (by kernel_rfl) (by kernel_rfl) (fun _ _ _ h => h) (Or.inl ⟨by rfl, ?_⟩) (HSP.out _ hq0.at' hq0.b) ?_
            rotate_left 1
            · intro w hSw; clear hSw; go_simp <;> with_reducible rfl
            simp only [Act.put, List.setIfInBounds_toArray, List.set_cons_zero, List.set_cons_succ]
            refine Held.G_take (i := 1) (d := 66) (v := ?_) [1, 4, 7, 8, 9] rfl rfl (by kernel_rfl) (by kernel_rfl) (by kernel_rfl) (by kernel_rfl) (fun _ _ _ h => h) (Or.inl ⟨by rfl, ?_⟩) (HSP.out _ hq0.at' hq0.b) ?_
            rotate_left 1
            · intro w hSw; obtain ⟨j0, j1, j2⟩ := hSw; go_simp <;> with_reducible rfl
            simp only [Act.put, List.setIfInBounds_toArray, List.set_cons_zero, List.set_cons_succ]
            refine Held.G_take (i := 2) (d := 67) (v := ?_) [2, 3, 4, 7, 8, 9] rfl rfl (by kernel_rfl) (by kernel_rfl) (by kernel_rfl) (by kernel_rfl) (fun _ _ _ h => h) (Or.inl ⟨by rfl, ?_⟩) (HSP.out _ hq0.at' hq0.b) ?_
            rotate_left 1
            · intro w hSw; clear hSw; go_simp <;> with_reducible rfl
            simp only [Act.put, List.setIfInBounds_toArray, List.set_cons_zero, List.set_cons_succ]
            refine Held.G_take (i := 3) (d := 68) (v := ?_) [3, 4, 7, 8, 9] rfl rfl (by kernel_rfl) (by kernel_rfl) (by kernel_rfl) (by kernel_rfl) (fun _ _ _ h => h) (Or.inl ⟨by rfl, ?_⟩) (HSP.out _ hq0.at' hq0.b) ?_
            rotate_left 1
            · intro w hSw; obtain ⟨j0, j1, j2⟩ := hSw; go_simp <;> with_reducible rfl
            simp only [Act.put, List.setIfInBounds_toArray, List.set_cons_zero, List.set_cons_succ]
            refine Held.G_take (i := 5) (d := 70) (v := ?_) [5, 6, 7, 8, 9] rfl rfl (by kernel_rfl) (by kernel_rfl) (by kernel_rfl) (by kernel_rfl) (fun _ _ _ h => h) (Or.inl ⟨by rfl, ?_⟩) (HSP.out _ hq0.at' hq0.b) ?_
            rotate_left 1
            · intro w hSw; clear hSw; go_simp <;> with_reducible rfl
            simp only [Act.put, List.setIfInBounds_toArray, List.set_cons_zero, List.set_cons_succ]
            refine Held.G_take (i := 6) (d := 71) (v := ?_) [6, 7, 8, 9] rfl rfl (by kernel_rfl) (by kernel_rfl) (by kernel_rfl) (by kernel_rfl) (fun _ _ _ h => h) (Or.inl ⟨by rfl, ?_⟩) (HSP.out _ hq0.at' hq0.b) ?_
            rotate_left 1
            · intro w hSw; obtain ⟨j0, j1, j2⟩ := hSw; go_simp <;> with_reducible rfl
            simp only [Act.put, List.setIfInBounds_toArray, List.set_cons_zero, List.set_cons_succ]
            refine Held.G_ready (rs := [4]) (by decide +kernel) (by simp) ?_
            refine Held.G_cons rfl (fun KK hK => ?_) Held.G_nil
            obtain ⟨sa, _, _⟩ := HXG.out t0 hq0.b
            obtain ⟨X1, xc1, t1, hrun, hq1⟩ := hq0.app 23 el_ints (c2 := ha.dc) (n := 0) (m := na.kids.length) (k := na.kids.length) rfl (ints_len _).symm (by omega) sa.2.1.d (ints_1 _) (by have := HSA.out.d; simp only [maxLen]; omega) (by have := HSA.out.d; omega)
            rw [List.nil_append] at hq1
            refine NodeEnt.step_append_d (d := 69) rfl rfl (.tmp 66) (.tmp 68) 23 23 rfl (vs := .slice none 0 0) (vx := .slice ha.D na.kids.length ha.dc) (by simp [Act.eval]) (by simp [Act.eval]) hrun ?_
            refine hK _ _ ?_
            clear hK KK hrun sa
            simp only [Act.put, List.setIfInBounds_toArray, List.set_cons_zero, List.set_cons_succ]
            refine ⟨(HSP.out _ hq1.at' hq1.b), ?_⟩
            refine Held.G_ready (rs := [7]) (by decide +kernel) (by simp) ?_
            refine Held.G_cons rfl (fun KK hK => ?_) Held.G_nil
            obtain ⟨sb, _, _⟩ := HXG.out t1 hq1.b
            obtain ⟨X2, xc2, t2, hrun, hq2⟩ := hq1.app 23 el_ints (c2 := hb.dc) (n := na.kids.length) (m := nb.kids.length) (k := na.kids.length + nb.kids.length) (ints_len _).symm (ints_len _).symm rfl sb.2.2.2.2.d (ints_1 _) (by have := HSA.out.d; have := HSB.out.d; simp only [maxLen]; omega) (by have := HSA.out.d; have := HSB.out.d; omega)
            refine NodeEnt.step_append_d (d := 72) rfl rfl (.tmp 69) (.tmp 71) 23 23 rfl (vs := .slice X1 na.kids.length xc1) (vx := .slice hb.D nb.kids.length hb.dc) (by simp [Act.eval]) (by simp [Act.eval]) hrun ?_
            refine hK _ _ ?_
            clear hK KK hrun sb
            simp only [Act.put, List.setIfInBounds_toArray, List.set_cons_zero, List.set_cons_succ]
            refine ⟨(HSP.out _ hq2.at' hq2.b), ?_⟩
            refine Held.G_take (i := 8) (d := 73) (v := ?_) [8, 9] rfl rfl (by kernel_rfl) (by kernel_rfl) (by kernel_rfl) (by kernel_rfl) (fun _ _ _ h => h) (Or.inl ⟨by rfl, ?_⟩) (HSP.out _ hq2.at' hq2.b) ?_
            rotate_left 1
            · intro w hSw; clear hSw; go_simp <;> with_reducible rfl
            simp only [Act.put, List.setIfInBounds_toArray, List.set_cons_zero, List.set_cons_succ]
            refine Held.G_ready (rs := [9]) (by decide +kernel) (by simp) ?_
            refine Held.G_last rfl (fun KK hK => ?_) Held.G_nil
            obtain ⟨y0, y1, y2, y3, z0, z1, z2, z3⟩ := hq2.at'.f4
            go_simp
            refine hK _ _ ?_
            clear hK KK y0 y1 y2 y3 z0 z1 z2 z3
            have hq3 := (hq2.set 3 (.slice X2 (na.kids.length + nb.kids.length) xc2)).symm
            change Wn (g4 + 1) #[.bool false, .slice K2 (na.keys.length + 1) kc2, .slice none 0 0, .slice X2 (na.kids.length + nb.kids.length) xc2] 9 3 K2 kc2 _ X2 xc2 _ v5 _ at hq3
            obtain ⟨t3, ht3⟩ : ∃ v, v = t2.setCell ⟨g4 + 1, 3, none⟩ (.slice X2 (na.kids.length + nb.kids.length) xc2) := ⟨_, rfl⟩
            rw [← ht3] at hq3 ⊢
            clear ht3 hq0 hq1 hq2 HSP
            refine Held.G_done (by kernel_rfl) ?_ _
            obtain ⟨s3', _, _⟩ := HXG.out t3 hq3.b
            obtain ⟨c0, c1, c2, c3, _⟩ := s3'.1
            obtain ⟨d0, d1, d2, d3, _⟩ := s3'.2.2.2.1
            rw [hla] at c0
            rw [hlb] at d0
            obtain ⟨K9, kc9, t4, hrun, hq4⟩ := hq3.app 22 el_strs (c2 := hb.kc) (n := (na.keys.length + 1)) (m := nb.keys.length) (k := (na.keys.length + 1) + nb.keys.length) (by simp [strs]) (strs_len _).symm rfl s3'.2.2.2.2.k (strs_1 _) (by have := HSA.out.k; have := HSB.out.k; simp only [maxLen]; omega) (by have := HSA.out.k; have := HSB.out.k; omega)
            obtain ⟨u0, u1, u2, u3, _⟩ := hq3.at'.f4
            obtain ⟨y0, y1, y2, y3, z0, z1, z2, z3⟩ := hq4.at'.f4
            have hq5 := hq4.set 1 (.slice K9 ((na.keys.length + 1) + nb.keys.length) kc9)
            change Wn (g4 + 1) #[.bool false, .slice K9 ((na.keys.length + 1) + nb.keys.length) kc9, .slice none 0 0, .slice X2 (na.kids.length + nb.kids.length) xc2] 9 3 K9 kc9 _ X2 xc2 _ v5 _ at hq5
            obtain ⟨t5, ht5⟩ : ∃ v, v = t4.setCell ⟨g4 + 1, 1, none⟩ (.slice K9 ((na.keys.length + 1) + nb.keys.length) kc9) := ⟨_, rfl⟩
            rw [← ht5] at hq5
            obtain ⟨s5, bx5, lc5⟩ := HXG.out t5 hq5.b
            obtain ⟨e0, e1, e2, e3, _⟩ := bx5
            obtain ⟨f0, f1, f2, f3, _⟩ := hq5.at'.f4
            obtain ⟨wn, hwn⟩ : ∃ m : Nd, m = ⟨false, (na.keys ++ [key]) ++ nb.keys, [], na.kids ++ nb.kids⟩ := ⟨_, rfl⟩
            have lw : Lay t5 wn ⟨K9, kc9, none, 0, X2, xc2⟩ := by rw [hwn]; exact ⟨by have := hq5.k.row; simpa [strs] using this, Row.nil, by have := hq5.x.row; simpa [ints] using this, by have := hq5.k.cap.1; simpa [strs, Nat.add_assoc] using this, Nat.le_refl _, by have := hq5.x.cap.1; simpa [ints] using this⟩
            have hwk : wn.keys.length = (na.keys.length + 1) + nb.keys.length := by rw [hwn]; simp; omega
            have hwd : wn.kids.length = na.kids.length + nb.kids.length := by rw [hwn]; simp
            have hwz : wn.vals.length = 0 := by rw [hwn]; rfl
            have hwl : wn.leaf = false := by rw [hwn]
            have hcw : c = wn := by rw [HQC.out, hwn]; simp
            have hh := rsame_any t5 c wn hc ⟨K9, kc9, none, 0, X2, xc2⟩ lc5 lw (by rw [hcw, hwk]; have := HKL.out; omega) (by rw [hwk]; have := HKL.out; omega) (by rw [hcw, hwz]; have := HKL.out; omega) (by rw [hwz]; have := HKL.out; omega) (by rw [hcw, hwd]; have := HKL.out; omega) true ⟨fun _ => hcw, fun _ => rfl⟩
            unfold nv at hh
            rw [hwl, hwk, hwz, hwd] at hh
            have hcl : c.leaf = false := by rw [hcw, hwl]
            rw [ht5] at hh e0 e1 e2 e3 f0 f1 f2 f3
            have HT5 := Lib.hid ht5
            have HT5 := Lib.hid ht5
            clear ht5 hwn lw hwk hwd hwz hwl hcw hcl hq3 hq4 lc5 s3'
            go_wp2_with (at_builtin; refine wpList_append_run rfl (.tmp 75) (.tmp 77) 22 22 rfl rfl rfl hrun ?_)
            refine hh.mono ?_
            rintro e t6 ⟨rfl, b6⟩
            rw [← HT5.out] at b6
            have s6 := s5.below b6
            clear hh
            go_wp2_with fail
            go_ret
            exact ⟨rfl, s6.2.2.1⟩
end Go.Proofs.Ytpcpfcllgadghaa.NodeJoins
