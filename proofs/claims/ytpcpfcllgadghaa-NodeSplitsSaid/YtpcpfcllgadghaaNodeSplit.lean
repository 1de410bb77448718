/- The contract of Split, of two keys or more. -/
import Derived.Test.YtpcpfcllgadghaaNodePut
import Derived.Test.YtpcpfcllgadghaaHeld
namespace Go.Proofs.Ytpcpfcllgadghaa.NodeSplit
open Go.RowKit Base NodePlain NodeRead NodeSlice NodeCheck NodeBox NodePut

theorem at_far4 {w : World} {x g : Nat} {t : TypeId} {cs : Array Value} {a b c d : Value} (h : At w x t cs) (hx : x ≠ g) : At (w4 w g a b c d) x t cs :=
  (((h.far (p := ⟨g, 0, none⟩) hx a).far (p := ⟨g, 1, none⟩) hx b).far (p := ⟨g, 2, none⟩) hx c).far (p := ⟨g, 3, none⟩) hx d
theorem at_drew {w : World} {g : Nat} {t : TypeId} {cs : Array Value} (h : At w g t cs) : (World.drew w).heap[g]? = some (.cells cs t (0, 0)) := h
theorem _root_.Go.Proofs.Ytpcpfcllgadghaa.NodeBox.SlO.set1 {lo : Nat} {vs : List Value} {v : Value} {w : World} (h : SlO lo vs v w) (g i : Nat) (u : Value) (hg : g < lo) : SlO lo vs v (w.setCell ⟨g, i, none⟩ u) := by
  obtain ⟨A, m, cc, h1, h2, h3, h4, h5⟩ := h
  refine ⟨A, m, cc, h1, h2, h3, ?_, h5⟩
  have : (w.setCell ⟨g, i, none⟩ u).heap.size = w.heap.size := by simp
  rw [this]
  exact row_set h4 (fun ad e => by have := h5 ad e; omega)
theorem results_ctc {P : Program} {fn : Func} {p u q : Tmp} {ty : TypeId} (h : fn.results = #[.cell p ty, .tmp u, .cell q ty]) (tmps : Array Value) (w : World) (g g2 : Nat) (t t2 : TypeId) (cs ds : Array Value) (fr fr2 : Nat × Nat) (d : TypeDesc)
    (hp : tmps.getD p undef = .pointer (some ⟨g, 0, none⟩)) (hq : tmps.getD q undef = .pointer (some ⟨g2, 0, none⟩)) (hg : w.heap[g]? = some (.cells cs t fr)) (hg2 : w.heap[g2]? = some (.cells ds t2 fr2))
    (hu : P.underlying ty = some d) (hd : (match d with | .struct _ | .array _ _ => true | _ => false) = true) (hi : (P.info? ty).map (·.size) = some cs.size) (hi2 : (P.info? ty).map (·.size) = some ds.size) :
    (results fn tmps).run P w = .ok (.tuple #[.agg cs, tmps.getD u undef, .agg ds]) w := by
  have hp2 : tmps[p]?.getD undef = .pointer (some ⟨g, 0, none⟩) := by simpa using hp
  have hq2 : tmps[q]?.getD undef = .pointer (some ⟨g2, 0, none⟩) := by simpa using hq
  simp only [results, h]
  simp [Sem.run_bind, Result.andThen, hp2, hq2, asAddr, run_loadVar_row w g t ty cs fr d hg hu hd hi, run_loadVar_row w g2 t2 ty ds fr2 d hg2 hu hd hi2]
set_option maxRecDepth 100000 in
set_option maxHeartbeats 12800000 in
theorem split_true (W : World) (n : Nd) (h : Hd) (hl : Lay W n h) (hs : Small n) (hleaf : n.leaf = true) (h2 : 2 ≤ n.keys.length) :
    Calls Try.prog 31 #[nv n h] W fun e w' => ∃ va vb, e = .returned (.tuple #[va, .string (n.keys[n.keys.length / 2]'(by omega)), vb]) ∧ Nv ⟨true, n.keys.take (n.keys.length / 2), n.vals.take (n.keys.length / 2), []⟩ va w' ∧ Nv ⟨true, n.keys.drop (n.keys.length / 2), n.vals.drop (n.keys.length / 2), []⟩ vb w' ∧ Below W.heap.size W w' := by
  have HS := Lib.hid hs
  have hb0 := box_below W n h
  have hx0 := bx_new W n h
  have hl0 := hl.below hb0
  have hsz : (box W n h).heap.size = W.heap.size + 1 := by simp
  have b2 := al (box W n h) (.cells #[.bool false, .slice none 0 0, .slice none 0 0, .slice none 0 0] 25)
  have b3 := al ((box W n h).alloc (.cells #[.bool false, .slice none 0 0, .slice none 0 0, .slice none 0 0] 25)) (.cells #[.bool false, .slice none 0 0, .slice none 0 0, .slice none 0 0] 25)
  have a2 := (at_new (box W n h) #[.bool false, .slice none 0 0, .slice none 0 0, .slice none 0 0] 25).below b3
  have a4 := at_new ((box W n h).alloc (.cells #[.bool false, .slice none 0 0, .slice none 0 0, .slice none 0 0] 25)) #[.bool false, .slice none 0 0, .slice none 0 0, .slice none 0 0] 25
  have hsz2 : ((box W n h).alloc (.cells #[.bool false, .slice none 0 0, .slice none 0 0, .slice none 0 0] 25)).heap.size = W.heap.size + 1 + 1 := by simp
  have hz3 : (((box W n h).alloc (.cells #[.bool false, .slice none 0 0, .slice none 0 0, .slice none 0 0] 25)).alloc (.cells #[.bool false, .slice none 0 0, .slice none 0 0, .slice none 0 0] 25)).heap.size = W.heap.size + 3 := by simp
  rw [hsz] at a2
  rw [hsz2] at a4
  have hB3' := Below.step b2 b3
  obtain ⟨w3, hw3⟩ : ∃ v, v = ((box W n h).alloc (.cells #[.bool false, .slice none 0 0, .slice none 0 0, .slice none 0 0] 25)).alloc (.cells #[.bool false, .slice none 0 0, .slice none 0 0, .slice none 0 0] 25) := ⟨_, rfl⟩
  rw [← hw3] at a2 a4 hB3' hz3
  have hwr : wrap64 ((n.keys.length : Int) / 2) = (n.keys.length : Int) / 2 := by have := hs.k; unfold wrap64; omega
  have hwr2 : IntKind.i64.wrap ((n.keys.length : Int) / 2) = (n.keys.length : Int) / 2 := IntWalk.i64_in _ (by have := hs.k; omega)
  obtain ⟨w1, hw1⟩ : ∃ v, v = box W n h := ⟨_, rfl⟩
  rw [← hw1] at hb0 hx0 hl0 hsz hB3'
  unfold box at hw3
  rw [hleaf] at hw3
  have HW3 := Lib.hid hw3
  have HSZ := Lib.hid hsz
  have HB0 := Lib.hid hb0
  have HLY := Lib.hid (fun (w' : World) (hw : Below w1.heap.size w1 w') => hl0.below hw)
  have HX := Lib.hid (fun (w' : World) (hw : Below w1.heap.size w1 w') => show w'.cell? ⟨W.heap.size, 0, none⟩ = some (.bool true) ∧ w'.cell? ⟨W.heap.size, 1, none⟩ = some (.slice h.K n.keys.length h.kc) ∧ w'.cell? ⟨W.heap.size, 2, none⟩ = some (.slice h.V n.vals.length h.vc) ∧ w'.cell? ⟨W.heap.size, 3, none⟩ = some (.slice h.D n.kids.length h.dc) by
    obtain ⟨c0, c1, c2, c3, _⟩ := hx0.below hw
    rw [hleaf] at c0
    exact ⟨c0, c1, c2, c3⟩)
  have HC0 := Lib.hid (fun (w' : World) (hw : Below w1.heap.size w1 w') => (HX.out w' hw).1)
  have hq : n.keys.length / 2 < n.keys.length := by omega
  obtain ⟨ad, hKA', hbk, hck⟩ := strs_get hl0.k (n.keys.length / 2) hq
  have hKA := Lib.hid hKA'
  have HQ := Lib.hid (fun (w' : World) (hw : Below w1.heap.size w1 w') => (hw.cell (p := ad.add (n.keys.length / 2)) (by rw [blk_add]; exact hbk)).trans hck)
  generalize n.keys[n.keys.length / 2] = q at *
  clear hw3 hw1 hb0 hx0 hl0 hl hs hsz hsz2 b2 b3 hKA' hbk hck
  have h2i : ((n.keys.length : Int) < 2) = False := by simp; omega
  go_enter Try.func31, Try.ntmps31
  go_wp2_with fail
  rw [← HW3.out]
  clear HW3
  refine wp_region_any (by kernel_rfl) ?_
  change wpAny _ _ _ _ _ _ _ (World.drew _)
  obtain ⟨u0, hu0⟩ : ∃ v, v = World.drew w3 := ⟨_, rfl⟩
  rw [← hu0]
  have hB0 : Below w1.heap.size w1 u0 := by rw [hu0]; exact hB3'.drew
  have a2 : At u0 (W.heap.size + 1) 25 #[.bool false, .slice none 0 0, .slice none 0 0, .slice none 0 0] := by rw [hu0]; exact a2
  have a4 : At u0 (W.heap.size + 1 + 1) 25 #[.bool false, .slice none 0 0, .slice none 0 0, .slice none 0 0] := by rw [hu0]; exact a4
  have HU0 := Lib.hid (show u0.heap.size = W.heap.size + 3 by rw [hu0]; exact hz3)
  clear hz3
  clear hu0
  refine Held.any_of_G (S := (fun w' : World => w'.cell? ⟨W.heap.size, 0, none⟩ = some (.bool true))) (z := 9) _ _ _ _ ?_
  refine Held.G_take (i := 0) (d := 19) (v := ?_) [0, 1, 2, 8, 9] rfl rfl (by kernel_rfl) (by kernel_rfl) (by kernel_rfl) (by kernel_rfl) (fun _ _ _ h => h) (Or.inl ⟨by rfl, ?_⟩) (HC0.out _ hB0) ?_
  rotate_left 1
  · intro w hSw; clear hSw; go_simp <;> with_reducible rfl
  simp only [Act.put, List.setIfInBounds_toArray, List.set_cons_zero, List.set_cons_succ]
  refine Held.G_take (i := 1) (d := 20) (v := ?_) [1, 2, 8, 9] rfl rfl (by kernel_rfl) (by kernel_rfl) (by kernel_rfl) (by kernel_rfl) (fun _ _ _ h => h) (Or.inl ⟨by rfl, ?_⟩) (HC0.out _ hB0) ?_
  rotate_left 1
  · intro w hSw; have h1 := hSw; clear hSw; (try dsimp only at h1); go_simp <;> with_reducible rfl
  simp only [Act.put, List.setIfInBounds_toArray, List.set_cons_zero, List.set_cons_succ]
  refine Held.G_take (i := 2) (d := 21) (v := ?_) [2, 8, 9] rfl rfl (by kernel_rfl) (by kernel_rfl) (by kernel_rfl) (by kernel_rfl) (fun _ _ _ h => h) (Or.inl ⟨by rfl, ?_⟩) (HC0.out _ hB0) ?_
  rotate_left 1
  · intro w hSw; clear hSw; go_simp <;> with_reducible rfl
  simp only [Act.put, List.setIfInBounds_toArray, List.set_cons_zero, List.set_cons_succ]
  refine Held.G_take (i := 3) (d := 22) (v := ?_) [3, 4, 5, 9] rfl rfl (by kernel_rfl) (by kernel_rfl) (by kernel_rfl) (by kernel_rfl) (fun _ _ _ h => h) (Or.inl ⟨by rfl, ?_⟩) (HC0.out _ hB0) ?_
  rotate_left 1
  · intro w hSw; clear hSw; go_simp <;> with_reducible rfl
  simp only [Act.put, List.setIfInBounds_toArray, List.set_cons_zero, List.set_cons_succ]
  refine Held.G_take (i := 4) (d := 23) (v := ?_) [4, 5, 9] rfl rfl (by kernel_rfl) (by kernel_rfl) (by kernel_rfl) (by kernel_rfl) (fun _ _ _ h => h) (Or.inl ⟨by rfl, ?_⟩) (HC0.out _ hB0) ?_
  rotate_left 1
  · intro w hSw; have h1 := hSw; clear hSw; (try dsimp only at h1); go_simp <;> with_reducible rfl
  simp only [Act.put, List.setIfInBounds_toArray, List.set_cons_zero, List.set_cons_succ]
  refine Held.G_take (i := 5) (d := 24) (v := ?_) [5, 9] rfl rfl (by kernel_rfl) (by kernel_rfl) (by kernel_rfl) (by kernel_rfl) (fun _ _ _ h => h) (Or.inl ⟨by rfl, ?_⟩) (HC0.out _ hB0) ?_
  rotate_left 1
  · intro w hSw; clear hSw; go_simp <;> with_reducible rfl
  simp only [Act.put, List.setIfInBounds_toArray, List.set_cons_zero, List.set_cons_succ]
  refine Held.G_ready (rs := [6, 7]) (by decide +kernel) (by simp) ?_
  refine Held.G_cons rfl (fun KK hK => ?_) ?_
  · go_simp
    refine hK _ _ ?_
    clear hK KK
    obtain ⟨u1, hw⟩ : ∃ v, v = u0.alloc (.cells #[.bool false, .slice none 0 0, .slice none 0 0, .slice none 0 0] 25) := ⟨_, rfl⟩
    rw [← hw]
    have hst0 : Below u0.heap.size u0 u1 := by rw [hw]; exact al _ _
    have hB1 := bstep hB0 hB0.size hst0
    have a2 := a2.below hst0
    have a4 := a4.below hst0
    have aa : At u1 u0.heap.size 25 #[.bool false, .slice none 0 0, .slice none 0 0, .slice none 0 0] := by rw [hw]; exact at_new _ _ _
    have HZ0 := Lib.hid (show u1.heap.size = u0.heap.size + 1 by rw [hw]; simp)
    clear hw
    refine ⟨(HC0.out _ hB1), ?_⟩
    refine Held.G_ready (rs := [7]) (by decide +kernel) (by simp) ?_
    refine Held.G_cons rfl (fun KK hK => ?_) Held.G_nil
    go_simp
    refine hK _ _ ?_
    clear hK KK
    obtain ⟨u2, hw⟩ : ∃ v, v = u1.alloc (.cells #[.bool false, .slice none 0 0, .slice none 0 0, .slice none 0 0] 25) := ⟨_, rfl⟩
    rw [← hw]
    have hst1 : Below u1.heap.size u1 u2 := by rw [hw]; exact al _ _
    have hB2 := bstep hB1 hB1.size hst1
    have a2 := a2.below hst1
    have a4 := a4.below hst1
    have ab : At u2 u1.heap.size 25 #[.bool false, .slice none 0 0, .slice none 0 0, .slice none 0 0] := by rw [hw]; exact at_new _ _ _
    have HZ1 := Lib.hid (show u2.heap.size = u1.heap.size + 1 by rw [hw]; simp)
    have aa := aa.below hst1
    clear hw
    refine ⟨(HC0.out _ hB2), ?_⟩
    refine Held.G_ready (rs := [8]) (by decide +kernel) (by simp) ?_
    refine Held.G_cons rfl (fun KK hK => ?_) Held.G_nil
    obtain ⟨x0, x1, x2, x3, y0, y1, y2, y3⟩ := aa.f4
    go_simp
    refine hK _ _ ?_
    clear hK KK x0 x1 x2 x3 y0 y1 y2 y3
    obtain ⟨u3, hw⟩ : ∃ v, v = w4 u2 (u0.heap.size) (.bool true) (.slice none 0 0) (.slice none 0 0) (.slice none 0 0) := ⟨_, rfl⟩
    have hw' := hw
    unfold w4 at hw'
    rw [← hw']
    have hB3 : Below w1.heap.size w1 u3 := by rw [hw]; exact below4 hB2 (by have := HU0.out; have := HSZ.out; have := HZ0.out; have := HZ1.out; omega) _ _ _ _
    have aa : At u3 (u0.heap.size) 25 #[.bool true, .slice none 0 0, .slice none 0 0, .slice none 0 0] := by rw [hw]; exact set4 aa _ _ _ _
    have ab := at_far4 (g := u0.heap.size) (a := .bool true) (b := .slice none 0 0) (c := .slice none 0 0) (d := .slice none 0 0) ab (by have := HU0.out; have := HSZ.out; have := HZ0.out; have := HZ1.out; omega)
    rw [← hw] at ab
    have a2 := at_far4 (g := u0.heap.size) (a := .bool true) (b := .slice none 0 0) (c := .slice none 0 0) (d := .slice none 0 0) a2 (by have := HU0.out; have := HSZ.out; have := HZ0.out; have := HZ1.out; omega)
    rw [← hw] at a2
    have a4 := at_far4 (g := u0.heap.size) (a := .bool true) (b := .slice none 0 0) (c := .slice none 0 0) (d := .slice none 0 0) a4 (by have := HU0.out; have := HSZ.out; have := HZ0.out; have := HZ1.out; omega)
    rw [← hw] at a4
    have HZ2 := Lib.hid (show u3.heap.size = u2.heap.size by rw [hw]; exact size4 _ _ _ _ _ _)
    clear hw hw'
    refine ⟨(HC0.out _ hB3), ?_⟩
    refine Held.G_ready (rs := [9]) (by decide +kernel) (by simp) ?_
    refine Held.G_last rfl (fun KK hK => ?_) Held.G_nil
    obtain ⟨x0, x1, x2, x3, y0, y1, y2, y3⟩ := ab.f4
    go_simp
    refine hK _ _ ?_
    clear hK KK x0 x1 x2 x3 y0 y1 y2 y3
    obtain ⟨u4, hw⟩ : ∃ v, v = w4 u3 (u1.heap.size) (.bool true) (.slice none 0 0) (.slice none 0 0) (.slice none 0 0) := ⟨_, rfl⟩
    have hw' := hw
    unfold w4 at hw'
    rw [← hw']
    have hB4 : Below w1.heap.size w1 u4 := by rw [hw]; exact below4 hB3 (by have := HU0.out; have := HSZ.out; have := HZ0.out; have := HZ1.out; omega) _ _ _ _
    have ab : At u4 (u1.heap.size) 25 #[.bool true, .slice none 0 0, .slice none 0 0, .slice none 0 0] := by rw [hw]; exact set4 ab _ _ _ _
    have aa := at_far4 (g := u1.heap.size) (a := .bool true) (b := .slice none 0 0) (c := .slice none 0 0) (d := .slice none 0 0) aa (by have := HU0.out; have := HSZ.out; have := HZ0.out; have := HZ1.out; omega)
    rw [← hw] at aa
    have a2 := at_far4 (g := u1.heap.size) (a := .bool true) (b := .slice none 0 0) (c := .slice none 0 0) (d := .slice none 0 0) a2 (by have := HU0.out; have := HSZ.out; have := HZ0.out; have := HZ1.out; omega)
    rw [← hw] at a2
    have a4 := at_far4 (g := u1.heap.size) (a := .bool true) (b := .slice none 0 0) (c := .slice none 0 0) (d := .slice none 0 0) a4 (by have := HU0.out; have := HSZ.out; have := HZ0.out; have := HZ1.out; omega)
    rw [← hw] at a4
    have HZ3 := Lib.hid (show u4.heap.size = u3.heap.size by rw [hw]; exact size4 _ _ _ _ _ _)
    clear hw hw'
    refine Held.G_done (by kernel_rfl) ?_ _
    have hB := hB4
    have hga : w1.heap.size ≤ u0.heap.size := by have := HU0.out; have := HSZ.out; have := HZ0.out; have := HZ1.out; have := HZ2.out; have := HZ3.out; omega
    have hgb : w1.heap.size ≤ u1.heap.size := by have := HU0.out; have := HSZ.out; have := HZ0.out; have := HZ1.out; have := HZ2.out; have := HZ3.out; omega
    have hab : u0.heap.size ≠ u1.heap.size := by have := HU0.out; have := HSZ.out; have := HZ0.out; have := HZ1.out; have := HZ2.out; have := HZ3.out; omega
    have hg2a : W.heap.size + 1 ≠ u0.heap.size := by have := HU0.out; have := HSZ.out; have := HZ0.out; have := HZ1.out; have := HZ2.out; have := HZ3.out; omega
    have hg2b : W.heap.size + 1 ≠ u1.heap.size := by have := HU0.out; have := HSZ.out; have := HZ0.out; have := HZ1.out; have := HZ2.out; have := HZ3.out; omega
    have hg4a : W.heap.size + 1 + 1 ≠ u0.heap.size := by have := HU0.out; have := HSZ.out; have := HZ0.out; have := HZ1.out; have := HZ2.out; have := HZ3.out; omega
    have hg4b : W.heap.size + 1 + 1 ≠ u1.heap.size := by have := HU0.out; have := HSZ.out; have := HZ0.out; have := HZ1.out; have := HZ2.out; have := HZ3.out; omega
    have hlo : W.heap.size + 3 ≤ u4.heap.size := by have := HU0.out; have := HSZ.out; have := HZ0.out; have := HZ1.out; have := HZ2.out; have := HZ3.out; omega
    clear HU0 HZ0 HZ1 HZ2 HZ3
    generalize u0.heap.size = ga at *
    generalize u1.heap.size = gb at *
    clear hB0 hB1 hB2 hB3 hB4
    generalize u4 = y4 at *
    have hwl := heap_lt aa
    have hwl2 := heap_lt ab
    have b4s := hB.size
    obtain ⟨c0, c1, c2, c3⟩ := HX.out y4 hB
    have hpk := parted_any_s y4 h.K n.keys.length h.kc (n.keys.length / 2) (n.keys.length / 2) (strs n.keys) ((HLY.out y4 hB).ks) (strs_1 _) (by rw [strs_len]; have := HS.out.k; omega) ((n.keys.length : Int) / 2) ((n.keys.length : Int) / 2) (by omega) (by omega)
    go_wp2_with fail
    refine hpk.mono ?_
    rintro e w5 ⟨A1, m1, k1, A2, m2, k2, rfl, hK1, hK2, b5⟩
    clear hpk c0 c1 c2 c3
    have hB5 := bstep hB b4s b5
    have aa5 := aa.below b5
    have ab5 := ab.below b5
    have a25 := a2.below b5
    have a45 := a4.below b5
    have b5s := b5.size
    obtain ⟨qa0, qa1, qa2, qa3, _, za1, _, _⟩ := aa5.f4
    obtain ⟨qb0, qb1, qb2, qb3, _, zb1, _, _⟩ := ab5.f4
    have aa6 := (aa5.set 1 (.slice A1 m1 k1)).far (p := ⟨gb, 1, none⟩) hab (.slice A2 m2 k2)
    have ab6 := (ab5.far (p := ⟨ga, 1, none⟩) hab.symm (.slice A1 m1 k1)).set 1 (.slice A2 m2 k2)
    have a26 := (a25.far (p := ⟨ga, 1, none⟩) hg2a (.slice A1 m1 k1)).far (p := ⟨gb, 1, none⟩) hg2b (.slice A2 m2 k2)
    have a46 := (a45.far (p := ⟨ga, 1, none⟩) hg4a (.slice A1 m1 k1)).far (p := ⟨gb, 1, none⟩) hg4b (.slice A2 m2 k2)
    have hB6 : Below w1.heap.size w1 ((w5.setCell ⟨ga, 1, none⟩ (.slice A1 m1 k1)).setCell ⟨gb, 1, none⟩ (.slice A2 m2 k2)) := (hB5.setCell (by exact hga) _).setCell (by exact hgb) _
    have hK1 := (hK1.set1 ga 1 (.slice A1 m1 k1) hwl).set1 gb 1 (.slice A2 m2 k2) hwl2
    have hK2 := (hK2.set1 ga 1 (.slice A1 m1 k1) hwl).set1 gb 1 (.slice A2 m2 k2) hwl2
    have hz6 : ((w5.setCell ⟨ga, 1, none⟩ (.slice A1 m1 k1)).setCell ⟨gb, 1, none⟩ (.slice A2 m2 k2)).heap.size = w5.heap.size := by simp
    obtain ⟨w6, hw6⟩ : ∃ v, v = (w5.setCell ⟨ga, 1, none⟩ (.slice A1 m1 k1)).setCell ⟨gb, 1, none⟩ (.slice A2 m2 k2) := ⟨_, rfl⟩
    rw [← hw6] at aa6 ab6 a26 a46 hB6 hK1 hK2 hz6
    have HLO6 := Lib.hid (show W.heap.size + 3 ≤ w6.heap.size by omega)
    have HLO4 := Lib.hid hlo
    clear hz6 hlo
    have HW6 := Lib.hid hw6
    clear hw6 hB5 aa5 ab5 a25 a45 b5 hB aa ab a2 a4 b4s
    change At w6 ga 25 #[.bool true, .slice A1 m1 k1, .slice none 0 0, .slice none 0 0] at aa6
    change At w6 gb 25 #[.bool true, .slice A2 m2 k2, .slice none 0 0, .slice none 0 0] at ab6
    obtain ⟨c0, c1, c2, c3⟩ := HX.out w6 hB6
    rw [HW6.out] at c0 c1 c2 c3
    go_wp2_with fail
    rw [← HW6.out]
    clear HW6 c0 c1 c2 c3 qa0 qa1 qa2 qa3 za1 qb0 qb1 qb2 qb3 zb1
    have hpv := parted_any_s w6 h.V n.vals.length h.vc (n.keys.length / 2) (n.keys.length / 2) (strs n.vals) ((HLY.out w6 hB6).vs) (strs_1 _) (by rw [strs_len]; have := HS.out.v; omega) ((n.keys.length : Int) / 2) ((n.keys.length : Int) / 2) (by omega) (by omega)
    refine hpv.mono ?_
    rintro e w7 ⟨A3, m3, k3, A4, m4, k4, rfl, hV1, hV2, b7⟩
    clear hpv
    have hB7 := bstep hB6 hB6.size b7
    have aa7 := aa6.below b7
    have ab7 := ab6.below b7
    have a27 := a26.below b7
    have a47 := a46.below b7
    have hK1 := hK1.below b7
    have hK2 := hK2.below b7
    obtain ⟨qa0, qa1, qa2, qa3, _, _, za2, za3⟩ := aa7.f4
    obtain ⟨qb0, qb1, qb2, qb3, _, _, zb2, zb3⟩ := ab7.f4
    have aa8 := (aa7.set 2 (.slice A3 m3 k3)).far (p := ⟨gb, 2, none⟩) hab (.slice A4 m4 k4)
    have ab8 := (ab7.far (p := ⟨ga, 2, none⟩) hab.symm (.slice A3 m3 k3)).set 2 (.slice A4 m4 k4)
    have a28 := (a27.far (p := ⟨ga, 2, none⟩) hg2a (.slice A3 m3 k3)).far (p := ⟨gb, 2, none⟩) hg2b (.slice A4 m4 k4)
    have a48 := (a47.far (p := ⟨ga, 2, none⟩) hg4a (.slice A3 m3 k3)).far (p := ⟨gb, 2, none⟩) hg4b (.slice A4 m4 k4)
    have hB8 : Below w1.heap.size w1 ((w7.setCell ⟨ga, 2, none⟩ (.slice A3 m3 k3)).setCell ⟨gb, 2, none⟩ (.slice A4 m4 k4)) := (hB7.setCell (by exact hga) _).setCell (by exact hgb) _
    have hwa := heap_lt aa6
    have hwb := heap_lt ab6
    have hK1 := (hK1.set1 ga 2 (.slice A3 m3 k3) hwl).set1 gb 2 (.slice A4 m4 k4) hwl2
    have hK2 := (hK2.set1 ga 2 (.slice A3 m3 k3) hwl).set1 gb 2 (.slice A4 m4 k4) hwl2
    have hV1 := (hV1.set1 ga 2 (.slice A3 m3 k3) hwa).set1 gb 2 (.slice A4 m4 k4) hwb
    have hV2 := (hV2.set1 ga 2 (.slice A3 m3 k3) hwa).set1 gb 2 (.slice A4 m4 k4) hwb
    obtain ⟨w8, hw8⟩ : ∃ v, v = (w7.setCell ⟨ga, 2, none⟩ (.slice A3 m3 k3)).setCell ⟨gb, 2, none⟩ (.slice A4 m4 k4) := ⟨_, rfl⟩
    rw [← hw8] at aa8 ab8 a28 a48 hB8 hK1 hK2 hV1 hV2
    have HW8 := Lib.hid hw8
    clear hw8 hB7 aa7 ab7 a27 a47 b7 hB6 aa6 ab6 a26 a46 hwl hwl2 b5s
    change At w8 ga 25 #[.bool true, .slice A1 m1 k1, .slice A3 m3 k3, .slice none 0 0] at aa8
    change At w8 gb 25 #[.bool true, .slice A2 m2 k2, .slice A4 m4 k4, .slice none 0 0] at ab8
    have HNA := Lib.hid (show NvO (W.heap.size + 3) ⟨true, n.keys.take (n.keys.length / 2), n.vals.take (n.keys.length / 2), []⟩ (.agg #[.bool true, .slice A1 m1 k1, .slice A3 m3 k3, .slice none 0 0]) w8 from ⟨_, _, _, rfl, by rw [show strs (n.keys.take (n.keys.length / 2)) = (strs n.keys).take (n.keys.length / 2) by simp [strs, List.map_take]]; exact hK1.low HLO4.out, by rw [show strs (n.vals.take (n.keys.length / 2)) = (strs n.vals).take (n.keys.length / 2) by simp [strs, List.map_take]]; exact hV1.low HLO6.out, slo_none⟩)
    have HNB := Lib.hid (show NvO (W.heap.size + 3) ⟨true, n.keys.drop (n.keys.length / 2), n.vals.drop (n.keys.length / 2), []⟩ (.agg #[.bool true, .slice A2 m2 k2, .slice A4 m4 k4, .slice none 0 0]) w8 from ⟨_, _, _, rfl, by rw [show strs (n.keys.drop (n.keys.length / 2)) = (strs n.keys).drop (n.keys.length / 2) by simp [strs, List.map_drop]]; exact hK2.low HLO4.out, by rw [show strs (n.vals.drop (n.keys.length / 2)) = (strs n.vals).drop (n.keys.length / 2) by simp [strs, List.map_drop]]; exact hV2.low HLO6.out, slo_none⟩)
    clear hK1 hK2 hV1 hV2
    go_wp2_with fail
    rw [← HW8.out]
    clear HW8 qa0 qa1 qa2 qa3 za2 za3 qb0 qb1 qb2 qb3 zb2 zb3
    have i0 : (0 : Int) ≤ (n.keys.length : Int) / 2 := by omega
    have i1 : (n.keys.length : Int) / 2 < (n.keys.length : Int) := by omega
    have i2 : ((n.keys.length : Int) / 2).toNat = n.keys.length / 2 := by omega
    have hcell := HQ.out w8 hB8
    obtain ⟨_, c1, _, _⟩ := HX.out w8 hB8
    rw [hKA.out] at c1
    have HS0 := Lib.hid (show ((World.drew w8).cell? ⟨ga, 0, none⟩ = some (.bool true) ∧ (World.drew w8).cell? ⟨ga, 1, none⟩ = some (.slice A1 m1 k1) ∧ (World.drew w8).cell? ⟨ga, 2, none⟩ = some (.slice A3 m3 k3) ∧ (World.drew w8).cell? ⟨ga, 3, none⟩ = some (.slice none 0 0) ∧ (World.drew w8).cell? ⟨gb, 0, none⟩ = some (.bool true) ∧ (World.drew w8).cell? ⟨gb, 1, none⟩ = some (.slice A2 m2 k2) ∧ (World.drew w8).cell? ⟨gb, 2, none⟩ = some (.slice A4 m4 k4) ∧ (World.drew w8).cell? ⟨gb, 3, none⟩ = some (.slice none 0 0) ∧ (World.drew w8).cell? ⟨W.heap.size, 1, none⟩ = some (.slice (some ad) n.keys.length h.kc) ∧ (World.drew w8).cell? (ad.add (n.keys.length / 2)) = some (.string q)) from by obtain ⟨p0, p1, p2, p3, _⟩ := aa8.f4; obtain ⟨r0, r1, r2, r3, _⟩ := ab8.f4; exact ⟨p0, p1, p2, p3, r0, r1, r2, r3, c1, hcell⟩)
    have aa9 : At (w4 w8 (W.heap.size + 1) (.bool true) (.slice A1 m1 k1) (.slice A3 m3 k3) (.slice none 0 0)) ga 25 #[.bool true, .slice A1 m1 k1, .slice A3 m3 k3, .slice none 0 0] := at_far4 aa8 hg2a.symm
    have ab9 : At (w4 w8 (W.heap.size + 1) (.bool true) (.slice A1 m1 k1) (.slice A3 m3 k3) (.slice none 0 0)) gb 25 #[.bool true, .slice A2 m2 k2, .slice A4 m4 k4, .slice none 0 0] := at_far4 ab8 hg2b.symm
    have a49 : At (w4 w8 (W.heap.size + 1) (.bool true) (.slice A1 m1 k1) (.slice A3 m3 k3) (.slice none 0 0)) (W.heap.size + 1 + 1) 25 #[.bool false, .slice none 0 0, .slice none 0 0, .slice none 0 0] := at_far4 a48 (by omega)
    have a29 := set4 a28 (.bool true) (.slice A1 m1 k1) (.slice A3 m3 k3) (.slice none 0 0)
    have hB9 : Below w1.heap.size w1 (w4 w8 (W.heap.size + 1) (.bool true) (.slice A1 m1 k1) (.slice A3 m3 k3) (.slice none 0 0)) := below4 hB8 (by rw [HSZ.out]; omega) _ _ _ _
    have hcell9 := HQ.out _ hB9
    obtain ⟨_, c19, _, _⟩ := HX.out _ hB9
    rw [hKA.out] at c19
    have hcast : ∀ w' : World, (w'.cell? ⟨ga, 0, none⟩ = some (.bool true) ∧ w'.cell? ⟨ga, 1, none⟩ = some (.slice A1 m1 k1) ∧ w'.cell? ⟨ga, 2, none⟩ = some (.slice A3 m3 k3) ∧ w'.cell? ⟨ga, 3, none⟩ = some (.slice none 0 0) ∧ w'.cell? ⟨gb, 0, none⟩ = some (.bool true) ∧ w'.cell? ⟨gb, 1, none⟩ = some (.slice A2 m2 k2) ∧ w'.cell? ⟨gb, 2, none⟩ = some (.slice A4 m4 k4) ∧ w'.cell? ⟨gb, 3, none⟩ = some (.slice none 0 0) ∧ w'.cell? ⟨W.heap.size, 1, none⟩ = some (.slice (some ad) n.keys.length h.kc) ∧ w'.cell? (ad.add (n.keys.length / 2)) = some (.string q)) → ((World.drew w').cell? ⟨ga, 0, none⟩ = some (.bool true) ∧ (World.drew w').cell? ⟨ga, 1, none⟩ = some (.slice A1 m1 k1) ∧ (World.drew w').cell? ⟨ga, 2, none⟩ = some (.slice A3 m3 k3) ∧ (World.drew w').cell? ⟨ga, 3, none⟩ = some (.slice none 0 0) ∧ (World.drew w').cell? ⟨gb, 0, none⟩ = some (.bool true) ∧ (World.drew w').cell? ⟨gb, 1, none⟩ = some (.slice A2 m2 k2) ∧ (World.drew w').cell? ⟨gb, 2, none⟩ = some (.slice A4 m4 k4) ∧ (World.drew w').cell? ⟨gb, 3, none⟩ = some (.slice none 0 0) ∧ (World.drew w').cell? ⟨W.heap.size, 1, none⟩ = some (.slice (some ad) n.keys.length h.kc) ∧ (World.drew w').cell? (ad.add (n.keys.length / 2)) = some (.string q)) := fun _ hh => hh
    have HP := Lib.hid (fun (v : World) (hv : v = World.drew (w4 w8 (W.heap.size + 1) (.bool true) (.slice A1 m1 k1) (.slice A3 m3 k3) (.slice none 0 0))) => show (v.cell? ⟨ga, 0, none⟩ = some (.bool true) ∧ v.cell? ⟨ga, 1, none⟩ = some (.slice A1 m1 k1) ∧ v.cell? ⟨ga, 2, none⟩ = some (.slice A3 m3 k3) ∧ v.cell? ⟨ga, 3, none⟩ = some (.slice none 0 0) ∧ v.cell? ⟨gb, 0, none⟩ = some (.bool true) ∧ v.cell? ⟨gb, 1, none⟩ = some (.slice A2 m2 k2) ∧ v.cell? ⟨gb, 2, none⟩ = some (.slice A4 m4 k4) ∧ v.cell? ⟨gb, 3, none⟩ = some (.slice none 0 0) ∧ v.cell? ⟨W.heap.size, 1, none⟩ = some (.slice (some ad) n.keys.length h.kc) ∧ v.cell? (ad.add (n.keys.length / 2)) = some (.string q)) ∧ At v (W.heap.size + 1) 25 #[.bool true, .slice A1 m1 k1, .slice A3 m3 k3, .slice none 0 0] ∧ At v (W.heap.size + 1 + 1) 25 #[.bool false, .slice none 0 0, .slice none 0 0, .slice none 0 0] ∧ NvO (W.heap.size + 3) ⟨true, n.keys.take (n.keys.length / 2), n.vals.take (n.keys.length / 2), []⟩ (.agg #[.bool true, .slice A1 m1 k1, .slice A3 m3 k3, .slice none 0 0]) v ∧ NvO (W.heap.size + 3) ⟨true, n.keys.drop (n.keys.length / 2), n.vals.drop (n.keys.length / 2), []⟩ (.agg #[.bool true, .slice A2 m2 k2, .slice A4 m4 k4, .slice none 0 0]) v ∧ Below w1.heap.size w1 v from by rw [hv]; exact ⟨hcast _ (by obtain ⟨p0, p1, p2, p3, _⟩ := aa9.f4; obtain ⟨r0, r1, r2, r3, _⟩ := ab9.f4; exact ⟨p0, p1, p2, p3, r0, r1, r2, r3, c19, hcell9⟩), at_drew a29, at_drew a49, (HNA.out.st4 (by omega)).below (Below.refl _ _).drew, (HNB.out.st4 (by omega)).below (Below.refl _ _).drew, hB9.drew⟩)
    obtain ⟨x0, x1, x2, x3, y0, y1, y2, y3⟩ := a28.f4
    have hS0 := HS0.out
    clear HS0 aa8 ab8 a28 a48 hB8 aa9 ab9 a49 a29 hB9 hcell9 c19 hcell c1 HNA HNB hcast
    refine wp_region_any (by kernel_rfl) ?_
    change wpAny _ _ _ _ _ _ _ (World.drew _)
    refine Held.any_of_G (S := (fun w' : World => w'.cell? ⟨ga, 0, none⟩ = some (.bool true) ∧ w'.cell? ⟨ga, 1, none⟩ = some (.slice A1 m1 k1) ∧ w'.cell? ⟨ga, 2, none⟩ = some (.slice A3 m3 k3) ∧ w'.cell? ⟨ga, 3, none⟩ = some (.slice none 0 0) ∧ w'.cell? ⟨gb, 0, none⟩ = some (.bool true) ∧ w'.cell? ⟨gb, 1, none⟩ = some (.slice A2 m2 k2) ∧ w'.cell? ⟨gb, 2, none⟩ = some (.slice A4 m4 k4) ∧ w'.cell? ⟨gb, 3, none⟩ = some (.slice none 0 0) ∧ w'.cell? ⟨W.heap.size, 1, none⟩ = some (.slice (some ad) n.keys.length h.kc) ∧ w'.cell? (ad.add (n.keys.length / 2)) = some (.string q))) (z := 9) _ _ _ _ ?_
    refine Held.G_take (i := 0) (d := 70) (v := ?_) [0, 7, 8, 9] rfl rfl (by kernel_rfl) (by kernel_rfl) (by kernel_rfl) (by kernel_rfl) (fun _ _ _ h => h) (Or.inl ⟨by rfl, ?_⟩) hS0 ?_
    rotate_left 1
    · intro w hSw; obtain ⟨p0, p1, p2, p3, r0, r1, r2, r3, c1, hcell⟩ := hSw; go_simp <;> with_reducible rfl
    simp only [Act.put, List.setIfInBounds_toArray, List.set_cons_zero, List.set_cons_succ]
    refine Held.G_take (i := 1) (d := 71) (v := ?_) [1, 2, 4, 5, 8, 9] rfl rfl (by kernel_rfl) (by kernel_rfl) (by kernel_rfl) (by kernel_rfl) (fun _ _ _ h => h) (Or.inl ⟨by rfl, ?_⟩) hS0 ?_
    rotate_left 1
    · intro w hSw; clear hSw; go_simp <;> with_reducible rfl
    simp only [Act.put, List.setIfInBounds_toArray, List.set_cons_zero, List.set_cons_succ]
    refine Held.G_take (i := 2) (d := 72) (v := ?_) [2, 4, 5, 8, 9] rfl rfl (by kernel_rfl) (by kernel_rfl) (by kernel_rfl) (by kernel_rfl) (fun _ _ _ h => h) (Or.inl ⟨by rfl, ?_⟩) hS0 ?_
    rotate_left 1
    · intro w hSw; obtain ⟨p0, p1, p2, p3, r0, r1, r2, r3, c1, hcell⟩ := hSw; go_simp <;> with_reducible rfl
    simp only [Act.put, List.setIfInBounds_toArray, List.set_cons_zero, List.set_cons_succ]
    refine Held.G_take (i := 3) (d := 73) (v := ?_) [3, 4, 5, 8, 9] rfl rfl (by kernel_rfl) (by kernel_rfl) (by kernel_rfl) (by kernel_rfl) (fun _ _ _ h => h) (Or.inl ⟨by rfl, ?_⟩) hS0 ?_
    rotate_left 1
    · intro w hSw; clear hSw; go_simp <;> with_reducible rfl
    simp only [Act.put, List.setIfInBounds_toArray, List.set_cons_zero, List.set_cons_succ]
    refine Held.G_take (i := 4) (d := 74) (v := ?_) [4, 5, 8, 9] rfl rfl (by kernel_rfl) (by kernel_rfl) (by kernel_rfl) (by kernel_rfl) (fun _ _ _ h => h) (Or.inl ⟨by rfl, ?_⟩) hS0 ?_
    rotate_left 1
    · intro w hSw; clear hSw; go_simp <;> with_reducible rfl
    simp only [Act.put, List.setIfInBounds_toArray, List.set_cons_zero, List.set_cons_succ]
    refine Held.G_take (i := 5) (d := 75) (v := ?_) [5, 8, 9] rfl rfl (by kernel_rfl) (by kernel_rfl) (by kernel_rfl) (by kernel_rfl) (fun _ _ _ h => h) (Or.inl ⟨by rfl, ?_⟩) hS0 ?_
    rotate_left 1
    · intro w hSw; obtain ⟨p0, p1, p2, p3, r0, r1, r2, r3, c1, hcell⟩ := hSw; go_simp <;> with_reducible rfl
    simp only [Act.put, List.setIfInBounds_toArray, List.set_cons_zero, List.set_cons_succ]
    refine Held.G_take (i := 6) (d := 76) (v := ?_) [6, 9] rfl rfl (by kernel_rfl) (by kernel_rfl) (by kernel_rfl) (by kernel_rfl) (fun _ _ _ h => h) (Or.inl ⟨by rfl, ?_⟩) hS0 ?_
    rotate_left 1
    · intro w hSw; obtain ⟨p0, p1, p2, p3, r0, r1, r2, r3, c1, hcell⟩ := hSw; go_simp <;> with_reducible rfl
    simp only [Act.put, List.setIfInBounds_toArray, List.set_cons_zero, List.set_cons_succ]
    refine Held.G_ready (rs := [7]) (by decide +kernel) (by simp) ?_
    refine Held.G_cons rfl (fun KK hK => ?_) Held.G_nil
    go_simp
    refine hK _ _ ?_
    clear hK KK x0 x1 x2 x3 y0 y1 y2 y3
    obtain ⟨y9, hy9⟩ : ∃ v, v = World.drew (w4 w8 (W.heap.size + 1) (.bool true) (.slice A1 m1 k1) (.slice A3 m3 k3) (.slice none 0 0)) := ⟨_, rfl⟩
    have hP := HP.out y9 hy9
    unfold w4 at hy9
    rw [← hy9]
    clear hy9 HP hS0
    obtain ⟨hS1, a2y, a4y, hNAy, hNBy, hBy⟩ := hP
    obtain ⟨u0, u1, u2, u3, v0, v1, v2, v3⟩ := a4y.f4
    have HA2 := Lib.hid (at_far4 (g := W.heap.size + 1 + 1) (a := .bool true) (b := .slice A2 m2 k2) (c := .slice A4 m4 k4) (d := .slice none 0 0) a2y (by omega))
    have HA4 := Lib.hid (set4 a4y (.bool true) (.slice A2 m2 k2) (.slice A4 m4 k4) (.slice none 0 0))
    have HNA2 := Lib.hid ((hNAy.st4 (g := W.heap.size + 1 + 1) (a := .bool true) (b := .slice A2 m2 k2) (c := .slice A4 m4 k4) (d := .slice none 0 0) (by omega)).nv)
    have HNB2 := Lib.hid ((hNBy.st4 (g := W.heap.size + 1 + 1) (a := .bool true) (b := .slice A2 m2 k2) (c := .slice A4 m4 k4) (d := .slice none 0 0) (by omega)).nv)
    have HB10 := Lib.hid (Below.step HB0.out (below4 (g := W.heap.size + 1 + 1) hBy (by rw [HSZ.out]; omega) (.bool true) (.slice A2 m2 k2) (.slice A4 m4 k4) (.slice none 0 0)))
    clear a2y a4y hNAy hNBy hBy
    refine ⟨hS1, ?_⟩
    refine Held.G_take (i := 8) (d := 3) (v := ?_) [8, 9] rfl rfl (by kernel_rfl) (by kernel_rfl) (by kernel_rfl) (by kernel_rfl) (fun _ _ _ h => h) (Or.inl ⟨by rfl, ?_⟩) hS1 ?_
    rotate_left 1
    · intro w hSw; clear hSw; go_simp <;> with_reducible rfl
    simp only [Act.put, List.setIfInBounds_toArray, List.set_cons_zero, List.set_cons_succ]
    refine Held.G_ready (rs := [9]) (by decide +kernel) (by simp) ?_
    refine Held.G_last rfl (fun KK hK => ?_) Held.G_nil
    go_simp
    refine hK _ _ ?_
    clear hK KK
    refine Held.G_done (by kernel_rfl) ?_ _
    go_wp2_with fail
    refine bodyPost_ret (results_ctc rfl _ _ (W.heap.size + 1) (W.heap.size + 1 + 1) 25 25 _ _ (0, 0) (0, 0) _ rfl rfl HA2.out HA4.out Try.underlying25 rfl (by kernel_rfl) (by kernel_rfl)) rfl ?_
    exact ⟨_, _, rfl, HNA2.out, HNB2.out, HB10.out⟩
  refine Held.G_cons rfl (fun KK hK => ?_) Held.G_nil
  go_simp
  refine hK _ _ ?_
  clear hK KK
  obtain ⟨u1, hw⟩ : ∃ v, v = u0.alloc (.cells #[.bool false, .slice none 0 0, .slice none 0 0, .slice none 0 0] 25) := ⟨_, rfl⟩
  rw [← hw]
  have hst0 : Below u0.heap.size u0 u1 := by rw [hw]; exact al _ _
  have hB1 := bstep hB0 hB0.size hst0
  have a2 := a2.below hst0
  have a4 := a4.below hst0
  have ab : At u1 u0.heap.size 25 #[.bool false, .slice none 0 0, .slice none 0 0, .slice none 0 0] := by rw [hw]; exact at_new _ _ _
  have HZ0 := Lib.hid (show u1.heap.size = u0.heap.size + 1 by rw [hw]; simp)
  clear hw
  refine ⟨(HC0.out _ hB1), ?_⟩
  refine Held.G_ready (rs := [6]) (by decide +kernel) (by simp) ?_
  refine Held.G_cons rfl (fun KK hK => ?_) Held.G_nil
  go_simp
  refine hK _ _ ?_
  clear hK KK
  obtain ⟨u2, hw⟩ : ∃ v, v = u1.alloc (.cells #[.bool false, .slice none 0 0, .slice none 0 0, .slice none 0 0] 25) := ⟨_, rfl⟩
  rw [← hw]
  have hst1 : Below u1.heap.size u1 u2 := by rw [hw]; exact al _ _
  have hB2 := bstep hB1 hB1.size hst1
  have a2 := a2.below hst1
  have a4 := a4.below hst1
  have aa : At u2 u1.heap.size 25 #[.bool false, .slice none 0 0, .slice none 0 0, .slice none 0 0] := by rw [hw]; exact at_new _ _ _
  have HZ1 := Lib.hid (show u2.heap.size = u1.heap.size + 1 by rw [hw]; simp)
  have ab := ab.below hst1
  clear hw
  refine ⟨(HC0.out _ hB2), ?_⟩
  refine Held.G_ready (rs := [8]) (by decide +kernel) (by simp) ?_
  refine Held.G_cons rfl (fun KK hK => ?_) Held.G_nil
  obtain ⟨x0, x1, x2, x3, y0, y1, y2, y3⟩ := aa.f4
  go_simp
  refine hK _ _ ?_
  clear hK KK x0 x1 x2 x3 y0 y1 y2 y3
  obtain ⟨u3, hw⟩ : ∃ v, v = w4 u2 (u1.heap.size) (.bool true) (.slice none 0 0) (.slice none 0 0) (.slice none 0 0) := ⟨_, rfl⟩
  have hw' := hw
  unfold w4 at hw'
  rw [← hw']
  have hB3 : Below w1.heap.size w1 u3 := by rw [hw]; exact below4 hB2 (by have := HU0.out; have := HSZ.out; have := HZ0.out; have := HZ1.out; omega) _ _ _ _
  have aa : At u3 (u1.heap.size) 25 #[.bool true, .slice none 0 0, .slice none 0 0, .slice none 0 0] := by rw [hw]; exact set4 aa _ _ _ _
  have ab := at_far4 (g := u1.heap.size) (a := .bool true) (b := .slice none 0 0) (c := .slice none 0 0) (d := .slice none 0 0) ab (by have := HU0.out; have := HSZ.out; have := HZ0.out; have := HZ1.out; omega)
  rw [← hw] at ab
  have a2 := at_far4 (g := u1.heap.size) (a := .bool true) (b := .slice none 0 0) (c := .slice none 0 0) (d := .slice none 0 0) a2 (by have := HU0.out; have := HSZ.out; have := HZ0.out; have := HZ1.out; omega)
  rw [← hw] at a2
  have a4 := at_far4 (g := u1.heap.size) (a := .bool true) (b := .slice none 0 0) (c := .slice none 0 0) (d := .slice none 0 0) a4 (by have := HU0.out; have := HSZ.out; have := HZ0.out; have := HZ1.out; omega)
  rw [← hw] at a4
  have HZ2 := Lib.hid (show u3.heap.size = u2.heap.size by rw [hw]; exact size4 _ _ _ _ _ _)
  clear hw hw'
  refine ⟨(HC0.out _ hB3), ?_⟩
  refine Held.G_ready (rs := [9]) (by decide +kernel) (by simp) ?_
  refine Held.G_last rfl (fun KK hK => ?_) Held.G_nil
  obtain ⟨x0, x1, x2, x3, y0, y1, y2, y3⟩ := ab.f4
  go_simp
  refine hK _ _ ?_
  clear hK KK x0 x1 x2 x3 y0 y1 y2 y3
  obtain ⟨u4, hw⟩ : ∃ v, v = w4 u3 (u0.heap.size) (.bool true) (.slice none 0 0) (.slice none 0 0) (.slice none 0 0) := ⟨_, rfl⟩
  have hw' := hw
  unfold w4 at hw'
  rw [← hw']
  have hB4 : Below w1.heap.size w1 u4 := by rw [hw]; exact below4 hB3 (by have := HU0.out; have := HSZ.out; have := HZ0.out; have := HZ1.out; omega) _ _ _ _
  have ab : At u4 (u0.heap.size) 25 #[.bool true, .slice none 0 0, .slice none 0 0, .slice none 0 0] := by rw [hw]; exact set4 ab _ _ _ _
  have aa := at_far4 (g := u0.heap.size) (a := .bool true) (b := .slice none 0 0) (c := .slice none 0 0) (d := .slice none 0 0) aa (by have := HU0.out; have := HSZ.out; have := HZ0.out; have := HZ1.out; omega)
  rw [← hw] at aa
  have a2 := at_far4 (g := u0.heap.size) (a := .bool true) (b := .slice none 0 0) (c := .slice none 0 0) (d := .slice none 0 0) a2 (by have := HU0.out; have := HSZ.out; have := HZ0.out; have := HZ1.out; omega)
  rw [← hw] at a2
  have a4 := at_far4 (g := u0.heap.size) (a := .bool true) (b := .slice none 0 0) (c := .slice none 0 0) (d := .slice none 0 0) a4 (by have := HU0.out; have := HSZ.out; have := HZ0.out; have := HZ1.out; omega)
  rw [← hw] at a4
  have HZ3 := Lib.hid (show u4.heap.size = u3.heap.size by rw [hw]; exact size4 _ _ _ _ _ _)
  clear hw hw'
  refine Held.G_done (by kernel_rfl) ?_ _
  have hB := hB4
  have hga : w1.heap.size ≤ u1.heap.size := by have := HU0.out; have := HSZ.out; have := HZ0.out; have := HZ1.out; have := HZ2.out; have := HZ3.out; omega
  have hgb : w1.heap.size ≤ u0.heap.size := by have := HU0.out; have := HSZ.out; have := HZ0.out; have := HZ1.out; have := HZ2.out; have := HZ3.out; omega
  have hab : u1.heap.size ≠ u0.heap.size := by have := HU0.out; have := HSZ.out; have := HZ0.out; have := HZ1.out; have := HZ2.out; have := HZ3.out; omega
  have hg2a : W.heap.size + 1 ≠ u1.heap.size := by have := HU0.out; have := HSZ.out; have := HZ0.out; have := HZ1.out; have := HZ2.out; have := HZ3.out; omega
  have hg2b : W.heap.size + 1 ≠ u0.heap.size := by have := HU0.out; have := HSZ.out; have := HZ0.out; have := HZ1.out; have := HZ2.out; have := HZ3.out; omega
  have hg4a : W.heap.size + 1 + 1 ≠ u1.heap.size := by have := HU0.out; have := HSZ.out; have := HZ0.out; have := HZ1.out; have := HZ2.out; have := HZ3.out; omega
  have hg4b : W.heap.size + 1 + 1 ≠ u0.heap.size := by have := HU0.out; have := HSZ.out; have := HZ0.out; have := HZ1.out; have := HZ2.out; have := HZ3.out; omega
  have hlo : W.heap.size + 3 ≤ u4.heap.size := by have := HU0.out; have := HSZ.out; have := HZ0.out; have := HZ1.out; have := HZ2.out; have := HZ3.out; omega
  clear HU0 HZ0 HZ1 HZ2 HZ3
  generalize u1.heap.size = ga at *
  generalize u0.heap.size = gb at *
  clear hB0 hB1 hB2 hB3 hB4
  generalize u4 = y4 at *
  have hwl := heap_lt aa
  have hwl2 := heap_lt ab
  have b4s := hB.size
  obtain ⟨c0, c1, c2, c3⟩ := HX.out y4 hB
  have hpk := parted_any_s y4 h.K n.keys.length h.kc (n.keys.length / 2) (n.keys.length / 2) (strs n.keys) ((HLY.out y4 hB).ks) (strs_1 _) (by rw [strs_len]; have := HS.out.k; omega) ((n.keys.length : Int) / 2) ((n.keys.length : Int) / 2) (by omega) (by omega)
  go_wp2_with fail
  refine hpk.mono ?_
  rintro e w5 ⟨A1, m1, k1, A2, m2, k2, rfl, hK1, hK2, b5⟩
  clear hpk c0 c1 c2 c3
  have hB5 := bstep hB b4s b5
  have aa5 := aa.below b5
  have ab5 := ab.below b5
  have a25 := a2.below b5
  have a45 := a4.below b5
  have b5s := b5.size
  obtain ⟨qa0, qa1, qa2, qa3, _, za1, _, _⟩ := aa5.f4
  obtain ⟨qb0, qb1, qb2, qb3, _, zb1, _, _⟩ := ab5.f4
  have aa6 := (aa5.set 1 (.slice A1 m1 k1)).far (p := ⟨gb, 1, none⟩) hab (.slice A2 m2 k2)
  have ab6 := (ab5.far (p := ⟨ga, 1, none⟩) hab.symm (.slice A1 m1 k1)).set 1 (.slice A2 m2 k2)
  have a26 := (a25.far (p := ⟨ga, 1, none⟩) hg2a (.slice A1 m1 k1)).far (p := ⟨gb, 1, none⟩) hg2b (.slice A2 m2 k2)
  have a46 := (a45.far (p := ⟨ga, 1, none⟩) hg4a (.slice A1 m1 k1)).far (p := ⟨gb, 1, none⟩) hg4b (.slice A2 m2 k2)
  have hB6 : Below w1.heap.size w1 ((w5.setCell ⟨ga, 1, none⟩ (.slice A1 m1 k1)).setCell ⟨gb, 1, none⟩ (.slice A2 m2 k2)) := (hB5.setCell (by exact hga) _).setCell (by exact hgb) _
  have hK1 := (hK1.set1 ga 1 (.slice A1 m1 k1) hwl).set1 gb 1 (.slice A2 m2 k2) hwl2
  have hK2 := (hK2.set1 ga 1 (.slice A1 m1 k1) hwl).set1 gb 1 (.slice A2 m2 k2) hwl2
  have hz6 : ((w5.setCell ⟨ga, 1, none⟩ (.slice A1 m1 k1)).setCell ⟨gb, 1, none⟩ (.slice A2 m2 k2)).heap.size = w5.heap.size := by simp
  obtain ⟨w6, hw6⟩ : ∃ v, v = (w5.setCell ⟨ga, 1, none⟩ (.slice A1 m1 k1)).setCell ⟨gb, 1, none⟩ (.slice A2 m2 k2) := ⟨_, rfl⟩
  rw [← hw6] at aa6 ab6 a26 a46 hB6 hK1 hK2 hz6
  have HLO6 := Lib.hid (show W.heap.size + 3 ≤ w6.heap.size by omega)
  have HLO4 := Lib.hid hlo
  clear hz6 hlo
  have HW6 := Lib.hid hw6
  clear hw6 hB5 aa5 ab5 a25 a45 b5 hB aa ab a2 a4 b4s
  change At w6 ga 25 #[.bool true, .slice A1 m1 k1, .slice none 0 0, .slice none 0 0] at aa6
  change At w6 gb 25 #[.bool true, .slice A2 m2 k2, .slice none 0 0, .slice none 0 0] at ab6
  obtain ⟨c0, c1, c2, c3⟩ := HX.out w6 hB6
  rw [HW6.out] at c0 c1 c2 c3
  go_wp2_with fail
  rw [← HW6.out]
  clear HW6 c0 c1 c2 c3 qa0 qa1 qa2 qa3 za1 qb0 qb1 qb2 qb3 zb1
  have hpv := parted_any_s w6 h.V n.vals.length h.vc (n.keys.length / 2) (n.keys.length / 2) (strs n.vals) ((HLY.out w6 hB6).vs) (strs_1 _) (by rw [strs_len]; have := HS.out.v; omega) ((n.keys.length : Int) / 2) ((n.keys.length : Int) / 2) (by omega) (by omega)
  refine hpv.mono ?_
  rintro e w7 ⟨A3, m3, k3, A4, m4, k4, rfl, hV1, hV2, b7⟩
  clear hpv
  have hB7 := bstep hB6 hB6.size b7
  have aa7 := aa6.below b7
  have ab7 := ab6.below b7
  have a27 := a26.below b7
  have a47 := a46.below b7
  have hK1 := hK1.below b7
  have hK2 := hK2.below b7
  obtain ⟨qa0, qa1, qa2, qa3, _, _, za2, za3⟩ := aa7.f4
  obtain ⟨qb0, qb1, qb2, qb3, _, _, zb2, zb3⟩ := ab7.f4
  have aa8 := (aa7.set 2 (.slice A3 m3 k3)).far (p := ⟨gb, 2, none⟩) hab (.slice A4 m4 k4)
  have ab8 := (ab7.far (p := ⟨ga, 2, none⟩) hab.symm (.slice A3 m3 k3)).set 2 (.slice A4 m4 k4)
  have a28 := (a27.far (p := ⟨ga, 2, none⟩) hg2a (.slice A3 m3 k3)).far (p := ⟨gb, 2, none⟩) hg2b (.slice A4 m4 k4)
  have a48 := (a47.far (p := ⟨ga, 2, none⟩) hg4a (.slice A3 m3 k3)).far (p := ⟨gb, 2, none⟩) hg4b (.slice A4 m4 k4)
  have hB8 : Below w1.heap.size w1 ((w7.setCell ⟨ga, 2, none⟩ (.slice A3 m3 k3)).setCell ⟨gb, 2, none⟩ (.slice A4 m4 k4)) := (hB7.setCell (by exact hga) _).setCell (by exact hgb) _
  have hwa := heap_lt aa6
  have hwb := heap_lt ab6
  have hK1 := (hK1.set1 ga 2 (.slice A3 m3 k3) hwl).set1 gb 2 (.slice A4 m4 k4) hwl2
  have hK2 := (hK2.set1 ga 2 (.slice A3 m3 k3) hwl).set1 gb 2 (.slice A4 m4 k4) hwl2
  have hV1 := (hV1.set1 ga 2 (.slice A3 m3 k3) hwa).set1 gb 2 (.slice A4 m4 k4) hwb
  have hV2 := (hV2.set1 ga 2 (.slice A3 m3 k3) hwa).set1 gb 2 (.slice A4 m4 k4) hwb
  obtain ⟨w8, hw8⟩ : ∃ v, v = (w7.setCell ⟨ga, 2, none⟩ (.slice A3 m3 k3)).setCell ⟨gb, 2, none⟩ (.slice A4 m4 k4) := ⟨_, rfl⟩
  rw [← hw8] at aa8 ab8 a28 a48 hB8 hK1 hK2 hV1 hV2
  have HW8 := Lib.hid hw8
  clear hw8 hB7 aa7 ab7 a27 a47 b7 hB6 aa6 ab6 a26 a46 hwl hwl2 b5s
  change At w8 ga 25 #[.bool true, .slice A1 m1 k1, .slice A3 m3 k3, .slice none 0 0] at aa8
  change At w8 gb 25 #[.bool true, .slice A2 m2 k2, .slice A4 m4 k4, .slice none 0 0] at ab8
  have HNA := Lib.hid (show NvO (W.heap.size + 3) ⟨true, n.keys.take (n.keys.length / 2), n.vals.take (n.keys.length / 2), []⟩ (.agg #[.bool true, .slice A1 m1 k1, .slice A3 m3 k3, .slice none 0 0]) w8 from ⟨_, _, _, rfl, by rw [show strs (n.keys.take (n.keys.length / 2)) = (strs n.keys).take (n.keys.length / 2) by simp [strs, List.map_take]]; exact hK1.low HLO4.out, by rw [show strs (n.vals.take (n.keys.length / 2)) = (strs n.vals).take (n.keys.length / 2) by simp [strs, List.map_take]]; exact hV1.low HLO6.out, slo_none⟩)
  have HNB := Lib.hid (show NvO (W.heap.size + 3) ⟨true, n.keys.drop (n.keys.length / 2), n.vals.drop (n.keys.length / 2), []⟩ (.agg #[.bool true, .slice A2 m2 k2, .slice A4 m4 k4, .slice none 0 0]) w8 from ⟨_, _, _, rfl, by rw [show strs (n.keys.drop (n.keys.length / 2)) = (strs n.keys).drop (n.keys.length / 2) by simp [strs, List.map_drop]]; exact hK2.low HLO4.out, by rw [show strs (n.vals.drop (n.keys.length / 2)) = (strs n.vals).drop (n.keys.length / 2) by simp [strs, List.map_drop]]; exact hV2.low HLO6.out, slo_none⟩)
  clear hK1 hK2 hV1 hV2
  go_wp2_with fail
  rw [← HW8.out]
  clear HW8 qa0 qa1 qa2 qa3 za2 za3 qb0 qb1 qb2 qb3 zb2 zb3
  have i0 : (0 : Int) ≤ (n.keys.length : Int) / 2 := by omega
  have i1 : (n.keys.length : Int) / 2 < (n.keys.length : Int) := by omega
  have i2 : ((n.keys.length : Int) / 2).toNat = n.keys.length / 2 := by omega
  have hcell := HQ.out w8 hB8
  obtain ⟨_, c1, _, _⟩ := HX.out w8 hB8
  rw [hKA.out] at c1
  have HS0 := Lib.hid (show ((World.drew w8).cell? ⟨ga, 0, none⟩ = some (.bool true) ∧ (World.drew w8).cell? ⟨ga, 1, none⟩ = some (.slice A1 m1 k1) ∧ (World.drew w8).cell? ⟨ga, 2, none⟩ = some (.slice A3 m3 k3) ∧ (World.drew w8).cell? ⟨ga, 3, none⟩ = some (.slice none 0 0) ∧ (World.drew w8).cell? ⟨gb, 0, none⟩ = some (.bool true) ∧ (World.drew w8).cell? ⟨gb, 1, none⟩ = some (.slice A2 m2 k2) ∧ (World.drew w8).cell? ⟨gb, 2, none⟩ = some (.slice A4 m4 k4) ∧ (World.drew w8).cell? ⟨gb, 3, none⟩ = some (.slice none 0 0) ∧ (World.drew w8).cell? ⟨W.heap.size, 1, none⟩ = some (.slice (some ad) n.keys.length h.kc) ∧ (World.drew w8).cell? (ad.add (n.keys.length / 2)) = some (.string q)) from by obtain ⟨p0, p1, p2, p3, _⟩ := aa8.f4; obtain ⟨r0, r1, r2, r3, _⟩ := ab8.f4; exact ⟨p0, p1, p2, p3, r0, r1, r2, r3, c1, hcell⟩)
  have aa9 : At (w4 w8 (W.heap.size + 1) (.bool true) (.slice A1 m1 k1) (.slice A3 m3 k3) (.slice none 0 0)) ga 25 #[.bool true, .slice A1 m1 k1, .slice A3 m3 k3, .slice none 0 0] := at_far4 aa8 hg2a.symm
  have ab9 : At (w4 w8 (W.heap.size + 1) (.bool true) (.slice A1 m1 k1) (.slice A3 m3 k3) (.slice none 0 0)) gb 25 #[.bool true, .slice A2 m2 k2, .slice A4 m4 k4, .slice none 0 0] := at_far4 ab8 hg2b.symm
  have a49 : At (w4 w8 (W.heap.size + 1) (.bool true) (.slice A1 m1 k1) (.slice A3 m3 k3) (.slice none 0 0)) (W.heap.size + 1 + 1) 25 #[.bool false, .slice none 0 0, .slice none 0 0, .slice none 0 0] := at_far4 a48 (by omega)
  have a29 := set4 a28 (.bool true) (.slice A1 m1 k1) (.slice A3 m3 k3) (.slice none 0 0)
  have hB9 : Below w1.heap.size w1 (w4 w8 (W.heap.size + 1) (.bool true) (.slice A1 m1 k1) (.slice A3 m3 k3) (.slice none 0 0)) := below4 hB8 (by rw [HSZ.out]; omega) _ _ _ _
  have hcell9 := HQ.out _ hB9
  obtain ⟨_, c19, _, _⟩ := HX.out _ hB9
  rw [hKA.out] at c19
  have hcast : ∀ w' : World, (w'.cell? ⟨ga, 0, none⟩ = some (.bool true) ∧ w'.cell? ⟨ga, 1, none⟩ = some (.slice A1 m1 k1) ∧ w'.cell? ⟨ga, 2, none⟩ = some (.slice A3 m3 k3) ∧ w'.cell? ⟨ga, 3, none⟩ = some (.slice none 0 0) ∧ w'.cell? ⟨gb, 0, none⟩ = some (.bool true) ∧ w'.cell? ⟨gb, 1, none⟩ = some (.slice A2 m2 k2) ∧ w'.cell? ⟨gb, 2, none⟩ = some (.slice A4 m4 k4) ∧ w'.cell? ⟨gb, 3, none⟩ = some (.slice none 0 0) ∧ w'.cell? ⟨W.heap.size, 1, none⟩ = some (.slice (some ad) n.keys.length h.kc) ∧ w'.cell? (ad.add (n.keys.length / 2)) = some (.string q)) → ((World.drew w').cell? ⟨ga, 0, none⟩ = some (.bool true) ∧ (World.drew w').cell? ⟨ga, 1, none⟩ = some (.slice A1 m1 k1) ∧ (World.drew w').cell? ⟨ga, 2, none⟩ = some (.slice A3 m3 k3) ∧ (World.drew w').cell? ⟨ga, 3, none⟩ = some (.slice none 0 0) ∧ (World.drew w').cell? ⟨gb, 0, none⟩ = some (.bool true) ∧ (World.drew w').cell? ⟨gb, 1, none⟩ = some (.slice A2 m2 k2) ∧ (World.drew w').cell? ⟨gb, 2, none⟩ = some (.slice A4 m4 k4) ∧ (World.drew w').cell? ⟨gb, 3, none⟩ = some (.slice none 0 0) ∧ (World.drew w').cell? ⟨W.heap.size, 1, none⟩ = some (.slice (some ad) n.keys.length h.kc) ∧ (World.drew w').cell? (ad.add (n.keys.length / 2)) = some (.string q)) := fun _ hh => hh
  have HP := Lib.hid (fun (v : World) (hv : v = World.drew (w4 w8 (W.heap.size + 1) (.bool true) (.slice A1 m1 k1) (.slice A3 m3 k3) (.slice none 0 0))) => show (v.cell? ⟨ga, 0, none⟩ = some (.bool true) ∧ v.cell? ⟨ga, 1, none⟩ = some (.slice A1 m1 k1) ∧ v.cell? ⟨ga, 2, none⟩ = some (.slice A3 m3 k3) ∧ v.cell? ⟨ga, 3, none⟩ = some (.slice none 0 0) ∧ v.cell? ⟨gb, 0, none⟩ = some (.bool true) ∧ v.cell? ⟨gb, 1, none⟩ = some (.slice A2 m2 k2) ∧ v.cell? ⟨gb, 2, none⟩ = some (.slice A4 m4 k4) ∧ v.cell? ⟨gb, 3, none⟩ = some (.slice none 0 0) ∧ v.cell? ⟨W.heap.size, 1, none⟩ = some (.slice (some ad) n.keys.length h.kc) ∧ v.cell? (ad.add (n.keys.length / 2)) = some (.string q)) ∧ At v (W.heap.size + 1) 25 #[.bool true, .slice A1 m1 k1, .slice A3 m3 k3, .slice none 0 0] ∧ At v (W.heap.size + 1 + 1) 25 #[.bool false, .slice none 0 0, .slice none 0 0, .slice none 0 0] ∧ NvO (W.heap.size + 3) ⟨true, n.keys.take (n.keys.length / 2), n.vals.take (n.keys.length / 2), []⟩ (.agg #[.bool true, .slice A1 m1 k1, .slice A3 m3 k3, .slice none 0 0]) v ∧ NvO (W.heap.size + 3) ⟨true, n.keys.drop (n.keys.length / 2), n.vals.drop (n.keys.length / 2), []⟩ (.agg #[.bool true, .slice A2 m2 k2, .slice A4 m4 k4, .slice none 0 0]) v ∧ Below w1.heap.size w1 v from by rw [hv]; exact ⟨hcast _ (by obtain ⟨p0, p1, p2, p3, _⟩ := aa9.f4; obtain ⟨r0, r1, r2, r3, _⟩ := ab9.f4; exact ⟨p0, p1, p2, p3, r0, r1, r2, r3, c19, hcell9⟩), at_drew a29, at_drew a49, (HNA.out.st4 (by omega)).below (Below.refl _ _).drew, (HNB.out.st4 (by omega)).below (Below.refl _ _).drew, hB9.drew⟩)
  obtain ⟨x0, x1, x2, x3, y0, y1, y2, y3⟩ := a28.f4
  have hS0 := HS0.out
  clear HS0 aa8 ab8 a28 a48 hB8 aa9 ab9 a49 a29 hB9 hcell9 c19 hcell c1 HNA HNB hcast
  refine wp_region_any (by kernel_rfl) ?_
  change wpAny _ _ _ _ _ _ _ (World.drew _)
  refine Held.any_of_G (S := (fun w' : World => w'.cell? ⟨ga, 0, none⟩ = some (.bool true) ∧ w'.cell? ⟨ga, 1, none⟩ = some (.slice A1 m1 k1) ∧ w'.cell? ⟨ga, 2, none⟩ = some (.slice A3 m3 k3) ∧ w'.cell? ⟨ga, 3, none⟩ = some (.slice none 0 0) ∧ w'.cell? ⟨gb, 0, none⟩ = some (.bool true) ∧ w'.cell? ⟨gb, 1, none⟩ = some (.slice A2 m2 k2) ∧ w'.cell? ⟨gb, 2, none⟩ = some (.slice A4 m4 k4) ∧ w'.cell? ⟨gb, 3, none⟩ = some (.slice none 0 0) ∧ w'.cell? ⟨W.heap.size, 1, none⟩ = some (.slice (some ad) n.keys.length h.kc) ∧ w'.cell? (ad.add (n.keys.length / 2)) = some (.string q))) (z := 9) _ _ _ _ ?_
  refine Held.G_take (i := 0) (d := 70) (v := ?_) [0, 7, 8, 9] rfl rfl (by kernel_rfl) (by kernel_rfl) (by kernel_rfl) (by kernel_rfl) (fun _ _ _ h => h) (Or.inl ⟨by rfl, ?_⟩) hS0 ?_
  rotate_left 1
  · intro w hSw; obtain ⟨p0, p1, p2, p3, r0, r1, r2, r3, c1, hcell⟩ := hSw; go_simp <;> with_reducible rfl
  simp only [Act.put, List.setIfInBounds_toArray, List.set_cons_zero, List.set_cons_succ]
  refine Held.G_take (i := 1) (d := 71) (v := ?_) [1, 2, 4, 5, 8, 9] rfl rfl (by kernel_rfl) (by kernel_rfl) (by kernel_rfl) (by kernel_rfl) (fun _ _ _ h => h) (Or.inl ⟨by rfl, ?_⟩) hS0 ?_
  rotate_left 1
  · intro w hSw; clear hSw; go_simp <;> with_reducible rfl
  simp only [Act.put, List.setIfInBounds_toArray, List.set_cons_zero, List.set_cons_succ]
  refine Held.G_take (i := 2) (d := 72) (v := ?_) [2, 4, 5, 8, 9] rfl rfl (by kernel_rfl) (by kernel_rfl) (by kernel_rfl) (by kernel_rfl) (fun _ _ _ h => h) (Or.inl ⟨by rfl, ?_⟩) hS0 ?_
  rotate_left 1
  · intro w hSw; obtain ⟨p0, p1, p2, p3, r0, r1, r2, r3, c1, hcell⟩ := hSw; go_simp <;> with_reducible rfl
  simp only [Act.put, List.setIfInBounds_toArray, List.set_cons_zero, List.set_cons_succ]
  refine Held.G_take (i := 3) (d := 73) (v := ?_) [3, 4, 5, 8, 9] rfl rfl (by kernel_rfl) (by kernel_rfl) (by kernel_rfl) (by kernel_rfl) (fun _ _ _ h => h) (Or.inl ⟨by rfl, ?_⟩) hS0 ?_
  rotate_left 1
  · intro w hSw; clear hSw; go_simp <;> with_reducible rfl
  simp only [Act.put, List.setIfInBounds_toArray, List.set_cons_zero, List.set_cons_succ]
  refine Held.G_take (i := 4) (d := 74) (v := ?_) [4, 5, 8, 9] rfl rfl (by kernel_rfl) (by kernel_rfl) (by kernel_rfl) (by kernel_rfl) (fun _ _ _ h => h) (Or.inl ⟨by rfl, ?_⟩) hS0 ?_
  rotate_left 1
  · intro w hSw; clear hSw; go_simp <;> with_reducible rfl
  simp only [Act.put, List.setIfInBounds_toArray, List.set_cons_zero, List.set_cons_succ]
  refine Held.G_take (i := 5) (d := 75) (v := ?_) [5, 8, 9] rfl rfl (by kernel_rfl) (by kernel_rfl) (by kernel_rfl) (by kernel_rfl) (fun _ _ _ h => h) (Or.inl ⟨by rfl, ?_⟩) hS0 ?_
  rotate_left 1
  · intro w hSw; obtain ⟨p0, p1, p2, p3, r0, r1, r2, r3, c1, hcell⟩ := hSw; go_simp <;> with_reducible rfl
  simp only [Act.put, List.setIfInBounds_toArray, List.set_cons_zero, List.set_cons_succ]
  refine Held.G_take (i := 6) (d := 76) (v := ?_) [6, 9] rfl rfl (by kernel_rfl) (by kernel_rfl) (by kernel_rfl) (by kernel_rfl) (fun _ _ _ h => h) (Or.inl ⟨by rfl, ?_⟩) hS0 ?_
  rotate_left 1
  · intro w hSw; obtain ⟨p0, p1, p2, p3, r0, r1, r2, r3, c1, hcell⟩ := hSw; go_simp <;> with_reducible rfl
  simp only [Act.put, List.setIfInBounds_toArray, List.set_cons_zero, List.set_cons_succ]
  refine Held.G_ready (rs := [7]) (by decide +kernel) (by simp) ?_
  refine Held.G_cons rfl (fun KK hK => ?_) Held.G_nil
  go_simp
  refine hK _ _ ?_
  clear hK KK x0 x1 x2 x3 y0 y1 y2 y3
  obtain ⟨y9, hy9⟩ : ∃ v, v = World.drew (w4 w8 (W.heap.size + 1) (.bool true) (.slice A1 m1 k1) (.slice A3 m3 k3) (.slice none 0 0)) := ⟨_, rfl⟩
  have hP := HP.out y9 hy9
  unfold w4 at hy9
  rw [← hy9]
  clear hy9 HP hS0
  obtain ⟨hS1, a2y, a4y, hNAy, hNBy, hBy⟩ := hP
  obtain ⟨u0, u1, u2, u3, v0, v1, v2, v3⟩ := a4y.f4
  have HA2 := Lib.hid (at_far4 (g := W.heap.size + 1 + 1) (a := .bool true) (b := .slice A2 m2 k2) (c := .slice A4 m4 k4) (d := .slice none 0 0) a2y (by omega))
  have HA4 := Lib.hid (set4 a4y (.bool true) (.slice A2 m2 k2) (.slice A4 m4 k4) (.slice none 0 0))
  have HNA2 := Lib.hid ((hNAy.st4 (g := W.heap.size + 1 + 1) (a := .bool true) (b := .slice A2 m2 k2) (c := .slice A4 m4 k4) (d := .slice none 0 0) (by omega)).nv)
  have HNB2 := Lib.hid ((hNBy.st4 (g := W.heap.size + 1 + 1) (a := .bool true) (b := .slice A2 m2 k2) (c := .slice A4 m4 k4) (d := .slice none 0 0) (by omega)).nv)
  have HB10 := Lib.hid (Below.step HB0.out (below4 (g := W.heap.size + 1 + 1) hBy (by rw [HSZ.out]; omega) (.bool true) (.slice A2 m2 k2) (.slice A4 m4 k4) (.slice none 0 0)))
  clear a2y a4y hNAy hNBy hBy
  refine ⟨hS1, ?_⟩
  refine Held.G_take (i := 8) (d := 3) (v := ?_) [8, 9] rfl rfl (by kernel_rfl) (by kernel_rfl) (by kernel_rfl) (by kernel_rfl) (fun _ _ _ h => h) (Or.inl ⟨by rfl, ?_⟩) hS1 ?_
  rotate_left 1
  · intro w hSw; clear hSw; go_simp <;> with_reducible rfl
  simp only [Act.put, List.setIfInBounds_toArray, List.set_cons_zero, List.set_cons_succ]
  refine Held.G_ready (rs := [9]) (by decide +kernel) (by simp) ?_
  refine Held.G_last rfl (fun KK hK => ?_) Held.G_nil
  go_simp
  refine hK _ _ ?_
  clear hK KK
  refine Held.G_done (by kernel_rfl) ?_ _
  go_wp2_with fail
  refine bodyPost_ret (results_ctc rfl _ _ (W.heap.size + 1) (W.heap.size + 1 + 1) 25 25 _ _ (0, 0) (0, 0) _ rfl rfl HA2.out HA4.out Try.underlying25 rfl (by kernel_rfl) (by kernel_rfl)) rfl ?_
  exact ⟨_, _, rfl, HNA2.out, HNB2.out, HB10.out⟩
end Go.Proofs.Ytpcpfcllgadghaa.NodeSplit
