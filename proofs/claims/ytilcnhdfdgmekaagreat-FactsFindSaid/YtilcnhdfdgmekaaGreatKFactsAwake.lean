/- The chapter's example, as the laws of the facts ask for it. -/
import Derived.Test.YtilcnhdfdgmekaaGreatKFactsIs
import Derived.Test.YtilcnhdfdgmekaaGreatKHeld
namespace Go.Proofs.YtilcnhdfdgmekaaGreat.FactsAwake
open Go.RowKit Base KeyPlain TuplePlain TupleRef TupleSpec TupleCut FMap FactsPlain FactsMem FactsHas FactsPut FactsDrop FactsNew FactsFind FactsObj FactsUsersOf FactsNames FactsOrder FactsRefS FactsFew FactsIs TurnB

abbrev xa : Tp := ⟨⟨#[100, 111, 99]⟩, ⟨#[97]⟩, ⟨#[118, 105, 101, 119, 101, 114]⟩, ⟨⟨#[117, 115, 101, 114]⟩, ⟨#[97]⟩, ⟨#[]⟩⟩⟩
abbrev xb : Tp := ⟨⟨#[100, 111, 99]⟩, ⟨#[97]⟩, ⟨#[118, 105, 101, 119, 101, 114]⟩, ⟨⟨#[117, 115, 101, 114]⟩, ⟨#[98]⟩, ⟨#[]⟩⟩⟩
abbrev xdoc : Tp := ⟨⟨#[100, 111, 99]⟩, ⟨#[]⟩, ⟨#[]⟩, zus⟩
theorem new_ex : new [xb, xa, xb, ztp] = [xa, xb] := by decide +kernel
theorem users_ex : FactsPlain.users [xa, xb] ⟨#[100, 111, 99]⟩ ⟨#[97]⟩ ⟨#[118, 105, 101, 119, 101, 114]⟩ = [xa.u, xb.u] := by decide +kernel
theorem find_ex : (find [xa, xb] xdoc 9).length = 2 := by decide +kernel
theorem objects_ex : (objects [xa, xb] ⟨#[117, 115, 101, 114]⟩).length = 2 := by decide +kernel
theorem people_ex : (people [xa, xb]).length = 2 := by decide +kernel
theorem put_ex1 : putT [xa, xb] xa = [xa, xb] := by decide +kernel
theorem drop_ex : drop [xa, xb] xa = [xb] := by decide +kernel
theorem put_ex2 : putT [xb] xa = [xa, xb] := by decide +kernel
theorem fin_xa : TpF xa := by
  unfold TpF UsF
  decide +kernel
section
variable {lo fb : Nat} {w : World}
theorem all_two (h : Is lo w fb [xa, xb]) : Calls Tryz.prog 20 #[.pointer (some ⟨fb, 0, none⟩)] w fun e w' => ∃ A c, e = .returned (.slice A 2 c) ∧ Below w.heap.size w w' :=
  (h.all (by decide)).mono fun e w' ⟨A, c, n, hn, he, _, _, _, hb⟩ => ⟨A, c, by rw [he, hn]; rfl, hb⟩
theorem has_yes (h : Is lo w fb [xa, xb]) : Calls Tryz.prog 14 #[.pointer (some ⟨fb, 0, none⟩), .agg (tc xa)] w fun e w' => e = .returned (.bool true) ∧ Below w.heap.size w w' :=
  (h.has xa fin_xa).mono fun e w' ⟨he, hb⟩ => ⟨he.trans (ret_bool (by decide +kernel)), hb⟩
theorem find_two (h : Is lo w fb [xa, xb]) : Calls Tryz.prog 21 #[.pointer (some ⟨fb, 0, none⟩), .agg (tc xdoc), .int .i64 9] w fun e w' => ∃ A c, e = .returned (.slice A 2 c) ∧ Below w.heap.size w w' :=
  (h.find (by decide) xdoc 9).mono fun e w' ⟨A, c, n, hn, he, _, hb⟩ => ⟨A, c, by rw [he, hn, find_ex], hb⟩
theorem objs_two (h : Is lo w fb [xa, xb]) : Calls Tryz.prog 27 #[.pointer (some ⟨fb, 0, none⟩), .string ⟨#[117, 115, 101, 114]⟩] w fun e w' => ∃ A c, e = .returned (.slice A 2 c) ∧ Below w.heap.size w w' :=
  (h.objects (by decide) ⟨#[117, 115, 101, 114]⟩).mono fun e w' ⟨A, c, n, hn, he, _, hb⟩ => ⟨A, c, by rw [he, hn, objects_ex], hb⟩
theorem people_two (h : Is lo w fb [xa, xb]) : Calls Tryz.prog 29 #[.pointer (some ⟨fb, 0, none⟩)] w fun e w' => ∃ A c, e = .returned (.slice A 2 c) ∧ Below w.heap.size w w' :=
  (h.people (by decide)).mono fun e w' ⟨A, c, n, hn, he, _, hb⟩ => ⟨A, c, by rw [he, hn, people_ex], hb⟩
theorem put_no (h : Is lo w fb [xa, xb]) : Calls Tryz.prog 16 #[.pointer (some ⟨fb, 0, none⟩), .agg (tc xa)] w fun e w' => e = .returned (.bool false) ∧ Is lo w' fb [xa, xb] ∧ Wn lo w w' :=
  (h.put xa fin_xa).mono fun e w' ⟨he, hi, hw⟩ => ⟨he.trans (ret_bool (by decide +kernel)), by rw [put_ex1] at hi; exact hi, hw⟩
theorem drop_yes (h : Is lo w fb [xa, xb]) : Calls Tryz.prog 18 #[.pointer (some ⟨fb, 0, none⟩), .agg (tc xa)] w fun e w' => e = .returned (.bool true) ∧ Is lo w' fb [xb] ∧ Wn lo w w' :=
  (h.drop xa fin_xa).mono fun e w' ⟨he, hi, hw⟩ => ⟨he.trans (ret_bool (by decide +kernel)), by rw [drop_ex] at hi; exact hi, hw⟩
theorem put_yes (h : Is lo w fb [xb]) : Calls Tryz.prog 16 #[.pointer (some ⟨fb, 0, none⟩), .agg (tc xa)] w fun e w' => e = .returned (.bool true) ∧ Is lo w' fb [xa, xb] ∧ Wn lo w w' :=
  (h.put xa fin_xa).mono fun e w' ⟨he, hi, hw⟩ => ⟨he.trans (ret_bool (by decide +kernel)), by rw [put_ex2] at hi; exact hi, hw⟩
theorem users_two (h : Is lo w fb [xa, xb]) : Calls Tryz.prog 24 #[.pointer (some ⟨fb, 0, none⟩), .string ⟨#[100, 111, 99]⟩, .string ⟨#[97]⟩, .string ⟨#[118, 105, 101, 119, 101, 114]⟩] w fun e w' => ∃ A c, e = .returned (.slice A 2 c) ∧ RowU w' A [xa.u, xb.u] ∧ Below w.heap.size w w' :=
  (h.users (by decide) xa.obj ⟨fin_xa.1, fin_xa.2.1, fin_xa.2.2.1⟩).mono fun e w' ⟨A, c, n, hn, he, hr, hb⟩ => by
    have hu : FactsPlain.users [xa, xb] xa.obj.k xa.obj.i xa.obj.r = [xa.u, xb.u] := users_ex
    rw [hu] at hn hr
    exact ⟨A, c, by rw [he, hn]; rfl, rowU hr, hb⟩
end
/-- what is read while the example is played -/
def AwS (b1 b2 gu ou : Nat) (w' : World) : Prop :=
  (w'.cell? ⟨b1, 0, none⟩ = some (.string ⟨#[100, 111, 99]⟩) ∧ w'.cell? ⟨b1, 1, none⟩ = some (.string ⟨#[97]⟩) ∧ w'.cell? ⟨b1, 2, none⟩ = some (.string ⟨#[118, 105, 101, 119, 101, 114]⟩) ∧ w'.cell? ⟨b1, 3, none⟩ = some (.string ⟨#[117, 115, 101, 114]⟩) ∧ w'.cell? ⟨b1, 4, none⟩ = some (.string ⟨#[97]⟩) ∧ w'.cell? ⟨b1, 5, none⟩ = some (.string ⟨#[]⟩)) ∧
  (w'.cell? ⟨b2, 0, none⟩ = some (.string ⟨#[100, 111, 99]⟩) ∧ w'.cell? ⟨b2, 1, none⟩ = some (.string ⟨#[97]⟩) ∧ w'.cell? ⟨b2, 2, none⟩ = some (.string ⟨#[118, 105, 101, 119, 101, 114]⟩) ∧ w'.cell? ⟨b2, 3, none⟩ = some (.string ⟨#[117, 115, 101, 114]⟩) ∧ w'.cell? ⟨b2, 4, none⟩ = some (.string ⟨#[98]⟩) ∧ w'.cell? ⟨b2, 5, none⟩ = some (.string ⟨#[]⟩)) ∧
  w'.cell? ⟨gu, ou, none⟩ = some (.string ⟨#[117, 115, 101, 114]⟩) ∧ w'.cell? ⟨gu, ou + 1, none⟩ = some (.string ⟨#[97]⟩) ∧ w'.cell? ⟨gu, ou + 2, none⟩ = some (.string ⟨#[]⟩) ∧ w'.cell? ⟨gu, ou + 3, none⟩ = some (.string ⟨#[117, 115, 101, 114]⟩) ∧ w'.cell? ⟨gu, ou + 3 + 1, none⟩ = some (.string ⟨#[98]⟩) ∧ w'.cell? ⟨gu, ou + 3 + 2, none⟩ = some (.string ⟨#[]⟩)
theorem idx_0 {A : Option Addr} {g o n c : Nat} (hA : A = some ⟨g, o, none⟩) (hi : 0 < n) (w : World) : (Instr.indexAt 47 (.slice A n c) (.int .i64 0)).run Tryz.prog w = .ok (.pointer (some ⟨g, o, none⟩)) w := by
  have := idx_us (n := n) (c := c) (i := 0) hA hi w
  simpa using this
theorem idx_1 {A : Option Addr} {g o n c : Nat} (hA : A = some ⟨g, o, none⟩) (hi : 1 < n) (w : World) : (Instr.indexAt 47 (.slice A n c) (.int .i64 1)).run Tryz.prog w = .ok (.pointer (some ⟨g, o + 3, none⟩)) w := by
  have := idx_us (n := n) (c := c) (i := 1) hA hi w
  simpa using this
theorem cell_wn {lo : Nat} {w w' : World} (h : Wn lo w w') {p : Addr} {v : Value} (hc : w.cell? p = some v) : w'.cell? p = some v := by
  have hm := cells_of hc
  have hlt := World.block_lt_of_cell? w p hc
  exact (World.cell?_of_block (w := w) (h.block _ hlt (.inr hm))).trans hc
theorem trow_four {w : World} {g : Nat} (h : w.heap[g]? = some (.cells #[.string ⟨#[100, 111, 99]⟩, .string ⟨#[97]⟩, .string ⟨#[118, 105, 101, 119, 101, 114]⟩, .string ⟨#[117, 115, 101, 114]⟩, .string ⟨#[98]⟩, .string ⟨#[]⟩, .string ⟨#[100, 111, 99]⟩, .string ⟨#[97]⟩, .string ⟨#[118, 105, 101, 119, 101, 114]⟩, .string ⟨#[117, 115, 101, 114]⟩, .string ⟨#[97]⟩, .string ⟨#[]⟩, .string ⟨#[100, 111, 99]⟩, .string ⟨#[97]⟩, .string ⟨#[118, 105, 101, 119, 101, 114]⟩, .string ⟨#[117, 115, 101, 114]⟩, .string ⟨#[98]⟩, .string ⟨#[]⟩, .string ⟨#[]⟩, .string ⟨#[]⟩, .string ⟨#[]⟩, .string ⟨#[]⟩, .string ⟨#[]⟩, .string ⟨#[]⟩] 32 (0, 0))) : TRow w (some ⟨g, 0, none⟩) [xb, xa, xb, ztp] := fun i hi => by
  refine ⟨g, 0, rfl, heap_lt h, fun j v hv => ?_⟩
  have hj : j < 6 := by
    have := (List.getElem?_eq_some_iff.1 hv).1
    simpa [tc] using this
  have hi' : i < 4 := by simpa using hi
  match i, hi', j, hj with
  | 0, _, 0, _ | 0, _, 1, _ | 0, _, 2, _ | 0, _, 3, _ | 0, _, 4, _ | 0, _, 5, _ | 1, _, 0, _ | 1, _, 1, _ | 1, _, 2, _ | 1, _, 3, _ | 1, _, 4, _ | 1, _, 5, _ | 2, _, 0, _ | 2, _, 1, _ | 2, _, 2, _ | 2, _, 3, _ | 2, _, 4, _ | 2, _, 5, _ | 3, _, 0, _ | 3, _, 1, _ | 3, _, 2, _ | 3, _, 3, _ | 3, _, 4, _ | 3, _, 5, _ =>
    simp [tc, ztp, zus] at hv
    subst hv
    simp [World.cell?, h]
set_option maxRecDepth 100000 in
set_option maxHeartbeats 25600000 in
theorem awake_any (W : World) : Calls Tryz.prog 10 #[] W (Law W) := by
  obtain ⟨w2, hw2⟩ : ∃ v, v = (W.alloc (.cells #[.string ⟨#[100, 111, 99]⟩, .string ⟨#[97]⟩, .string ⟨#[118, 105, 101, 119, 101, 114]⟩, .string ⟨#[117, 115, 101, 114]⟩, .string ⟨#[97]⟩, .string ⟨#[]⟩] 32)).alloc (.cells #[.string ⟨#[100, 111, 99]⟩, .string ⟨#[97]⟩, .string ⟨#[118, 105, 101, 119, 101, 114]⟩, .string ⟨#[117, 115, 101, 114]⟩, .string ⟨#[98]⟩, .string ⟨#[]⟩] 32) := ⟨_, rfl⟩
  obtain ⟨b1, hb1⟩ : ∃ v, v = W.heap.size := ⟨_, rfl⟩
  obtain ⟨b2, hb2⟩ : ∃ v, v = b1 + 1 := ⟨_, rfl⟩
  have bl2 : Below W.heap.size W w2 := by rw [hw2]; exact al2 _ _ _
  have s2 : w2.heap.size = b1 + 2 := by rw [hw2, hb1]; simp
  have a1 : w2.heap[b1]? = some (.cells #[.string ⟨#[100, 111, 99]⟩, .string ⟨#[97]⟩, .string ⟨#[118, 105, 101, 119, 101, 114]⟩, .string ⟨#[117, 115, 101, 114]⟩, .string ⟨#[97]⟩, .string ⟨#[]⟩] 32 (0, 0)) := by rw [hw2, hb1]; exact (Below.heap_alloc _ _ _ (by simp)).trans (heap_alloc_new W _)
  have a2 : w2.heap[b2]? = some (.cells #[.string ⟨#[100, 111, 99]⟩, .string ⟨#[97]⟩, .string ⟨#[118, 105, 101, 119, 101, 114]⟩, .string ⟨#[117, 115, 101, 114]⟩, .string ⟨#[98]⟩, .string ⟨#[]⟩] 32 (0, 0)) := by rw [hw2, hb2, hb1]; exact new2 W _ _
  obtain ⟨w3, hw3⟩ : ∃ v, v = w2.alloc (.cells #[.string ⟨#[100, 111, 99]⟩, .string ⟨#[97]⟩, .string ⟨#[118, 105, 101, 119, 101, 114]⟩, .string ⟨#[117, 115, 101, 114]⟩, .string ⟨#[98]⟩, .string ⟨#[]⟩, .string ⟨#[100, 111, 99]⟩, .string ⟨#[97]⟩, .string ⟨#[118, 105, 101, 119, 101, 114]⟩, .string ⟨#[117, 115, 101, 114]⟩, .string ⟨#[97]⟩, .string ⟨#[]⟩, .string ⟨#[100, 111, 99]⟩, .string ⟨#[97]⟩, .string ⟨#[118, 105, 101, 119, 101, 114]⟩, .string ⟨#[117, 115, 101, 114]⟩, .string ⟨#[98]⟩, .string ⟨#[]⟩, .string ⟨#[]⟩, .string ⟨#[]⟩, .string ⟨#[]⟩, .string ⟨#[]⟩, .string ⟨#[]⟩, .string ⟨#[]⟩] 32) := ⟨_, rfl⟩
  obtain ⟨g3, hg3⟩ : ∃ v, v = w2.heap.size := ⟨_, rfl⟩
  have bl3 : Below w2.heap.size w2 w3 := by rw [hw3]; exact al _ _
  have a3 : w3.heap[g3]? = some (.cells #[.string ⟨#[100, 111, 99]⟩, .string ⟨#[97]⟩, .string ⟨#[118, 105, 101, 119, 101, 114]⟩, .string ⟨#[117, 115, 101, 114]⟩, .string ⟨#[98]⟩, .string ⟨#[]⟩, .string ⟨#[100, 111, 99]⟩, .string ⟨#[97]⟩, .string ⟨#[118, 105, 101, 119, 101, 114]⟩, .string ⟨#[117, 115, 101, 114]⟩, .string ⟨#[97]⟩, .string ⟨#[]⟩, .string ⟨#[100, 111, 99]⟩, .string ⟨#[97]⟩, .string ⟨#[118, 105, 101, 119, 101, 114]⟩, .string ⟨#[117, 115, 101, 114]⟩, .string ⟨#[98]⟩, .string ⟨#[]⟩, .string ⟨#[]⟩, .string ⟨#[]⟩, .string ⟨#[]⟩, .string ⟨#[]⟩, .string ⟨#[]⟩, .string ⟨#[]⟩] 32 (0, 0)) := by rw [hw3, hg3]; exact heap_alloc_new w2 _
  have hnew := is_new (n := 4) (c := 4) [xb, xa, xb, ztp] rfl (by decide) (trow_four a3) (fun t ht => by
    unfold TpF UsF
    simp only [List.mem_cons, List.not_mem_nil, or_false] at ht
    rcases ht with rfl | rfl | rfl | rfl <;> decide +kernel)
  rw [new_ex] at hnew
  obtain ⟨h0, h1, h2, h3, h4, h5⟩ := six_at a1
  obtain ⟨i0, i1, i2, i3, i4, i5⟩ := six_at a2
  have HA1 := Lib.hid ((bl3.block b1 (heap_lt a1)).trans a1)
  have HA2 := Lib.hid ((bl3.block b2 (heap_lt a2)).trans a2)
  have HW3 := Lib.hid (Below.step bl2 bl3)
  have HW2 := Lib.hid hw2
  have HW3E := Lib.hid hw3
  have HB1 := Lib.hid hb1
  have HB2 := Lib.hid hb2
  have HG3 := Lib.hid hg3
  obtain ⟨lo, hlo⟩ : ∃ v, v = w3.heap.size := ⟨_, rfl⟩
  have HLOE := Lib.hid hlo
  clear hw2 hb1 hb2 bl2 s2 a1 a2 hw3 hg3 bl3 a3 hlo
  go_enter Tryz.func10, Tryz.ntmps10
  go_upto_region 4 with fail
  rw [← HW2.out, ← HB1.out, ← HB2.out]
  go_wp2_with fail
  rw [← HW3E.out, ← HG3.out]
  clear h0 h1 h2 h3 h4 h5 i0 i1 i2 i3 i4 i5
  (with_reducible refine hnew.mono ?_)
  clear hnew
  rintro e w4 hq
  unfold MadePost at hq
  obtain ⟨fb, rfl, his, hb4⟩ := hq
  rw [← HLOE.out] at his
  have HIS4 := Lib.hid his
  have HB4 := Lib.hid hb4
  have hus := users_two his
  clear his hb4
  go_wp2_with fail
  (with_reducible refine hus.mono ?_)
  clear hus
  rintro e w5 ⟨Au, cu, rfl, hru, hb5⟩
  obtain ⟨gu, ou, hA, hgu, j0, j1, j2⟩ := hru 0 (by decide)
  obtain ⟨gu', ou', hA', hgu', j3, j4, j5⟩ := hru 1 (by decide)
  rw [hA] at hA'
  injection hA' with hA'
  injection hA' with e1 e2
  subst e1 e2
  have hx0 := idx_0 (n := 2) (c := cu) hA (by decide)
  have hx1 := idx_1 (n := 2) (c := cu) hA (by decide)
  simp only [Nat.zero_mul, Nat.add_zero, Nat.one_mul] at j0 j1 j2 j3 j4 j5
  have hq0 := TupleEq.us_eq xa.u xa.u
  have hq1 := TupleEq.us_eq xb.u xb.u
  simp only [decide_true] at hq0 hq1
  dsimp only [uc] at hq0
  dsimp only [uc] at hq1
  have hb45 := Below.step HB4.out hb5
  obtain ⟨h0, h1, h2, h3, h4, h5⟩ := six_at ((hb45.block b1 (heap_lt HA1.out)).trans HA1.out)
  obtain ⟨i0, i1, i2, i3, i4, i5⟩ := six_at ((hb45.block b2 (heap_lt HA2.out)).trans HA2.out)
  have haws : AwS b1 b2 gu ou w5 := ⟨⟨h0, h1, h2, h3, h4, h5⟩, ⟨i0, i1, i2, i3, i4, i5⟩, j0, j1, j2, j3, j4, j5⟩
  have HSP := Lib.hid (fun (wx : World) (hk : Wn lo w5 wx) => show AwS b1 b2 gu ou wx by
    obtain ⟨⟨h0, h1, h2, h3, h4, h5⟩, ⟨i0, i1, i2, i3, i4, i5⟩, j0, j1, j2, j3, j4, j5⟩ := haws
    exact ⟨⟨cell_wn hk h0, cell_wn hk h1, cell_wn hk h2, cell_wn hk h3, cell_wn hk h4, cell_wn hk h5⟩, ⟨cell_wn hk i0, cell_wn hk i1, cell_wn hk i2, cell_wn hk i3, cell_wn hk i4, cell_wn hk i5⟩, cell_wn hk j0, cell_wn hk j1, cell_wn hk j2, cell_wn hk j3, cell_wn hk j4, cell_wn hk j5⟩)
  have HIS5 := Lib.hid (HIS4.out.below hb5)
  have HLO := Lib.hid (show lo ≤ w5.heap.size from (HIS4.out.below hb5).low)
  have HW5 := Lib.hid (show Below W.heap.size W w5 from (HW3.out.trans (hb45.mono HW3.out.size)))
  have HLW := Lib.hid (show W.heap.size ≤ lo by rw [HLOE.out]; exact HW3.out.size)
  clear hru hA hgu hgu' hb5 hb45 haws h0 h1 h2 h3 h4 h5 i0 i1 i2 i3 i4 i5 j0 j1 j2 j3 j4 j5
  go_wp2_with fail
  refine wp_region_any (by kernel_rfl) ?_
  change wpAny _ _ _ _ _ _ _ (World.drew _)
  obtain ⟨u0, hu0⟩ : ∃ v, v = World.drew w5 := ⟨_, rfl⟩
  rw [← hu0]
  have his0 : Is lo u0 fb [xa, xb] := by rw [hu0]; exact HIS5.out.below (Below.refl _ _).drew
  have hk0 : Wn lo w5 u0 := by rw [hu0]; exact Wn.ofBelow (Below.refl _ _).drew
  clear hu0
  refine Held.any_of_G (S := (fun w' : World => AwS b1 b2 gu ou w')) (z := 65) _ _ _ _ ?_
  refine Held.G_take (i := 0) (d := 20) (v := ?_) [0, 1, 2, 3, 4, 5, 6, 7, 8, 9, 10, 11, 12, 13, 14, 15, 16, 17, 18, 19, 20, 21, 22, 23, 24, 25, 26, 27, 28, 29, 30, 31, 32, 33, 34, 35, 36, 37, 38, 39, 40, 41, 42, 43, 44, 45, 46, 47, 48, 49, 50, 51, 52, 53, 54, 55, 56, 57, 58, 59, 60, 61, 62, 63, 64, 65] rfl rfl (by kernel_rfl) (by kernel_rfl) (by kernel_rfl) (by kernel_rfl) (fun _ _ _ h => h) (Or.inl ⟨by rfl, ?_⟩) (HSP.out _ hk0) ?_
  rotate_left 1
  · intro w hSw; clear hSw; go_simp <;> with_reducible rfl
  simp only [Act.put, List.setIfInBounds_toArray, List.set_cons_zero, List.set_cons_succ]
  refine Held.G_ready (rs := [1]) (by decide +kernel) (by simp) ?_
  refine Held.G_cons rfl (fun KK hK => ?_) Held.G_nil
  go_simp
  have hh := all_two his0
  (with_reducible refine hh.mono ?_)
  clear hh
  rintro e u1 ⟨A1, c1, rfl, hb⟩
  have his1 := his0.below hb
  have hk1 := hk0.trans (Wn.ofBelow hb)
  clear hb his0 hk0
  go_simp
  refine hK _ _ ?_
  clear hK KK
  refine ⟨(HSP.out _ hk1), ?_⟩
  refine Held.G_take (i := 2) (d := 22) (v := ?_) [2, 3, 4, 5, 6, 7, 8, 9, 10, 11, 12, 13, 14, 15, 16, 17, 18, 19, 20, 21, 22, 23, 24, 25, 26, 27, 28, 29, 30, 31, 32, 33, 34, 35, 36, 37, 38, 39, 40, 41, 42, 43, 44, 45, 46, 47, 48, 49, 50, 51, 52, 53, 54, 55, 56, 57, 58, 59, 60, 61, 62, 63, 64, 65] rfl rfl (by kernel_rfl) (by kernel_rfl) (by kernel_rfl) (by kernel_rfl) (fun _ _ _ h => h) (Or.inl ⟨by rfl, ?_⟩) (HSP.out _ hk1) ?_
  rotate_left 1
  · intro w hSw; clear hSw; go_simp <;> with_reducible rfl
  simp only [Act.put, List.setIfInBounds_toArray, List.set_cons_zero, List.set_cons_succ]
  refine Held.G_take (i := 3) (d := 23) (v := ?_) [3, 4, 5, 6, 7, 8, 9, 10, 11, 12, 13, 14, 15, 16, 17, 18, 19, 20, 21, 22, 23, 24, 25, 26, 27, 28, 29, 30, 31, 32, 33, 34, 35, 36, 37, 38, 39, 40, 41, 42, 43, 44, 45, 46, 47, 48, 49, 50, 51, 52, 53, 54, 55, 56, 57, 58, 59, 60, 61, 62, 63, 64, 65] rfl rfl (by kernel_rfl) (by kernel_rfl) (by kernel_rfl) (by kernel_rfl) (fun _ _ _ h => h) (Or.inl ⟨by rfl, ?_⟩) (HSP.out _ hk1) ?_
  rotate_left 1
  · intro w hSw; clear hSw; go_simp <;> with_reducible rfl
  simp only [Act.put, List.setIfInBounds_toArray, List.set_cons_zero, List.set_cons_succ]
  refine Held.G_take (i := 4) (d := 24) (v := ?_) [4, 5, 6, 7, 8, 9, 10, 11, 12, 13, 14, 15, 16, 17, 18, 19, 20, 21, 22, 23, 24, 25, 26, 27, 28, 29, 30, 31, 32, 33, 34, 35, 36, 37, 38, 39, 40, 41, 42, 43, 44, 45, 46, 47, 48, 49, 50, 51, 52, 53, 54, 55, 56, 57, 58, 59, 60, 61, 62, 63, 64, 65] rfl rfl (by kernel_rfl) (by kernel_rfl) (by kernel_rfl) (by kernel_rfl) (fun _ _ _ h => h) (Or.inl ⟨by rfl, ?_⟩) (HSP.out _ hk1) ?_
  rotate_left 1
  · intro w hSw; clear hSw; go_simp <;> with_reducible rfl
  simp only [Act.put, List.setIfInBounds_toArray, List.set_cons_zero, List.set_cons_succ]
  refine Held.G_take (i := 5) (d := 25) (v := ?_) [5, 6, 7, 8, 9, 10, 11, 12, 13, 14, 15, 16, 17, 18, 19, 20, 21, 22, 23, 24, 25, 26, 27, 28, 29, 30, 31, 32, 33, 34, 35, 36, 37, 38, 39, 40, 41, 42, 43, 44, 45, 46, 47, 48, 49, 50, 51, 52, 53, 54, 55, 56, 57, 58, 59, 60, 61, 62, 63, 64, 65] rfl rfl (by kernel_rfl) (by kernel_rfl) (by kernel_rfl) (by kernel_rfl) (fun _ _ _ h => h) (Or.inl ⟨by rfl, ?_⟩) (HSP.out _ hk1) ?_
  rotate_left 1
  · intro w hSw; clear hSw; go_simp <;> with_reducible rfl
  simp only [Act.put, List.setIfInBounds_toArray, List.set_cons_zero, List.set_cons_succ]
  refine Held.G_take (i := 6) (d := 26) (v := ?_) [6, 7, 8, 9, 10, 11, 12, 13, 14, 15, 16, 17, 18, 19, 20, 21, 22, 23, 24, 25, 26, 27, 28, 29, 30, 31, 32, 33, 34, 35, 36, 37, 38, 39, 40, 41, 42, 43, 44, 45, 46, 47, 48, 49, 50, 51, 52, 53, 54, 55, 56, 57, 58, 59, 60, 61, 62, 63, 64, 65] rfl rfl (by kernel_rfl) (by kernel_rfl) (by kernel_rfl) (by kernel_rfl) (fun _ _ _ h => h) (Or.inl ⟨by rfl, ?_⟩) (HSP.out _ hk1) ?_
  rotate_left 1
  · intro w hSw; clear hSw; go_simp <;> with_reducible rfl
  simp only [Act.put, List.setIfInBounds_toArray, List.set_cons_zero, List.set_cons_succ]
  refine Held.G_take (i := 7) (d := 27) (v := ?_) [7, 8, 9, 10, 11, 12, 13, 14, 15, 16, 17, 18, 19, 20, 21, 22, 23, 24, 25, 26, 27, 28, 29, 30, 31, 32, 33, 34, 35, 36, 37, 38, 39, 40, 41, 42, 43, 44, 45, 46, 47, 48, 49, 50, 51, 52, 53, 54, 55, 56, 57, 58, 59, 60, 61, 62, 63, 64, 65] rfl rfl (by kernel_rfl) (by kernel_rfl) (by kernel_rfl) (by kernel_rfl) (fun _ _ _ h => h) (Or.inl ⟨by rfl, ?_⟩) (HSP.out _ hk1) ?_
  rotate_left 1
  · intro w hSw; clear hSw; go_simp <;> with_reducible rfl
  simp only [Act.put, List.setIfInBounds_toArray, List.set_cons_zero, List.set_cons_succ]
  refine Held.G_take (i := 8) (d := 28) (v := ?_) [8, 9, 10, 11, 12, 13, 14, 15, 16, 17, 18, 19, 20, 21, 22, 23, 24, 25, 26, 27, 28, 29, 30, 31, 32, 33, 34, 35, 36, 37, 38, 39, 40, 41, 42, 43, 44, 45, 46, 47, 48, 49, 50, 51, 52, 53, 54, 55, 56, 57, 58, 59, 60, 61, 62, 63, 64, 65] rfl rfl (by kernel_rfl) (by kernel_rfl) (by kernel_rfl) (by kernel_rfl) (fun _ _ _ h => h) (Or.inl ⟨by rfl, ?_⟩) (HSP.out _ hk1) ?_
  rotate_left 1
  · intro w hSw; clear hSw; go_simp <;> with_reducible rfl
  simp only [Act.put, List.setIfInBounds_toArray, List.set_cons_zero, List.set_cons_succ]
  refine Held.G_take (i := 9) (d := 29) (v := ?_) [9, 10, 11, 12, 13, 14, 15, 16, 17, 18, 19, 20, 21, 22, 23, 24, 25, 26, 27, 28, 29, 30, 31, 32, 33, 34, 35, 36, 37, 38, 39, 40, 41, 42, 43, 44, 45, 46, 47, 48, 49, 50, 51, 52, 53, 54, 55, 56, 57, 58, 59, 60, 61, 62, 63, 64, 65] rfl rfl (by kernel_rfl) (by kernel_rfl) (by kernel_rfl) (by kernel_rfl) (fun _ _ _ h => h) (Or.inl ⟨by rfl, ?_⟩) (HSP.out _ hk1) ?_
  rotate_left 1
  · intro w hSw; clear hSw; go_simp <;> with_reducible rfl
  simp only [Act.put, List.setIfInBounds_toArray, List.set_cons_zero, List.set_cons_succ]
  refine Held.G_take (i := 10) (d := 30) (v := ?_) [10, 11, 12, 15, 16, 17, 18, 19, 20, 21, 22, 23, 24, 25, 26, 27, 28, 29, 30, 31, 32, 33, 34, 35, 36, 37, 38, 39, 40, 41, 42, 43, 44, 45, 46, 47, 48, 49, 50, 51, 52, 53, 54, 55, 56, 57, 58, 59, 60, 61, 62, 63, 64, 65] rfl rfl (by kernel_rfl) (by kernel_rfl) (by kernel_rfl) (by kernel_rfl) (fun _ _ _ h => h) (Or.inl ⟨by rfl, ?_⟩) (HSP.out _ hk1) ?_
  rotate_left 1
  · intro w hSw; clear hSw; go_simp <;> with_reducible rfl
  simp only [Act.put, List.setIfInBounds_toArray, List.set_cons_zero, List.set_cons_succ]
  refine Held.G_take (i := 11) (d := 31) (v := ?_) [11, 12, 15, 16, 17, 18, 19, 20, 21, 22, 23, 24, 25, 26, 27, 28, 29, 30, 31, 32, 33, 34, 35, 36, 37, 38, 39, 40, 41, 42, 43, 44, 45, 46, 47, 48, 49, 50, 51, 52, 53, 54, 55, 56, 57, 58, 59, 60, 61, 62, 63, 64, 65] rfl rfl (by kernel_rfl) (by kernel_rfl) (by kernel_rfl) (by kernel_rfl) (fun _ _ _ h => h) (Or.inl ⟨by rfl, ?_⟩) (HSP.out _ hk1) ?_
  rotate_left 1
  · intro w hSw; clear hSw; go_simp <;> with_reducible rfl
  simp only [Act.put, List.setIfInBounds_toArray, List.set_cons_zero, List.set_cons_succ]
  refine Held.G_take (i := 12) (d := 32) (v := ?_) [12, 15, 16, 17, 18, 19, 20, 21, 22, 23, 24, 25, 26, 27, 28, 29, 30, 31, 32, 33, 34, 35, 36, 37, 38, 39, 40, 41, 42, 43, 44, 45, 46, 47, 48, 49, 50, 51, 52, 53, 54, 55, 56, 57, 58, 59, 60, 61, 62, 63, 64, 65] rfl rfl (by kernel_rfl) (by kernel_rfl) (by kernel_rfl) (by kernel_rfl) (fun _ _ _ h => h) (Or.inl ⟨by rfl, ?_⟩) (HSP.out _ hk1) ?_
  rotate_left 1
  · intro w hSw; obtain ⟨⟨h0, h1, h2, h3, h4, h5⟩, ⟨i0, i1, i2, i3, i4, i5⟩, j0, j1, j2, j3, j4, j5⟩ := hSw; go_simp <;> with_reducible rfl
  simp only [Act.put, List.setIfInBounds_toArray, List.set_cons_zero, List.set_cons_succ]
  refine Held.G_take (i := 13) (d := 33) (v := ?_) [13, 14, 15, 16, 17, 18, 19, 20, 21, 22, 23, 24, 25, 26, 27, 28, 29, 30, 31, 32, 33, 34, 35, 36, 37, 38, 39, 40, 41, 42, 43, 44, 45, 46, 47, 48, 49, 50, 51, 52, 53, 54, 55, 56, 57, 58, 59, 60, 61, 62, 63, 64, 65] rfl rfl (by kernel_rfl) (by kernel_rfl) (by kernel_rfl) (by kernel_rfl) (fun _ _ _ h => h) (Or.inl ⟨by rfl, ?_⟩) (HSP.out _ hk1) ?_
  rotate_left 1
  · intro w hSw; clear hSw; go_simp <;> with_reducible rfl
  simp only [Act.put, List.setIfInBounds_toArray, List.set_cons_zero, List.set_cons_succ]
  refine Held.G_take (i := 14) (d := 34) (v := ?_) [14, 15, 16, 17, 18, 19, 20, 21, 22, 23, 24, 25, 26, 27, 28, 29, 30, 31, 32, 33, 34, 35, 36, 37, 38, 39, 40, 41, 42, 43, 44, 45, 46, 47, 48, 49, 50, 51, 52, 53, 54, 55, 56, 57, 58, 59, 60, 61, 62, 63, 64, 65] rfl rfl (by kernel_rfl) (by kernel_rfl) (by kernel_rfl) (by kernel_rfl) (fun _ _ _ h => h) (Or.inl ⟨by rfl, ?_⟩) (HSP.out _ hk1) ?_
  rotate_left 1
  · intro w hSw; obtain ⟨⟨h0, h1, h2, h3, h4, h5⟩, ⟨i0, i1, i2, i3, i4, i5⟩, j0, j1, j2, j3, j4, j5⟩ := hSw; go_simp <;> with_reducible rfl
  simp only [Act.put, List.setIfInBounds_toArray, List.set_cons_zero, List.set_cons_succ]
  refine Held.G_take (i := 15) (d := 35) (v := ?_) [15, 16, 17, 18, 19, 20, 21, 22, 23, 24, 25, 26, 27, 28, 29, 30, 31, 32, 33, 34, 35, 36, 37, 38, 39, 40, 41, 42, 43, 44, 45, 46, 47, 48, 49, 50, 51, 52, 53, 54, 55, 56, 57, 58, 59, 60, 61, 62, 63, 64, 65] rfl rfl (by kernel_rfl) (by kernel_rfl) (by kernel_rfl) (by kernel_rfl) (fun _ _ _ h => h) (Or.inl ⟨by rfl, ?_⟩) (HSP.out _ hk1) ?_
  rotate_left 1
  · intro w hSw; clear hSw; go_simp <;> with_reducible rfl
  simp only [Act.put, List.setIfInBounds_toArray, List.set_cons_zero, List.set_cons_succ]
  refine Held.G_take (i := 16) (d := 36) (v := ?_) [16, 17, 18, 19, 20, 21, 22, 23, 24, 25, 26, 27, 28, 29, 30, 31, 32, 33, 34, 35, 36, 37, 38, 39, 40, 41, 42, 43, 44, 45, 46, 47, 48, 49, 50, 51, 52, 53, 54, 55, 56, 57, 58, 59, 60, 61, 62, 63, 64, 65] rfl rfl (by kernel_rfl) (by kernel_rfl) (by kernel_rfl) (by kernel_rfl) (fun _ _ _ h => h) (Or.inl ⟨by rfl, ?_⟩) (HSP.out _ hk1) ?_
  rotate_left 1
  · intro w hSw; clear hSw; go_simp <;> with_reducible rfl
  simp only [Act.put, List.setIfInBounds_toArray, List.set_cons_zero, List.set_cons_succ]
  refine Held.G_take (i := 17) (d := 37) (v := ?_) [17, 18, 19, 20, 21, 22, 23, 24, 25, 26, 27, 28, 29, 30, 31, 32, 33, 34, 35, 36, 37, 38, 39, 40, 41, 42, 43, 44, 45, 46, 47, 48, 49, 50, 51, 52, 53, 54, 55, 56, 57, 58, 59, 60, 61, 62, 63, 64, 65] rfl rfl (by kernel_rfl) (by kernel_rfl) (by kernel_rfl) (by kernel_rfl) (fun _ _ _ h => h) (Or.inl ⟨by rfl, ?_⟩) (HSP.out _ hk1) ?_
  rotate_left 1
  · intro w hSw; clear hSw; go_simp <;> with_reducible rfl
  simp only [Act.put, List.setIfInBounds_toArray, List.set_cons_zero, List.set_cons_succ]
  refine Held.G_take (i := 18) (d := 38) (v := ?_) [18, 19, 20, 23, 24, 25, 26, 27, 28, 29, 30, 31, 32, 33, 34, 35, 36, 37, 38, 39, 40, 41, 42, 43, 44, 45, 46, 47, 48, 49, 50, 51, 52, 53, 54, 55, 56, 57, 58, 59, 60, 61, 62, 63, 64, 65] rfl rfl (by kernel_rfl) (by kernel_rfl) (by kernel_rfl) (by kernel_rfl) (fun _ _ _ h => h) (Or.inl ⟨by rfl, ?_⟩) (HSP.out _ hk1) ?_
  rotate_left 1
  · intro w hSw; clear hSw; go_simp <;> with_reducible rfl
  simp only [Act.put, List.setIfInBounds_toArray, List.set_cons_zero, List.set_cons_succ]
  refine Held.G_take (i := 19) (d := 39) (v := ?_) [19, 20, 23, 24, 25, 26, 27, 28, 29, 30, 31, 32, 33, 34, 35, 36, 37, 38, 39, 40, 41, 42, 43, 44, 45, 46, 47, 48, 49, 50, 51, 52, 53, 54, 55, 56, 57, 58, 59, 60, 61, 62, 63, 64, 65] rfl rfl (by kernel_rfl) (by kernel_rfl) (by kernel_rfl) (by kernel_rfl) (fun _ _ _ h => h) (Or.inl ⟨by rfl, ?_⟩) (HSP.out _ hk1) ?_
  rotate_left 1
  · intro w hSw; clear hSw; go_simp <;> with_reducible rfl
  simp only [Act.put, List.setIfInBounds_toArray, List.set_cons_zero, List.set_cons_succ]
  refine Held.G_take (i := 20) (d := 40) (v := ?_) [20, 23, 24, 25, 26, 27, 28, 29, 30, 31, 32, 33, 34, 35, 36, 37, 38, 39, 40, 41, 42, 43, 44, 45, 46, 47, 48, 49, 50, 51, 52, 53, 54, 55, 56, 57, 58, 59, 60, 61, 62, 63, 64, 65] rfl rfl (by kernel_rfl) (by kernel_rfl) (by kernel_rfl) (by kernel_rfl) (fun _ _ _ h => h) (Or.inl ⟨by rfl, ?_⟩) (HSP.out _ hk1) ?_
  rotate_left 1
  · intro w hSw; obtain ⟨⟨h0, h1, h2, h3, h4, h5⟩, ⟨i0, i1, i2, i3, i4, i5⟩, j0, j1, j2, j3, j4, j5⟩ := hSw; go_simp <;> with_reducible rfl
  simp only [Act.put, List.setIfInBounds_toArray, List.set_cons_zero, List.set_cons_succ]
  refine Held.G_take (i := 21) (d := 41) (v := ?_) [21, 22, 23, 24, 25, 26, 27, 28, 29, 30, 31, 32, 33, 34, 35, 36, 37, 38, 39, 40, 41, 42, 43, 44, 45, 46, 47, 48, 49, 50, 51, 52, 53, 54, 55, 56, 57, 58, 59, 60, 61, 62, 63, 64, 65] rfl rfl (by kernel_rfl) (by kernel_rfl) (by kernel_rfl) (by kernel_rfl) (fun _ _ _ h => h) (Or.inl ⟨by rfl, ?_⟩) (HSP.out _ hk1) ?_
  rotate_left 1
  · intro w hSw; clear hSw; go_simp <;> with_reducible rfl
  simp only [Act.put, List.setIfInBounds_toArray, List.set_cons_zero, List.set_cons_succ]
  refine Held.G_take (i := 22) (d := 42) (v := ?_) [22, 23, 24, 25, 26, 27, 28, 29, 30, 31, 32, 33, 34, 35, 36, 37, 38, 39, 40, 41, 42, 43, 44, 45, 46, 47, 48, 49, 50, 51, 52, 53, 54, 55, 56, 57, 58, 59, 60, 61, 62, 63, 64, 65] rfl rfl (by kernel_rfl) (by kernel_rfl) (by kernel_rfl) (by kernel_rfl) (fun _ _ _ h => h) (Or.inl ⟨by rfl, ?_⟩) (HSP.out _ hk1) ?_
  rotate_left 1
  · intro w hSw; obtain ⟨⟨h0, h1, h2, h3, h4, h5⟩, ⟨i0, i1, i2, i3, i4, i5⟩, j0, j1, j2, j3, j4, j5⟩ := hSw; go_simp <;> with_reducible rfl
  simp only [Act.put, List.setIfInBounds_toArray, List.set_cons_zero, List.set_cons_succ]
  refine Held.G_take (i := 23) (d := 43) (v := ?_) [23, 24, 25, 26, 27, 28, 29, 30, 31, 32, 33, 34, 35, 36, 37, 38, 39, 40, 41, 42, 43, 44, 45, 46, 47, 48, 49, 50, 51, 52, 53, 54, 55, 56, 57, 58, 59, 60, 61, 62, 63, 64, 65] rfl rfl (by kernel_rfl) (by kernel_rfl) (by kernel_rfl) (by kernel_rfl) (fun _ _ _ h => h) (Or.inl ⟨by rfl, ?_⟩) (HSP.out _ hk1) ?_
  rotate_left 1
  · intro w hSw; clear hSw; go_simp <;> with_reducible rfl
  simp only [Act.put, List.setIfInBounds_toArray, List.set_cons_zero, List.set_cons_succ]
  refine Held.G_take (i := 24) (d := 44) (v := ?_) [24, 25, 26, 27, 28, 29, 30, 31, 32, 33, 34, 35, 36, 37, 38, 39, 40, 41, 42, 43, 44, 45, 46, 47, 48, 49, 50, 51, 52, 53, 54, 55, 56, 57, 58, 59, 60, 61, 62, 63, 64, 65] rfl rfl (by kernel_rfl) (by kernel_rfl) (by kernel_rfl) (by kernel_rfl) (fun _ _ _ h => h) (Or.inl ⟨by rfl, ?_⟩) (HSP.out _ hk1) ?_
  rotate_left 1
  · intro w hSw; clear hSw; go_simp <;> with_reducible rfl
  simp only [Act.put, List.setIfInBounds_toArray, List.set_cons_zero, List.set_cons_succ]
  refine Held.G_take (i := 25) (d := 45) (v := ?_) [25, 26, 27, 28, 29, 30, 31, 32, 33, 34, 35, 36, 37, 38, 39, 40, 41, 42, 43, 44, 45, 46, 47, 48, 49, 50, 51, 52, 53, 54, 55, 56, 57, 58, 59, 60, 61, 62, 63, 64, 65] rfl rfl (by kernel_rfl) (by kernel_rfl) (by kernel_rfl) (by kernel_rfl) (fun _ _ _ h => h) (Or.inl ⟨by rfl, ?_⟩) (HSP.out _ hk1) ?_
  rotate_left 1
  · intro w hSw; clear hSw; go_simp <;> with_reducible rfl
  simp only [Act.put, List.setIfInBounds_toArray, List.set_cons_zero, List.set_cons_succ]
  refine Held.G_take (i := 26) (d := 46) (v := ?_) [26, 28, 29, 30, 31, 32, 33, 34, 35, 36, 37, 38, 39, 40, 41, 42, 43, 44, 45, 46, 47, 48, 49, 50, 51, 52, 53, 54, 55, 56, 57, 58, 59, 60, 61, 62, 63, 64, 65] rfl rfl (by kernel_rfl) (by kernel_rfl) (by kernel_rfl) (by kernel_rfl) (fun _ _ _ h => h) (Or.inl ⟨by rfl, ?_⟩) (HSP.out _ hk1) ?_
  rotate_left 1
  · intro w hSw; clear hSw; go_simp <;> with_reducible rfl
  simp only [Act.put, List.setIfInBounds_toArray, List.set_cons_zero, List.set_cons_succ]
  refine Held.G_take (i := 27) (d := 47) (v := ?_) [27, 28, 29, 30, 31, 32, 33, 34, 35, 36, 37, 38, 39, 40, 41, 42, 43, 44, 45, 46, 47, 48, 49, 50, 51, 52, 53, 54, 55, 56, 57, 58, 59, 60, 61, 62, 63, 64, 65] rfl rfl (by kernel_rfl) (by kernel_rfl) (by kernel_rfl) (by kernel_rfl) (fun _ _ _ h => h) (Or.inl ⟨by rfl, ?_⟩) (HSP.out _ hk1) ?_
  rotate_left 1
  · intro w hSw; obtain ⟨⟨h0, h1, h2, h3, h4, h5⟩, ⟨i0, i1, i2, i3, i4, i5⟩, j0, j1, j2, j3, j4, j5⟩ := hSw; go_simp <;> with_reducible rfl
  simp only [Act.put, List.setIfInBounds_toArray, List.set_cons_zero, List.set_cons_succ]
  refine Held.G_ready (rs := [28]) (by decide +kernel) (by simp) ?_
  refine Held.G_cons rfl (fun KK hK => ?_) Held.G_nil
  go_simp
  have hh := has_yes his1
  dsimp only [tc] at hh
  (with_reducible refine hh.mono ?_)
  clear hh
  rintro e u2 ⟨rfl, hb⟩
  have his2 := his1.below hb
  have hk2 := hk1.trans (Wn.ofBelow hb)
  clear hb his1 hk1
  go_simp
  refine hK _ _ ?_
  clear hK KK
  refine ⟨(HSP.out _ hk2), ?_⟩
  refine Held.G_take (i := 29) (d := 49) (v := ?_) [29, 30, 31, 32, 33, 34, 35, 36, 37, 38, 39, 40, 41, 42, 43, 44, 45, 46, 47, 48, 49, 50, 51, 52, 53, 54, 55, 56, 57, 58, 59, 60, 61, 62, 63, 64, 65] rfl rfl (by kernel_rfl) (by kernel_rfl) (by kernel_rfl) (by kernel_rfl) (fun _ _ _ h => h) (Or.inl ⟨by rfl, ?_⟩) (HSP.out _ hk2) ?_
  rotate_left 1
  · intro w hSw; clear hSw; go_simp <;> with_reducible rfl
  simp only [Act.put, List.setIfInBounds_toArray, List.set_cons_zero, List.set_cons_succ]
  refine Held.G_take (i := 30) (d := 50) (v := ?_) [30, 31, 32, 33, 34, 35, 36, 37, 38, 39, 40, 41, 42, 43, 44, 45, 46, 47, 48, 49, 50, 51, 52, 53, 54, 55, 56, 57, 58, 59, 60, 61, 62, 63, 64, 65] rfl rfl (by kernel_rfl) (by kernel_rfl) (by kernel_rfl) (by kernel_rfl) (fun _ _ _ h => h) (Or.inl ⟨by rfl, ?_⟩) (HSP.out _ hk2) ?_
  rotate_left 1
  · intro w hSw; clear hSw; go_simp <;> with_reducible rfl
  simp only [Act.put, List.setIfInBounds_toArray, List.set_cons_zero, List.set_cons_succ]
  refine Held.G_take (i := 31) (d := 51) (v := ?_) [31, 33, 34, 35, 36, 37, 38, 39, 40, 41, 42, 43, 44, 45, 46, 47, 48, 49, 50, 51, 52, 53, 54, 55, 56, 57, 58, 59, 60, 61, 62, 63, 64, 65] rfl rfl (by kernel_rfl) (by kernel_rfl) (by kernel_rfl) (by kernel_rfl) (fun _ _ _ h => h) (Or.inl ⟨by rfl, ?_⟩) (HSP.out _ hk2) ?_
  rotate_left 1
  · intro w hSw; clear hSw; go_simp <;> with_reducible rfl
  simp only [Act.put, List.setIfInBounds_toArray, List.set_cons_zero, List.set_cons_succ]
  refine Held.G_take (i := 32) (d := 52) (v := ?_) [32, 33, 34, 35, 36, 37, 38, 39, 40, 41, 42, 43, 44, 45, 46, 47, 48, 49, 50, 51, 52, 53, 54, 55, 56, 57, 58, 59, 60, 61, 62, 63, 64, 65] rfl rfl (by kernel_rfl) (by kernel_rfl) (by kernel_rfl) (by kernel_rfl) (fun _ _ _ h => h) (Or.inl ⟨by rfl, ?_⟩) (HSP.out _ hk2) ?_
  rotate_left 1
  · intro w hSw; clear hSw; go_simp <;> with_reducible rfl
  simp only [Act.put, List.setIfInBounds_toArray, List.set_cons_zero, List.set_cons_succ]
  refine Held.G_ready (rs := [33]) (by decide +kernel) (by simp) ?_
  refine Held.G_cons rfl (fun KK hK => ?_) Held.G_nil
  go_simp
  have hh := find_two his2
  dsimp only [tc, zus] at hh
  (with_reducible refine hh.mono ?_)
  clear hh
  rintro e u3 ⟨A2, c2, rfl, hb⟩
  have his3 := his2.below hb
  have hk3 := hk2.trans (Wn.ofBelow hb)
  clear hb his2 hk2
  go_simp
  refine hK _ _ ?_
  clear hK KK
  refine ⟨(HSP.out _ hk3), ?_⟩
  refine Held.G_take (i := 34) (d := 54) (v := ?_) [34, 35, 36, 37, 38, 39, 40, 41, 42, 43, 44, 45, 46, 47, 48, 49, 50, 51, 52, 53, 54, 55, 56, 57, 58, 59, 60, 61, 62, 63, 64, 65] rfl rfl (by kernel_rfl) (by kernel_rfl) (by kernel_rfl) (by kernel_rfl) (fun _ _ _ h => h) (Or.inl ⟨by rfl, ?_⟩) (HSP.out _ hk3) ?_
  rotate_left 1
  · intro w hSw; clear hSw; go_simp <;> with_reducible rfl
  simp only [Act.put, List.setIfInBounds_toArray, List.set_cons_zero, List.set_cons_succ]
  refine Held.G_take (i := 35) (d := 55) (v := ?_) [35, 36, 37, 38, 39, 40, 41, 42, 43, 44, 45, 46, 47, 48, 49, 50, 51, 52, 53, 54, 55, 56, 57, 58, 59, 60, 61, 62, 63, 64, 65] rfl rfl (by kernel_rfl) (by kernel_rfl) (by kernel_rfl) (by kernel_rfl) (fun _ _ _ h => h) (Or.inl ⟨by rfl, ?_⟩) (HSP.out _ hk3) ?_
  rotate_left 1
  · intro w hSw; clear hSw; go_simp <;> with_reducible rfl
  simp only [Act.put, List.setIfInBounds_toArray, List.set_cons_zero, List.set_cons_succ]
  refine Held.G_take (i := 36) (d := 56) (v := ?_) [36, 37, 38, 39, 40, 41, 42, 43, 44, 45, 46, 47, 48, 49, 50, 51, 52, 53, 54, 55, 56, 57, 58, 59, 60, 61, 62, 63, 64, 65] rfl rfl (by kernel_rfl) (by kernel_rfl) (by kernel_rfl) (by kernel_rfl) (fun _ _ _ h => h) (Or.inl ⟨by rfl, ?_⟩) (HSP.out _ hk3) ?_
  rotate_left 1
  · intro w hSw; clear hSw; go_simp <;> with_reducible rfl
  simp only [Act.put, List.setIfInBounds_toArray, List.set_cons_zero, List.set_cons_succ]
  refine Held.G_take (i := 37) (d := 57) (v := ?_) [37, 38, 39, 40, 41, 42, 43, 44, 45, 46, 47, 48, 49, 50, 51, 52, 53, 54, 55, 56, 57, 58, 59, 60, 61, 62, 63, 64, 65] rfl rfl (by kernel_rfl) (by kernel_rfl) (by kernel_rfl) (by kernel_rfl) (fun _ _ _ h => h) (Or.inl ⟨by rfl, ?_⟩) (HSP.out _ hk3) ?_
  rotate_left 1
  · intro w hSw; clear hSw; go_simp <;> with_reducible rfl
  simp only [Act.put, List.setIfInBounds_toArray, List.set_cons_zero, List.set_cons_succ]
  refine Held.G_take (i := 38) (d := 58) (v := ?_) [38, 39, 40, 41, 42, 43, 44, 45, 46, 47, 48, 49, 50, 51, 52, 53, 54, 55, 56, 57, 58, 59, 60, 61, 62, 63, 64, 65] rfl rfl (by kernel_rfl) (by kernel_rfl) (by kernel_rfl) (by kernel_rfl) (fun _ _ _ h => h) (Or.inl ⟨by rfl, ?_⟩) (HSP.out _ hk3) ?_
  rotate_left 1
  · intro w hSw; clear hSw; go_simp <;> with_reducible rfl
  simp only [Act.put, List.setIfInBounds_toArray, List.set_cons_zero, List.set_cons_succ]
  refine Held.G_ready (rs := [39]) (by decide +kernel) (by simp) ?_
  refine Held.G_cons rfl (fun KK hK => ?_) Held.G_nil
  go_simp
  have hh := objs_two his3
  (with_reducible refine hh.mono ?_)
  clear hh
  rintro e u4 ⟨A3, c3, rfl, hb⟩
  have his4 := his3.below hb
  have hk4 := hk3.trans (Wn.ofBelow hb)
  clear hb his3 hk3
  go_simp
  refine hK _ _ ?_
  clear hK KK
  refine ⟨(HSP.out _ hk4), ?_⟩
  refine Held.G_take (i := 40) (d := 60) (v := ?_) [40, 41, 42, 43, 44, 45, 46, 47, 48, 49, 50, 51, 52, 53, 54, 55, 56, 57, 58, 59, 60, 61, 62, 63, 64, 65] rfl rfl (by kernel_rfl) (by kernel_rfl) (by kernel_rfl) (by kernel_rfl) (fun _ _ _ h => h) (Or.inl ⟨by rfl, ?_⟩) (HSP.out _ hk4) ?_
  rotate_left 1
  · intro w hSw; clear hSw; go_simp <;> with_reducible rfl
  simp only [Act.put, List.setIfInBounds_toArray, List.set_cons_zero, List.set_cons_succ]
  refine Held.G_take (i := 41) (d := 61) (v := ?_) [41, 42, 43, 44, 45, 46, 47, 48, 49, 50, 51, 52, 53, 54, 55, 56, 57, 58, 59, 60, 61, 62, 63, 64, 65] rfl rfl (by kernel_rfl) (by kernel_rfl) (by kernel_rfl) (by kernel_rfl) (fun _ _ _ h => h) (Or.inl ⟨by rfl, ?_⟩) (HSP.out _ hk4) ?_
  rotate_left 1
  · intro w hSw; clear hSw; go_simp <;> with_reducible rfl
  simp only [Act.put, List.setIfInBounds_toArray, List.set_cons_zero, List.set_cons_succ]
  refine Held.G_take (i := 42) (d := 62) (v := ?_) [42, 43, 44, 45, 46, 47, 48, 49, 50, 51, 52, 53, 54, 55, 56, 57, 58, 59, 60, 61, 62, 63, 64, 65] rfl rfl (by kernel_rfl) (by kernel_rfl) (by kernel_rfl) (by kernel_rfl) (fun _ _ _ h => h) (Or.inl ⟨by rfl, ?_⟩) (HSP.out _ hk4) ?_
  rotate_left 1
  · intro w hSw; clear hSw; go_simp <;> with_reducible rfl
  simp only [Act.put, List.setIfInBounds_toArray, List.set_cons_zero, List.set_cons_succ]
  refine Held.G_take (i := 43) (d := 63) (v := ?_) [43, 44, 45, 46, 47, 48, 49, 50, 51, 52, 53, 54, 55, 56, 57, 58, 59, 60, 61, 62, 63, 64, 65] rfl rfl (by kernel_rfl) (by kernel_rfl) (by kernel_rfl) (by kernel_rfl) (fun _ _ _ h => h) (Or.inl ⟨by rfl, ?_⟩) (HSP.out _ hk4) ?_
  rotate_left 1
  · intro w hSw; clear hSw; go_simp <;> with_reducible rfl
  simp only [Act.put, List.setIfInBounds_toArray, List.set_cons_zero, List.set_cons_succ]
  refine Held.G_take (i := 44) (d := 64) (v := ?_) [44, 45, 46, 47, 48, 49, 50, 51, 52, 53, 54, 55, 56, 57, 58, 59, 60, 61, 62, 63, 64, 65] rfl rfl (by kernel_rfl) (by kernel_rfl) (by kernel_rfl) (by kernel_rfl) (fun _ _ _ h => h) (Or.inl ⟨by rfl, ?_⟩) (HSP.out _ hk4) ?_
  rotate_left 1
  · intro w hSw; clear hSw; go_simp <;> with_reducible rfl
  simp only [Act.put, List.setIfInBounds_toArray, List.set_cons_zero, List.set_cons_succ]
  refine Held.G_ready (rs := [45]) (by decide +kernel) (by simp) ?_
  refine Held.G_cons rfl (fun KK hK => ?_) Held.G_nil
  go_simp
  have hh := people_two his4
  (with_reducible refine hh.mono ?_)
  clear hh
  rintro e u5 ⟨A4, c4, rfl, hb⟩
  have his5 := his4.below hb
  have hk5 := hk4.trans (Wn.ofBelow hb)
  clear hb his4 hk4
  go_simp
  refine hK _ _ ?_
  clear hK KK
  refine ⟨(HSP.out _ hk5), ?_⟩
  refine Held.G_take (i := 46) (d := 66) (v := ?_) [46, 47, 48, 49, 50, 51, 52, 53, 54, 55, 56, 57, 58, 59, 60, 61, 62, 63, 64, 65] rfl rfl (by kernel_rfl) (by kernel_rfl) (by kernel_rfl) (by kernel_rfl) (fun _ _ _ h => h) (Or.inl ⟨by rfl, ?_⟩) (HSP.out _ hk5) ?_
  rotate_left 1
  · intro w hSw; clear hSw; go_simp <;> with_reducible rfl
  simp only [Act.put, List.setIfInBounds_toArray, List.set_cons_zero, List.set_cons_succ]
  refine Held.G_take (i := 47) (d := 67) (v := ?_) [47, 48, 49, 50, 51, 52, 53, 54, 55, 56, 57, 58, 59, 60, 61, 62, 63, 64, 65] rfl rfl (by kernel_rfl) (by kernel_rfl) (by kernel_rfl) (by kernel_rfl) (fun _ _ _ h => h) (Or.inl ⟨by rfl, ?_⟩) (HSP.out _ hk5) ?_
  rotate_left 1
  · intro w hSw; clear hSw; go_simp <;> with_reducible rfl
  simp only [Act.put, List.setIfInBounds_toArray, List.set_cons_zero, List.set_cons_succ]
  refine Held.G_take (i := 48) (d := 68) (v := ?_) [48, 49, 50, 51, 52, 53, 54, 55, 56, 57, 58, 59, 60, 61, 62, 63, 64, 65] rfl rfl (by kernel_rfl) (by kernel_rfl) (by kernel_rfl) (by kernel_rfl) (fun _ _ _ h => h) (Or.inl ⟨by rfl, ?_⟩) (HSP.out _ hk5) ?_
  rotate_left 1
  · intro w hSw; clear hSw; go_simp <;> with_reducible rfl
  simp only [Act.put, List.setIfInBounds_toArray, List.set_cons_zero, List.set_cons_succ]
  refine Held.G_take (i := 49) (d := 69) (v := ?_) [49, 50, 51, 52, 53, 54, 55, 56, 57, 58, 59, 60, 61, 62, 63, 64, 65] rfl rfl (by kernel_rfl) (by kernel_rfl) (by kernel_rfl) (by kernel_rfl) (fun _ _ _ h => h) (Or.inl ⟨by rfl, ?_⟩) (HSP.out _ hk5) ?_
  rotate_left 1
  · intro w hSw; clear hSw; go_simp <;> with_reducible rfl
  simp only [Act.put, List.setIfInBounds_toArray, List.set_cons_zero, List.set_cons_succ]
  refine Held.G_take (i := 50) (d := 70) (v := ?_) [50, 52, 53, 54, 55, 56, 57, 58, 59, 60, 61, 62, 63, 64, 65] rfl rfl (by kernel_rfl) (by kernel_rfl) (by kernel_rfl) (by kernel_rfl) (fun _ _ _ h => h) (Or.inl ⟨by rfl, ?_⟩) (HSP.out _ hk5) ?_
  rotate_left 1
  · intro w hSw; clear hSw; go_simp <;> with_reducible rfl
  simp only [Act.put, List.setIfInBounds_toArray, List.set_cons_zero, List.set_cons_succ]
  refine Held.G_take (i := 51) (d := 71) (v := ?_) [51, 52, 53, 54, 55, 56, 57, 58, 59, 60, 61, 62, 63, 64, 65] rfl rfl (by kernel_rfl) (by kernel_rfl) (by kernel_rfl) (by kernel_rfl) (fun _ _ _ h => h) (Or.inl ⟨by rfl, ?_⟩) (HSP.out _ hk5) ?_
  rotate_left 1
  · intro w hSw; obtain ⟨⟨h0, h1, h2, h3, h4, h5⟩, ⟨i0, i1, i2, i3, i4, i5⟩, j0, j1, j2, j3, j4, j5⟩ := hSw; go_simp <;> with_reducible rfl
  simp only [Act.put, List.setIfInBounds_toArray, List.set_cons_zero, List.set_cons_succ]
  refine Held.G_ready (rs := [52]) (by decide +kernel) (by simp) ?_
  refine Held.G_cons rfl (fun KK hK => ?_) Held.G_nil
  go_simp
  have hh := put_no his5
  dsimp only [tc] at hh
  (with_reducible refine hh.mono ?_)
  clear hh
  rintro e u6 ⟨rfl, hi, hwn⟩
  have hk6 := hk5.trans hwn
  have his6 := hi
  clear hi hwn his5 hk5
  go_simp
  refine hK _ _ ?_
  clear hK KK
  refine ⟨(HSP.out _ hk6), ?_⟩
  refine Held.G_take (i := 53) (d := 73) (v := ?_) [53, 54, 55, 56, 57, 58, 59, 60, 61, 62, 63, 64, 65] rfl rfl (by kernel_rfl) (by kernel_rfl) (by kernel_rfl) (by kernel_rfl) (fun _ _ _ h => h) (Or.inl ⟨by rfl, ?_⟩) (HSP.out _ hk6) ?_
  rotate_left 1
  · intro w hSw; clear hSw; go_simp <;> with_reducible rfl
  simp only [Act.put, List.setIfInBounds_toArray, List.set_cons_zero, List.set_cons_succ]
  refine Held.G_take (i := 54) (d := 74) (v := ?_) [54, 55, 56, 57, 58, 59, 60, 61, 62, 63, 64, 65] rfl rfl (by kernel_rfl) (by kernel_rfl) (by kernel_rfl) (by kernel_rfl) (fun _ _ _ h => h) (Or.inl ⟨by rfl, ?_⟩) (HSP.out _ hk6) ?_
  rotate_left 1
  · intro w hSw; clear hSw; go_simp <;> with_reducible rfl
  simp only [Act.put, List.setIfInBounds_toArray, List.set_cons_zero, List.set_cons_succ]
  refine Held.G_take (i := 55) (d := 75) (v := ?_) [55, 56, 57, 58, 59, 60, 61, 62, 63, 64, 65] rfl rfl (by kernel_rfl) (by kernel_rfl) (by kernel_rfl) (by kernel_rfl) (fun _ _ _ h => h) (Or.inl ⟨by rfl, ?_⟩) (HSP.out _ hk6) ?_
  rotate_left 1
  · intro w hSw; clear hSw; go_simp <;> with_reducible rfl
  simp only [Act.put, List.setIfInBounds_toArray, List.set_cons_zero, List.set_cons_succ]
  refine Held.G_take (i := 56) (d := 76) (v := ?_) [56, 58, 59, 60, 61, 62, 63, 64, 65] rfl rfl (by kernel_rfl) (by kernel_rfl) (by kernel_rfl) (by kernel_rfl) (fun _ _ _ h => h) (Or.inl ⟨by rfl, ?_⟩) (HSP.out _ hk6) ?_
  rotate_left 1
  · intro w hSw; clear hSw; go_simp <;> with_reducible rfl
  simp only [Act.put, List.setIfInBounds_toArray, List.set_cons_zero, List.set_cons_succ]
  refine Held.G_take (i := 57) (d := 77) (v := ?_) [57, 58, 59, 60, 61, 62, 63, 64, 65] rfl rfl (by kernel_rfl) (by kernel_rfl) (by kernel_rfl) (by kernel_rfl) (fun _ _ _ h => h) (Or.inl ⟨by rfl, ?_⟩) (HSP.out _ hk6) ?_
  rotate_left 1
  · intro w hSw; obtain ⟨⟨h0, h1, h2, h3, h4, h5⟩, ⟨i0, i1, i2, i3, i4, i5⟩, j0, j1, j2, j3, j4, j5⟩ := hSw; go_simp <;> with_reducible rfl
  simp only [Act.put, List.setIfInBounds_toArray, List.set_cons_zero, List.set_cons_succ]
  refine Held.G_ready (rs := [58]) (by decide +kernel) (by simp) ?_
  refine Held.G_cons rfl (fun KK hK => ?_) Held.G_nil
  go_simp
  have hh := drop_yes his6
  dsimp only [tc] at hh
  (with_reducible refine hh.mono ?_)
  clear hh
  rintro e u7 ⟨rfl, hi, hwn⟩
  have hk7 := hk6.trans hwn
  have his7 := hi
  clear hi hwn his6 hk6
  go_simp
  refine hK _ _ ?_
  clear hK KK
  refine ⟨(HSP.out _ hk7), ?_⟩
  refine Held.G_take (i := 59) (d := 79) (v := ?_) [59, 60, 61, 62, 63, 64, 65] rfl rfl (by kernel_rfl) (by kernel_rfl) (by kernel_rfl) (by kernel_rfl) (fun _ _ _ h => h) (Or.inl ⟨by rfl, ?_⟩) (HSP.out _ hk7) ?_
  rotate_left 1
  · intro w hSw; clear hSw; go_simp <;> with_reducible rfl
  simp only [Act.put, List.setIfInBounds_toArray, List.set_cons_zero, List.set_cons_succ]
  refine Held.G_take (i := 60) (d := 80) (v := ?_) [60, 61, 62, 63, 64, 65] rfl rfl (by kernel_rfl) (by kernel_rfl) (by kernel_rfl) (by kernel_rfl) (fun _ _ _ h => h) (Or.inl ⟨by rfl, ?_⟩) (HSP.out _ hk7) ?_
  rotate_left 1
  · intro w hSw; clear hSw; go_simp <;> with_reducible rfl
  simp only [Act.put, List.setIfInBounds_toArray, List.set_cons_zero, List.set_cons_succ]
  refine Held.G_take (i := 61) (d := 81) (v := ?_) [61, 63, 64, 65] rfl rfl (by kernel_rfl) (by kernel_rfl) (by kernel_rfl) (by kernel_rfl) (fun _ _ _ h => h) (Or.inl ⟨by rfl, ?_⟩) (HSP.out _ hk7) ?_
  rotate_left 1
  · intro w hSw; clear hSw; go_simp <;> with_reducible rfl
  simp only [Act.put, List.setIfInBounds_toArray, List.set_cons_zero, List.set_cons_succ]
  refine Held.G_take (i := 62) (d := 82) (v := ?_) [62, 63, 64, 65] rfl rfl (by kernel_rfl) (by kernel_rfl) (by kernel_rfl) (by kernel_rfl) (fun _ _ _ h => h) (Or.inl ⟨by rfl, ?_⟩) (HSP.out _ hk7) ?_
  rotate_left 1
  · intro w hSw; obtain ⟨⟨h0, h1, h2, h3, h4, h5⟩, ⟨i0, i1, i2, i3, i4, i5⟩, j0, j1, j2, j3, j4, j5⟩ := hSw; go_simp <;> with_reducible rfl
  simp only [Act.put, List.setIfInBounds_toArray, List.set_cons_zero, List.set_cons_succ]
  refine Held.G_ready (rs := [63]) (by decide +kernel) (by simp) ?_
  refine Held.G_cons rfl (fun KK hK => ?_) Held.G_nil
  go_simp
  have hh := put_yes his7
  dsimp only [tc] at hh
  (with_reducible refine hh.mono ?_)
  clear hh
  rintro e u8 ⟨rfl, hi, hwn⟩
  have hk8 := hk7.trans hwn
  have his8 := hi
  clear hi hwn his7 hk7
  go_simp
  refine hK _ _ ?_
  clear hK KK
  refine ⟨(HSP.out _ hk8), ?_⟩
  refine Held.G_take (i := 64) (d := 84) (v := ?_) [64, 65] rfl rfl (by kernel_rfl) (by kernel_rfl) (by kernel_rfl) (by kernel_rfl) (fun _ _ _ h => h) (Or.inl ⟨by rfl, ?_⟩) (HSP.out _ hk8) ?_
  rotate_left 1
  · intro w hSw; clear hSw; go_simp <;> with_reducible rfl
  simp only [Act.put, List.setIfInBounds_toArray, List.set_cons_zero, List.set_cons_succ]
  refine Held.G_ready (rs := [65]) (by decide +kernel) (by simp) ?_
  refine Held.G_last rfl (fun KK hK => ?_) Held.G_nil
  go_simp
  refine hK _ _ ?_
  clear hK KK
  refine Held.G_done (by kernel_rfl) ?_ _
  have HF := Lib.hid (HW5.out.trans ((hk8.below HLO.out).mono HLW.out))
  clear hk8 his8
  go_wp2_with fail
  go_ret
  exact ⟨rfl, HF.out⟩
end Go.Proofs.YtilcnhdfdgmekaaGreat.FactsAwake
