/- The walk of PageRooms. -/
import Derived.Test.YtlcnnebnocjelaaPageAwake
namespace Go.Proofs.Ytlcnnebnocjelaa.PageRooms
open Go.RowKit Base PagePlain PageSmall PageTold PageSame PageAwake

theorem awakeL {w w1 : World} (hb : Below w.heap.size w w1) : Calls Try.prog 11 #[] w1 fun e w' => e = .returned (.bool true) ∧ Below w1.heap.size w1 w' ∧ Below w.heap.size w w' :=
  (awake_any w1).mono fun _ _ ⟨h1, h2⟩ => ⟨h1, h2, Below.step hb h2⟩
/-- few, of cells -/
def Few (cs : List ByteArray) : Prop := cs.length ≤ 200 ∧ ∀ q ∈ cs, q.size ≤ 300
theorem few_cells (w : World) (cs : List ByteArray) (A : Option Addr) (c : Nat) (hr : Row w w.heap.size A (strs cs)) (hm : cs.length ≤ maxLen) (b : Bool) (hb : b = true ↔ Few cs) :
    Calls Try.prog 12 #[.agg #[.int .i64 0, .int .i64 0, .int .i64 0, .int .i64 0, .slice A cs.length c]] w fun e w' => e = .returned (.bool b) ∧ Below w.heap.size w w' := by
  refine (few_any w ⟨0, 0, 0, 0, cs⟩ A c hr hm).mono fun e w' ⟨h1, h2⟩ => ⟨?_, h2⟩
  rw [h1]
  exact ret_bool (Bool.eq_iff_iff.2 (decide_eq_true_iff.trans hb.symm))
set_option maxRecDepth 100000 in
set_option maxHeartbeats 3200000 in
theorem PageRooms_walk (A B : Option Addr) (c d : Nat) (xs ys : List ByteArray) (W : World) (hA : Row W W.heap.size A (strs xs)) (hB : Row W W.heap.size B (strs ys)) (hx : xs.length ≤ maxLen) (hy : ys.length ≤ maxLen) :
    Calls Try.prog 7 #[.slice A xs.length c, .slice B ys.length d] W (Law W) := by
  have hfa := few_cells W xs A c hA hx
  have hfb := fun (w : World) (hb : Below W.heap.size W w) => few_cells w ys B d (hB.belowSize hb) hy
  unfold maxLen at hx hy
  by_cases h1 : Few xs
  · have hfa := hfa true ⟨fun _ => h1, fun _ => rfl⟩
    by_cases h2 : Few ys
    · have hfb := fun (w : World) (hb : Below W.heap.size W w) => hfb w hb true ⟨fun _ => h2, fun _ => rfl⟩
      by_cases h3 : xs.length ≤ 100
      · by_cases h4 : ys.length ≤ 100
        · have HFA := Lib.hid hfa
          have HFB := Lib.hid hfb
          have HA := Lib.hid hA
          have HB := Lib.hid hB
          have hzx : ∀ q ∈ xs, q.size ≤ 1000 := fun q hq => Nat.le_trans (h1.2 q hq) (by omega)
          have hzy : ∀ q ∈ ys, q.size ≤ 1000 := fun q hq => Nat.le_trans (h2.2 q hq) (by omega)
          have hzb : ∀ q ∈ xs ++ ys, q.size ≤ 1000 := fun q hq => (List.mem_append.1 hq).elim (hzx q) (hzy q)
          have HRA := Lib.hid (fun (w : World) (hb : Below W.heap.size W w) => room_any w A xs.length c xs rfl (hA.belowSize hb) (by omega) hzx)
          have HRB := Lib.hid (fun (w : World) (hb : Below W.heap.size W w) => room_any w B ys.length d ys rfl (hB.belowSize hb) (by omega) hzy)
          have HXA := Lib.hid (fun (w : World) (hb : Below W.heap.size W w) => fits_any w A xs.length c xs rfl (hA.belowSize hb) (by omega) hzx)
          have HXB := Lib.hid (fun (w : World) (hb : Below W.heap.size W w) => fits_any w B ys.length d ys rfl (hB.belowSize hb) (by omega) hzy)
          have HZ := Lib.hid hzb
          have HRO := Lib.hid (room_append xs ys)
          have hbx : room xs ≤ 200000 := by have := tot_le xs 1000 hzx; unfold room; omega
          have hby : room ys ≤ 200000 := by have := tot_le ys 1000 hzy; unfold room; omega
          clear h1 h2 hfa hfb hA hB hzx hzy hzb
          go_enter Try.func7, Try.ntmps7
          go_wp2_with fail
          refine HFA.out.mono ?_
          rintro e w1 ⟨rfl, b1⟩
          go_wp2_with fail
          refine (HFB.out w1 b1).mono ?_
          rintro e w2 ⟨rfl, b2⟩
          have b2 := Below.step b1 b2
          clear b1
          go_wp2_with (at_builtin; first
            | (refine wpList_append_row rfl (.tmp 27) (.tmp 28) 22 rfl el_strs (A := some ⟨w2.heap.size, 0, none⟩) (c := 0) (n := 0) (m := xs.length) (xs := []) rfl rfl (Own.empty w2 _ (Nat.le_refl _)) rfl (by simp [strs]) ((HA.out.belowSize b2).below ((Below.refl _ _).alloc (Nat.le_refl _) _)) (by intro u hu; obtain ⟨q, _, rfl⟩ := List.mem_map.1 hu; rfl) (by simp [strs, maxLen]; omega) (by simp [strs]; omega) (by simp) ?_; intro A3 c3 w3 hown3 hg3; obtain ⟨hrow3, hbb3, ho3⟩ := copy_step hown3 hg3)
            | (refine wpList_append_row rfl (.tmp 29) (.tmp 30) 22 rfl el_strs (A := A3) (c := c3) (n := xs.length) (m := ys.length) (xs := strs xs) rfl (by simp [strs]) ho3 rfl (by simp [strs]) ((HB.out.belowSize b2).belowSize hbb3) (by intro u hu; obtain ⟨q, _, rfl⟩ := List.mem_map.1 hu; rfl) (by simp [strs, maxLen]; omega) (by simp [strs]; omega) hbb3.size ?_; intro A4 c4 w4 hown4 hg4))
          have hb4 : Below W.heap.size W w4 := ho3.below (Below.step b2 hbb3) hg4 b2.size hbb3.size
          have hown : Own w4 w2.heap.size 9 A4 c4 (strs (xs ++ ys)) := by
            have := hown4
            simpa [strs] using this
          clear hown3 hg3 hrow3 ho3 hown4 hg4 hbb3
          refine (awakeL hb4).mono ?_
          rintro e w5 ⟨rfl, b5, hb5⟩
          have hrow5 := (hown.later b5).row
          have hro := room_any w5 A4 (xs.length + ys.length) c4 (xs ++ ys) (by simp) hrow5 (by simp; omega) HZ.out
          have hfi := fits_any w5 A4 (xs.length + ys.length) c4 (xs ++ ys) (by simp) hrow5 (by simp; omega) HZ.out
          have hra := HRA.out w5 hb5
          have hrb := HRB.out w5 hb5
          have hxa := HXA.out w5 hb5
          have hxb := HXB.out w5 hb5
          clear hown b5 hb4 b2 hrow5
          have hro2 := HRO.out
          generalize room (xs ++ ys) = r at *
          generalize room xs = ra at *
          generalize room ys = rb at *
          have hbeq : (((r : Nat) : Int) == (ra : Int) + (rb : Int)) = true := by simp; omega
          by_cases hr : r ≤ 236
          · rw [decide_eq_true hr] at hfi
            rw [decide_eq_true (show ra ≤ 236 by omega)] at hxa
            rw [decide_eq_true (show rb ≤ 236 by omega)] at hxb
            clear hro2 hr
            go_wp2_with fail
            refine hro.mono ?_
            rintro e w6 ⟨rfl, rfl⟩
            go_wp2_with fail
            refine hra.mono ?_
            rintro e w6 ⟨rfl, rfl⟩
            go_wp2_with fail
            refine hrb.mono ?_
            rintro e w6 ⟨rfl, rfl⟩
            go_wp2_with fail
            refine hfi.mono ?_
            rintro e w6 ⟨rfl, rfl⟩
            go_wp2_with fail
            refine hxa.mono ?_
            rintro e w6 ⟨rfl, rfl⟩
            go_wp2_with fail
            refine hxb.mono ?_
            rintro e w6 ⟨rfl, rfl⟩
            clear hro hra hrb hfi hxa hxb
            go_wp2_with fail
            go_ret
            exact ⟨rfl, hb5⟩
          · rw [decide_eq_false hr] at hfi
            clear hro2 hr
            go_wp2_with fail
            refine hro.mono ?_
            rintro e w6 ⟨rfl, rfl⟩
            go_wp2_with fail
            refine hra.mono ?_
            rintro e w6 ⟨rfl, rfl⟩
            go_wp2_with fail
            refine hrb.mono ?_
            rintro e w6 ⟨rfl, rfl⟩
            go_wp2_with fail
            refine hfi.mono ?_
            rintro e w6 ⟨rfl, rfl⟩
            clear hro hra hrb hfi hxa hxb
            go_wp2_with fail
            go_ret
            exact ⟨rfl, hb5⟩
        · have h4' : (100 : Int) < (ys.length : Int) := by omega
          go_enter Try.func7, Try.ntmps7
          go_wp2_with fail
          refine hfa.mono ?_
          rintro e w1 ⟨rfl, b1⟩
          go_wp2_with fail
          refine (hfb w1 b1).mono ?_
          rintro e w2 ⟨rfl, b2⟩
          have b2 := Below.step b1 b2
          go_wp2_with fail
          refine (awakeL b2).mono ?_
          rintro e w3 ⟨rfl, b3, b4⟩
          go_wp2_with fail
          go_ret
          exact ⟨rfl, b4⟩
      · have h3' : (100 : Int) < (xs.length : Int) := by omega
        go_enter Try.func7, Try.ntmps7
        go_wp2_with fail
        refine hfa.mono ?_
        rintro e w1 ⟨rfl, b1⟩
        go_wp2_with fail
        refine (hfb w1 b1).mono ?_
        rintro e w2 ⟨rfl, b2⟩
        have b2 := Below.step b1 b2
        go_wp2_with fail
        refine (awakeL b2).mono ?_
        rintro e w3 ⟨rfl, b3, b4⟩
        go_wp2_with fail
        go_ret
        exact ⟨rfl, b4⟩
    · have hfb := fun (w : World) (hb : Below W.heap.size W w) => hfb w hb false ⟨fun q => (by cases q), fun q => absurd q h2⟩
      go_enter Try.func7, Try.ntmps7
      go_wp2_with fail
      refine hfa.mono ?_
      rintro e w1 ⟨rfl, b1⟩
      go_wp2_with fail
      refine (hfb w1 b1).mono ?_
      rintro e w2 ⟨rfl, b2⟩
      have b2 := Below.step b1 b2
      go_wp2_with fail
      refine (awakeL b2).mono ?_
      rintro e w3 ⟨rfl, b3, b4⟩
      go_wp2_with fail
      go_ret
      exact ⟨rfl, b4⟩
  · have hfa := hfa false ⟨fun q => (by cases q), fun q => absurd q h1⟩
    go_enter Try.func7, Try.ntmps7
    go_wp2_with fail
    refine hfa.mono ?_
    rintro e w1 ⟨rfl, b1⟩
    go_wp2_with fail
    refine (awakeL b1).mono ?_
    rintro e w3 ⟨rfl, b3, b4⟩
    go_wp2_with fail
    go_ret
    exact ⟨rfl, b4⟩
end Go.Proofs.Ytlcnnebnocjelaa.PageRooms
