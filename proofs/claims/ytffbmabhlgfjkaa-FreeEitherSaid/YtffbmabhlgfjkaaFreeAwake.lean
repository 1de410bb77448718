/- What the chapter's examples fix holds. -/
import Derived.Test.YtffbmabhlgfjkaaFreePut
import Derived.Test.YtffbmabhlgfjkaaFreeCells
import Derived.Test.YtffbmabhlgfjkaaFreeCover
import Derived.BigGuard
namespace Go.Proofs.Ytffbmabhlgfjkaa.FreeAwake
open Go.RowKit Base FreePlain FreeMem FreeText FreeCellsOf FreePages FreeCheck FreeSl FreeOf FreeCells FreePut FreeFind FreeCov FreeCover

theorem bstep {g : Nat} {W w w' : World} (h : Below g W w) (hg : g ≤ w.heap.size) (hb : Below w.heap.size w w') : Below g W w' := h.trans (hb.mono hg)
theorem gd2 : Gd [(5, 3), (7, 1)] := by
  refine ⟨fun p hp => ?_, ?_⟩
  · simp at hp
    rcases hp with h | h <;> (subst h; unfold Fit; decide)
  · exact rise_cons.2 ⟨fun q hq => (by simp at hq; subst hq; decide), rise_cons.2 ⟨fun q hq => (by cases hq), List.Pairwise.nil⟩⟩
theorem of_pages {cs : Cs} {l l' : Fs} (h : PagesOf cs l) (h' : PagesOf cs l') (hg : Gd l) (hg' : Gd l') : l = l' := by
  rw [← par_texts hg.1, ← par_texts hg'.1, ← h.2, ← h'.2]
set_option maxRecDepth 100000 in
set_option maxHeartbeats 12800000 in
theorem awake_any (W : World) : Calls Try.prog 12 #[] W fun e w' => e = .returned (.bool true) ∧ Below W.heap.size W w' := by
  have h1 := put_any W none 0 0 [] 7 1 rfl (Nat.le_refl _) (by intro k v hv; simp [fr] at hv) List.Pairwise.nil (by simp)
  go_enter Try.func12, Try.ntmps12
  go_wp2_with fail
  refine h1.mono ?_
  rintro e w1 ⟨A1, m1, c1, rfl, hm1, ho1, b1⟩
  clear h1
  obtain rfl : m1 = 1 := hm1
  have hu1 : Rise (ins 7 1 []) := rise_ins 7 1 List.Pairwise.nil
  have h2 := put_any w1 A1 1 c1 (ins 7 1 []) 5 3 rfl ho1.cap.1 ho1.row hu1 (by simp [ins])
  go_wp2_with fail
  refine h2.mono ?_
  rintro e w2 ⟨A2, m2, c2, rfl, hm2, ho2, b2'⟩
  have b2 := bstep b1 b1.size b2'
  clear h2 b1 b2' ho1
  obtain rfl : m2 = 2 := hm2
  have ho2 : OwnF w2 w1.heap.size A2 c2 [(5, 3), (7, 1)] := ho2
  have h3 := take_any w2 A2 2 c2 [(5, 3), (7, 1)] 2 rfl ho2.cap.1 ho2.row (by simp)
  go_wp2_with fail
  refine h3.mono ?_
  rintro e w3 ⟨A3, m3, c3, rfl, hm3, ho3, b3'⟩
  have b3 := bstep b2 b2.size b3'
  have ho2 := ho2.later b3'
  clear h3 b2 b3' ho3
  obtain rfl : m3 = 1 := hm3
  have e3 : (first 2 [(5, 3), (7, 1)]).1 = some 7 := rfl
  rw [e3]
  have h4 := take_any w3 A2 2 c2 [(5, 3), (7, 1)] 3 rfl ho2.cap.1 ho2.row (by simp)
  go_wp2_with fail
  refine h4.mono ?_
  rintro e w4 ⟨A4, m4, c4, rfl, hm4, ho4, b4'⟩
  have b4 := bstep b3 b3.size b4'
  have ho2 := ho2.later b4'
  clear h4 b3 b4' ho4 e3
  obtain rfl : m4 = 1 := hm4
  have e4 : (first 3 [(5, 3), (7, 1)]).1 = some 5 := rfl
  rw [e4]
  have h5 := cells_any w4 A2 2 c2 [(5, 3), (7, 1)] rfl ho2.cap.1 ho2.row (by simp)
  go_wp2_with fail
  refine h5.mono ?_
  rintro e w5 ⟨b5', hcase⟩
  rcases hcase with ⟨_, A5, m5, c5, cs, rfl, hm5, hout, hpg⟩ | ⟨hn, _⟩
  case inr => exact absurd gd2 hn
  have b5 := bstep b4 b4.size b5'
  have ho2 := ho2.later b5'
  clear h5 b4 b5' e4
  obtain rfl : cs = [texts [(5, 3), (7, 1)]] := pages_one hpg ⟨fun i hi => .inr (by
    have : i = 0 := by simpa using hi
    subst this
    simp [texts]), by simp⟩
  obtain rfl : m5 = 1 := hm5
  obtain ⟨ps, hps, hou, hrs⟩ := hout
  obtain ⟨p0, rfl⟩ : ∃ p0, ps = [p0] := by
    have := congrArg List.length hps
    simp [cellsP] at this
    match ps, this with
    | [p0], _ => exact ⟨p0, rfl⟩
  obtain ⟨B0, d0, t0⟩ := p0
  have ht0 : t0 = texts [(5, 3), (7, 1)] := by simp [cellsP] at hps; exact hps.symm
  obtain ⟨g5, _, hf5, _⟩ := World.ownsRow.form hou (by simp)
  have hA5 : A5 = some ⟨g5, 0, none⟩ := by injection hf5
  subst hA5
  have h6 := of_any w5 (some ⟨g5, 0, none⟩) 1 c5 [(B0, d0, t0)] rfl hou.row (fun p hp => (hrs p hp).row) (by simp) (by simp; rw [ht0]; simp [texts])
  rw [← hps] at h6
  have hc0 : w5.cell? ⟨g5, 0, none⟩ = some (.slice B0 2 d0) := by
    obtain ⟨ad, e, _, hc⟩ := hou.row.get 0 (by simp)
    injection e with e
    subst e
    have : psv (B0, d0, t0) = .slice B0 2 d0 := by rw [ht0]; rfl
    simpa [Addr.add, this] using hc
  clear hps hou hrs ht0
  go_wp2_with fail
  refine h6.mono ?_
  rintro e w6 ⟨b6', hcase⟩
  rcases hcase with ⟨A6, m6, c6, l6, rfl, hm6, ho6, hg6, hp6⟩ | ⟨_, hn⟩
  case inr => exact absurd hpg (hn _ gd2)
  obtain rfl := of_pages hp6 hpg hg6 gd2
  have b6 := bstep b5 b5.size b6'
  have ho2 := ho2.later b6'
  have hc0 := (b6'.cell (p := ⟨g5, 0, none⟩) (by exact World.block_lt_of_cell? w5 _ hc0)).trans hc0
  clear h6 b5 b6' hpg hg6 hp6
  obtain rfl : m6 = 2 := hm6
  have h7 := rsame_any w6 A2 A6 2 c2 2 c6 [(5, 3), (7, 1)] [(5, 3), (7, 1)] true rfl rfl ho2.row ho6.row (by simp) (iff_of_true rfl rfl)
  go_wp2_with fail
  refine h7.mono ?_
  rintro e w7 ⟨rfl, b7'⟩
  have b7 := bstep b6 b6.size b7'
  have ho2 := ho2.later b7'
  clear h7 b6 b7' ho6 hc0
  have h8 := check_any w7 A2 2 c2 [(5, 3), (7, 1)] true rfl ho2.row (by simp) (iff_of_true rfl gd2)
  go_wp2_with fail
  refine h8.mono ?_
  rintro e w8 ⟨rfl, b8'⟩
  have b8 := bstep b7 b7.size b8'
  have ho2 := ho2.later b8'
  clear h8 b7 b8'
  have h9 := usable_any w8 A2 2 c2 [(5, 3), (7, 1)] 2 rfl ho2.row (by simp)
  have e9 : usable 2 [(5, 3), (7, 1)] = 1 := rfl
  rw [e9] at h9
  go_wp2_with fail
  refine h9.mono ?_
  rintro e w9 ⟨rfl, b9'⟩
  have b9 := bstep b8 b8.size b9'
  have ho2 := ho2.later b9'
  clear h9 b8 b9' e9
  have hrow := (row_of_block (heap_alloc_new w9 (.cells #[.int .i64 2, .int .i64 3, .int .i64 4, .int .i64 6] 3))).more (B' := (w9.alloc (.cells #[.int .i64 2, .int .i64 3, .int .i64 4, .int .i64 6] 3)).heap.size) (by simp)
  have ba := al w9 (.cells #[.int .i64 2, .int .i64 3, .int .i64 4, .int .i64 6] 3)
  have hb := bstep b9 b9.size ba
  have h10 := cover_any (w9.alloc (.cells #[.int .i64 2, .int .i64 3, .int .i64 4, .int .i64 6] 3)) A2 (some ⟨w9.heap.size, 0, none⟩) 2 c2 4 4 [(5, 3), (7, 1)] [2, 3, 4, 6] 8 true rfl rfl (ho2.later ba).row hrow (by simp) (by simp)
    (fun p hp => by simp at hp; rcases hp with rfl | rfl <;> exact wf_small (by decide) (by decide))
    (fun x hx => by simp at hx; rcases hx with rfl | rfl | rfl | rfl <;> exact wf_small (by decide) (by decide)) (by decide)
    (iff_of_true rfl (by refine ⟨by decide, ?_, by decide⟩; intro x hx; simp [pgs] at hx; rcases hx with rfl | rfl | rfl | rfl | rfl | rfl <;> decide))
  clear b9 ba hrow
  go_wp2_with fail
  refine h10.mono ?_
  rintro e wa ⟨rfl, ba'⟩
  have ba := bstep hb hb.size ba'
  clear h10 hb ba' ho2
  go_wp2_with fail
  go_ret
  exact ⟨rfl, ba⟩
end Go.Proofs.Ytffbmabhlgfjkaa.FreeAwake
