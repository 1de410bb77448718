/- The contracts of the document's Room, Fits and Same. -/
import Derived.Test.YtlcnnebnocjelaaPageSame2
namespace Go.Proofs.Ytlcnnebnocjelaa.PageRef
open Go.RowKit Base PagePlain PageSmall Str PageSame PageSame2

set_option maxHeartbeats 800000 in
theorem rroom_any (w : World) (A : Option Addr) (m c : Nat) (cs : List ByteArray) (hm : m = cs.length) (hr : Row w w.heap.size A (strs cs)) (hl : cs.length ≤ 1000) (hz : ∀ q ∈ cs, q.size ≤ 1000) :
    Calls Try.prog 16 #[.slice A m c] w fun e w' => e = .returned (.int .i64 (room cs : Nat)) ∧ w = w' := by
  subst hm
  have ht := tot_le cs 1000 hz
  go_enter Try.func16, Try.ntmps16
  go_wp2_with fail
  go_loop [3, 4] (fun v i => ∃ k : Nat, k ≤ cs.length ∧ i = .int .i64 k ∧ v = .int .i64 ((2 * cs.length + tot (cs.take k) : Nat) : Int)) (fun _ i => cs.length - (intOf i).toNat)
  case atStart => exact ⟨0, by omega, rfl, by simp [tot]⟩
  case round =>
    obtain ⟨k, hk, rfl, rfl⟩ := hrel
    by_cases hlt : k < cs.length
    · have HT := Lib.hid (tot_take cs k hlt)
      have h1 : tot (cs.take (k + 1)) ≤ tot cs := by
        have := tot_append (cs.take (k + 1)) (cs.drop (k + 1)); rw [List.take_append_drop] at this; omega
      rw [HT.out] at h1
      obtain ⟨ad, rfl, hb, hc⟩ := strs_get hr k hlt
      generalize cs[k] = q at *
      generalize tot (cs.take k) = t at *
      generalize cs.length = n at *
      go_wp2_with fail
      go_round
      case rel => exact ⟨k + 1, by omega, by go_num, by rw [HT.out]; go_num⟩
      case measure => simp [intOf]; omega
    · obtain rfl : k = cs.length := by omega
      rw [List.take_of_length_le (Nat.le_refl _)]
      go_wp2_with fail
      go_ret
      exact ⟨ret_int (by unfold room; rfl), rfl⟩
set_option maxHeartbeats 800000 in
theorem rfits_any (w : World) (A : Option Addr) (m c : Nat) (cs : List ByteArray) (hm : m = cs.length) (hr : Row w w.heap.size A (strs cs)) (hl : cs.length ≤ 1000) (hz : ∀ q ∈ cs, q.size ≤ 1000) :
    Calls Try.prog 18 #[.slice A m c] w fun e w' => e = .returned (.bool (decide (room cs ≤ 236))) ∧ w = w' := by
  subst hm
  have hh := rroom_any w A _ c cs rfl hr hl hz
  have HD := Lib.hid (show decide (room cs ≤ 236) = true ↔ room cs ≤ 236 from decide_eq_true_iff)
  generalize hD : decide (room cs ≤ 236) = D at *
  have HDD := Lib.hid hD
  clear hD hz
  go_enter Try.func18, Try.ntmps18
  go_wp2_with fail
  go_loop [3] (fun i => ∃ k : Nat, k ≤ cs.length ∧ i = .int .i64 k) (fun i => cs.length - (intOf i).toNat)
  case atStart => exact ⟨0, by omega, rfl⟩
  case round =>
    obtain ⟨k, hk, rfl⟩ := hrel
    by_cases hlt : k < cs.length
    · obtain ⟨ad, rfl, hb, hc⟩ := strs_get hr k hlt
      have hsz := size_tot (List.getElem_mem hlt)
      by_cases h5 : cs[k].size ≤ 235
      · clear hsz
        generalize cs[k] = q at *
        clear hh
        go_wp2_with fail
        go_round
        case rel => exact ⟨k + 1, by omega, by go_num⟩
        case measure => simp [intOf]; omega
      · have HN := Lib.hid (show D = false by
          rw [Bool.eq_false_iff]
          intro q
          have := HD.out.1 q
          omega)
        clear hsz hh
        generalize cs[k] = q at *
        have h5' : (235 : Int) < (q.size : Int) := by omega
        go_wp2_with fail
        go_ret
        exact ⟨ret_bool HN.out.symm, rfl⟩
    · obtain rfl : k = cs.length := by omega
      go_wp2_with fail
      refine hh.mono ?_
      rintro e w' ⟨rfl, rfl⟩
      clear hh
      go_wp2_with fail
      go_ret
      exact ⟨ret_bool (by rw [← HDD.out]; exact decide_eq_decide.2 (by omega)), rfl⟩

set_option maxRecDepth 100000 in
set_option maxHeartbeats 3200000 in
theorem rsame_any (w : World) (p q : Pg) (A B : Option Addr) (c d : Nat) (hA : Row w w.heap.size A (strs p.cells)) (hB : Row w w.heap.size B (strs q.cells)) (hl : p.cells.length ≤ maxLen) :
    Calls Try.prog 20 #[pv p A c, pv q B d] w fun e w' => e = .returned (.bool (same p q)) ∧ Below w.heap.size w w' := by
  unfold maxLen at hl
  obtain ⟨x0, x1, x2, x3, x4, y0, y1, y2, y3, y4⟩ := cells2 w p q A B c d _ (Below.refl _ _)
  have hb : Below w.heap.size w ((w.alloc (.cells #[.int .i64 p.kind, .int .i64 p.no, .int .i64 p.epoch, .int .i64 p.link, .slice A p.cells.length c] 24)).alloc (.cells #[.int .i64 q.kind, .int .i64 q.no, .int .i64 q.epoch, .int .i64 q.link, .slice B q.cells.length d] 24)) := ((Below.refl _ _).alloc (Nat.le_refl _) _).alloc (by simp) _
  have hA0 := hA.belowSize hb
  have hB0 := hB.belowSize hb
  have HS := Lib.hid (show same p q = true ↔ p.kind = q.kind ∧ (p.no = q.no ∧ p.epoch = q.epoch ∧ p.link = q.link) ∧ p.cells = q.cells from decide_eq_true_iff)
  generalize same p q = S at *
  obtain ⟨w0, hw0⟩ : ∃ v, v = (w.alloc (.cells #[.int .i64 p.kind, .int .i64 p.no, .int .i64 p.epoch, .int .i64 p.link, .slice A p.cells.length c] 24)).alloc (.cells #[.int .i64 q.kind, .int .i64 q.no, .int .i64 q.epoch, .int .i64 q.link, .slice B q.cells.length d] 24) := ⟨_, rfl⟩
  rw [← hw0] at hb hA0 hB0 x0 x1 x2 x3 x4 y0 y1 y2 y3 y4
  have HW0 := Lib.hid hw0
  clear hw0 hA hB
  have hcase : p.kind ≠ q.kind ∨ (p.kind = q.kind ∧ p.no ≠ q.no) ∨ (p.kind = q.kind ∧ p.no = q.no ∧ p.epoch ≠ q.epoch) ∨ (p.kind = q.kind ∧ p.no = q.no ∧ p.epoch = q.epoch ∧ p.link ≠ q.link) ∨
      (p.kind = q.kind ∧ p.no = q.no ∧ p.epoch = q.epoch ∧ p.link = q.link ∧ p.cells.length ≠ q.cells.length) ∨ (p.kind = q.kind ∧ p.no = q.no ∧ p.epoch = q.epoch ∧ p.link = q.link ∧ p.cells.length = q.cells.length) := by omega
  rcases hcase with h | h | h | h | h | h
  · have hne := h
    have b1 : (p.kind != q.kind) = true := by simpa using hne
    have HE := Lib.hid (show S = false from Bool.eq_false_iff.2 fun y => hne ((HS.out.1 y).1))
    clear hne
    clear h
    go_enter Try.func20, Try.ntmps20
    go_wp2_with fail
    rw [← HW0.out]
    go_ret
    exact ⟨ret_bool HE.out.symm, hb⟩
  · obtain ⟨k1, hne⟩ := h
    have b1 : (p.kind != q.kind) = false := by simp [k1]
    have b2 : (p.no != q.no) = true := by simpa using hne
    have HE := Lib.hid (show S = false from Bool.eq_false_iff.2 fun y => hne ((HS.out.1 y).2.1.1))
    clear hne k1
    go_enter Try.func20, Try.ntmps20
    go_wp2_with fail
    rw [← HW0.out]
    go_ret
    exact ⟨ret_bool HE.out.symm, hb⟩
  · obtain ⟨k1, k2, hne⟩ := h
    have b1 : (p.kind != q.kind) = false := by simp [k1]
    have b2 : (p.no != q.no) = false := by simp [k2]
    have b3 : (p.epoch != q.epoch) = true := by simpa using hne
    have HE := Lib.hid (show S = false from Bool.eq_false_iff.2 fun y => hne ((HS.out.1 y).2.1.2.1))
    clear hne k1 k2
    go_enter Try.func20, Try.ntmps20
    go_wp2_with fail
    rw [← HW0.out]
    go_ret
    exact ⟨ret_bool HE.out.symm, hb⟩
  · obtain ⟨k1, k2, k3, hne⟩ := h
    have b1 : (p.kind != q.kind) = false := by simp [k1]
    have b2 : (p.no != q.no) = false := by simp [k2]
    have b3 : (p.epoch != q.epoch) = false := by simp [k3]
    have b4 : (p.link != q.link) = true := by simpa using hne
    have HE := Lib.hid (show S = false from Bool.eq_false_iff.2 fun y => hne ((HS.out.1 y).2.1.2.2))
    clear hne k1 k2 k3
    go_enter Try.func20, Try.ntmps20
    go_wp2_with fail
    rw [← HW0.out]
    go_ret
    exact ⟨ret_bool HE.out.symm, hb⟩
  · obtain ⟨k1, k2, k3, k4, hne⟩ := h
    have b1 : (p.kind != q.kind) = false := by simp [k1]
    have b2 : (p.no != q.no) = false := by simp [k2]
    have b3 : (p.epoch != q.epoch) = false := by simp [k3]
    have b4 : (p.link != q.link) = false := by simp [k4]
    have b5 : ((p.cells.length : Int) != (q.cells.length : Int)) = true := by simp; omega
    have HE := Lib.hid (show S = false from Bool.eq_false_iff.2 fun y => hne (by rw [(HS.out.1 y).2.2]))
    clear hne k1 k2 k3 k4
    go_enter Try.func20, Try.ntmps20
    go_wp2_with fail
    rw [← HW0.out]
    go_ret
    exact ⟨ret_bool HE.out.symm, hb⟩
  · obtain ⟨k1, k2, k3, k4, hlen⟩ := h
    have b1 : (p.kind != q.kind) = false := by simp [k1]
    have b2 : (p.no != q.no) = false := by simp [k2]
    have b3 : (p.epoch != q.epoch) = false := by simp [k3]
    have b4 : (p.link != q.link) = false := by simp [k4]
    have b5 : ((p.cells.length : Int) != (q.cells.length : Int)) = false := by simp [hlen]
    have HE := Lib.hid (show S = true ↔ p.cells = q.cells by
      rw [HS.out]
      exact ⟨fun h => h.2.2, fun h => ⟨k1, ⟨k2, k3, k4⟩, h⟩⟩)
    have HL := Lib.hid hlen
    clear k1 k2 k3 k4 hlen
    go_enter Try.func20, Try.ntmps20
    go_wp2_with fail
    rw [← HW0.out]
    go_loopw [5] (fun i wr => ∃ k : Nat, k ≤ p.cells.length ∧ i = .int .i64 k ∧ p.cells.take k = q.cells.take k ∧ ∃ n, wr = w0.drewN n) (fun i _ => p.cells.length - (intOf i).toNat)
    case atStart => exact ⟨0, by omega, rfl, by simp, 0, rfl⟩
    case round =>
      obtain ⟨k, hk, rfl, htk, nn, rfl⟩ := hrel
      have HT := Lib.hid htk
      clear htk b1 b2 b3 b4 b5
      by_cases hlt : k < p.cells.length
      · have hlt2 : k < q.cells.length := by rw [← HL.out]; exact hlt
        obtain ⟨a1, hA1, e1, c1⟩ := strs_get hA0 k hlt
        obtain ⟨a2, hB1, e2, c2⟩ := strs_get hB0 k hlt2
        subst hA1 hB1
        have i1 : (k : Int) < (p.cells.length : Int) := by omega
        have i2 : (k : Int) < (q.cells.length : Int) := by omega
        have d1 : (w0.drewN nn).cell? (a1.add k) = some (.string p.cells[k]) := c1
        have d2 : (w0.drewN nn).cell? (a2.add k) = some (.string q.cells[k]) := c2
        by_cases he : p.cells[k] = q.cells[k]
        · have HN := Lib.hid (show p.cells.take (k + 1) = q.cells.take (k + 1) by rw [List.take_succ_eq_append_getElem hlt, List.take_succ_eq_append_getElem hlt2, HT.out, he])
          have hs : (!(p.cells[k].toList == q.cells[k].toList)) = false := by rw [str_ne, decide_eq_true he]; rfl
          clear he
          generalize p.cells[k] = s at *
          generalize q.cells[k] = t at *
          go_wp2_with fail
          go_quiet (fail)
          go_wp2_with fail
          go_roundw
          case rel => exact ⟨k + 1, by omega, by go_num, HN.out, nn + nq, by first | rfl | exact drewN_two w0 nn nq⟩
          case measure => simp [intOf]; omega
        · have hs : (!(p.cells[k].toList == q.cells[k].toList)) = true := by rw [str_ne, decide_eq_false he]; rfl
          have HN := Lib.hid (show S = false by
            rw [Bool.eq_false_iff]
            intro y
            have e := HE.out.1 y
            exact he (by simp [e]))
          clear he
          generalize p.cells[k] = s at *
          generalize q.cells[k] = t at *
          go_wp2_with fail
          go_quiet (fail)
          go_wp2_with fail
          go_ret
          exact ⟨ret_bool HN.out.symm, (hb.trans (below_drewN _ _ nn)).trans (below_drewN _ _ nq)⟩
      · obtain rfl : k = p.cells.length := by omega
        have HN := Lib.hid (show S = true by
          apply HE.out.2
          have := HT.out
          rwa [List.take_of_length_le (Nat.le_refl _), List.take_of_length_le (by rw [← HL.out]; exact Nat.le_refl _)] at this)
        go_wp2_with fail
        go_ret
        exact ⟨ret_bool HN.out.symm, hb.trans (below_drewN _ _ nn)⟩
end Go.Proofs.Ytlcnnebnocjelaa.PageRef
