/- The walk of SumAlone. -/
import Derived.Test.YtefnabceaaghaaaSumLaws
namespace Go.Proofs.Ytefnabceaaghaaa.SumAlone
open Go.RowKit SumPlain Base SumLeft SumMem SumFill SumOf SumAwake SumLaws

theorem ready_only {w w' : World} {g g' : Nat} {n : Int} (h : Ready w g n) (ho : Only g' w w') (hg : g ≠ g') : Ready w' g n := by
  rcases h with ⟨T, h⟩ | h
  · exact .inl ⟨T, h.grown ho (fun e => by injection e with e; exact hg e)⟩
  · exact .inr (h.grown ho (fun e => by injection e with e; exact hg e))
theorem of_str (g : Nat) (n : Int) (w : World) (ad : Option Addr) (a : ByteArray) (C : Nat) (h : Ready w g n) (h0 : 0 ≤ n) (hn : n ≤ 900000000) (hz : a.size ≤ 1000000) (hr : RowX w g ad (bv (bl a))) :
    Calls Try.prog 12 #[.pointer (some ⟨g, 0, none⟩), .slice ad a.size C] w fun e w' => e = .returned (.int .u32 (sum (bl a) : Nat)) ∧ Done w' g (n + a.size) ∧ Only g w w' :=
  of_any g n w ad a.size C (bl a) h h0 hn hz rfl hr (Ready.lt h)
def AloneRel (W : World) (g1 g2 : Nat) (n : Nat) (wr : World) : Prop := Ready wr g1 n ∧ Ready wr g2 0 ∧ Below W.heap.size W wr

set_option maxRecDepth 100000 in
set_option maxHeartbeats 1600000 in
theorem SumAlone_walk (A : Option Addr) (c : Nat) (ps : List ByteArray) (a : ByteArray) (W : World) (hr : Row W W.heap.size A (ps.map .string)) (hn : ps.length ≤ maxLen) (hs : a.size ≤ maxLen) :
    Calls Try.prog 7 #[.slice A ps.length c, .string a] W (Law W) := by
  unfold maxLen at hn hs
  have hnot : ∀ (x : Bool) (w : World), (Op.unary .not (.bool x)).run Try.prog w = .ok (.bool (!x)) w := fun _ _ => rfl
  by_cases hl : ps.length ≤ 20 ∧ a.size ≤ 200
  · obtain ⟨hl1, hl2⟩ := hl
    have HR := Lib.hid hr
    clear hr
    go_enter Try.func7, Try.ntmps7
    go_wp2_with fail
    refine (new_g _).mono ?_
    rintro e w1 ⟨g1, rfl, hg1, hx1, s1, b1⟩
    go_wp2_with fail
    refine (new_g _).mono ?_
    rintro e w2 ⟨g2, rfl, hg2, hx2, s2, b2⟩
    go_wp2_with fail
    refine (awakeL (Below.step b1 b2)).mono ?_
    rintro e w3 ⟨rfl, b3, b4⟩
    have hne : g1 ≠ g2 := by omega
    have hgW : W.heap.size ≤ g2 := by have := b1.size; omega
    have R0 : AloneRel W g1 g2 0 w3 := ⟨(s1.below b2).below b3, s2.below b3, b4⟩
    have HN := Lib.hid hne
    clear s1 s2 b1 b2 b3 b4 hne hg2 hx1 hx2
    go_wp2_with fail
    go_loopw [7, 8] (fun v i wr => ∃ k n : Nat, k ≤ ps.length ∧ n ≤ 200 * k ∧ i = .int .i64 k ∧ v = .int .i64 n ∧ AloneRel W g1 g2 n wr) (fun _ i _ => ps.length - (intOf i).toNat)
    case atStart => exact ⟨0, 0, by omega, by omega, rfl, rfl, R0⟩
    case round =>
      clear R0
      obtain ⟨k, n, hk, hnk, rfl, rfl, hrel⟩ := hrel
      by_cases hlt : k < ps.length
      · obtain ⟨q1, q2, q3⟩ := hrel
        obtain ⟨ad, hA, hb, hc⟩ := (HR.out.below q3).get k (by simpa using hlt)
        subst hA
        simp only [List.getElem_map] at hc
        by_cases hz : ps[k].size ≤ 200
        · generalize ps[k] = s at *
          obtain ⟨C, w5, hrun, hC, hrow, hb5, hz5, hfz⟩ := bytes_run g1 wr (Ready.lt q1) s
          clear hfz
          go_wp2_with fail
          refine (of_str g1 n _ _ s C (q1.below hb5) (by omega) (by omega) (by omega) hrow).mono ?_
          rintro e w6 ⟨rfl, d6, o6⟩
          have hc6 : w6.cell? (ad.add k) = some (.string s) := by
            have h1 := hb5.cell (p := ad.add k) (World.block_lt_of_cell? _ _ hc)
            rw [← hc, ← h1]
            exact World.cell?_of_block (o6.block _ (Nat.lt_of_lt_of_le (World.block_lt_of_cell? _ _ hc) hb5.size) (fun e => by
              injection e with e
              rw [blk_add] at e
              omega))
          have r1 : AloneRel W g1 g2 (n + s.size) w6 := ⟨.inr (by have := d6; rw [show ((n + s.size : Nat) : Int) = (n : Int) + s.size by omega]; exact this), ready_only (q2.below hb5) o6 (fun e => HN.out e.symm), Below.trans (Below.step q3 hb5) (o6.below hg1 (Nat.lt_of_lt_of_le (Ready.lt q1) hb5.size))⟩
          clear hrun d6 o6 q1 q2 q3 hc hrow hb5
          go_wp2_with fail
          go_roundw
          case rel => exact ⟨k + 1, n + s.size, by omega, by omega, by go_num, by go_num, r1⟩
          case measure => simp [intOf]; omega
        · have hz' : (200 : Int) < (ps[k].size : Int) := by omega
          go_wp2_with fail
          go_ret
          exact ⟨rfl, q3⟩
      · obtain ⟨q1, q2, q3⟩ := hrel
        obtain ⟨C, w5, hrun, hC, hrow, hb5, hz5, hfz⟩ := bytes_run g1 wr (Ready.lt q1) a
        clear hfz
        go_wp2_with fail
        refine (of_str g1 n _ _ a C (q1.below hb5) (by omega) (by omega) (by omega) hrow).mono ?_
        rintro e w6 ⟨rfl, d6, o6⟩
        clear hrun hrow
        have q26 := ready_only (q2.below hb5) o6 (fun e => HN.out e.symm)
        have q36 : Below W.heap.size W w6 := Below.trans (Below.step q3 hb5) (o6.below hg1 (Nat.lt_of_lt_of_le (Ready.lt q1) hb5.size))
        obtain ⟨C2, w7, hrun, hC2, hrow, hb7, hz7, hfz⟩ := bytes_run g2 w6 (Ready.lt q26) a
        clear hfz
        go_wp2_with fail
        refine (of_str g2 0 _ _ a C2 (q26.below hb7) (by omega) (by omega) (by omega) hrow).mono ?_
        rintro e w8 ⟨rfl, d8, o8⟩
        have d68 : Done w8 g1 (n + a.size) := (d6.below hb7).grown o8 (fun e => by injection e with e; exact HN.out e)
        have q38 : Below W.heap.size W w8 := Below.trans (Below.step q36 hb7) (o8.below hgW (Nat.lt_of_lt_of_le (Ready.lt q26) hb7.size))
        clear hrun hrow
        go_wp2_with fail
        refine (count_any g1 1 0 _ _ _ d68).mono ?_
        rintro e w9 ⟨rfl, rfl⟩
        go_wp2_with fail
        refine (count_any g2 1 0 _ _ _ d8).mono ?_
        rintro e w9 ⟨rfl, rfl⟩
        go_wp2_with fail
        go_ret
        exact ⟨ret_bool (by simp), q38⟩
  · have hcase : ¬ ps.length ≤ 20 ∨ (ps.length ≤ 20 ∧ ¬ a.size ≤ 200) := by omega
    clear hl
    rcases hcase with hl | ⟨hl1, hl⟩
    · have hl' : (20 : Int) < (ps.length : Int) := by omega
      go_enter Try.func7, Try.ntmps7
      go_wp2_with fail
      refine (new_g _).mono ?_
      rintro e w1 ⟨g1, rfl, hg1, hx1, s1, b1⟩
      go_wp2_with fail
      refine (new_g _).mono ?_
      rintro e w2 ⟨g2, rfl, hg2, hx2, s2, b2⟩
      go_wp2_with fail
      refine (awakeL (Below.step b1 b2)).mono ?_
      rintro e w3 ⟨rfl, b3, b4⟩
      go_wp2_with fail
      refine (awakeL b4).mono ?_
      rintro e w4 ⟨rfl, b5, b6⟩
      go_wp2_with fail
      go_ret
      exact ⟨rfl, b6⟩
    · have hl' : (200 : Int) < (a.size : Int) := by omega
      go_enter Try.func7, Try.ntmps7
      go_wp2_with fail
      refine (new_g _).mono ?_
      rintro e w1 ⟨g1, rfl, hg1, hx1, s1, b1⟩
      go_wp2_with fail
      refine (new_g _).mono ?_
      rintro e w2 ⟨g2, rfl, hg2, hx2, s2, b2⟩
      go_wp2_with fail
      refine (awakeL (Below.step b1 b2)).mono ?_
      rintro e w3 ⟨rfl, b3, b4⟩
      go_wp2_with fail
      refine (awakeL b4).mono ?_
      rintro e w4 ⟨rfl, b5, b6⟩
      go_wp2_with fail
      go_ret
      exact ⟨rfl, b6⟩
end Go.Proofs.Ytefnabceaaghaaa.SumAlone
