/- The walk of SumDivides. -/
import Derived.Test.YtefnabceaaghaaaSumRef
namespace Go.Proofs.Ytefnabceaaghaaa.SumDivides
open Go.RowKit SumPlain Base SumLeft SumMem SumFill SumOf SumAwake SumLaws SumAlone SumBlk SumRef

theorem right_str (g : Nat) (n : Int) (w : World) (ad : Option Addr) (a : ByteArray) (C v : Nat) (h : Ready w g n) (h0 : 0 ≤ n) (hn : n ≤ 900000000) (hz : a.size ≤ 1000000) (hr : RowX w g ad (bv (bl a))) :
    Calls Try.prog 13 #[.pointer (some ⟨g, 0, none⟩), .slice ad a.size C, .int .u32 v] w fun e w' => e = .returned (.bool (decide (sum (bl a) = v))) ∧ Done w' g (n + a.size) ∧ Only g w w' :=
  right_any g n w ad a.size C (bl a) v h h0 hn hz rfl hr (Ready.lt h)

set_option maxRecDepth 100000 in
set_option maxHeartbeats 3200000 in
theorem SumDivides_walk (a : ByteArray) (v : Nat) (W : World) (ha : a.size ≤ maxLen) (hv : v < 4294967296) :
    Calls Try.prog 3 #[.string a, .int .u32 v] W (Law W) := by
  unfold maxLen at ha
  have hnot : ∀ (x : Bool) (w : World), (Op.unary .not (.bool x)).run Try.prog w = .ok (.bool (!x)) w := fun _ _ => rfl
  by_cases hl : a.size ≤ 500
  · go_enter Try.func3, Try.ntmps3
    go_wp2_with fail
    refine (new_g _).mono ?_
    rintro e w1 ⟨g, rfl, hg, hx1, s1, b1⟩
    go_wp2_with fail
    refine (awakeL b1).mono ?_
    rintro e w2 ⟨rfl, b2, b3⟩
    go_wp2_with fail
    refine (ref_any a _ hl).mono ?_
    rintro e w3 ⟨rfl, b4⟩
    have s3 := (s1.below b2).below b4
    have b5 := Below.step b3 b4
    clear s1 b1 b2 b3 b4 hx1
    have h1 : ((sum (bl a) : Nat) : Int) = ((sum (bl a) : Nat) : Int) := rfl
    clear h1
    have HS := Lib.hid (sum_lt (bl a))
    generalize hsum : sum (bl a) = S at *
    have HSum := Lib.hid hsum
    clear hsum
    have hcv := cv_run w3 a
    have hlt3 := Ready.lt s3
    go_wp2_with fail
    refine (of_str g 0 _ _ a (cp w3 a) (s3.below (cv_below w3 a)) (by omega) (by omega) (by omega) ((cv_blk w3 a).rowX (by omega))).mono ?_
    rintro e w4 ⟨rfl, d4, o4⟩
    rw [HSum.out]
    have b6 : Below W.heap.size W w4 := (Below.step b5 (cv_below w3 a)).trans (o4.below hg (Nat.lt_of_lt_of_le hlt3 (cv_below w3 a).size))
    clear hcv o4 s3 hlt3 b5
    have hlt4 := d4.lt
    have hcv := cv_run w4 a
    go_wp2_with fail
    refine (right_str g (0 + a.size) _ _ a (cp w4 a) v (ready_of (d4.below (cv_below w4 a))) (by omega) (by omega) (by omega) ((cv_blk w4 a).rowX (by omega))).mono ?_
    rintro e w5 ⟨rfl, d5, o5⟩
    rw [HSum.out]
    have b7 : Below W.heap.size W w5 := (Below.step b6 (cv_below w4 a)).trans (o5.below hg (Nat.lt_of_lt_of_le hlt4 (cv_below w4 a).size))
    clear hcv o5 d4 hlt4 b6
    have hlt5 := d5.lt
    have hcv := cv_run w5 a
    have hbb : (decide (S = v) == ((v : Int) == (S : Int))) = true := by
      by_cases e : S = v
      · subst e; simp
      · have : ((v : Int) == (S : Int)) = false := beq_eq_false_iff_ne.2 (by omega)
        rw [this, decide_eq_false e]; rfl
    go_wp2_with fail
    refine (right_str g (0 + a.size + a.size) _ _ a (cp w5 a) S (ready_of (d5.below (cv_below w5 a))) (by omega) (by omega) (by omega) ((cv_blk w5 a).rowX (by omega))).mono ?_
    rintro e w6 ⟨rfl, d6, o6⟩
    rw [HSum.out]
    have b8 : Below W.heap.size W w6 := (Below.step b7 (cv_below w5 a)).trans (o6.below hg (Nat.lt_of_lt_of_le hlt5 (cv_below w5 a).size))
    clear hcv o6 d5 hlt5 b7 d6
    go_wp2_with fail
    go_ret
    exact ⟨ret_bool (by simp), b8⟩
  · have hl' : (500 : Int) < (a.size : Int) := by omega
    go_enter Try.func3, Try.ntmps3
    go_wp2_with fail
    refine (new_g _).mono ?_
    rintro e w1 ⟨g1, rfl, hg1, hx1, s1, b1⟩
    go_wp2_with fail
    refine (awakeL b1).mono ?_
    rintro e w3 ⟨rfl, b3, b4⟩
    go_wp2_with fail
    refine (awakeL b4).mono ?_
    rintro e w4 ⟨rfl, b5, b6⟩
    go_wp2_with fail
    go_ret
    exact ⟨rfl, b6⟩
end Go.Proofs.Ytefnabceaaghaaa.SumDivides
