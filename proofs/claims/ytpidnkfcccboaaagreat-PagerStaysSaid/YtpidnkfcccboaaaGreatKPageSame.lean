/- The contracts of slices.Equal, page.Same and the document's Same. -/
import Derived.Test.YtpidnkfcccboaaaGreatKPageBytes
import Derived.Test.YtpidnkfcccboaaaGreatKStr
import Derived.BigQuiet
import Derived.Deep.QuietTactic
import Derived.Deep.RegionWith
import Derived.Handy
namespace Go.Proofs.YtpidnkfcccboaaaGreat.PageSame
open Go.RowKit Base PagePlain PageSmall Str

def same (p q : Pg) : Bool := decide (p.kind = q.kind ∧ (p.no = q.no ∧ p.epoch = q.epoch ∧ p.link = q.link) ∧ p.cells = q.cells)
theorem same_iff (p q : Pg) : same p q = true ↔ p = q := by
 unfold same
 rw [decide_eq_true_iff]
 constructor
 ·rintro ⟨h1, ⟨h2, h3, h4⟩, h5⟩
  exact pg_ext h1 h2 h3 h4 h5
 ·rintro rfl; exact ⟨rfl, ⟨rfl, rfl, rfl⟩, rfl⟩
theorem drewN_two (w : World) (a b : Nat) : (w.drewN a).drewN b = w.drewN (a + b) := by simp [World.drewN, Nat.add_assoc]
theorem str_ne (s t : ByteArray) : (!(s.toList == t.toList)) = !decide (s = t) := by rw [ba_beq]

set_option maxHeartbeats 1600000 in
theorem sleq_any (w : World) (A B : Option Addr) (cs ds : List ByteArray) (n m c d : Nat) (hn : n = cs.length) (hm : m = ds.length) (hA : Row w w.heap.size A (strs cs)) (hB : Row w w.heap.size B (strs ds)) (hl : cs.length ≤ maxLen) :
  Calls Tryz.prog 133 #[.slice A n c, .slice B m d] w fun e w' => e = .returned (.bool (decide (cs = ds))) ∧ ∃ n, w' = w.drewN n := by
 subst hn hm
 unfold maxLen at hl
 have HD := Lib.hid (show decide (cs = ds) = true ↔ cs = ds from decide_eq_true_iff)
 generalize decide (cs = ds) = D at *
 by_cases hlen : cs.length = ds.length
 ·have hne : ((cs.length : Int) != (ds.length : Int)) = false := by simp; omega
  have HL := Lib.hid hlen
  clear hlen
  go_enter Tryz.func133, Tryz.ntmps133
  go_wp2_with fail
  go_loopw [13] (fun i wr => ∃ k : Nat, k ≤ cs.length ∧ i = .int .i64 k ∧ cs.take k = ds.take k ∧ ∃ n, wr = w.drewN n) (fun i _ => cs.length - (intOf i).toNat)
  case atStart => exact ⟨0, by omega, rfl, by simp, 0, rfl⟩
  case round =>
   obtain ⟨k, hk, rfl, htk, nn, rfl⟩ := hrel
   have HT := Lib.hid htk
   clear htk
   by_cases hlt : k < cs.length
   ·have hlt2 : k < ds.length := by rw [← HL.out]; exact hlt
    obtain ⟨a1, hA1, b1, c1⟩ := strs_get hA k hlt
    obtain ⟨a2, hB1, b2, c2⟩ := strs_get hB k hlt2
    subst hA1 hB1
    have i1 : (k : Int) < (cs.length : Int) := by omega
    have i2 : (k : Int) < (ds.length : Int) := by omega
    have d1 : (w.drewN nn).cell? (a1.add k) = some (.string cs[k]) := c1
    have d2 : (w.drewN nn).cell? (a2.add k) = some (.string ds[k]) := c2
    by_cases he : cs[k] = ds[k]
    ·have HN := Lib.hid (show cs.take (k + 1) = ds.take (k + 1) by rw [List.take_succ_eq_append_getElem hlt, List.take_succ_eq_append_getElem hlt2, HT.out, he])
     have hs : (!(cs[k].toList == ds[k].toList)) = false := by rw [str_ne, decide_eq_true he]; rfl
     clear he
     generalize cs[k] = s at *
     generalize ds[k] = t at *
     go_wp2_with fail
     go_quiet (fail)
     go_wp2_with fail
     go_roundw
     case rel => exact ⟨k + 1, by omega, by go_num, HN.out, nn + nq, by first | rfl | exact drewN_two w nn nq⟩
     case measure => simp [intOf]; omega
    ·have hs : (!(cs[k].toList == ds[k].toList)) = true := by rw [str_ne, decide_eq_false he]; rfl
     have HN := Lib.hid (show D = false by
      rw [Bool.eq_false_iff]
      intro q
      have e := HD.out.1 q
      subst e
      exact he rfl)
     clear he
     generalize cs[k] = s at *
     generalize ds[k] = t at *
     go_wp2_with fail
     go_quiet (fail)
     go_wp2_with fail
     go_ret
     exact ⟨ret_bool HN.out.symm, nn + nq, by first | rfl | exact drewN_two w nn nq⟩
   ·obtain rfl : k = cs.length := by omega
    have HN := Lib.hid (show D = true by
     apply HD.out.2
     have := HT.out
     rwa [List.take_of_length_le (Nat.le_refl _), List.take_of_length_le (by rw [← HL.out]; exact Nat.le_refl _)] at this)
    go_wp2_with fail
    go_ret
    exact ⟨ret_bool HN.out.symm, nn, rfl⟩
 ·have hne : ((cs.length : Int) != (ds.length : Int)) = true := by simp; omega
  have HN := Lib.hid (show D = false by
   rw [Bool.eq_false_iff]
   intro q
   exact hlen (by rw [HD.out.1 q]))
  clear hlen
  go_enter Tryz.func133, Tryz.ntmps133
  go_wp2_with fail
  go_ret
  exact ⟨ret_bool HN.out.symm, 0, rfl⟩
end Go.Proofs.YtpidnkfcccboaaaGreat.PageSame
