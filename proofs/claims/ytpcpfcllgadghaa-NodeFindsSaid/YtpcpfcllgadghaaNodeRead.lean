/- Nodes in memory; contracts of the document's Below and Same of texts. -/
import Derived.Test.YtpcpfcllgadghaaProg
import Derived.Test.YtpcpfcllgadghaaBase
import Derived.Test.YtpcpfcllgadghaaStr
import Derived.Test.YtpcpfcllgadghaaNodePlain
import Derived.WalkKit
import Derived.WalkSpells
import Derived.WalkLawsBesides
import Derived.BigQuiet
import Derived.Deep.QuietTactic
import Derived.Lib.Hide
import Derived.Handy
namespace Go.Proofs.Ytpcpfcllgadghaa.NodeRead
open Go.RowKit KeyPlain Base NodePlain

theorem el_strs : Elem Try.prog 22 9 16 := elem_mk Try.underlying22 (z := .string ⟨#[]⟩) (by kernel_rfl) rfl
theorem el_ints : Elem Try.prog 23 3 8 := elem_mk Try.underlying23 (z := .int .i64 0) (by kernel_rfl) rfl
def strs (cs : List ByteArray) : List Value := cs.map Value.string
def ints (ks : List Int) : List Value := ks.map (Value.int .i64)
theorem strs_len (cs : List ByteArray) : (strs cs).length = cs.length := by simp [strs]
theorem ints_len (cs : List Int) : (ints cs).length = cs.length := by simp [ints]
theorem strs_1 (cs : List ByteArray) : ∀ u ∈ strs cs, u.oneCell' = true := by intro u hu; obtain ⟨q, _, rfl⟩ := List.mem_map.1 hu; rfl
theorem ints_1 (cs : List Int) : ∀ u ∈ ints cs, u.oneCell' = true := by intro u hu; obtain ⟨q, _, rfl⟩ := List.mem_map.1 hu; rfl
theorem strs_get {w : World} {B : Nat} {A : Option Addr} {cs : List ByteArray} (h : Row w B A (strs cs)) (k : Nat) (hk : k < cs.length) : ∃ ad, A = some ad ∧ ad.block < B ∧ w.cell? (ad.add k) = some (.string cs[k]) := by
  obtain ⟨ad, e, hb, hc⟩ := h.get k (by simpa [strs] using hk)
  exact ⟨ad, e, hb, by rw [hc]; simp [strs]⟩
theorem ints_get {w : World} {B : Nat} {A : Option Addr} {cs : List Int} (h : Row w B A (ints cs)) (k : Nat) (hk : k < cs.length) : ∃ ad, A = some ad ∧ ad.block < B ∧ w.cell? (ad.add k) = some (.int .i64 cs[k]) := by
  obtain ⟨ad, e, hb, hc⟩ := h.get k (by simpa [ints] using hk)
  exact ⟨ad, e, hb, by rw [hc]; simp [ints]⟩
/-- where a node's lists lie -/
structure Hd where
  K : Option Addr
  kc : Nat
  V : Option Addr
  vc : Nat
  D : Option Addr
  dc : Nat
/-- a node's value -/
abbrev nv (n : Nd) (h : Hd) : Value := .agg #[.bool n.leaf, .slice h.K n.keys.length h.kc, .slice h.V n.vals.length h.vc, .slice h.D n.kids.length h.dc]
/-- a node in memory -/
structure Lay (w : World) (n : Nd) (h : Hd) : Prop where
  k : Row w w.heap.size h.K (strs n.keys)
  v : Row w w.heap.size h.V (strs n.vals)
  d : Row w w.heap.size h.D (ints n.kids)
  kc : n.keys.length ≤ h.kc
  vc : n.vals.length ≤ h.vc
  dc : n.kids.length ≤ h.dc
theorem Lay.below {w w' : World} {n : Nd} {h : Hd} (l : Lay w n h) (hb : Below w.heap.size w w') : Lay w' n h := ⟨l.k.belowSize hb, l.v.belowSize hb, l.d.belowSize hb, l.kc, l.vc, l.dc⟩
set_option maxHeartbeats 800000 in
theorem below_q (s t : ByteArray) (w : World) (hs : s.size ≤ maxLen) (ht : t.size ≤ maxLen) :
    Calls Try.prog 53 #[.string s, .string t] w fun e w' => e = .returned (.bool (Op.bytesLess s.data.toList t.data.toList)) ∧ ∃ n, w' = w.drewN n := by
  unfold maxLen at hs ht
  go_enter Try.func53, Try.ntmps53
  go_wp2
  go_loopw [5] (fun i wr => ∃ k n : Nat, k ≤ s.size ∧ k ≤ t.size ∧ i = .int .i64 k ∧ s.data.toList.take k = t.data.toList.take k ∧ wr = w.drewN n) (fun i _ => s.size - (intOf i).toNat)
  case atStart => exact ⟨0, 0, by omega, by omega, rfl, rfl, rfl⟩
  case round =>
    obtain ⟨k, n, hk1, hk2, rfl, hpre, rfl⟩ := hrel
    have HP := Lib.hid hpre
    clear hpre
    by_cases h1 : k < s.size
    · by_cases h2 : k < t.size
      · go_wp2
        go_quiet (fail)
        go_wp2
        · have hne : ((s[k].toNat : Int) != (t[k].toNat : Int)) = true := by assumption
          have HN := Lib.hid (bl_at HP.out h1 h2 hne)
          go_quiet (fail)
          go_wp2
          go_ret
          exact ⟨ret_bool HN.out.symm, by simp only [World.drewN_drewN]; exact ⟨_, rfl⟩⟩
        · have hne : ((s[k].toNat : Int) != (t[k].toNat : Int)) = false := by assumption
          go_roundw
          case rel => exact ⟨k + 1, _, by omega, by omega, by go_num, bl_step HP.out h1 h2 hne, rfl⟩
          case measure => simp [intOf]; omega
      · go_wp2
        go_ret
        exact ⟨ret_bool (bl_end HP.out hk1 hk2 (.inr h2)).symm, ⟨n, rfl⟩⟩
    · go_wp2
      go_ret
      exact ⟨ret_bool (bl_end HP.out hk1 hk2 (.inl h1)).symm, ⟨n, rfl⟩⟩

set_option maxHeartbeats 800000 in
theorem Below_q (s t : ByteArray) (w : World) (hs : s.size ≤ maxLen) (ht : t.size ≤ maxLen) :
    Calls Try.prog 33 #[.string s, .string t] w fun e w' => e = .returned (.bool (Op.bytesLess s.data.toList t.data.toList)) ∧ ∃ n, w' = w.drewN n := by
  go_enter Try.func33, Try.ntmps33
  go_wp2_with (go_at_call 53; refine (below_q _ _ _ hs ht).mono ?_; rintro e w' ⟨rfl, n, rfl⟩)
  go_ret
  exact ⟨rfl, n, rfl⟩

set_option maxHeartbeats 400000 in
theorem Same_q (A B : Option Addr) (c d : Nat) (ps qs : List ByteArray) (w : World) (hr : Row w w.heap.size A (ps.map .string)) (hq : Row w w.heap.size B (qs.map .string)) (hn : ps.length ≤ maxLen) (hm : qs.length ≤ maxLen) :
    Calls Try.prog 21 #[.slice A ps.length c, .slice B qs.length d] w fun e w' => e = .returned (.bool (decide (ps = qs))) ∧ ∃ n, w' = w.drewN n := by
  unfold maxLen at hn hm
  by_cases hl : ps.length = qs.length
  · have hl1 : ((ps.length : Int) != (qs.length : Int)) = false := by simp [hl]
    have HL := Lib.hid hl
    clear hl
    go_enter Try.func21, Try.ntmps21
    go_wp2
    go_loopw [5] (fun i wr => ∃ k n : Nat, k ≤ ps.length ∧ i = .int .i64 k ∧ ps.take k = qs.take k ∧ wr = w.drewN n) (fun i _ => ps.length - (intOf i).toNat)
    case atStart => exact ⟨0, 0, by omega, rfl, rfl, rfl⟩
    case round =>
      obtain ⟨k, n, hk1, rfl, hpre, rfl⟩ := hrel
      have HP := Lib.hid hpre
      clear hpre
      by_cases h1 : k < ps.length
      · have h2 : k < qs.length := by have := HL.out; omega
        obtain ⟨ad, rfl, hb, hc⟩ := hr.get k (by simpa using h1)
        obtain ⟨bd, rfl, hb2, hc2⟩ := hq.get k (by simpa using h2)
        simp only [List.getElem_map] at hc hc2
        go_wp2
        go_quiet (fail)
        go_wp2
        · have hne : (!(ps[k].toList == qs[k].toList)) = true := by assumption
          rw [ba_beq] at hne
          go_ret
          exact ⟨ret_bool (same_no h1 h2 (by simpa using hne)), by simp only [World.drewN_drewN]; exact ⟨_, rfl⟩⟩
        · have hne : (!(ps[k].toList == qs[k].toList)) = false := by assumption
          rw [ba_beq] at hne
          go_roundw
          case rel => exact ⟨k + 1, _, by omega, by go_num, same_step HP.out h1 h2 (by simpa using hne), rfl⟩
          case measure => simp [intOf]; omega
      · go_wp2
        go_ret
        exact ⟨ret_bool (same_yes HP.out HL.out h1), n, rfl⟩
  · have hl1 : ((ps.length : Int) != (qs.length : Int)) = true := by simp; omega
    have hl2 : false = decide (ps = qs) := by
      symm; rw [decide_eq_false_iff_not]; rintro rfl; exact hl rfl
    have HL := Lib.hid hl2
    clear hl hl2
    go_enter Try.func21, Try.ntmps21
    go_wp2
    go_ret
    exact ⟨ret_bool HL.out, 0, rfl⟩


theorem Below_b {w : World} (s t : ByteArray) (hs : s.size ≤ maxLen) (ht : t.size ≤ maxLen) :
    Calls Try.prog 33 #[.string s, .string t] w fun e w' => e = .returned (.bool (less s t)) ∧ Below w.heap.size w w' :=
  (Below_q s t w hs ht).mono fun _ _ ⟨h1, n, h2⟩ => ⟨h1, by rw [h2]; exact Base.below_drewN w _ n⟩
theorem Same_b {w : World} (A B : Option Addr) (c d n m : Nat) (ps qs : List ByteArray) (hn : n = ps.length) (hm : m = qs.length) (hr : Row w w.heap.size A (strs ps)) (hq : Row w w.heap.size B (strs qs)) (hp : ps.length ≤ maxLen) (hl : qs.length ≤ maxLen) :
    Calls Try.prog 21 #[.slice A n c, .slice B m d] w fun e w' => e = .returned (.bool (decide (ps = qs))) ∧ Below w.heap.size w w' := by
  subst hn hm
  exact (Same_q A B c d ps qs w hr hq hp hl).mono fun _ _ ⟨h1, n, h2⟩ => ⟨h1, by rw [h2]; exact Base.below_drewN w _ n⟩
end Go.Proofs.Ytpcpfcllgadghaa.NodeRead
