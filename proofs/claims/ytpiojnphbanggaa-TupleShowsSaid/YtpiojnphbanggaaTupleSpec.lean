/- What the tuple laws ask of the program's own calls: stated here, proved for the code elsewhere. And the law's few. -/
import Derived.Test.YtpiojnphbanggaaTupleRef2
namespace Go.Proofs.Ytpiojnphbanggaa.TupleSpec
open Go.RowKit Base KeyPlain TuplePlain TupleRef

def Law (W : World) (e : Ending) (w' : World) : Prop := e = .returned (.bool true) ∧ Below W.heap.size W w'
abbrev okE (b : Bool) (n : Int) : Value := .int .i64 (if b then 0 else n)
abbrev okS (b : Bool) (l : List UInt8) : Value := .string ⟨if b then l.toArray else #[]⟩
structure Specs : Prop where
  name : ∀ (s : ByteArray) (w : World), s.size ≤ 1000000 → Calls Try.prog 22 #[.string s] w fun e w' => e = .returned (.bool (nameL (bl s))) ∧ Below w.heap.size w w'
  id : ∀ (s : ByteArray) (w : World), s.size ≤ 1000000 → Calls Try.prog 24 #[.string s] w fun e w' => e = .returned (.bool (idL (bl s))) ∧ Below w.heap.size w w'
  check : ∀ (t : Tp) (w : World), TpF t → Calls Try.prog 15 #[.agg (tc t)] w fun e w' => e = .returned (okE t.ok 111) ∧ Below w.heap.size w w'
  show_ : ∀ (t : Tp) (w : World), TpF t → Calls Try.prog 13 #[.agg (tc t)] w fun e w' => e = .returned (.tuple #[okS t.ok t.show, okE t.ok 111]) ∧ Below w.heap.size w w'
  showUser : ∀ (u : Us) (w : World), UsF u → Calls Try.prog 14 #[.agg (uc u)] w fun e w' => e = .returned (.tuple #[okS u.ok u.show, okE u.ok 111]) ∧ Below w.heap.size w w'
  readUser : ∀ (s : ByteArray) (w : World), s.size ≤ 1000000 → Calls Try.prog 17 #[.string s] w fun e w' => ∃ o, RdU (bl s) o ∧ e = .returned (.tuple #[.agg (uc (o.getD zus)), okE o.isSome 110]) ∧ Below w.heap.size w w'
  read : ∀ (s : ByteArray) (w : World), s.size ≤ 1000000 → Calls Try.prog 20 #[.string s] w fun e w' => ∃ o, RdT (bl s) o ∧ e = .returned (.tuple #[.agg (tc (o.getD ztp)), okE o.isSome 110]) ∧ Below w.heap.size w w'
  key : ∀ (t : Tp) (w : World), TpF t → Calls Try.prog 26 #[.agg (tc t)] w fun e w' => e = .returned (.tuple #[okS t.ok t.key, okE t.ok 111]) ∧ Below w.heap.size w w'
  back : ∀ (t : Tp) (w : World), TpF t → Calls Try.prog 27 #[.agg (tc t)] w fun e w' => e = .returned (.tuple #[okS t.ok t.back, okE t.ok 111]) ∧ Below w.heap.size w w'
  ofKey : ∀ (s : ByteArray) (w : World), s.size ≤ 1000000 → Calls Try.prog 28 #[.string s] w fun e w' => ∃ o : Option (Tp × Bool), RdK (bl s) o ∧ e = .returned (.tuple #[.agg (tc ((o.map (·.1)).getD ztp)), .bool ((o.map (·.2)).getD false), okE o.isSome 110]) ∧ Below w.heap.size w w'
  less : ∀ (t s : Tp) (w : World), TpF t → TpF s → Calls Try.prog 31 #[.agg (tc t), .agg (tc s)] w fun e w' => e = .returned (.bool (KeyPlain.less (lst t.parts) (lst s.parts))) ∧ Below w.heap.size w w'
/-- the law's few: none of the parts has more than 300 bytes -/
def Few (t : Tp) : Prop := ∀ p ∈ t.parts, p.size ≤ 300
instance (t : Tp) : Decidable (Few t) := inferInstanceAs (Decidable (∀ p ∈ t.parts, p.size ≤ 300))
theorem Few.tpf {t : Tp} (h : Few t) : TpF t := by
  have k : ∀ p, p ∈ t.parts → p.size ≤ 300 := h
  simp only [Tp.parts, List.mem_cons, List.not_mem_nil, or_false] at k
  have a := k t.k (by simp); have b := k t.i (by simp); have c := k t.r (by simp)
  have d := k t.u.k (by simp); have e := k t.u.i (by simp); have f := k t.u.r (by simp)
  exact ⟨by omega, by omega, by omega, by omega, by omega, by omega⟩
set_option maxHeartbeats 6400000 in
theorem few_any (t : Tp) (w : World) : Calls Try.prog 12 #[.agg (tc t)] w fun e w' => e = .returned (.bool (decide (Few t))) ∧ Below w.heap.size w w' := by
  have b1 := al w (.cells (tc t) 25)
  have a1 := heap_alloc_new w (.cells (tc t) 25)
  have hp := refParts_any t (w.alloc (.cells (tc t) 25))
  have HB := Lib.hid b1
  obtain ⟨ps, hps⟩ : ∃ ps, ps = t.parts := ⟨_, rfl⟩
  have hl : ps.length = 6 := by rw [hps]; rfl
  have HF := Lib.hid (show Few t ↔ ∀ p ∈ ps, p.size ≤ 300 from by rw [hps]; exact Iff.rfl)
  unfold PartsPost at hp
  rw [← hps] at hp
  clear hps b1
  unfold tc at hp a1 HB ⊢
  obtain ⟨d0, d1, d2, d3, d4, d5⟩ := six_at a1
  clear a1
  go_enter Try.func12, Try.ntmps12
  go_wp2_with fail
  (with_reducible refine hp.mono ?_)
  clear hp d0 d1 d2 d3 d4 d5
  rintro e w3 ⟨A, c, rfl, hr, b3⟩
  have HB3 := Lib.hid (HB.out.trans (b3.mono HB.out.size))
  clear b3
  go_wp2_with fail
  go_loop [4] (fun i => ∃ k : Nat, k ≤ 6 ∧ i = .int .i64 k ∧ ∀ p ∈ ps.take k, p.size ≤ 300) (fun i => 6 - (intOf i).toNat)
  case atStart => exact ⟨0, by omega, rfl, by simp⟩
  case round =>
    obtain ⟨k, hk, rfl, hq⟩ := hrel
    have HQ := Lib.hid hq
    clear hq
    by_cases hlt : k < 6
    · have hlt2 : k < ps.length := by omega
      obtain ⟨ad, rfl, hbk, hc⟩ := hr.get k (by simpa using hlt2)
      simp only [List.getElem_map] at hc
      have HS := Lib.hid (show (∀ p ∈ ps.take (k + 1), p.size ≤ 300) ↔ ps[k].size ≤ 300 from by
        rw [List.take_succ_eq_append_getElem hlt2]
        exact ⟨fun h => h _ (List.mem_append.2 (Or.inr (List.mem_singleton.2 rfl))), fun h p hp => (List.mem_append.1 hp).elim (HQ.out p) fun q => by rw [List.mem_singleton.1 q]; exact h⟩)
      have HM := Lib.hid (List.getElem_mem hlt2)
      by_cases h3 : ps[k].size ≤ 300
      · have h3I : ¬ (300 : Int) < (ps[k].size : Int) := by omega
        have HN := Lib.hid (HS.out.2 h3)
        clear h3
        go_wp2_with fail
        go_round
        case rel => exact ⟨k + 1, by omega, by go_num, HN.out⟩
        case measure => simp [intOf]; omega
      · have h3I : (300 : Int) < (ps[k].size : Int) := by omega
        have HN := Lib.hid (show decide (Few t) = false from decide_eq_false fun q => h3 (HF.out.1 q _ HM.out))
        clear h3
        go_wp2_with fail
        go_ret
        exact ⟨ret_bool HN.out.symm, HB3.out⟩
    · have hn : ¬ (k : Int) < 6 := by omega
      have HN := Lib.hid (show decide (Few t) = true from decide_eq_true (HF.out.2 (by have h := HQ.out; rwa [List.take_of_length_le (by omega)] at h)))
      go_wp2_with fail
      go_ret
      exact ⟨ret_bool HN.out.symm, HB3.out⟩
end Go.Proofs.Ytpiojnphbanggaa.TupleSpec
