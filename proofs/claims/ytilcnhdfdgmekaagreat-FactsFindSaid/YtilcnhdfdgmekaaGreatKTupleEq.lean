/- TupleSpec, TupleEq. -/
import Derived.Test.YtilcnhdfdgmekaaGreatKTupleRef2
namespace Go.Proofs.YtilcnhdfdgmekaaGreat.TupleSpec
open Go.RowKit Base KeyPlain TuplePlain TupleRef

def Law (W : World) (e : Ending) (w' : World) : Prop := e = .returned (.bool true) ∧ Below W.heap.size W w'
abbrev okE (b : Bool) (n : Int) : Value := .int .i64 (if b then 0 else n)
abbrev okS (b : Bool) (l : List UInt8) : Value := .string ⟨if b then l.toArray else #[]⟩
/-- the law's few: none of the parts has more than 300 bytes -/
def Few (t : Tp) : Prop := ∀ p ∈ t.parts, p.size ≤ 300
instance (t : Tp) : Decidable (Few t) := inferInstanceAs (Decidable (∀ p ∈ t.parts, p.size ≤ 300))
theorem Few.tpf {t : Tp} (h : Few t) : TpF t := by
  have k : ∀ p, p ∈ t.parts → p.size ≤ 300 := h
  simp only [Tp.parts, List.mem_cons, List.not_mem_nil, or_false] at k
  have a := k t.k (by simp); have b := k t.i (by simp); have c := k t.r (by simp)
  have d := k t.u.k (by simp); have e := k t.u.i (by simp); have f := k t.u.r (by simp)
  exact ⟨by omega, by omega, by omega, by omega, by omega, by omega⟩
end Go.Proofs.YtilcnhdfdgmekaaGreat.TupleSpec
namespace Go.Proofs.YtilcnhdfdgmekaaGreat.TupleEq
open Go.RowKit Base KeyPlain TuplePlain TupleRef TupleSpec

instance : DecidableEq Us := fun u v => decidable_of_iff (u.k = v.k ∧ u.i = v.i ∧ u.r = v.r) (by cases u; cases v; simp)
instance : DecidableEq Tp := fun t v => decidable_of_iff (t.k = v.k ∧ t.i = v.i ∧ t.r = v.r ∧ t.u = v.u) (by cases t; cases v; simp)
theorem us_in (u v : Us) (w : World) : (Op.equalIn 10000 30 (.agg (uc u)) (.agg (uc v))).run Tryz.prog w = .ok (decide (u = v)) w := by
  unfold uc
  obtain ⟨k, i, r⟩ := u
  obtain ⟨k', i', r'⟩ := v
  rw [show (10000 : Nat) = 9999 + 1 from rfl, run_equalIn_agg _ _ _ _ _ (by kernel_rfl) (by kernel_rfl)]
  by_cases h0 : k = k' <;> by_cases h1 : i = i' <;> by_cases h2 : r = r' <;> simp [go_sem, Str.ba_beq, *]
theorem tp_in (t v : Tp) (w : World) : (Op.equalIn 10000 32 (.agg (tc t)) (.agg (tc v))).run Tryz.prog w = .ok (decide (t = v)) w := by
  unfold tc
  obtain ⟨k, i, r, ⟨uk, ui, ur⟩⟩ := t
  obtain ⟨k', i', r', ⟨uk', ui', ur'⟩⟩ := v
  rw [show (10000 : Nat) = 9999 + 1 from rfl, run_equalIn_agg _ _ _ _ _ (by kernel_rfl) (by kernel_rfl)]
  by_cases h0 : k = k' <;> by_cases h1 : i = i' <;> by_cases h2 : r = r' <;> simp [go_sem, Str.ba_beq, *]
  by_cases h3 : uk = uk' <;> by_cases h4 : ui = ui' <;> by_cases h5 : ur = ur' <;> simp [*]
theorem us_eq (u v : Us) (w : World) : (binOp .eql 30 (.agg (uc u)) (.agg (uc v))).run Tryz.prog w = .ok (.bool (decide (u = v))) w := by
  rw [run_eql_struct, us_in]; rfl
theorem us_ne (u v : Us) (w : World) : (binOp .neq 30 (.agg (uc u)) (.agg (uc v))).run Tryz.prog w = .ok (.bool (!decide (u = v))) w := by
  rw [run_neq_struct, us_in]; rfl
theorem tp_eq (t v : Tp) (w : World) : (binOp .eql 32 (.agg (tc t)) (.agg (tc v))).run Tryz.prog w = .ok (.bool (decide (t = v))) w := by
  rw [run_eql_struct, tp_in]; rfl
/-- the chapter's example -/
def tx : Tp := ⟨⟨#[100, 111, 99]⟩, ⟨#[97, 46, 116, 120, 116]⟩, ⟨#[118, 105, 101, 119, 101, 114]⟩, ⟨⟨#[103, 114, 111, 117, 112]⟩, ⟨#[101, 110, 103]⟩, ⟨#[109, 101, 109, 98, 101, 114]⟩⟩⟩
abbrev sx : ByteArray := ⟨#[100, 111, 99, 58, 97, 46, 116, 120, 116, 35, 118, 105, 101, 119, 101, 114, 64, 103, 114, 111, 117, 112, 58, 101, 110, 103, 35, 109, 101, 109, 98, 101, 114]⟩
theorem tx_ok : tx.ok = true := by decide +kernel
theorem tx_show : tx.show = bl sx := by decide +kernel
theorem tx_few : TpF tx := by
  refine ⟨?_, ?_, ?_, ?_, ?_, ?_⟩ <;> decide +kernel
theorem tc_tx : tc tx = #[.string ⟨#[100, 111, 99]⟩, .string ⟨#[97, 46, 116, 120, 116]⟩, .string ⟨#[118, 105, 101, 119, 101, 114]⟩, .string ⟨#[103, 114, 111, 117, 112]⟩, .string ⟨#[101, 110, 103]⟩, .string ⟨#[109, 101, 109, 98, 101, 114]⟩] := rfl
end Go.Proofs.YtilcnhdfdgmekaaGreat.TupleEq
