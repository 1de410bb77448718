/- Bytes in a block of their own that may be written; a new text's bytes and new noughts as equations over any world. (SumBlk, without layer 2's laws.) -/
import Derived.Test.YtcnblgienombeaaSumOf
import Derived.Deep.AppendLies
import Derived.Deep.RegionLaw
namespace Go.Proofs.Ytcnblgienombeaa.Blk
open Go.RowKit SumPlain Base SumLeft SumMem SumFill SumOf

abbrev bl (s : ByteArray) : List UInt8 := s.data.toList
theorem bl_len (s : ByteArray) : (bl s).length = s.size := rfl

def Blk8 (w : World) (b : Nat) (l : List UInt8) : Prop :=
  ∃ cs lo hi, w.heap[b]? = some (.cells cs 5 (lo, hi)) ∧ (∀ (k : Nat) x, (bv l)[k]? = some x → cs[k]? = some x) ∧ (l.length ≤ lo ∨ hi = 0)
section
variable {w w' : World} {b : Nat} {l : List UInt8}
theorem heap_lt {w : World} {b : Nat} {o : Obj} (h : w.heap[b]? = some o) : b < w.heap.size := by
  rcases Nat.lt_or_ge b w.heap.size with q | q
  · exact q
  · rw [Array.getElem?_eq_none q] at h; cases h
theorem Blk8.lt (h : Blk8 w b l) : b < w.heap.size := by obtain ⟨cs, lo, hi, h, _⟩ := h; exact heap_lt h
theorem Blk8.same (h : Blk8 w b l) (e : w'.heap[b]? = w.heap[b]?) : Blk8 w' b l := by
  obtain ⟨cs, lo, hi, h, r⟩ := h
  exact ⟨cs, lo, hi, e.trans h, r⟩
theorem Blk8.below (h : Blk8 w b l) (hb : Below w.heap.size w w') : Blk8 w' b l := h.same (hb.block b h.lt)
theorem Blk8.only {g : Nat} (h : Blk8 w b l) (ho : Only g w w') (hg : b ≠ g) : Blk8 w' b l := h.same (ho.block b h.lt (fun e => by injection e with e; exact hg e))
theorem Blk8.drew (h : Blk8 w b l) : Blk8 w.drew b l := h
theorem Blk8.cell (h : Blk8 w b l) (k : Nat) (hk : k < l.length) : w.cell? ⟨b, k, none⟩ = some (.int .u8 (l[k].toNat : Int)) := by
  obtain ⟨cs, lo, hi, h, h2, _⟩ := h
  simp only [World.cell?, h]
  exact h2 k _ (by simp [bv, hk])
theorem Blk8.frozen (h : Blk8 w b l) (k : Nat) (hk : k < l.length) : w.frozen? ⟨b, k, none⟩ = false := by
  obtain ⟨cs, lo, hi, h, _, h3⟩ := h
  simp only [World.frozen?, h]
  simp
  omega
theorem Blk8.far (h : Blk8 w b l) {p : Addr} (hp : b ≠ p.block) (u : Value) : Blk8 (w.setCell p u) b l := h.same (Below.heap_setCell w p u b hp)
theorem Blk8.set (h : Blk8 w b l) (k : Nat) (hk : k < l.length) (x : UInt8) : Blk8 (w.setCell ⟨b, k, none⟩ (.int .u8 (x.toNat : Int))) b (l.set k x) := by
  obtain ⟨cs, lo, hi, h, h2, h3⟩ := h
  refine ⟨cs.setIfInBounds k (.int .u8 (x.toNat : Int)), lo, hi, by simp [World.setCell, Array.getElem?_modify, h], fun j v hv => ?_, by simpa using h3⟩
  by_cases e : j = k
  · subst e
    have hc := h2 j (.int .u8 (l[j].toNat : Int)) (by simp [bv, hk])
    have hlt : j < cs.size := (Array.getElem?_eq_some_iff.1 hc).1
    rw [Array.getElem?_setIfInBounds_self_of_lt hlt]
    simpa [bv, hk] using hv
  · rw [Array.getElem?_setIfInBounds_ne (fun q => e q.symm)]
    apply h2
    rw [← hv]
    simp [bv, List.getElem?_set_ne (fun q => e q.symm)]
theorem Blk8.rowX {g : Nat} (h : Blk8 w b l) (hg : b ≠ g) : RowX w g (some ⟨b, 0, none⟩) (bv l) := fun k v hv => by
  refine ⟨_, rfl, h.lt, hg, ?_⟩
  obtain ⟨cs, lo, hi, h, h2, _⟩ := h
  rw [add_zero_block]
  simp only [World.cell?, h]
  exact h2 k v hv
end
/-- what a new text's bytes leave: the world and the capacity -/
def cp (w : World) (s : ByteArray) : Nat := grownCap w s.size 0 5
def cv (w : World) (s : ByteArray) : World := w.drew.alloc (.cells (bytesRow s (grownCap w s.size 0 5)) 5 ((bytesRow s (grownCap w s.size 0 5)).size, (bytesRow s (grownCap w s.size 0 5)).size + 1))
theorem cv_run (w : World) (s : ByteArray) : (convert 9 27 (.string s)).run Try.prog w = .ok (.slice (some ⟨w.heap.size, 0, none⟩) s.size (cp w s)) (cv w s) :=
  run_bytes_of_string w 9 27 5 s Try.underlying9 Try.underlying27 Try.underlying5
theorem cv_below (w : World) (s : ByteArray) : Below w.heap.size w (cv w s) := (Below.refl _ w).drew.alloc (Nat.le_refl _) _
theorem cv_size (w : World) (s : ByteArray) : (cv w s).heap.size = w.heap.size + 1 := by simp [cv]
theorem cv_blk (w : World) (s : ByteArray) : Blk8 (cv w s) w.heap.size (bl s) := by
  refine ⟨_, _, _, heap_alloc_new w.drew _, fun k x hx => ?_, .inl (by simp [bytesRow])⟩
  have hk : k < s.data.size := by
    rcases Nat.lt_or_ge k s.data.size with q | q
    · exact q
    · rw [List.getElem?_eq_none (by simpa [bv] using q)] at hx; cases hx
  rw [bytesRow_at s _ k hk, ← hx]
  simp [bv, bl, Array.getElem?_eq_getElem hk]
/-- a new slice of noughts -/
def mk (w : World) (n : Nat) : World := w.alloc (.cells (madeCells #[.int .u8 0] n) 5)
theorem mk_run (w : World) (n : Nat) (hn : n ≤ 1000000) : (Instr.makeSlice 27 (.int .i64 (n : Int)) (.int .i64 (n : Int))).run Try.prog w = .ok (.slice (some ⟨w.heap.size, 0, none⟩) n n) (mk w n) := by
  have h : (Try.prog.info? 5).map (fun i => (i.zero, i.size, i.bytes)) = some (some (.int .u8 0), 1, 1) := by kernel_rfl
  obtain ⟨i, h1, h2, h3, h4⟩ := info_parts h
  have := run_make (P := Try.prog) w 27 5 i _ Try.underlying27 h1 h2 .i64 .i64 n n (by omega) (by omega) (by rw [h4]; omega) (by omega)
  rw [this, h3]
  simp [mk, Value.cells]
theorem mk_below (w : World) (n : Nat) : Below w.heap.size w (mk w n) := (Below.refl _ w).alloc (Nat.le_refl _) _
theorem mk_size (w : World) (n : Nat) : (mk w n).heap.size = w.heap.size + 1 := by simp [mk]
theorem mk_blk (w : World) (n : Nat) : Blk8 (mk w n) w.heap.size (List.replicate n 0) := by
  refine ⟨_, _, _, heap_alloc_new w _, fun k x hx => ?_, .inr rfl⟩
  have hk : k < n := by
    rcases Nat.lt_or_ge k n with q | q
    · exact q
    · rw [List.getElem?_eq_none (by simpa [bv] using q)] at hx; cases hx
  simp [bv, hk] at hx
  subst hx
  simp [madeCells, hk, Nat.mod_one]
theorem mk_at (w : World) (n : Nat) : At (mk w n) w.heap.size 5 (bv (List.replicate n 0)).toArray := by
  have e : madeCells #[.int .u8 0] n = (bv (List.replicate n 0)).toArray := by
    apply Array.ext_getElem?
    intro i
    by_cases h : i < n
    · simp [madeCells, bv, h, Nat.mod_one]
    · simp [madeCells, bv, h]
  unfold mk
  rw [e]
  exact heap_alloc_new w _
theorem step_append_run {P : Program} {w : World} {ops : Array Oper} {o : Oper} {a : Act} {K : Act → World → Prop} {Q : Exit → Act → World → Prop} {E : Prop} (hg : o.guard = none) (s x : Operand) (t u : TypeId)
    (hop : o.op = Op.call { callee := Callee.builtin Builtin.append, args := #[s, x], argTypes := #[t, u] }) {vs vx v : Value} {w' : World} (hs : a.eval s = vs) (hx : a.eval x = vx)
    (hrun : (Builtin.append_ #[t, u] o.type #[vs, vx]).run P w = .ok v w') (hK : K (a.put o.dst v) w') : if Region.wanted o (yielded ops a.tmps) = true then Oper.wp P o a w K Q else E := by
  have hw : Region.wanted o (yielded ops a.tmps) = true := by simp [Region.wanted, hg]
  rw [if_pos hw]
  unfold Oper.wp
  simp [execOp, hop, resolve, invoke, builtin, hs, hx, hrun, Result.andThen]
  exact hK
theorem step_append_d {P : Program} {w : World} {ops : Array Oper} {o : Oper} {a : Act} {K : Act → World → Prop} {Q : Exit → Act → World → Prop} {E : Prop} {d : Tmp} (hg : o.guard = none) (hd : o.dst = some d) (s x : Operand) (t u : TypeId)
    (hop : o.op = Op.call { callee := Callee.builtin Builtin.append, args := #[s, x], argTypes := #[t, u] }) {vs vx v : Value} {w' : World} (hs : a.eval s = vs) (hx : a.eval x = vx)
    (hrun : (Builtin.append_ #[t, u] o.type #[vs, vx]).run P w = .ok v w') (hK : K (a.put (some d) v) w') : if Region.wanted o (yielded ops a.tmps) = true then Oper.wp P o a w K Q else E :=
  step_append_run hg s x t u hop hs hx hrun (by rw [hd]; exact hK)
end Go.Proofs.Ytcnblgienombeaa.Blk
