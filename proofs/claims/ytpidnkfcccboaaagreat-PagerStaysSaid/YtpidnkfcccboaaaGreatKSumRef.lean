/- Blk, SumRef. -/
import Derived.Test.YtpidnkfcccboaaaGreatKPageBytes
import Derived.Test.YtpidnkfcccboaaaGreatKPagePlain
import Derived.BigRegion
import Derived.Deep.AppendLies
import Derived.Deep.RegionLaw
import Derived.IntWalk
namespace Go.Proofs.YtpidnkfcccboaaaGreat.Blk
open Go.RowKit SumPlain Base SumLeft SumMem SumFill SumOf

abbrev bl (s : ByteArray) : List UInt8 := s.data.toList
theorem bl_len (s : ByteArray) : (bl s).length = s.size := rfl

def Blk8 (w : World) (b : Nat) (l : List UInt8) : Prop :=
 ∃ cs lo hi, w.heap[b]? = some (.cells cs 5 (lo, hi)) ∧ (∀ (k : Nat) x, (bv l)[k]? = some x → cs[k]? = some x) ∧ (l.length ≤ lo ∨ hi = 0)
section
variable {w w' : World} {b : Nat} {l : List UInt8}
theorem heap_lt {w : World} {b : Nat} {o : Obj} (h : w.heap[b]? = some o) : b < w.heap.size := by
 rcases Nat.lt_or_ge b w.heap.size with q | q
 ·exact q
 ·rw [Array.getElem?_eq_none q] at h; cases h
theorem Blk8.lt (h : Blk8 w b l) : b < w.heap.size := by obtain ⟨cs, lo, hi, h, _⟩ := h; exact heap_lt h
theorem Blk8.same (h : Blk8 w b l) (e : w'.heap[b]? = w.heap[b]?) : Blk8 w' b l := by
 obtain ⟨cs, lo, hi, h, r⟩ := h
 exact ⟨cs, lo, hi, e.trans h, r⟩
theorem Blk8.below (h : Blk8 w b l) (hb : Below w.heap.size w w') : Blk8 w' b l := h.same (hb.block b h.lt)
theorem Blk8.only {g : Nat} (h : Blk8 w b l) (ho : Only g w w') (hg : b ≠ g) : Blk8 w' b l := h.same (ho.block b h.lt (fun e => by injection e with e; exact hg e))
theorem Blk8.drew (h : Blk8 w b l) : Blk8 w.drew b l := h
theorem Blk8.cell (h : Blk8 w b l) (k : Nat) (hk : k < l.length) : w.cell? ⟨b, k, none⟩ = some (.int .u8 (l[k].toNat : Int)) := by
 obtain ⟨cs, lo, hi, h, h2, _⟩ := h
 simp only [World.cell?, h]
 exact h2 k _ (by simp [bv, hk])
theorem Blk8.frozen (h : Blk8 w b l) (k : Nat) (hk : k < l.length) : w.frozen? ⟨b, k, none⟩ = false := by
 obtain ⟨cs, lo, hi, h, _, h3⟩ := h
 simp only [World.frozen?, h]
 simp
 omega
theorem Blk8.far (h : Blk8 w b l) {p : Addr} (hp : b ≠ p.block) (u : Value) : Blk8 (w.setCell p u) b l := h.same (Below.heap_setCell w p u b hp)
theorem Blk8.set (h : Blk8 w b l) (k : Nat) (hk : k < l.length) (x : UInt8) : Blk8 (w.setCell ⟨b, k, none⟩ (.int .u8 (x.toNat : Int))) b (l.set k x) := by
 obtain ⟨cs, lo, hi, h, h2, h3⟩ := h
 refine ⟨cs.setIfInBounds k (.int .u8 (x.toNat : Int)), lo, hi, by simp [World.setCell, Array.getElem?_modify, h], fun j v hv => ?_, by simpa using h3⟩
 by_cases e : j = k
 ·subst e
  have hc := h2 j (.int .u8 (l[j].toNat : Int)) (by simp [bv, hk])
  have hlt : j < cs.size := (Array.getElem?_eq_some_iff.1 hc).1
  rw [Array.getElem?_setIfInBounds_self_of_lt hlt]
  simpa [bv, hk] using hv
 ·rw [Array.getElem?_setIfInBounds_ne (fun q => e q.symm)]
  apply h2
  rw [← hv]
  simp [bv, List.getElem?_set_ne (fun q => e q.symm)]
theorem Blk8.rowX {g : Nat} (h : Blk8 w b l) (hg : b ≠ g) : RowX w g (some ⟨b, 0, none⟩) (bv l) := fun k v hv => by
 refine ⟨_, rfl, h.lt, hg, ?_⟩
 obtain ⟨cs, lo, hi, h, h2, _⟩ := h
 rw [add_zero_block]
 simp only [World.cell?, h]
 exact h2 k v hv
end
/-- what a new text's bytes leave: the world and the capacity -/
def cp (w : World) (s : ByteArray) : Nat := grownCap w s.size 0 5
def cv (w : World) (s : ByteArray) : World := w.drew.alloc (.cells (bytesRow s (grownCap w s.size 0 5)) 5 ((bytesRow s (grownCap w s.size 0 5)).size, (bytesRow s (grownCap w s.size 0 5)).size + 1))
/-- a new slice of noughts -/
def mk (w : World) (n : Nat) : World := w.alloc (.cells (madeCells #[.int .u8 0] n) 5)
theorem mk_run (w : World) (n : Nat) (hn : n ≤ 1000000) : (Instr.makeSlice 96 (.int .i64 (n : Int)) (.int .i64 (n : Int))).run Tryz.prog w = .ok (.slice (some ⟨w.heap.size, 0, none⟩) n n) (mk w n) := by
 have h : (Tryz.prog.info? 5).map (fun i => (i.zero, i.size, i.bytes)) = some (some (.int .u8 0), 1, 1) := by kernel_rfl
 obtain ⟨i, h1, h2, h3, h4⟩ := info_parts h
 have := run_make (P := Tryz.prog) w 96 5 i _ Tryz.underlying96 h1 h2 .i64 .i64 n n (by omega) (by omega) (by rw [h4]; omega) (by omega)
 rw [this, h3]
 simp [mk, Value.cells]
theorem step_append_run {P : Program} {w : World} {ops : Array Oper} {o : Oper} {a : Act} {K : Act → World → Prop} {Q : Exit → Act → World → Prop} {E : Prop} (hg : o.guard = none) (s x : Operand) (t u : TypeId)
  (hop : o.op = Op.call { callee := Callee.builtin Builtin.append, args := #[s, x], argTypes := #[t, u] }) {vs vx v : Value} {w' : World} (hs : a.eval s = vs) (hx : a.eval x = vx)
  (hrun : (Builtin.append_ #[t, u] o.type #[vs, vx]).run P w = .ok v w') (hK : K (a.put o.dst v) w') : if Region.wanted o (yielded ops a.tmps) = true then Oper.wp P o a w K Q else E := by
 have hw : Region.wanted o (yielded ops a.tmps) = true := by simp [Region.wanted, hg]
 rw [if_pos hw]
 unfold Oper.wp
 simp [execOp, hop, resolve, invoke, builtin, hs, hx, hrun, Result.andThen]
 exact hK
theorem step_append_d {P : Program} {w : World} {ops : Array Oper} {o : Oper} {a : Act} {K : Act → World → Prop} {Q : Exit → Act → World → Prop} {E : Prop} {d : Tmp} (hg : o.guard = none) (hd : o.dst = some d) (s x : Operand) (t u : TypeId)
  (hop : o.op = Op.call { callee := Callee.builtin Builtin.append, args := #[s, x], argTypes := #[t, u] }) {vs vx v : Value} {w' : World} (hs : a.eval s = vs) (hx : a.eval x = vx)
  (hrun : (Builtin.append_ #[t, u] o.type #[vs, vx]).run P w = .ok v w') (hK : K (a.put (some d) v) w') : if Region.wanted o (yielded ops a.tmps) = true then Oper.wp P o a w K Q else E :=
 step_append_run hg s x t u hop hs hx hrun (by rw [hd]; exact hK)
end Go.Proofs.YtpidnkfcccboaaaGreat.Blk
namespace Go.Proofs.YtpidnkfcccboaaaGreat.SumRef
open Go.RowKit SumPlain Base SumLeft SumMem SumFill SumOf SumTurn Blk SumRefPlain

def ib (b : Bool) : Value := .int .i64 (b.toNat : Int)
def iv (l : List Bool) : List Value := l.map ib
/-- the bits that are told so far: a row of the call's own -/
def Told (w : World) (p : List Bool) (A : Option Addr) (c : Nat) (wr : World) : Prop := Own wr w.heap.size 3 A c (iv p) ∧ Below w.heap.size w wr
/-- bits in a block -/
def Bits (w : World) (b N : Nat) (f : Nat → Bool) : Prop := ∀ j, j < N → w.cell? ⟨b, j, none⟩ = some (ib (f j)) ∧ w.frozen? ⟨b, j, none⟩ = false
theorem Bits.set {w : World} {b N : Nat} {f : Nat → Bool} (h : Bits w b N f) (i : Nat) (hi : i < N) (v : Bool) : Bits (w.setCell ⟨b, i, none⟩ (ib v)) b N (fun j => if j = i then v else f j) := fun j hj => by
  refine ⟨?_, by simpa using (h j hj).2⟩
  by_cases e : j = i
  · subst e
    simp only [if_true]
    exact World.cell?_setCell_same _ _ _ (h j hj).1
  · simp only [if_neg e]
    rw [World.cell?_setCell_other w _ _ _ (fun q => by injection q with _ q; exact e q.symm)]
    exact (h j hj).1
theorem Bits.congr {w : World} {b N : Nat} {f f' : Nat → Bool} (h : Bits w b N f) (e : ∀ j, j < N → f j = f' j) : Bits w b N f' := fun j hj => by rw [← e j hj]; exact h j hj
theorem Bits.drew {w : World} {b N : Nat} {f : Nat → Bool} (h : Bits w b N f) : Bits w.drew b N f := h
theorem Bits.below {w w' : World} {b N : Nat} {f : Nat → Bool} (h : Bits w b N f) (hb : Below w.heap.size w w') (hlt : b < w.heap.size) : Bits w' b N f := fun j hj => ⟨(hb.cell (p := ⟨b, j, none⟩) hlt).trans (h j hj).1, (hb.frozen (p := ⟨b, j, none⟩) hlt).trans (h j hj).2⟩
/-- where the powers stand -/
def Pows (w : World) (q : Nat) : Prop := ∀ k, k < 15 → w.cell? ⟨q, k, none⟩ = some (.int .i64 ((pw[k]?.getD 0 : Nat) : Int))
theorem Pows.set {w : World} {q b i : Nat} {u : Value} (h : Pows w q) (hb : q ≠ b) : Pows (w.setCell ⟨b, i, none⟩ u) q := fun k hk => by
  rw [World.cell?_setCell_other w _ _ _ (fun e => by injection e with e _; exact hb e.symm)]
  exact h k hk
theorem Pows.drew {w : World} {q : Nat} (h : Pows w q) : Pows w.drew q := h
def DivRel (w : World) (b q N : Nat) (f : Nat → Bool) (wr : World) : Prop := Bits wr b N f ∧ Pows wr q ∧ Below w.heap.size w wr
theorem DivRel.set {w wr : World} {b q N : Nat} {f f' : Nat → Bool} (h : DivRel w b q N f wr) (i : Nat) (hi : i < N) (v : Bool) (hq : q ≠ b) (hb : w.heap.size ≤ b) (e : ∀ j, j < N → (if j = i then v else f j) = f' j) : DivRel w b q N f' (wr.setCell ⟨b, i, none⟩ (ib v)) :=
  ⟨(h.1.set i hi v).congr e, h.2.1.set hq, h.2.2.setCell (by exact hb) _⟩
theorem DivRel.drew {w wr : World} {b q N : Nat} {f : Nat → Bool} (h : DivRel w b q N f wr) : DivRel w b q N f wr.drew := ⟨h.1, h.2.1, h.2.2.drew⟩
def flip (M : Nat → Bool) (k : Nat) (j : Nat) : Bool := if j < k then !M j else M j

def FlipRel (w : World) (b N : Nat) (M : Nat → Bool) (k : Nat) (wr : World) : Prop := Bits wr b N (flip M k) ∧ Below w.heap.size w wr ∧ b < wr.heap.size
abbrev pwCells : Array Value := #[.int .i64 32, .int .i64 26, .int .i64 23, .int .i64 22, .int .i64 16, .int .i64 12, .int .i64 11, .int .i64 10, .int .i64 8, .int .i64 7, .int .i64 5, .int .i64 4, .int .i64 2, .int .i64 1, .int .i64 0]
end Go.Proofs.YtpidnkfcccboaaaGreat.SumRef
