/- Blk, SumRef. -/
import Derived.Test.YtpidnkfcccboaaaGreatKPageBytes
import Derived.Test.YtpidnkfcccboaaaGreatKPagePlain
import Derived.BigRegion
import Derived.Deep.AppendLies
import Derived.Deep.RegionLaw
import Derived.IntWalk
namespace Go.Proofs.YtpidnkfcccboaaaGreat.Blk
open Go.RowKit SumPlain Base SumLeft SumMem SumFill SumOf

abbrev bl (s : ByteArray) : List UInt8 := s.data.toList
theorem bl_len (s : ByteArray) : (bl s).length = s.size := rfl

def Blk8 (w : World) (b : Nat) (l : List UInt8) : Prop :=
 ∃ cs lo hi, w.heap[b]? = some (.cells cs 5 (lo, hi)) ∧ (∀ (k : Nat) x, (bv l)[k]? = some x → cs[k]? = some x) ∧ (l.length ≤ lo ∨ hi = 0)
section
variable {w w' : World} {b : Nat} {l : List UInt8}
theorem heap_lt {w : World} {b : Nat} {o : Obj} (h : w.heap[b]? = some o) : b < w.heap.size := by
 rcases Nat.lt_or_ge b w.heap.size with q | q
 ·exact q
 ·rw [Array.getElem?_eq_none q] at h; cases h
theorem Blk8.lt (h : Blk8 w b l) : b < w.heap.size := by obtain ⟨cs, lo, hi, h, _⟩ := h; exact heap_lt h
theorem Blk8.same (h : Blk8 w b l) (e : w'.heap[b]? = w.heap[b]?) : Blk8 w' b l := by
 obtain ⟨cs, lo, hi, h, r⟩ := h
 exact ⟨cs, lo, hi, e.trans h, r⟩
theorem Blk8.below (h : Blk8 w b l) (hb : Below w.heap.size w w') : Blk8 w' b l := h.same (hb.block b h.lt)
theorem Blk8.only {g : Nat} (h : Blk8 w b l) (ho : Only g w w') (hg : b ≠ g) : Blk8 w' b l := h.same (ho.block b h.lt (fun e => by injection e with e; exact hg e))
theorem Blk8.drew (h : Blk8 w b l) : Blk8 w.drew b l := h
theorem Blk8.cell (h : Blk8 w b l) (k : Nat) (hk : k < l.length) : w.cell? ⟨b, k, none⟩ = some (.int .u8 (l[k].toNat : Int)) := by
 obtain ⟨cs, lo, hi, h, h2, _⟩ := h
 simp only [World.cell?, h]
 exact h2 k _ (by simp [bv, hk])
theorem Blk8.frozen (h : Blk8 w b l) (k : Nat) (hk : k < l.length) : w.frozen? ⟨b, k, none⟩ = false := by
 obtain ⟨cs, lo, hi, h, _, h3⟩ := h
 simp only [World.frozen?, h]
 simp
 omega
theorem Blk8.far (h : Blk8 w b l) {p : Addr} (hp : b ≠ p.block) (u : Value) : Blk8 (w.setCell p u) b l := h.same (Below.heap_setCell w p u b hp)
theorem Blk8.set (h : Blk8 w b l) (k : Nat) (hk : k < l.length) (x : UInt8) : Blk8 (w.setCell ⟨b, k, none⟩ (.int .u8 (x.toNat : Int))) b (l.set k x) := by
 obtain ⟨cs, lo, hi, h, h2, h3⟩ := h
 refine ⟨cs.setIfInBounds k (.int .u8 (x.toNat : Int)), lo, hi, by simp [World.setCell, Array.getElem?_modify, h], fun j v hv => ?_, by simpa using h3⟩
 by_cases e : j = k
 ·subst e
  have hc := h2 j (.int .u8 (l[j].toNat : Int)) (by simp [bv, hk])
  have hlt : j < cs.size := (Array.getElem?_eq_some_iff.1 hc).1
  rw [Array.getElem?_setIfInBounds_self_of_lt hlt]
  simpa [bv, hk] using hv
 ·rw [Array.getElem?_setIfInBounds_ne (fun q => e q.symm)]
  apply h2
  rw [← hv]
  simp [bv, List.getElem?_set_ne (fun q => e q.symm)]
theorem Blk8.rowX {g : Nat} (h : Blk8 w b l) (hg : b ≠ g) : RowX w g (some ⟨b, 0, none⟩) (bv l) := fun k v hv => by
 refine ⟨_, rfl, h.lt, hg, ?_⟩
 obtain ⟨cs, lo, hi, h, h2, _⟩ := h
 rw [add_zero_block]
 simp only [World.cell?, h]
 exact h2 k v hv
end
/-- what a new text's bytes leave: the world and the capacity -/
def cp (w : World) (s : ByteArray) : Nat := grownCap w s.size 0 5
def cv (w : World) (s : ByteArray) : World := w.drew.alloc (.cells (bytesRow s (grownCap w s.size 0 5)) 5 ((bytesRow s (grownCap w s.size 0 5)).size, (bytesRow s (grownCap w s.size 0 5)).size + 1))
theorem cv_run (w : World) (s : ByteArray) : (convert 9 96 (.string s)).run Tryz.prog w = .ok (.slice (some ⟨w.heap.size, 0, none⟩) s.size (cp w s)) (cv w s) :=
 run_bytes_of_string w 9 96 5 s Tryz.underlying9 Tryz.underlying96 Tryz.underlying5
theorem cv_below (w : World) (s : ByteArray) : Below w.heap.size w (cv w s) := (Below.refl _ w).drew.alloc (Nat.le_refl _) _
theorem cv_size (w : World) (s : ByteArray) : (cv w s).heap.size = w.heap.size + 1 := by simp [cv]
theorem cv_blk (w : World) (s : ByteArray) : Blk8 (cv w s) w.heap.size (bl s) := by
 refine ⟨_, _, _, heap_alloc_new w.drew _, fun k x hx => ?_, .inl (by simp [bytesRow])⟩
 have hk : k < s.data.size := by
  rcases Nat.lt_or_ge k s.data.size with q | q
  ·exact q
  ·rw [List.getElem?_eq_none (by simpa [bv] using q)] at hx; cases hx
 rw [bytesRow_at s _ k hk, ← hx]
 simp [bv, bl, Array.getElem?_eq_getElem hk]
/-- a new slice of noughts -/
def mk (w : World) (n : Nat) : World := w.alloc (.cells (madeCells #[.int .u8 0] n) 5)
theorem mk_run (w : World) (n : Nat) (hn : n ≤ 1000000) : (Instr.makeSlice 96 (.int .i64 (n : Int)) (.int .i64 (n : Int))).run Tryz.prog w = .ok (.slice (some ⟨w.heap.size, 0, none⟩) n n) (mk w n) := by
 have h : (Tryz.prog.info? 5).map (fun i => (i.zero, i.size, i.bytes)) = some (some (.int .u8 0), 1, 1) := by kernel_rfl
 obtain ⟨i, h1, h2, h3, h4⟩ := info_parts h
 have := run_make (P := Tryz.prog) w 96 5 i _ Tryz.underlying96 h1 h2 .i64 .i64 n n (by omega) (by omega) (by rw [h4]; omega) (by omega)
 rw [this, h3]
 simp [mk, Value.cells]
theorem mk_below (w : World) (n : Nat) : Below w.heap.size w (mk w n) := (Below.refl _ w).alloc (Nat.le_refl _) _
theorem mk_size (w : World) (n : Nat) : (mk w n).heap.size = w.heap.size + 1 := by simp [mk]
theorem mk_blk (w : World) (n : Nat) : Blk8 (mk w n) w.heap.size (List.replicate n 0) := by
 refine ⟨_, _, _, heap_alloc_new w _, fun k x hx => ?_, .inr rfl⟩
 have hk : k < n := by
  rcases Nat.lt_or_ge k n with q | q
  ·exact q
  ·rw [List.getElem?_eq_none (by simpa [bv] using q)] at hx; cases hx
 simp [bv, hk] at hx
 subst hx
 simp [madeCells, hk, Nat.mod_one]
theorem mk_at (w : World) (n : Nat) : At (mk w n) w.heap.size 5 (bv (List.replicate n 0)).toArray := by
 have e : madeCells #[.int .u8 0] n = (bv (List.replicate n 0)).toArray := by
  apply Array.ext_getElem?
  intro i
  by_cases h : i < n
  ·simp [madeCells, bv, h, Nat.mod_one]
  ·simp [madeCells, bv, h]
 unfold mk
 rw [e]
 exact heap_alloc_new w _
theorem step_append_run {P : Program} {w : World} {ops : Array Oper} {o : Oper} {a : Act} {K : Act → World → Prop} {Q : Exit → Act → World → Prop} {E : Prop} (hg : o.guard = none) (s x : Operand) (t u : TypeId)
  (hop : o.op = Op.call { callee := Callee.builtin Builtin.append, args := #[s, x], argTypes := #[t, u] }) {vs vx v : Value} {w' : World} (hs : a.eval s = vs) (hx : a.eval x = vx)
  (hrun : (Builtin.append_ #[t, u] o.type #[vs, vx]).run P w = .ok v w') (hK : K (a.put o.dst v) w') : if Region.wanted o (yielded ops a.tmps) = true then Oper.wp P o a w K Q else E := by
 have hw : Region.wanted o (yielded ops a.tmps) = true := by simp [Region.wanted, hg]
 rw [if_pos hw]
 unfold Oper.wp
 simp [execOp, hop, resolve, invoke, builtin, hs, hx, hrun, Result.andThen]
 exact hK
theorem step_append_d {P : Program} {w : World} {ops : Array Oper} {o : Oper} {a : Act} {K : Act → World → Prop} {Q : Exit → Act → World → Prop} {E : Prop} {d : Tmp} (hg : o.guard = none) (hd : o.dst = some d) (s x : Operand) (t u : TypeId)
  (hop : o.op = Op.call { callee := Callee.builtin Builtin.append, args := #[s, x], argTypes := #[t, u] }) {vs vx v : Value} {w' : World} (hs : a.eval s = vs) (hx : a.eval x = vx)
  (hrun : (Builtin.append_ #[t, u] o.type #[vs, vx]).run P w = .ok v w') (hK : K (a.put (some d) v) w') : if Region.wanted o (yielded ops a.tmps) = true then Oper.wp P o a w K Q else E :=
 step_append_run hg s x t u hop hs hx hrun (by rw [hd]; exact hK)
end Go.Proofs.YtpidnkfcccboaaaGreat.Blk
namespace Go.Proofs.YtpidnkfcccboaaaGreat.SumRef
open Go.RowKit SumPlain Base SumLeft SumMem SumFill SumOf SumTurn Blk SumRefPlain

def ib (b : Bool) : Value := .int .i64 (b.toNat : Int)
def iv (l : List Bool) : List Value := l.map ib
theorem iv_len (l : List Bool) : (iv l).length = l.length := by simp [iv]
theorem iv_one (l : List Bool) : ∀ u ∈ iv l, u.oneCell' = true := by
  intro u hu
  simp only [iv, List.mem_map] at hu
  obtain ⟨b, _, rfl⟩ := hu
  rfl
theorem el_int : Elem Tryz.prog 32 3 8 := elem_mk (z := .int .i64 0) Tryz.underlying32 (by kernel_rfl) rfl
theorem and1_all : ∀ a : Fin 256, bits .and .i64 ((a.val : Nat) : Int) 1 = ((a.val % 2 : Nat) : Int) := by decide +kernel
theorem byte_bit (c : UInt8) (k : Nat) : bits .and .i64 ((c.toNat : Int) / 2 ^ k) 1 = (((c.toNat.testBit k).toNat : Nat) : Int) := by
  have e : ((c.toNat : Int) / 2 ^ k) = ((c.toNat / 2 ^ k : Nat) : Int) := by simp
  have h := and1_all ⟨c.toNat / 2 ^ k, Nat.lt_of_le_of_lt (Nat.div_le_self _ _) (UInt8.toNat_lt c)⟩
  rw [e, h, Nat.testBit_eq_decide_div_mod_eq]
  rcases Nat.mod_two_eq_zero_or_one (c.toNat / 2 ^ k) with h | h <;> simp [h]
/-- the bits that are told so far: a row of the call's own -/
def Told (w : World) (p : List Bool) (A : Option Addr) (c : Nat) (wr : World) : Prop := Own wr w.heap.size 3 A c (iv p) ∧ Below w.heap.size w wr
theorem told_row (wr : World) (b : Bool) : Row (wr.alloc (.cells #[ib b] 3)) (wr.heap.size + 1) (some ⟨wr.heap.size, 0, none⟩) (iv [b]) := row_of_block (heap_alloc_new wr (.cells #[ib b] 3))
theorem told_snoc {w wr w1 : World} {p : List Bool} {b : Bool} {A A' : Option Addr} {c c' : Nat} {o : Obj} (ht : Told w p A c wr) (hown' : Own w1 w.heap.size 3 A' c' (iv p ++ iv [b])) (hg : (wr.alloc o).grownBy w1 (Value.slice A (iv p).length c).ownBlock) : Told w (p ++ [b]) A' c' w1 := by
  refine ⟨by have e : iv (p ++ [b]) = iv p ++ iv [b] := by simp [iv]
             rw [e]; exact hown', ?_⟩
  exact (ht.1.alloc o).below (ht.2.alloc ht.2.size o) hg (Nat.le_refl _) (by have := ht.2.size; simp; omega)

/-- bits in a block -/
def Bits (w : World) (b N : Nat) (f : Nat → Bool) : Prop := ∀ j, j < N → w.cell? ⟨b, j, none⟩ = some (ib (f j)) ∧ w.frozen? ⟨b, j, none⟩ = false
theorem Bits.set {w : World} {b N : Nat} {f : Nat → Bool} (h : Bits w b N f) (i : Nat) (hi : i < N) (v : Bool) : Bits (w.setCell ⟨b, i, none⟩ (ib v)) b N (fun j => if j = i then v else f j) := fun j hj => by
  refine ⟨?_, by simpa using (h j hj).2⟩
  by_cases e : j = i
  · subst e
    simp only [if_true]
    exact World.cell?_setCell_same _ _ _ (h j hj).1
  · simp only [if_neg e]
    rw [World.cell?_setCell_other w _ _ _ (fun q => by injection q with _ q; exact e q.symm)]
    exact (h j hj).1
theorem Bits.congr {w : World} {b N : Nat} {f f' : Nat → Bool} (h : Bits w b N f) (e : ∀ j, j < N → f j = f' j) : Bits w b N f' := fun j hj => by rw [← e j hj]; exact h j hj
theorem Bits.drew {w : World} {b N : Nat} {f : Nat → Bool} (h : Bits w b N f) : Bits w.drew b N f := h
theorem Bits.below {w w' : World} {b N : Nat} {f : Nat → Bool} (h : Bits w b N f) (hb : Below w.heap.size w w') (hlt : b < w.heap.size) : Bits w' b N f := fun j hj => ⟨(hb.cell (p := ⟨b, j, none⟩) hlt).trans (h j hj).1, (hb.frozen (p := ⟨b, j, none⟩) hlt).trans (h j hj).2⟩
theorem bits_of_own {w : World} {base c : Nat} {A : Option Addr} {p : List Bool} (h : Own w base 3 A c (iv p)) (hp : 0 < p.length) : ∃ b, A = some ⟨b, 0, none⟩ ∧ base ≤ b ∧ b < w.heap.size ∧ Bits w b p.length (fun j => p[j]?.getD false) := by
  rcases h.2 with ⟨_, h0⟩ | ⟨b, cap, cur, e1, h1, h2, h3, h4, h5, h6⟩
  · rw [iv_len] at h0; omega
  · injection e1 with e1 _ _
    subst e1
    have hlt : b < w.heap.size := by
      rcases Nat.lt_or_ge b w.heap.size with q | q
      · exact q
      · rw [Array.getElem?_eq_none q] at h2; cases h2
    refine ⟨b, rfl, h1, hlt, fun j hj => ⟨?_, by simp [World.frozen?, h2]⟩⟩
    have hc := (h.row).get j (by rw [iv_len]; exact hj)
    obtain ⟨ad, e, _, hc⟩ := hc
    injection e with e
    subst e
    rw [add_zero_block] at hc
    rw [hc]
    simp [iv, hj]
/-- where the powers stand -/
def Pows (w : World) (q : Nat) : Prop := ∀ k, k < 15 → w.cell? ⟨q, k, none⟩ = some (.int .i64 ((pw[k]?.getD 0 : Nat) : Int))
theorem Pows.set {w : World} {q b i : Nat} {u : Value} (h : Pows w q) (hb : q ≠ b) : Pows (w.setCell ⟨b, i, none⟩ u) q := fun k hk => by
  rw [World.cell?_setCell_other w _ _ _ (fun e => by injection e with e _; exact hb e.symm)]
  exact h k hk
theorem Pows.drew {w : World} {q : Nat} (h : Pows w q) : Pows w.drew q := h
def DivRel (w : World) (b q N : Nat) (f : Nat → Bool) (wr : World) : Prop := Bits wr b N f ∧ Pows wr q ∧ Below w.heap.size w wr
theorem DivRel.set {w wr : World} {b q N : Nat} {f f' : Nat → Bool} (h : DivRel w b q N f wr) (i : Nat) (hi : i < N) (v : Bool) (hq : q ≠ b) (hb : w.heap.size ≤ b) (e : ∀ j, j < N → (if j = i then v else f j) = f' j) : DivRel w b q N f' (wr.setCell ⟨b, i, none⟩ (ib v)) :=
  ⟨(h.1.set i hi v).congr e, h.2.1.set hq, h.2.2.setCell (by exact hb) _⟩
theorem DivRel.drew {w wr : World} {b q N : Nat} {f : Nat → Bool} (h : DivRel w b q N f wr) : DivRel w b q N f wr.drew := ⟨h.1, h.2.1, h.2.2.drew⟩
theorem ib_not (b : Bool) : Value.int .i64 (1 - (b.toNat : Int)) = ib (!b) := by cases b <;> rfl
def flip (M : Nat → Bool) (k : Nat) (j : Nat) : Bool := if j < k then !M j else M j

def FlipRel (w : World) (b N : Nat) (M : Nat → Bool) (k : Nat) (wr : World) : Prop := Bits wr b N (flip M k) ∧ Below w.heap.size w wr ∧ b < wr.heap.size
theorem flip_step {w wr : World} {b N k : Nat} {M : Nat → Bool} (h : FlipRel w b N M k wr) (hk : k < N) (hb : w.heap.size ≤ b) : FlipRel w b N M (k + 1) (wr.setCell ⟨b, k, none⟩ (ib (!M k))) :=
  ⟨(h.1.set k hk _).congr fun j _ => by
    unfold flip
    by_cases e : j = k
    · subst e; simp
    · rw [if_neg e]
      by_cases e2 : j < k
      · rw [if_pos e2, if_pos (by omega)]
      · rw [if_neg e2, if_neg (by omega)], h.2.1.setCell (by exact hb) _, by simpa [World.setCell] using h.2.2⟩
abbrev pwCells : Array Value := #[.int .i64 32, .int .i64 26, .int .i64 23, .int .i64 22, .int .i64 16, .int .i64 12, .int .i64 11, .int .i64 10, .int .i64 8, .int .i64 7, .int .i64 5, .int .i64 4, .int .i64 2, .int .i64 1, .int .i64 0]
theorem div_start {w wr : World} {b N : Nat} {l : List UInt8} (h : FlipRel w b N (mb l) 32 wr) : DivRel w b wr.heap.size N (st l 0) (wr.alloc (.cells pwCells 3)) := by
  have hb : Below wr.heap.size wr (wr.alloc (.cells pwCells 3)) := (Below.refl _ _).alloc (Nat.le_refl _) _
  refine ⟨(h.1.below hb h.2.2).congr fun j _ => ?_, fun k hk => ?_, Below.step h.2.1 hb⟩
  · rw [st_zero]
    unfold flip
    by_cases e : j < 32
    · rw [if_pos e]; simp [e]
    · rw [if_neg e]; simp [e]
  · rw [cell_new]
    have : ∀ k : Fin 15, pwCells[k.val]? = some (.int .i64 ((pw[k.val]?.getD 0 : Nat) : Int)) := by
      intro k
      match k with
      | ⟨0, _⟩ | ⟨1, _⟩ | ⟨2, _⟩ | ⟨3, _⟩ | ⟨4, _⟩ | ⟨5, _⟩ | ⟨6, _⟩ | ⟨7, _⟩ | ⟨8, _⟩ | ⟨9, _⟩ | ⟨10, _⟩ | ⟨11, _⟩ | ⟨12, _⟩ | ⟨13, _⟩ | ⟨14, _⟩ => rfl
    exact this ⟨k, hk⟩
theorem hit_step {w wr : World} {b q N i k t : Nat} {l : List UInt8} (h : DivRel w b q N (fun j => xor (st l i j) (hit i k j)) wr) (ht : i + 32 - pw[k]?.getD 0 = t) (htN : t < N) (hq : q ≠ b) (hb : w.heap.size ≤ b) :
    DivRel w b q N (fun j => xor (st l i j) (hit i (k + 1) j)) (wr.setCell ⟨b, t, none⟩ (ib (!(xor (st l i t) (hit i k t))))) :=
  h.set t htN _ hq hb fun j _ => by
    show _ = xor (st l i j) (xor (hit i k j) (decide (i + 32 - pw[k]?.getD 0 = j)))
    rw [ht]
    by_cases e : j = t
    · subst e
      simp
    · rw [if_neg e, decide_eq_false (fun q => e q.symm)]
      simp

set_option maxRecDepth 100000 in
set_option maxHeartbeats 3200000 in
theorem ref_any (s : ByteArray) (w : World) (hs : s.size ≤ 500) :
    Calls Tryz.prog 62 #[.string s] w fun e w' => e = .returned (.int .u32 (sum (bl s) : Nat)) ∧ Below w.heap.size w w' := by
  have R0 : Told w [] (some ⟨w.heap.size, 0, none⟩) 0 (w.alloc (.cells #[] 3)) := ⟨Own.empty w _ (Nat.le_refl _), (Below.refl _ _).alloc (Nat.le_refl _) _⟩
  go_enter Tryz.func62, Tryz.ntmps62
  go_wp2_with fail
  go_loopw [3, 4] (fun v i wr => ∃ (k : Nat) (A : Option Addr) (c : Nat), k ≤ s.size ∧ i = .int .i64 k ∧ v = .slice A (8 * k) c ∧ Told w (bitsL ((bl s).take k)) A c wr) (fun _ i _ => s.size - (intOf i).toNat)
  case atStart => exact ⟨0, _, 0, by omega, rfl, rfl, R0⟩
  case round =>
    clear R0
    obtain ⟨k, A, c, hk, rfl, rfl, hrel⟩ := hrel
    by_cases hlt : k < s.size
    · have HN := Lib.hid (show bitsL ((bl s).take (k + 1)) = bitsL ((bl s).take k) ++ bitsB (s[k]'hlt) by
        rw [List.take_succ_eq_append_getElem (by exact hlt), bitsL_append, bitsL_cons, bitsL_nil, List.append_nil]; rfl)
      have hlen : (bitsL ((bl s).take k)).length = 8 * k := by rw [bitsL_len, List.length_take, bl_len]; omega
      have R1 : Told w (bitsL ((bl s).take k) ++ (bitsB (s[k]'hlt)).take 0) A c wr := by simpa using hrel
      have HL := Lib.hid hlen
      clear hlen hrel
      generalize bitsL ((bl s).take k) = p at *
      go_wp2_with fail
      go_loopw [3, 5] (fun v i wr => ∃ (m : Nat) (A : Option Addr) (c : Nat), m ≤ 8 ∧ i = .int .i64 m ∧ v = .slice A (8 * k + m) c ∧ Told w (p ++ (bitsB (s[k]'hlt)).take m) A c wr) (fun _ i _ => 8 - (intOf i).toNat)
      case atStart => exact ⟨0, A, c, by omega, rfl, rfl, R1⟩
      case round =>
        clear R1
        obtain ⟨m, A, c, hm, rfl, rfl, hrel⟩ := hrel
        by_cases hm8 : m < 8
        · have hw : wrap64 ((s[k]'hlt).toNat : Int) = ((s[k]'hlt).toNat : Int) := by
            have := UInt8.toNat_lt (s[k]'hlt)
            unfold wrap64
            omega
          have hbb := byte_bit (s[k]'hlt) m
          have HT := Lib.hid (show p ++ (bitsB (s[k]'hlt)).take (m + 1) = p ++ (bitsB (s[k]'hlt)).take m ++ [(s[k]'hlt).toNat.testBit m] by
            rw [List.take_succ_eq_append_getElem (by rw [bitsB_len]; exact hm8), ← List.append_assoc]
            congr 2
            have := bitsB_get (s[k]'hlt) m hm8
            rw [List.getElem?_eq_getElem (by rw [bitsB_len]; exact hm8)] at this
            injection this)
          have HP := Lib.hid (show 8 * k + m = (iv (p ++ (bitsB (s[k]'hlt)).take m)).length by rw [iv_len, List.length_append, HL.out, List.length_take, bitsB_len]; omega)
          have HREL := Lib.hid hrel
          have hsz := hrel.2.size
          clear hrel
          generalize p ++ (bitsB (s[k]'hlt)).take m = p' at *
          generalize hbit : (s[k]'hlt).toNat.testBit m = b at *
          clear hbit
          go_wp2_with (at_builtin; refine wpList_append_row rfl (.tmp 25) (.tmp 34) 32 rfl el_int (A := A) (c := c) (n := 8 * k + m) (m := 1) (xs := iv p') rfl HP.out (HREL.out.1.alloc _) rfl rfl (told_row wr b) (iv_one [b]) (by rw [← HP.out]; simp [maxLen, iv]; omega) (by rw [← HP.out]; simp [iv]; omega) (by simp; omega) ?_; intro A' c' w1 hown' hg; have R2 := told_snoc HREL.out hown' hg; clear hown' hg)
          go_roundw
          case rel => exact ⟨m + 1, A', c', by omega, by go_num, rfl, by rw [HT.out]; exact R2⟩
          case measure => simp [intOf]; omega
        · obtain rfl : m = 8 := by omega
          rw [List.take_of_length_le (by rw [bitsB_len]; exact Nat.le_refl _)] at hrel
          go_wp2_with fail
          go_roundw
          case rel => exact ⟨k + 1, A, c, by omega, by go_num, rfl, by rw [HN.out]; exact hrel⟩
          case measure => simp [intOf]; omega
    · obtain rfl : k = s.size := by omega
      rw [List.take_of_length_le (by exact Nat.le_refl _)] at hrel
      have R1 : Told w (bitsL (bl s) ++ List.replicate 0 false) A c wr := by simpa using hrel
      have hlen : (bitsL (bl s)).length = 8 * s.size := by rw [bitsL_len, bl_len]
      have HL := Lib.hid hlen
      clear hlen hrel
      go_wp2_with fail
      go_loopw [3, 6] (fun v i wr => ∃ (m : Nat) (A : Option Addr) (c : Nat), m ≤ 32 ∧ i = .int .i64 m ∧ v = .slice A (8 * s.size + m) c ∧ Told w (bitsL (bl s) ++ List.replicate m false) A c wr) (fun _ i _ => 32 - (intOf i).toNat)
      case atStart => exact ⟨0, A, c, by omega, rfl, rfl, R1⟩
      case round =>
        clear R1
        obtain ⟨m, A, c, hm, rfl, rfl, hrel⟩ := hrel
        by_cases hm8 : m < 32
        · have HT := Lib.hid (show bitsL (bl s) ++ List.replicate (m + 1) false = bitsL (bl s) ++ List.replicate m false ++ [false] by
            rw [List.replicate_succ', ← List.append_assoc])
          have HP := Lib.hid (show 8 * s.size + m = (iv (bitsL (bl s) ++ List.replicate m false)).length by rw [iv_len, List.length_append, HL.out, List.length_replicate])
          have HREL := Lib.hid hrel
          have hsz := hrel.2.size
          clear hrel
          generalize bitsL (bl s) ++ List.replicate m false = p' at *
          go_wp2_with (at_builtin; refine wpList_append_row rfl (.tmp 40) (.tmp 41) 32 rfl el_int (A := A) (c := c) (n := 8 * s.size + m) (m := 1) (xs := iv p') rfl HP.out (HREL.out.1.alloc _) rfl rfl (told_row wr false) (iv_one [false]) (by rw [← HP.out]; simp [maxLen, iv]; omega) (by rw [← HP.out]; simp [iv]; omega) (by simp; omega) ?_; intro A' c' w1 hown' hg; have R2 := told_snoc HREL.out hown' hg; clear hown' hg)
          go_roundw
          case rel => exact ⟨m + 1, A', c', by omega, by go_num, rfl, by rw [HT.out]; exact R2⟩
          case measure => simp [intOf]; omega
        · obtain rfl : m = 32 := by omega
          obtain ⟨b, hA, hb1, hb2, hbits⟩ := bits_of_own hrel.1 (by rw [List.length_append, HL.out, List.length_replicate]; omega)
          subst hA
          have hB := hrel.2
          clear hrel
          have hbits2 : Bits wr b (8 * s.size + 32) (flip (mb (bl s)) 0) := by
            rw [List.length_append, HL.out, List.length_replicate] at hbits
            refine hbits.congr fun j hj => ?_
            unfold flip mb
            rw [if_neg (by omega)]
            by_cases hj2 : j < 8 * s.size
            · rw [List.getElem?_append_left (by rw [HL.out]; exact hj2)]
            · rw [List.getElem?_append_right (by rw [HL.out]; omega), List.getElem?_eq_none (l := bitsL (bl s)) (by rw [HL.out]; omega), List.getElem?_replicate]
              split <;> rfl
          clear hbits
          have R2 : FlipRel w b (8 * s.size + 32) (mb (bl s)) 0 wr := ⟨hbits2, hB, hb2⟩
          clear hbits2 hB HL
          generalize hN : 8 * s.size = n8 at *
          have HN := Lib.hid hN
          have hn8 : n8 ≤ 4000 := by omega
          clear hN
          have hl8 : n8 = 8 * (bl s).length := by rw [bl_len]; exact HN.out.symm
          have HL8 := Lib.hid hl8
          clear hl8 HN
          generalize hbls : bl s = l at *
          have HBL := Lib.hid hbls
          clear hbls
          go_wp2_with fail
          go_loopw [8] (fun i wr => ∃ k : Nat, k ≤ 32 ∧ i = .int .i64 k ∧ FlipRel w b (n8 + 32) (mb l) k wr) (fun i _ => 32 - (intOf i).toNat)
          case atStart => exact ⟨0, by omega, rfl, R2⟩
          case round =>
            clear R2
            obtain ⟨k, hk, rfl, hrel⟩ := hrel
            by_cases hlt2 : k < 32
            · have hcf := hrel.1 k (by omega)
              obtain ⟨hc, hf⟩ := hcf
              have hv : flip (mb l) k k = mb l k := by unfold flip; rw [if_neg (by omega)]
              rw [hv] at hc
              have HS := Lib.hid (flip_step hrel (by omega) hb1)
              clear hrel hv
              generalize mb l k = v at *
              unfold ib at hc
              have hv1 := Bool.toNat_le v
              go_wp2_with fail
              go_roundw
              case rel => exact ⟨k + 1, by omega, by go_num, by rw [ib_not]; exact HS.out⟩
              case measure => simp [intOf]; omega
            · obtain rfl : k = 32 := by omega
              have D0 := div_start hrel
              have hqb : wr.heap.size ≠ b := by have := hrel.2.2; omega
              have HQB := Lib.hid hqb
              clear hqb hrel
              go_wp2_with fail
              generalize wr.alloc (.cells pwCells 3) = wd at *
              generalize wr.heap.size = q at *
              go_loopw [10] (fun i wr => ∃ k : Nat, k ≤ n8 ∧ i = .int .i64 k ∧ DivRel w b q (n8 + 32) (st l k) wr) (fun i _ => n8 - (intOf i).toNat)
              case atStart => exact ⟨0, by omega, rfl, D0⟩
              case round =>
                clear D0
                obtain ⟨i, hi, rfl, hrel⟩ := hrel
                by_cases hin : i < n8
                · have hin8 : i < 8 * l.length := by rw [← HL8.out]; exact hin
                  have HIN := Lib.hid hin8
                  clear hin8
                  have hc := (hrel.1 i (by omega)).1
                  by_cases hb : st l i i = true
                  · rw [hb] at hc
                    have hc1 : wr.cell? ⟨b, i, none⟩ = some (.int .i64 1) := hc
                    have I0 : DivRel w b q (n8 + 32) (fun j => xor (st l i j) (hit i 0 j)) wr := by simpa [hit] using hrel
                    have HB := Lib.hid hb
                    clear hc hb hrel
                    go_wp2_with fail
                    clear hc1
                    go_loopw [11] (fun v wr => ∃ k : Nat, k ≤ 15 ∧ v = .int .i64 k ∧ DivRel w b q (n8 + 32) (fun j => xor (st l i j) (hit i k j)) wr) (fun v _ => 15 - (intOf v).toNat)
                    case atStart => exact ⟨0, by omega, rfl, I0⟩
                    case round =>
                      clear I0
                      obtain ⟨k, hk, rfl, hrel⟩ := hrel
                      by_cases hk15 : k < 15
                      · have hpc := hrel.2.1 k hk15
                        have hple := pw_le k
                        have HHS := Lib.hid (fun t ht htN => hit_step (t := t) hrel ht htN HQB.out hb1)
                        have hcell := hrel.1
                        generalize hp : pw[k]?.getD 0 = pk at *
                        have htN : i + 32 - pk < n8 + 32 := by omega
                        obtain ⟨hc2, hf2⟩ := hcell (i + 32 - pk) htN
                        simp only at hc2
                        have HS2 := Lib.hid (HHS.out (i + 32 - pk) rfl htN)
                        have e2 : ((i : Int) + 32 - (pk : Int)) = ((i + 32 - pk : Nat) : Int) := by omega
                        generalize ht : i + 32 - pk = t at *
                        generalize xor (st l i t) (hit i k t) = v at *
                        have hv1 := Bool.toNat_le v
                        unfold ib at hc2
                        have E2 := Lib.hid e2
                        clear hcell HHS hp ht e2 hrel
                        have ht0 : t < n8 + 32 := htN
                        have w1 : IntKind.i64.wrap ((i : Int) + 32) = (i : Int) + 32 := IntWalk.i64_in _ (by omega)
                        have w2 : IntKind.i64.wrap ((i : Int) + 32 - (pk : Int)) = (t : Int) := by rw [E2.out]; exact IntWalk.i64_in _ (by omega)
                        have w3 : IntKind.i64.wrap (1 - (v.toNat : Int)) = 1 - (v.toNat : Int) := IntWalk.i64_in _ (by omega)
                        have w4 : wrap64 (1 - (v.toNat : Int)) = 1 - (v.toNat : Int) := by unfold wrap64; omega
                        have e3 := E2.out
                        go_wp2_with fail
                        go_region
                        clear w1 w2 w3 w4 e3 hc2 hf2 hpc
                        go_wp2_with fail
                        go_roundw
                        case rel => exact ⟨k + 1, by omega, by go_num, by rw [ib_not]; exact HS2.out.drew⟩
                        case measure => simp [intOf]; omega
                      · obtain rfl : k = 15 := by omega
                        go_wp2_with fail
                        go_roundw
                        case rel => exact ⟨i + 1, by omega, by go_num, ⟨hrel.1.congr fun j _ => st_yes l i j HIN.out HB.out, hrel.2⟩⟩
                        case measure => simp [intOf]; omega
                  · have hbf := Bool.eq_false_iff.2 hb
                    rw [hbf] at hc
                    have hc1 : wr.cell? ⟨b, i, none⟩ = some (.int .i64 0) := hc
                    have HR := Lib.hid hrel
                    have HB := Lib.hid hbf
                    clear hc hb hrel hbf
                    go_wp2_with fail
                    go_roundw
                    case rel => exact ⟨i + 1, by omega, by go_num, ⟨HR.out.1.congr fun j _ => st_no l i j HIN.out HB.out, HR.out.2⟩⟩
                    case measure => simp [intOf]; omega
                · obtain rfl : i = n8 := by omega
                  have hbl := hrel.2.2
                  have HBits := Lib.hid (show ∀ k, k < 32 → wr.cell? ⟨b, i + k, none⟩ = some (ib ((crc full l).testBit k)) by
                    intro k hk
                    have := (hrel.1 (i + k) (by omega)).1
                    rw [HL8.out, st_end] at this
                    rw [HL8.out]
                    exact this)
                  clear hrel
                  go_wp2_with fail
                  go_loop [12, 13] (fun v i => ∃ (k : Nat) (z : Int), k ≤ 32 ∧ z + 1 = k ∧ i = .int .i64 z ∧ v = .int .u32 (sum l >>> k : Nat)) (fun _ i => (intOf i + 1).toNat)
                  case atStart => exact ⟨32, 31, by omega, by omega, rfl, by rw [sum_top]; rfl⟩
                  case round =>
                    obtain ⟨k, z, hk, hz, rfl, rfl⟩ := hrel
                    by_cases hz0 : 0 ≤ z
                    · obtain ⟨m, rfl⟩ := Int.eq_ofNat_of_zero_le hz0
                      obtain rfl : k = m + 1 := by omega
                      have hm32 : m < 32 := by omega
                      have hc := HBits.out m hm32
                      have HS := Lib.hid (sum_step l m hm32)
                      have hV : sum l >>> (m + 1) < 2147483648 := by
                        have h1 := sum_lt l
                        have h2 := HS.out
                        have h3 : sum l >>> m ≤ sum l := by rw [Nat.shiftRight_eq_div_pow]; exact Nat.div_le_self _ _
                        omega
                      generalize sum l >>> (m + 1) = V at *
                      clear hz hz0
                      cases hbit : (crc full l).testBit m
                      · rw [hbit] at hc
                        have hc1 : wr.cell? ⟨b, i + m, none⟩ = some (.int .i64 0) := hc
                        have HV := Lib.hid (show ((sum l >>> m : Nat) : Int) = 2 * (V : Int) + 1 by have := HS.out; rw [hbit] at this; rw [← this]; simp)
                        clear hc hbit
                        go_wp2_with fail
                        go_round
                        case rel => exact ⟨m, (m : Int) - 1, by omega, by omega, rfl, by rw [HV.out]⟩
                        case measure => simp [intOf]
                      · rw [hbit] at hc
                        have hc1 : wr.cell? ⟨b, i + m, none⟩ = some (.int .i64 1) := hc
                        have HV := Lib.hid (show ((sum l >>> m : Nat) : Int) = 2 * (V : Int) by have := HS.out; rw [hbit] at this; rw [← this]; simp)
                        clear hc hbit
                        go_wp2_with fail
                        go_round
                        case rel => exact ⟨m, (m : Int) - 1, by omega, by omega, rfl, by rw [HV.out]⟩
                        case measure => simp [intOf]
                    · obtain rfl : k = 0 := by omega
                      have hz1 : z < 0 := by omega
                      go_wp2_with fail
                      go_ret
                      exact ⟨by rw [HBL.out]; rfl, hbl⟩
end Go.Proofs.YtpidnkfcccboaaaGreat.SumRef
