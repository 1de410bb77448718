/- Contracts of Read. -/
import Derived.Test.YtecdindjlfefhaaDiskSmall
namespace Go.Proofs.Ytecdindjlfefhaa.DiskRead
open Go.RowKit Base DiskPlain DiskMem DiskSmall Go.Maps

/-- a new row of 256 noughts -/
def zrow : Array Value := (bv zeros).toArray
theorem zrow_size : zrow.size = 256 := by simp [zrow, bv_len, zeros_len]
theorem mk_run (w : World) : (Instr.makeSlice 45 (.int .i64 256) (.int .i64 256)).run Try.prog w = .ok (.slice (some ⟨w.heap.size, 0, none⟩) 256 256) (w.alloc (.cells zrow 5)) := by
  have h : (Try.prog.info? 5).map (fun i => (i.zero, i.size, i.bytes)) = some (some (.int .u8 0), 1, 1) := by kernel_rfl
  obtain ⟨i, h1, h2, h3, h4⟩ := info_parts h
  have := run_make (P := Try.prog) w 45 5 i _ Try.underlying45 h1 h2 .i64 .i64 256 256 (by omega) (by omega) (by rw [h4]; omega) (by omega)
  have e : madeCells #[Value.int .u8 0] 256 = zrow := by
    apply Array.ext_getElem?
    intro k
    by_cases hk : k < 256
    · rw [show zrow[k]? = some (.int .u8 0) by simp only [zrow, List.getElem?_toArray, bv_at, zeros, List.getElem?_replicate, if_pos hk]; rfl]
      simp [madeCells, hk, Nat.mod_one]
    · rw [Array.getElem?_eq_none (show zrow.size ≤ k by rw [zrow_size]; omega)]
      simp [madeCells, hk]
  rw [this, h3]
  simp only [Value.cells, Nat.mul_one]
  rw [show Int.toNat 256 = 256 from rfl, e]
theorem add_blk (g o j : Nat) : (⟨g, o, none⟩ : Addr).add j = ⟨g, o + j, none⟩ := by unfold Addr.add; split <;> simp_all
/-- copy, where it goes over as far as both reach -/
theorem copy_run {w : World} (ty : TypeId) (g o dLen dCap : Nat) (a : Addr) (sLen sCap : Nat) (cur : Array Value) (t : TypeId) (cs : List Value) (hg : w.heap[g]? = some (.cells cur t (0, 0))) (hn : cs.length = Nat.min sLen dLen)
    (hsrc : ∀ j v, cs[j]? = some v → w.cell? (a.add j) = some v) (hfit : o + cs.length ≤ cur.size) (h1 : ∀ v ∈ cs, v.oneCell' = true) :
    (Builtin.copy_ #[45, 45] ty #[.slice (some ⟨g, o, none⟩) dLen dCap, .slice (some a) sLen sCap]).run Try.prog w = .ok (.int .i64 (cs.length : Int)) (w.setRow g (splice cur.toList o cs).toArray) := by
  have := run_copy_row (P := Try.prog) w 45 45 ty 5 g o dLen dCap a sLen sCap cur t cs Try.underlying45 (by kernel_rfl) hg hn hsrc hfit h1
  rw [this]
  simp [splice, goInt]
theorem setRow_new (w : World) (cur cs : Array Value) (t : TypeId) : (w.alloc (.cells cur t)).setRow w.heap.size cs = w.alloc (.cells cs t) := by
  unfold World.setRow World.alloc
  simp only
  congr 1
  apply Array.ext_getElem?
  intro i
  rw [Array.getElem?_modify, Array.getElem?_push, Array.getElem?_push]
  by_cases h : i = w.heap.size
  · subst h; simp
  · rw [if_neg (fun e => h e.symm), if_neg h, if_neg h]
theorem splice_all {α : Type} (L cs : List α) (h : cs.length = L.length) : splice L 0 cs = cs := by simp [splice, h]
/-- a page's copy into a new row -/
theorem copy_new {w : World} (gs os c : Nat) (l : Pg) (hl : l.length = 256) (hsrc : ∀ j v, (bv l)[j]? = some v → w.cell? ⟨gs, os + j, none⟩ = some v) :
    (Builtin.copy_ #[45, 45] 3 #[.slice (some ⟨w.heap.size, 0, none⟩) 256 256, .slice (some ⟨gs, os, none⟩) 256 c]).run Try.prog (w.alloc (.cells zrow 5)) = .ok (.int .i64 256) (w.alloc (.cells (bv l).toArray 5)) := by
  have hz := zrow_size
  have := copy_run (w := w.alloc (.cells zrow 5)) 3 w.heap.size 0 256 256 ⟨gs, os, none⟩ 256 c zrow 5 (bv l) (heap_alloc_new w _) (by simp [bv_len, hl]) (fun j v hv => by
    have hc := hsrc j v hv
    rw [add_blk, World.cell?_alloc_lt _ _ _ (World.block_lt_of_cell? w _ hc)]
    exact hc) (by simp [bv_len, hl, hz]) (bv_one l)
  rw [this, setRow_new, splice_all _ _ (by simp [bv_len, hl, hz]), bv_len, hl]
  rfl
section
variable {w : World} {g : Nat} {S : DS} {F : Nat → Prop} {A B : Option Addr} {c k m n : Nat} {D : DataW Unit}
theorem key_int (p : Nat) (hp : p ≤ 9223372036854775807) : keyOf Try.prog 3 (.int .i64 (p : Int)) = some (.int .i64 (p : Int)) := keyOf_int_mk Try.underlying3 (WalkArith.wf_i64 (by omega))
theorem law_int : Keyed Try.prog 3 := int_keyed Try.underlying3
theorem zero_int (w : World) : (zeroValue 3).run Try.prog w = .ok (.int .i64 0) w := by kernel_rfl
theorem look_int (h : w.ownsMap Try.prog 3 (plainElem Try.prog 3) m n D) (p : Nat) (hp : p ≤ 9223372036854775807) : ∃ c : Int, (Instr.lookup 61 (.map (some m)) (.int .i64 (p : Int)) true).run Try.prog w = .ok (.tuple #[.int .i64 c, .bool (has D (.int .i64 (p : Int)))]) w ∧ D.atKey (.int .i64 (p : Int)) (.lit (.int .i64 0)) = .lit (.int .i64 c) := by
  obtain ⟨v, ps, hrun, hv⟩ := h.look_ok law_int Try.underlying61 (zero_int w) (plainElem_int Try.underlying3 (by decide)) (key_int p hp)
  obtain ⟨c, rfl, hc, _⟩ := plainElem_int_inv Try.underlying3 hv
  exact ⟨c, hrun, congrArg Prod.fst hc⟩
theorem read_bad (h : Lay w g S A c B k m n D) (p : Int) (hp : S.has p = false) : Calls Try.prog 19 #[.pointer (some ⟨g, 0, none⟩), .int .i64 p] w fun e w' => e = .returned (.tuple #[.slice none 0 0, .int .i64 30]) ∧ w = w' := by
  have hh := has_lay h p
  rw [hp] at hh
  clear h hp
  go_enter Try.func19, Try.ntmps19
  go_wp2_with fail
  refine hh.mono ?_
  rintro e w' ⟨rfl, rfl⟩
  clear hh
  go_wp2_with fail
  go_ret2
  exact ⟨rfl, rfl⟩
set_option maxRecDepth 100000 in
theorem read_miss (h : Lay w g S A c B k m n D) (p : Nat) (hp : p < S.last.length) (hD : has D (.int .i64 (p : Int)) = false) : Calls Try.prog 19 #[.pointer (some ⟨g, 0, none⟩), .int .i64 (p : Int)] w fun e w' =>
    e = .returned (.tuple #[.slice (some ⟨w.heap.size, 0, none⟩) 256 256, .int .i64 0]) ∧ w' = w.alloc (.cells (bv (S.last.getD p [])).toArray 5) := by
  have hlen := h.ok.len4096
  have hh := has_lay h (p : Int)
  rw [has_iff.2 ⟨by omega, by omega⟩] at hh
  have hmk := mk_run
  have h1 : Lay (w.alloc (.cells zrow 5)) g S A c B k m n D := h.same fun i hi => Below.heap_alloc _ _ _ (h.lt i hi)
  obtain ⟨x, hlk, _⟩ := look_int h1.mp p (by omega)
  rw [hD] at hlk
  have c1 := lay1 h1
  have c3 := lay3 h1
  obtain ⟨gA, cur, hA, _⟩ := h.la.form (by omega)
  subst hA
  have hpg := getD_len h.ok.pages hp
  have hcp := copy_new (w := w) gA (p * 256) 256 (S.last.getD p []) hpg (fun j v hv => h.la.cell rfl (by
    have hj : j < 256 := by
      rcases Nat.lt_or_ge j 256 with q | q
      · exact q
      · rw [List.getElem?_eq_none (by rw [bv_len, hpg]; exact q)] at hv; cases hv
    rw [lastCells_at h.ok.pages (b := S.last.getD p []) (by simp [List.getElem?_eq_getElem hp]) hj]
    exact hv))
  clear h1 h hD hpg
  generalize bv (S.last.getD p []) = X at *
  go_enter Try.func19, Try.ntmps19
  go_wp2_with fail
  refine hh.mono ?_
  rintro e w' ⟨rfl, rfl⟩
  clear hh
  go_wp2_with fail
  go_ret2
  exact ⟨rfl, rfl⟩
set_option maxRecDepth 100000 in
theorem read_hit (h : Lay w g S A c B k m n D) (p : Nat) (hp : p < S.last.length) (hD : has D (.int .i64 (p : Int)) = true) (b : Pg) (i : Nat) (hlen2 : S.loose.length ≤ 1000000000) (hi : S.loose[i]? = some (p, b)) (hat : D.atKey (.int .i64 (p : Int)) (.lit (.int .i64 0)) = .lit (.int .i64 (i : Int))) :
    Calls Try.prog 19 #[.pointer (some ⟨g, 0, none⟩), .int .i64 (p : Int)] w fun e w' =>
    e = .returned (.tuple #[.slice (some ⟨w.heap.size, 0, none⟩) 256 256, .int .i64 0]) ∧ w' = w.alloc (.cells (bv b).toArray 5) := by
  have hlen := h.ok.len4096
  have hh := has_lay h (p : Int)
  rw [has_iff.2 ⟨by omega, by omega⟩] at hh
  have hmk := mk_run
  have h1 : Lay (w.alloc (.cells zrow 5)) g S A c B k m n D := h.same fun i hi => Below.heap_alloc _ _ _ (h.lt i hi)
  obtain ⟨x, hlk, hx⟩ := look_int h1.mp p (by omega)
  rw [hD] at hlk
  rw [hat] at hx
  injection hx with hx
  injection hx with _ hx
  subst hx
  have c2 := lay2 h1
  have c3 := lay3 h1
  have hil : i < S.loose.length := (List.getElem?_eq_some_iff.1 hi).1
  obtain ⟨gB, cur, hB, _⟩ := h.lo.form (by omega)
  subst hB
  have hpg := h.ok.wlen (p, b) (List.mem_of_getElem? hi)
  have hcp := copy_new (w := w) gB (i * 257 + 1) 256 b hpg (fun j v hv => h.lo.cell rfl (by
    have hj : j < 256 := by
      rcases Nat.lt_or_ge j 256 with q | q
      · exact q
      · rw [List.getElem?_eq_none (by rw [bv_len, hpg]; exact q)] at hv; cases hv
    rw [looseCells_at h.ok.wlen hi hj]
    exact hv))
  clear h1 h hD hpg hi hat
  generalize bv b = X at *
  go_enter Try.func19, Try.ntmps19
  go_wp2_with fail
  refine hh.mono ?_
  rintro e w' ⟨rfl, rfl⟩
  clear hh
  go_wp2_with fail
  go_ret2
  exact ⟨rfl, rfl⟩
/-- Read of a page that is there -/
theorem read_lay (h : Lay w g S A c B k m n D) (p : Nat) (hp : p < S.last.length) (hlen2 : S.loose.length ≤ 1000000000) :
    Calls Try.prog 19 #[.pointer (some ⟨g, 0, none⟩), .int .i64 (p : Int)] w fun e w' =>
    e = .returned (.tuple #[.slice (some ⟨w.heap.size, 0, none⟩) 256 256, .int .i64 0]) ∧ w' = w.alloc (.cells (bv (S.rd p)).toArray 5) := by
  cases hD : has D (.int .i64 (p : Int)) with
  | false =>
    rw [show S.rd p = S.last.getD p [] from over_miss _ ((h.nw p).2 hD)]
    exact read_miss h p hp hD
  | true =>
    obtain ⟨i, b, h1, h2, h3⟩ := (h.nw p).1 hD
    rw [show S.rd p = b from over_hit h2 h3 _]
    exact read_hit h p hp hD b i hlen2 h2 h1
end
end Go.Proofs.Ytecdindjlfefhaa.DiskRead
