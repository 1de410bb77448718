/- DiskGrow, DiskWrite, DiskSync. -/
import Derived.Test.YtpidnkfcccboaaaGreatKDiskRead
import Derived.Deep.RegionLaw
import Derived.RegionTactic
namespace Go.Proofs.YtpidnkfcccboaaaGreat.DiskGrow
open Go.RowKit Base DiskPlain DiskMem DiskSmall DiskRead Go.Maps

theorem zeroCells_rep (v : Value) (k n : Nat) (hk : 0 < k) : (Builtin.zeroCells (Array.replicate k v) n).toList = List.replicate (n * k) v := by
 apply List.ext_getElem?
 intro i
 simp only [Builtin.zeroCells, Array.size_replicate, Array.getElem?_toList, List.getElem?_replicate]
 by_cases h : i < n * k
 ·rw [if_pos h, Array.getElem?_eq_getElem (by simpa using h)]
  simp [Nat.mod_lt i hk]
 ·rw [if_neg h, Array.getElem?_eq_none (by simpa using h)]
section
variable {P : Program} {w : World}
/-- an append whose run is known, as one step of a region that draws its order, and of one that doesn't -/
theorem step_append_run {ops : Array Oper} {o : Oper} {a : Act} {K : Act → World → Prop} {Q : Exit → Act → World → Prop} {E : Prop} (hg : o.guard = none) (s x : Operand) (t u : TypeId)
  (hop : o.op = Op.call { callee := Callee.builtin Builtin.append, args := #[s, x], argTypes := #[t, u] }) {vs vx v : Value} {w' : World} (hs : a.eval s = vs) (hx : a.eval x = vx)
  (hrun : (Builtin.append_ #[t, u] o.type #[vs, vx]).run P w = .ok v w') (hK : K (a.put o.dst v) w') : if Region.wanted o (yielded ops a.tmps) = true then Oper.wp P o a w K Q else E := by
 have hw : Region.wanted o (yielded ops a.tmps) = true := by simp [Region.wanted, hg]
 rw [if_pos hw]
 unfold Oper.wp
 simp [execOp, hop, resolve, invoke, builtin, hs, hx, hrun, Result.andThen]
 exact hK
theorem wpList_append_run {ops : Array Oper} {rest : List Oper} {o : Oper} {a : Act} {Q : Exit → Act → World → Prop} (hgd : o.guard = none) (s x : Operand) (t u : TypeId)
  (hop : o.op = Op.call { callee := Callee.builtin Builtin.append, args := #[s, x], argTypes := #[t, u] }) {vs vx v : Value} {w' : World} (hs : a.eval s = vs) (hx : a.eval x = vx)
  (hrun : (Builtin.append_ #[t, u] o.type #[vs, vx]).run P w = .ok v w') (h : wpList P ops Q rest (a.put o.dst v) w') : wpList P ops Q (o :: rest) a w := by
 refine wpList_plain hgd fun K hK => ?_
 unfold Oper.wp
 simp [execOp, hop, resolve, invoke, builtin, hs, hx, hrun, Result.andThen]
 exact hK _ _ h
/-- 'append(s, make([]T, m)...)' -/
theorem append_zeros {t ti ty e : TypeId} {i : TypeInfo} {z : Value} (size bytes : Nat) (ht : P.underlying t = some (.slice e)) (hti : P.underlying ti = some (.int .i64)) (hi : P.info? e = some i) (hz : i.zero = some z) (hsize : i.size = size) (hby : i.bytes = bytes) (hzs : z.cells.size = size) (hsz : 0 < size)
  {A : Option Addr} {n c : Nat} {xs : List Value} (hown : Wd w e size A n c xs) (m : Nat) (hm : 0 < m) (h1 : ∀ u ∈ (Builtin.zeroCells z.cells m).toList, u.oneCell' = true) (h63 : n + m ≤ 1000000000) (hbytes : (n + m) * bytes ≤ 140737488355328) :
  ∃ A' c' w', (Builtin.append_ #[t, ti] ty #[.slice A n c, .int .i64 (m : Int)]).run P w = .ok (.slice A' (n + m) c') w' ∧ Wd w' e size A' (n + m) c' (xs ++ (Builtin.zeroCells z.cells m).toList) ∧ w.grownBy w' (A.map (·.block)) ∧
   (A'.map (·.block) = A.map (·.block) ∨ A'.map (·.block) = some w.heap.size) := by
 subst hsize
 subst hby
 have hw : IntKind.i64.wrap (m : Int) = m := IntWalk.i64_in _ (by omega)
 have hne : ¬ (m * i.size = 0) := fun h => by rcases Nat.mul_eq_zero.1 h with h | h <;> omega
 have hmb : m * i.bytes ≤ 140737488355328 := Nat.le_trans (Nat.mul_le_mul_right _ (by omega)) hbytes
 have hmb' : ¬ (281474976710656 < (m : Int) * (i.bytes : Int)) := by rw [← Int.natCast_mul]; omega
 have hneg : ¬ ((m : Int) < 0) := by omega
 have hzl : (Builtin.zeroCells z.cells m).size = m * i.size := by rw [size_zeroCells, hzs]
 have hmx : n + m ≤ maxLen := by unfold maxLen; omega
 have hlen : (xs ++ (Builtin.zeroCells z.cells m).toList).length = (n + m) * i.size := by rw [List.length_append, hown.1, Array.length_toList, hzl, Nat.add_mul]
 have grown : ∀ (old : Nat), old < n + m → ∀ (row : Option Nat),
   Wd (w.drew.alloc (.cells (xs.toArray ++ Builtin.zeroCells z.cells m ++ Builtin.zeroCells z.cells (grownCap w (n + m) old e - (n + m))) e)) e i.size (some ⟨w.heap.size, 0, none⟩) (n + m) (grownCap w (n + m) old e) (xs ++ (Builtin.zeroCells z.cells m).toList) ∧
   w.grownBy (w.drew.alloc (.cells (xs.toArray ++ Builtin.zeroCells z.cells m ++ Builtin.zeroCells z.cells (grownCap w (n + m) old e - (n + m))) e)) row := by
  intro old ho row
  have hge := grownCap_ge w (n + m) old e
  have hcm : grownCap w (n + m) old e ≤ maxLen := grownCap_le_maxLen w (n + m) old e hmx
  refine ⟨⟨hlen, .inr ⟨w.heap.size, _, _, rfl, Nat.zero_le _, heap_alloc_new w.drew _, hge, hcm, ?_, ?_⟩⟩, ⟨rfl, rfl, rfl, by simp, fun k hk _ => Below.heap_alloc w.drew _ k hk⟩⟩
  ·simp only [Array.size_append, List.size_toArray, size_zeroCells, hzs, hown.1, ← Nat.add_mul]
   congr 1
   omega
  ·simp only [Array.toList_append, List.append_assoc]
   rw [← List.append_assoc, ← hlen]
   exact List.take_left
 rcases hown.2 with ⟨h2, rfl⟩ | ⟨g, cap, cur, h2, _, hg, hnc, hcm, hcs, htake⟩
 ·injection h2 with h3 _ h4
  subst h3 h4
  have hx : xs = [] := List.eq_nil_of_length_eq_zero (by simpa using hown.1)
  subst hx
  have h63' : ¬ (9223372036854775807 < (m : Int)) := by omega
  have h48' : ¬ (281474976710656 < Builtin.nextslicecap m 0 * i.bytes) := by rw [nextslicecap_zero hm]; omega
  have hm0 : ¬ (m = 0) := by omega
  have hgr := grown 0 (by omega) (Option.map (·.block) (none : Option Addr))
  simp only [Nat.zero_add, List.nil_append, Array.empty_append] at hgr ⊢
  refine ⟨_, _, _, ?_, hgr.1, hgr.2, .inr rfl⟩
  simp [Builtin.append_, run_underlying ht, run_underlying hti, sizeOf, typeInfo, zeroValue, hi, hz, asInt, asIntOf, hw, hneg, hmb', h63', h48', hm0, Question.forced, Builtin.firstCells, newRow, grownCap]
  intro h0; exact absurd h0 hne
 ·injection h2 with h3 _ h4
  subst h3 h4
  by_cases hroom : n + m ≤ c
  ·have hfit : n * i.size + (Builtin.zeroCells z.cells m).toList.length ≤ cur.size := by rw [Array.length_toList, hzl, hcs, ← Nat.add_mul]; exact Nat.mul_le_mul_right _ hroom
   have hst := run_storeCells_at P g (n * i.size) e (Builtin.zeroCells z.cells m).toList 0 cur w hg (by simpa using hfit) h1
   simp only [Nat.add_zero] at hst
   have hr : (Builtin.append_ #[t, ti] ty #[.slice (some ⟨g, 0, none⟩) n c, .int .i64 (m : Int)]).run P w = .ok (.slice (some ⟨g, 0, none⟩) (n + m) c) (w.setRow g (cur.toList.take (n * i.size) ++ (Builtin.zeroCells z.cells m).toList ++ cur.toList.drop (n * i.size + (Builtin.zeroCells z.cells m).toList.length)).toArray) := by
    simp [Builtin.append_, run_underlying ht, run_underlying hti, sizeOf, typeInfo, zeroValue, hi, hz, asInt, asIntOf, hw, hneg, hmb', hroom, Addr.add_lit, hst]
    intro h0; exact absurd h0 hne
   refine ⟨some ⟨g, 0, none⟩, c, _, hr, ⟨hlen, .inr ⟨g, c, _, rfl, Nat.zero_le _, setRow_heap w g cur _ e _ hg, hroom, hcm, ?_, ?_⟩⟩, ⟨rfl, rfl, rfl, by simp, fun k _ hk => setRow_other w g k _ (fun e => hk (by simp [e]))⟩, .inl rfl⟩
   ·simp only [List.size_toArray, List.length_append, List.length_take, List.length_drop, Array.length_toList] at hfit ⊢
    omega
   ·rw [htake, ← hlen]
    exact List.take_left
  ·have hfo := run_firstCells_some (P := P) w.drew i.size n ⟨g, 0, none⟩ n c xs hown.1 (fun j u hu => by simpa using World.ownsRow.cells hown (g := g) rfl j u hu)
   have h63' : ¬ (9223372036854775807 < ((n : Int) + (m : Int))) := by omega
   have h48' : ¬ (281474976710656 < Builtin.nextslicecap (n + m) c * i.bytes) := by have := growslice_fits (old := c) (need := n + m) (by omega) hbytes; omega
   have hgr := grown c (by omega) (Option.map (·.block) (some (⟨g, 0, none⟩ : Addr)))
   refine ⟨_, _, _, ?_, hgr.1, hgr.2, .inr rfl⟩
   simp [Builtin.append_, run_underlying ht, run_underlying hti, sizeOf, typeInfo, zeroValue, hi, hz, asInt, asIntOf, hw, hneg, hmb', h63', h48', hroom, Question.forced, hfo, newRow, grownCap]
   intro h0; exact absurd h0 hne
end
/-- its lasting row written anew, the rest as it was -/
theorem _root_.Go.Proofs.YtpidnkfcccboaaaGreat.DiskMem.Lay.relast {w w2 : World} {g : Nat} {S S' : DS} {A B A' : Option Addr} {c k m n c' : Nat} {D : DataW Unit} (h : Lay w g S A c B k m n D) (hs : ∀ i, i < w.heap.size → i ≠ g → A.map (·.block) ≠ some i → w2.heap[i]? = w.heap[i]?)
  (hla : Wd w2 147 256 A' S'.last.length c' (lastCells S'.last)) (hlo : S'.loose = S.loose) (hok : S'.Ok)
  (hst : At w2 g 107 #[.int .i64 S'.most, .slice A' S'.last.length c', .slice B S.loose.length k, .map (some m), .bool S'.fused, .int .i64 S'.left]) : Lay w2 g S' A' c' B k m n D := by
 have own : ∀ i, A.map (·.block) = some i → (Value.slice A S.last.length c).ownBlock = some i := by intro i hi; cases A with
  | none => cases hi
  | some a => simpa [Value.ownBlock] using hi
 refine ⟨by rw [hlo]; exact hst, hla, ?_, map_same h.mp (hs m h.mp.lt h.neM (fun e => (h.neA (own m e)).2.1 rfl)), by rw [hlo]; exact h.nw, by rw [hlo]; exact h.nn, hok⟩
 rw [hlo]
 exact h.lo.same fun i hi => hs i (h.lo.blk i hi) (h.neB hi).1 (fun e => (h.neB hi).2.2.1 (own i e))
theorem sheet_info : (Tryz.prog.info? 147).map (fun i => (i.zero, i.size, i.bytes)) = some (some (.agg (Array.replicate 256 (.int .u8 0))), 256, 256) := by kernel_rfl
section
variable {w : World} {g : Nat} {S : DS} {F : Nat → Prop} {A B : Option Addr} {c k m n : Nat} {D : DataW Unit}
theorem grow_full (h : Lay w g S A c B k m n D) (x : Int) (hx : S.most < x) : Calls Tryz.prog 66 #[.pointer (some ⟨g, 0, none⟩), .int .i64 x] w fun e w' => e = .returned (.int .i64 32) ∧ w = w' := by
 have c0 := lay0 h
 clear h
 generalize S.most = y at *
 go_enter Tryz.func66, Tryz.ntmps66
 go_wp2_with fail
 go_ret
 exact ⟨rfl, rfl⟩
theorem grow_dead (h : Lay w g S A c B k m n D) (x : Int) (hx : x ≤ S.most) (hd : S.dead = true) : Calls Tryz.prog 66 #[.pointer (some ⟨g, 0, none⟩), .int .i64 x] w fun e w' => e = .returned (.int .i64 33) ∧ w = w' := by
 have c0 := lay0 h
 have hdd := dead_lay h
 rw [hd] at hdd
 clear h hd
 generalize S.most = y at *
 go_enter Tryz.func66, Tryz.ntmps66
 go_wp2_with fail
 refine hdd.mono ?_
 rintro e w' ⟨rfl, rfl⟩
 clear hdd
 go_wp2_with fail
 go_ret
 exact ⟨rfl, rfl⟩
theorem grow_less (h : Lay w g S A c B k m n D) (x : Int) (hx : x ≤ S.most) (hd : S.dead = false) (hl : x ≤ S.last.length) : Calls Tryz.prog 66 #[.pointer (some ⟨g, 0, none⟩), .int .i64 x] w fun e w' => e = .returned (.int .i64 0) ∧ w = w' := by
 have c0 := lay0 h
 have c1 := lay1 h
 have hdd := dead_lay h
 rw [hd] at hdd
 clear h hd
 generalize S.most = y at *
 generalize S.last.length = z at *
 go_enter Tryz.func66, Tryz.ntmps66
 go_wp2_with fail
 refine hdd.mono ?_
 rintro e w' ⟨rfl, rfl⟩
 clear hdd
 go_wp2_with fail
 go_ret
 exact ⟨rfl, rfl⟩
set_option maxRecDepth 100000 in
theorem grow_more (h : Lay w g S A c B k m n D) (x : Nat) (hx : (x : Int) ≤ S.most) (hd : S.dead = false) (hl : S.last.length < x) : Calls Tryz.prog 66 #[.pointer (some ⟨g, 0, none⟩), .int .i64 (x : Int)] w fun e w' => e = .returned (.int .i64 0) ∧ 
  ∃ A' c', Lay w' g (S.grown x) A' c' B k m n D ∧ Turn (Parts g A B m) w w' ∧ (A'.map (·.block) = A.map (·.block) ∨ A'.map (·.block) = some w.heap.size) := by
 have c0 := lay0 h
 have c1 := lay1 h
 have hlen := h.ok.len4096
 have hm := h.ok.m2
 have hdd := dead_lay h
 rw [hd] at hdd
 obtain ⟨i, h1, h2, h3, h4⟩ := info_parts sheet_info
 obtain ⟨A', c', w1, hrun, hw1, hgr, hpl⟩ := append_zeros (w := w.drew) (t := 104) (ti := 3) (ty := 104) 256 256 Tryz.underlying104 Tryz.underlying3 h1 h2 h3 h4 (by simp [Value.cells]) (by omega) (show Wd w.drew _ _ _ _ _ _ from h.la) (x - S.last.length) (by omega) (by
  simp only [Value.cells]; rw [zeroCells_rep _ _ _ (by omega)]; intro u hu; rw [(List.mem_replicate.1 hu).2]; rfl) (by omega) (by omega)
 simp only [Value.cells] at hw1
 rw [zeroCells_rep _ _ _ (by omega), ← lastCells_zeros, ← lastCells_append] at hw1
 have hx1 : ((x - S.last.length : Nat) : Int) = (x : Int) - S.last.length := by omega
 have hx2 : S.last.length + (x - S.last.length) = x := by omega
 rw [hx1, hx2] at hrun
 rw [hx2] at hw1
 have hst : At w1 g 107 #[.int .i64 S.most, .slice A S.last.length c, .slice B S.loose.length k, .map (some m), .bool S.fused, .int .i64 S.left] := h.st.same (hgr.block g h.st.lt (fun e => (h.neA (i := g) (by
  cases A with
  | none => cases e
  | some a => simpa [Value.ownBlock] using e.symm)).1 rfl))
 have d1 : w1.cell? ⟨g, 1, none⟩ = some (.slice A S.last.length c) := by rw [hst.cell]; rfl
 have f1 := hst.frozen 1
 have HL := Lib.hid (show Lay (w1.setCell ⟨g, 1, none⟩ (.slice A' x c')) g (S.grown x) A' c' B k m n D from by
  have hlg : (S.grown x).last.length = x := by simp [DS.grown]; omega
  have hng : A'.map (·.block) ≠ some g := by
   rcases hpl with e | e
   ·rw [e]; intro q; exact (h.neA (i := g) (by
     cases A with
     | none => cases q
     | some a => simpa [Value.ownBlock] using q)).1 rfl
   ·rw [e]; intro q; injection q with q; have := h.st.lt; rw [World.size_drew] at q; omega
  refine h.relast (fun i hi h1 h2 => (Below.heap_setCell w1 _ _ i h1).trans (hgr.block i hi (fun e => h2 e.symm))) ?_ rfl (h.ok.grown hx) ?_
  ·rw [hlg]
   have : (S.grown x).last = S.last ++ List.replicate (x - S.last.length) zeros := by simp [DS.grown]
   rw [this]
   exact hw1.same fun i hi => Below.heap_setCell w1 _ _ i (fun e => hng (by have q := own_blk hi; rw [e] at q; exact q))
  ·rw [hlg]
   have := hst.set 1 (.slice A' x c')
   simpa [DS.grown] using this)
 have HT := Lib.hid (show Turn (Parts g A B m) w (w1.setCell ⟨g, 1, none⟩ (.slice A' x c')) from by
  have ht : Turn (Parts g A B m) w w1 := Turn.ofGrown (show w.grownBy w1 _ from ⟨hgr.os, hgr.tape, hgr.output, hgr.size, hgr.block⟩) fun i e _ => .inr (.inl e)
  exact ht.set ⟨g, 1, none⟩ (.inr (.inl rfl)) _)
 clear h hd h1 h2 h3 h4 hw1 hgr hst hx1 hx2
 generalize S.most = y at *
 generalize S.last.length = z at *
 go_enter Tryz.func66, Tryz.ntmps66
 go_wp2_with fail
 refine hdd.mono ?_
 rintro e w' ⟨rfl, rfl⟩
 clear hdd
 go_wp2_with fail
 have hwr : IntKind.i64.wrap ((x : Int) - z) = x - z := IntWalk.i64_in _ (by omega)
 go_region_law (refine step_append_run rfl (.tmp 24) (.tmp 31) 104 3 rfl (by simp [Act.eval, Act.put]) (by simp [Act.eval, Act.put]) hrun ?_)
 all_goals
  go_wp2_with fail
  go_ret
  exact ⟨rfl, A', c', HL.out, HT.out, hpl⟩
theorem went_same (h : Dk w g S F) : Went F g w S w := by
 obtain ⟨A, c, B, k, m, n, D, h, hp⟩ := h
 exact went_mk h (fun i hi => .inl (hp i hi)) (Turn.refl _ _)
/-- Grow, whatever is asked -/
theorem grow_dk (h : Dk w g S F) (x : Int) : Calls Tryz.prog 66 #[.pointer (some ⟨g, 0, none⟩), .int .i64 x] w fun e w' => e = .returned (.int .i64 (S.growE x)) ∧ Went F g w (S.grow x) w' := by
 have hs := went_same h
 obtain ⟨A, c, B, k, m, n, D, h, hp⟩ := h
 unfold DS.growE DS.grow
 by_cases h1 : S.most < x
 ·rw [if_pos h1, if_pos h1]
  exact (grow_full h x h1).mono fun e w' ⟨he, hw⟩ => ⟨he, hw ▸ hs⟩
 ·rw [if_neg h1, if_neg h1]
  cases hd : S.dead with
  | true => exact (grow_dead h x (by omega) hd).mono fun e w' ⟨he, hw⟩ => ⟨by simpa using he, by simpa using hw ▸ hs⟩
  | false =>
   by_cases h2 : x ≤ S.last.length
   ·have e0 : S.grown x = S := by
     have : x.toNat - S.last.length = 0 := by omega
     simp [DS.grown, this]
    exact (grow_less h x (by omega) hd h2).mono fun e w' ⟨he, hw⟩ => ⟨by simpa using he, by simpa [e0] using hw ▸ hs⟩
   ·obtain ⟨y, rfl⟩ := Int.eq_ofNat_of_zero_le (show 0 ≤ x by omega)
    refine (grow_more h y (by omega) hd (by omega)).mono fun e w' ⟨he, A', c', hl, ht, hpl⟩ => ⟨by simpa using he, ?_⟩
    simp only [Bool.false_eq_true, if_false]
    refine went_mk hl (fun i hi => ?_) (ht.mono fun i _ => hp i)
    rcases hi with hi | hi | hi | hi
    ·exact .inl (hp i (.inl hi))
    ·rcases hpl with e | e
     ·rw [e] at hi; exact .inl (hp i (.inr (.inl hi)))
     ·rw [e] at hi; injection hi with hi; exact .inr (by omega)
    ·exact .inl (hp i (.inr (.inr (.inl hi))))
    ·exact .inl (hp i (.inr (.inr (.inr hi))))
end
end Go.Proofs.YtpidnkfcccboaaaGreat.DiskGrow
namespace Go.Proofs.YtpidnkfcccboaaaGreat.DiskWrite
open Go.RowKit Base DiskPlain DiskMem DiskSmall DiskRead DiskGrow Go.Maps

/-- a loose write's cells: a page's number, and bytes -/
def wcell (p : Int) (l : List UInt8) : Array Value := (Value.int .i64 p :: bv l).toArray
theorem wcell_size (p : Int) {l : List UInt8} (h : l.length = 256) : (wcell p l).size = 257 := by simp [wcell, bv_len, h]
theorem zero_w (w : World) : (zeroValue 149).run Tryz.prog w = .ok (.agg (wcell 0 zeros)) w := by kernel_rfl
theorem wcell_one (p : Int) (l : List UInt8) : ∀ v ∈ (wcell p l).toList, v.oneCell' = true := by
 intro v hv
 rcases List.mem_cons.1 hv with rfl | hv
 ·rfl
 ·exact bv_one l v hv
theorem wcell_set (p : Int) (l : List UInt8) : (wcell 0 l).setIfInBounds 0 (.int .i64 p) = wcell p l := by simp [wcell]
theorem stores_w (w : World) (p q : Int) (l l' : List UInt8) (h : l.length = 256) (h' : l'.length = 256) :
  (storeCells ⟨w.heap.size, 0, none⟩ (wcell p l).toList).run Tryz.prog (w.alloc (.cells (wcell q l') 149)) = .ok () (w.alloc (.cells (wcell p l) 149)) := by
 have e := run_storeCells_from (P := Tryz.prog) w.heap.size 149 (wcell p l).toList 0 (wcell q l') (w.alloc (.cells (wcell q l') 149)) (heap_alloc_new w _) (by simp [wcell_size p h, wcell_size q h']) (wcell_one p l)
 rw [e, setRow_new]
 simp
/-- the argument's bytes go over into the write -/
theorem copy_w {w : World} (p : Int) (a : Addr) (c : Nat) (l : Pg) (hl : l.length = 256) (hsrc : ∀ j v, (bv l)[j]? = some v → w.cell? (a.add j) = some v) :
  (Builtin.copy_ #[96, 96] 3 #[.slice (some ⟨w.heap.size, 1, none⟩) 256 256, .slice (some a) 256 c]).run Tryz.prog (w.alloc (.cells (wcell p zeros) 149)) = .ok (.int .i64 256) (w.alloc (.cells (wcell p l) 149)) := by
 have hz := wcell_size p zeros_len
 have := copy_run (w := w.alloc (.cells (wcell p zeros) 149)) 3 w.heap.size 1 256 256 a 256 c (wcell p zeros) 149 (bv l) (heap_alloc_new w _) (by simp [bv_len, hl]) (fun j v hv => by
  have hc := hsrc j v hv
  rw [World.cell?_alloc_lt _ _ _ (World.block_lt_of_cell? w _ hc)]
  exact hc) (by simp [bv_len, hl, hz]) (bv_one l)
 rw [this, setRow_new, bv_len, hl]
 have e : splice (wcell p zeros).toList 1 (bv l) = (wcell p l).toList := by
  simp [splice, wcell, bv_len, hl, zeros_len]
 rw [e]
 rfl
theorem own_of {A : Option Addr} {n c i : Nat} (h : A.map (·.block) = some i) : (Value.slice A n c).ownBlock = some i := by
 cases A with
 | none => cases h
 | some a => simpa [Value.ownBlock] using h
theorem own_eq (A : Option Addr) (n c : Nat) : (Value.slice A n c).ownBlock = A.map (·.block) := by cases A <;> rfl
/-- append onto a row of wide things -/
theorem append_wide {P : Program} {w : World} {t ty e : TypeId} {i : TypeInfo} {z : Value} (size bytes : Nat) (ht : P.underlying t = some (.slice e)) (hi : P.info? e = some i) (hz : i.zero = some z) (hsize : i.size = size) (hby : i.bytes = bytes) (hzs : z.cells.size = size) (hsz : 0 < size)
  {A : Option Addr} {n c : Nat} {xs : List Value} (hown : Wd w e size A n c xs) (ad : Addr) (m c2 : Nat) (news : List Value) (hl : news.length = m * size) (hnews : ∀ j u, news[j]? = some u → w.cell? (ad.add j) = some u) (h1 : ∀ u ∈ news, u.oneCell' = true) (h63 : n + m ≤ 1000000000) (hbytes : (n + m) * bytes ≤ 140737488355328) :
  ∃ A' c' w', (Builtin.append_ #[t, t] ty #[.slice A n c, .slice (some ad) m c2]).run P w = .ok (.slice A' (n + m) c') w' ∧ Wd w' e size A' (n + m) c' (xs ++ news) ∧ w.grownBy w' (A.map (·.block)) ∧
   (A'.map (·.block) = A.map (·.block) ∨ A'.map (·.block) = some w.heap.size) := by
 obtain ⟨v', w', hrun, h2, h3, _, h5⟩ := run_append_own_at (P := P) w 0 t ty e i z size bytes ht hi hz hsize hby hzs hsz _ n xs hown ad m c2 news hl hnews h1 (by unfold maxLen; omega) hbytes (Nat.zero_le _)
 have hform : ∃ A' c', v' = .slice A' (n + m) c' := by
  rcases h2.2 with ⟨h4, h5⟩ | ⟨g, cap, cur, h4, _⟩
  ·exact ⟨none, 0, by rw [h4, h5]⟩
  ·exact ⟨_, _, h4⟩
 obtain ⟨A', c', rfl⟩ := hform
 rw [own_eq] at h3
 rw [own_eq, own_eq] at h5
 exact ⟨A', c', w', hrun, h2, h3, h5⟩
theorem write_info : (Tryz.prog.info? 149).map (fun i => (i.zero, i.size, i.bytes)) = some (some (.agg (wcell 0 zeros)), 257, 264) := by kernel_rfl
theorem fold_list : ∀ (L : List Value) (k : Nat) (A : Array Value), k + L.length ≤ A.size → ∀ i, ((L.zipIdx k).foldl (fun cs x => cs.setIfInBounds x.snd x.fst) A)[i]? = if k ≤ i ∧ i < k + L.length then L[i - k]? else A[i]?
 | [], k, A, _, i => by simp; omega
 | v :: L, k, A, h, i => by
  rw [List.zipIdx_cons, List.foldl_cons, fold_list L (k + 1) _ (by simp at h ⊢; omega) i]
  simp only [List.length_cons] at h ⊢
  by_cases h1 : k + 1 ≤ i ∧ i < k + 1 + L.length
  ·rw [if_pos h1, if_pos (by omega), show i - k = (i - (k + 1)) + 1 by omega]
   simp
  ·rw [if_neg h1]
   by_cases h2 : i = k
   ·subst h2
    rw [if_pos (by omega), Nat.sub_self, Array.getElem?_setIfInBounds_self_of_lt (by omega)]
    simp
   ·rw [if_neg (by omega), Array.getElem?_setIfInBounds_ne (by omega)]
theorem fold_all (Z X : Array Value) (h : Z.size = X.size) : Array.foldl (fun cs x => cs.setIfInBounds x.snd x.fst) Z X.zipIdx 0 X.size = X := by
 have e : Array.foldl (fun cs x => cs.setIfInBounds x.snd x.fst) Z X.zipIdx 0 X.size = (X.toList.zipIdx 0).foldl (fun (cs : Array Value) x => cs.setIfInBounds x.snd x.fst) Z := by
  have : X.size = X.zipIdx.size := by simp
  rw [this, ← Array.foldl_toList]
  simp
 rw [e]
 apply Array.ext_getElem?
 intro i
 rw [fold_list _ 0 Z (by simp [h]) i]
 by_cases hi : i < X.size
 ·simp [hi]
 ·simp [hi, h]
/-- the size of a loose write, under a name: the walk unfolds no load of so many cells -/
theorem size_w : ∃ N : Nat, N = 257 ∧ ∀ w : World, (sizeOf 149).run Tryz.prog w = .ok N w := ⟨257, rfl, fun w => by kernel_rfl⟩
theorem ldN {w : World} {G o : Nat} {cs : List Value} (h : ∀ j v, cs[j]? = some v → w.cell? ⟨G, o + j, none⟩ = some v) : (loadCellsFrom ⟨G, o, none⟩ 0 cs.length #[]).run Tryz.prog w = .ok cs.toArray w :=
 run_loadCells_list (P := Tryz.prog) w ⟨G, o, none⟩ cs fun j v hv => by rw [add_blk]; exact h j v hv
section
variable {w : World} {g : Nat} {S : DS} {F : Nat → Prop} {A B : Option Addr} {c k m n : Nat} {D : DataW Unit}
theorem write_bad (h : Lay w g S A c B k m n D) (p : Int) (v : Value) (hp : S.has p = false) : Calls Tryz.prog 83 #[.pointer (some ⟨g, 0, none⟩), .int .i64 p, v] w fun e w' => e = .returned (.int .i64 30) ∧ w = w' := by
 have hh := has_lay h p
 rw [hp] at hh
 clear h hp
 go_enter Tryz.func83, Tryz.ntmps83
 go_wp2_with fail
 refine hh.mono ?_
 rintro e w' ⟨rfl, rfl⟩
 clear hh
 go_wp2_with fail
 go_ret
 exact ⟨rfl, rfl⟩
theorem write_size (h : Lay w g S A c B k m n D) (p : Int) (a : Option Addr) (l b : Nat) (hp : S.has p = true) (hl : l ≠ 256) : Calls Tryz.prog 83 #[.pointer (some ⟨g, 0, none⟩), .int .i64 p, .slice a l b] w fun e w' => e = .returned (.int .i64 31) ∧ w = w' := by
 have hh := has_lay h p
 rw [hp] at hh
 clear h hp
 have hb : (((l : Nat) : Int) != 256) = true := by simp; omega
 have HL := Lib.hid hl
 clear hl
 go_enter Tryz.func83, Tryz.ntmps83
 go_wp2_with fail
 refine hh.mono ?_
 rintro e w' ⟨rfl, rfl⟩
 clear hh
 go_wp2_with fail
 go_ret
 exact ⟨rfl, rfl⟩
theorem write_dead (h : Lay w g S A c B k m n D) (p : Int) (a : Option Addr) (b : Nat) (hp : S.has p = true) (hd : S.dead = true) : Calls Tryz.prog 83 #[.pointer (some ⟨g, 0, none⟩), .int .i64 p, .slice a 256 b] w fun e w' => e = .returned (.int .i64 33) ∧ w = w' := by
 have hh := has_lay h p
 rw [hp] at hh
 have hdd := dead_lay h
 rw [hd] at hdd
 clear h hp hd
 go_enter Tryz.func83, Tryz.ntmps83
 go_wp2_with fail
 refine hh.mono ?_
 rintro e w' ⟨rfl, rfl⟩
 clear hh
 go_wp2_with fail
 refine hdd.mono ?_
 rintro e w' ⟨rfl, rfl⟩
 clear hdd
 go_wp2_with fail
 go_ret
 exact ⟨rfl, rfl⟩
set_option maxRecDepth 100000 in
theorem write_good (h : Lay w g S A c B k m n D) (p : Nat) (a : Addr) (b : Nat) (l : Pg) (hl : l.length = 256) (hp : p < S.last.length) (hd : S.dead = false) (hll : S.loose.length ≤ 100000000) (hrow : ∀ j v, (bv l)[j]? = some v → w.cell? (a.add j) = some v) :
  Calls Tryz.prog 83 #[.pointer (some ⟨g, 0, none⟩), .int .i64 (p : Int), .slice (some a) 256 b] w fun e w' => e = .returned (.int .i64 0) ∧
  ∃ B' k' D', Lay w' g (S.written p l).burn A c B' k' m (n + 1) D' ∧ Turn (Parts g A B m) w w' ∧ (B'.map (·.block) = B.map (·.block) ∨ ∃ i, B'.map (·.block) = some i ∧ w.heap.size ≤ i) := by
 have hlen := h.ok.len4096
 have hh := has_lay h (p : Int)
 rw [has_iff.2 ⟨by omega, by omega⟩] at hh
 have hdd := dead_lay h
 rw [hd] at hdd
 have hze := zero_w
 have hst := stores_w w (p : Int) 0 zeros zeros zeros_len zeros_len
 obtain ⟨N, hNe, hN⟩ := size_w
 have hX : (wcell p l).size = N := by rw [wcell_size p hl, hNe]
 have hZ : (wcell 0 zeros).size = N := by rw [wcell_size 0 zeros_len, hNe]
 have hZp : (wcell p zeros).size = N := by rw [wcell_size p zeros_len, hNe]
 have hN1 : ¬ (16777216 < N) := by omega
 have hN0 : ¬ (N = 0) := by omega
 have hset := wcell_set (p : Int) zeros
 have hcp := copy_w (w := w) (p : Int) a b l hl hrow
 have h1 : Lay (w.alloc (.cells (wcell p l) 149)) g S A c B k m n D := h.same fun i hi => Below.heap_alloc _ _ _ (h.lt i hi)
 have c2 := lay2 h1
 have c3 := lay3 h1
 have hnl := h.nn
 obtain ⟨w2, hup, hm2, hg2⟩ := h1.mp.drew.update law_int Tryz.underlying64 (by unfold maxLen; omega) (key_int p (by omega)) (plainElem_int Tryz.underlying3 (WalkArith.wf_i64 (show (-9223372036854775808 : Int) ≤ (S.loose.length : Int) ∧ (S.loose.length : Int) ≤ 9223372036854775807 by omega)))
 have hsz2 : w.heap.size < w2.heap.size := by have := hg2.size; simp at this; omega
 have hot2 : ∀ i, i < w.heap.size + 1 → i ≠ m → w2.heap[i]? = (w.alloc (.cells (wcell p l) 149)).heap[i]? := fun i hi hne => hg2.block i (by simpa using hi) (fun e => hne (by injection e))
 have hmlt := h.mp.lt
 have hglt := h.st.lt
 have hst2 := h1.st.same (hot2 g (by omega) (fun e => h.neM e.symm))
 have d2 : w2.cell? ⟨g, 2, none⟩ = some (.slice B S.loose.length k) := by rw [hst2.cell]; rfl
 have d2a : (w2.alloc (.cells (wcell p l) 149)).cell? ⟨g, 2, none⟩ = some (.slice B S.loose.length k) := (World.cell?_alloc_lt _ _ _ (show g < w2.heap.size by omega)).trans d2
 have hG2 : w2.drew.heap[w.heap.size]? = some (.cells (wcell p l) 149 (0, 0)) := (hot2 w.heap.size (by omega) (by omega)).trans (heap_alloc_new w _)
 have hld : (loadCellsFrom ⟨w.heap.size, 0, none⟩ 0 N #[]).run Tryz.prog w2.drew = .ok (wcell p l) w2.drew := by
  have := ldN (w := w2.drew) (G := w.heap.size) (o := 0) (cs := (wcell p l).toList) (fun j v hv => by rw [Nat.zero_add, cell_of_row _ _ _ _ _ _ hG2]; simpa using hv)
  rw [Array.length_toList, hX] at this
  simpa using this
 have hfo : Array.foldl (fun cs x => cs.setIfInBounds x.snd x.fst) (Array.map (fun x => (wcell 0 zeros)[x % N]!) (Array.range N)) (wcell p l).zipIdx 0 N = wcell p l := by
  have := fold_all (Array.map (fun x => (wcell 0 zeros)[x % N]!) (Array.range N)) (wcell p l) (by simp [hX])
  rwa [hX] at this
 have hlo2 : Wd (w2.alloc (.cells (wcell p l) 149)).drew 149 257 B S.loose.length k (looseCells S.loose) := h1.lo.same fun i hi => by
  have hil := h.lo.blk i hi
  rw [show (w2.alloc (.cells (wcell p l) 149)).drew.heap = (w2.alloc (.cells (wcell p l) 149)).heap from rfl, Below.heap_alloc w2 _ i (by omega)]
  exact hot2 i (by omega) (h.neB hi).2.1
 obtain ⟨i0, hi1, hi2, hi3, hi4⟩ := info_parts write_info
 obtain ⟨B', k', w3, hrun, hw3, hgr3, hpl3⟩ := append_wide (t := 105) (ty := 105) 257 264 Tryz.underlying105 hi1 hi2 hi3 hi4 (by simp [Value.cells, wcell_size 0 zeros_len]) (by omega) hlo2 ⟨w2.heap.size, 0, none⟩ 1 1 (wcell p l).toList (by simp [wcell_size p hl]) (fun j u hu => by
  rw [add_blk, Nat.zero_add, World.cell?_drew, cell_of_row _ w2.heap.size j _ _ _ (heap_alloc_new w2 _)]; simpa using hu) (wcell_one p l) (by omega) (by omega)
 have hgr4 : ∀ i, i < w2.heap.size + 1 → B.map (·.block) ≠ some i → w3.heap[i]? = (w2.alloc (.cells (wcell p l) 149)).heap[i]? := fun i hi hne => hgr3.block i (by simpa using hi) (fun e => hne e.symm)
 have hot3 : ∀ i, i < w.heap.size → i ≠ m → B.map (·.block) ≠ some i → w3.heap[i]? = w.heap[i]? := fun i hi hm hB => by
  rw [hgr4 i (by omega) hB, Below.heap_alloc w2 _ i (by omega), hot2 i (by omega) hm, Below.heap_alloc w _ i hi]
 have hBg : B.map (·.block) ≠ some g := fun e => (h.neB (own_of e)).1 rfl
 have hBm : B.map (·.block) ≠ some m := fun e => (h.neB (own_of e)).2.1 rfl
 have hB' : B'.map (·.block) = B.map (·.block) ∨ ∃ i, B'.map (·.block) = some i ∧ w.heap.size ≤ i := by
  rcases hpl3 with e | e
  ·exact .inl e
  ·exact .inr ⟨_, e, by simp; omega⟩
 have hst3 := h.st.same (hot3 g hglt (fun e => h.neM e.symm) hBg)
 have d3 : w3.cell? ⟨g, 2, none⟩ = some (.slice B S.loose.length k) := by rw [hst3.cell]; rfl
 have f3 := hst3.frozen 2
 have HL := Lib.hid (show Lay (w3.setCell ⟨g, 2, none⟩ (.slice B' (S.loose.length + 1) k')) g (S.written p l) A c B' k' m (n + 1) _ from by
  have ho : ∀ i, i ≠ g → (w3.setCell ⟨g, 2, none⟩ (.slice B' (S.loose.length + 1) k')).heap[i]? = w3.heap[i]? := fun i hi => Below.heap_setCell w3 _ _ i hi
  refine ⟨?_, ?_, ?_, map_same hm2 ?_, newest_put h.mp.isMap h.nw p l, ?_, h.ok.written hp hl⟩
  ·have := hst3.set 2 (.slice B' (S.loose.length + 1) k')
   simpa [DS.written] using this
  ·exact h.la.same fun i hi => (ho i (h.neA hi).1).trans (hot3 i (h.la.blk i hi) (h.neA hi).2.1 (fun e => (h.neB (own_of e)).2.2.1 hi))
  ·have e1 : (S.written p l).loose.length = S.loose.length + 1 := by simp [DS.written]
   have e2 : looseCells (S.written p l).loose = looseCells S.loose ++ (wcell p l).toList := by simp only [DS.written]; rw [looseCells_snoc]; rfl
   rw [e1, e2]
   refine hw3.same fun i hi => ho i (fun e => ?_)
   have q := own_blk hi
   rcases hB' with h5 | ⟨j, h5, h6⟩
   ·rw [h5, e] at q; exact hBg q
   ·rw [h5] at q; injection q with q; omega
  ·rw [ho m h.neM, hgr4 m (by omega) hBm, Below.heap_alloc w2 _ m (by omega)]
  ·have := h.nn; simp [DS.written]; omega)
 have HT := Lib.hid (show Turn (Parts g A B m) w (w3.setCell ⟨g, 2, none⟩ (.slice B' (S.loose.length + 1) k')) from by
  have ht : Turn (Parts g A B m) w w3 := ⟨hgr3.os.trans hg2.os, hgr3.tape.trans hg2.tape, hgr3.output.trans hg2.output, by have := hgr3.size; simp at this; omega, fun i hi hn => hot3 i hi (fun e => hn (.inr (.inr (.inr e)))) (fun e => hn (.inr (.inr (.inl e))))⟩
  exact ht.set ⟨g, 2, none⟩ (.inr (.inl rfl)) _)
 have HB := Lib.hid hB'
 have HD := Lib.hid (dead_false h.ok hd)
 clear hw3 hgr3 hpl3 hlo2 hG2 hi1 hi2 hi3 hi4 hst2 hot2 hm2 hg2 h1 hNe hst3 hgr4 hot3 hBg hBm hB' h hd
 go_enter Tryz.func83, Tryz.ntmps83
 go_wp2_with fail
 refine hh.mono ?_
 rintro e w' ⟨rfl, rfl⟩
 clear hh
 go_wp2_with fail
 refine hdd.mono ?_
 rintro e w' ⟨rfl, rfl⟩
 clear hdd
 go_wp2_with fail
 go_region
 all_goals
  go_wp2_with fail
  go_region_law (refine step_append_run rfl (.tmp 37) (.tmp 39) 105 105 rfl rfl rfl hrun ?_)
 all_goals
  go_wp2_with fail
  refine (burn_lay HL.out HD.out).mono ?_
  rintro e w' ⟨rfl, hl', ht'⟩
  go_wp2_with fail
  go_ret
  exact ⟨rfl, _, _, _, hl', HT.out.trans ht' (fun i _ e => .inl e), HB.out⟩
/-- Write, whatever is asked: of a page, of bytes -/
theorem write_dk (h : Dk w g S F) (p : Int) (a : Option Addr) (b : Nat) (l : Pg) (hll : S.loose.length ≤ 100000000) (hrow : Row w w.heap.size a (bv l)) :
  Calls Tryz.prog 83 #[.pointer (some ⟨g, 0, none⟩), .int .i64 p, .slice a l.length b] w fun e w' => e = .returned (.int .i64 (S.writeE p l)) ∧ Went F g w (S.write p l) w' := by
 have hs := went_same h
 obtain ⟨A, c, B, k, m, n, D, h, hp⟩ := h
 unfold DS.writeE DS.write
 cases h1 : S.has p with
 | false => exact (write_bad h p _ h1).mono fun e w' ⟨he, hw⟩ => ⟨by simpa using he, by simpa using hw ▸ hs⟩
 | true =>
  by_cases h2 : l.length = 256
  ·cases hd : S.dead with
   | true => rw [h2]; exact (write_dead h p a b h1 hd).mono fun e w' ⟨he, hw⟩ => ⟨by simpa using he, by simpa using hw ▸ hs⟩
   | false =>
    have h3 := has_iff.1 h1
    obtain ⟨q, rfl⟩ := Int.eq_ofNat_of_zero_le h3.1
    obtain ⟨ad, rfl, _⟩ := hrow.get 0 (by simp [bv_len, h2])
    rw [h2]
    refine (write_good h q ad b l h2 (by omega) hd hll (fun j v hv => by obtain ⟨ad', e, _, hc⟩ := hrow j v hv; injection e with e; subst e; exact hc)).mono fun e w' ⟨he, B', k', D', hl', ht, hpl⟩ => ⟨by simpa using he, ?_⟩
    simp only [Bool.true_eq_false, if_false, ne_eq, not_true_eq_false, Bool.false_eq_true, Int.toNat_natCast]
    refine went_mk hl' (fun i hi => ?_) (ht.mono fun i _ => hp i)
    rcases hi with hi | hi | hi | hi
    ·exact .inl (hp i (.inl hi))
    ·exact .inl (hp i (.inr (.inl hi)))
    ·rcases hpl with e | ⟨j, e, hj⟩
     ·rw [e] at hi; exact .inl (hp i (.inr (.inr (.inl hi))))
     ·rw [e] at hi; injection hi with hi; exact .inr (by omega)
    ·exact .inl (hp i (.inr (.inr (.inr hi))))
  ·exact (write_size h p a l.length b h1 h2).mono fun e w' ⟨he, hw⟩ => ⟨by simpa [h2] using he, by simpa [h2] using hw ▸ hs⟩
end
end Go.Proofs.YtpidnkfcccboaaaGreat.DiskWrite
namespace Go.Proofs.YtpidnkfcccboaaaGreat.DiskSync
open Go.RowKit Base DiskPlain DiskMem DiskSmall DiskRead DiskGrow DiskWrite Go.Maps

/-- a page's cells -/
def pcell (l : List UInt8) : Array Value := (bv l).toArray
theorem pcell_size {l : List UInt8} (h : l.length = 256) : (pcell l).size = 256 := by simp [pcell, bv_len, h]
theorem size_p : ∃ M : Nat, M = 256 ∧ ∀ w : World, (sizeOf 147).run Tryz.prog w = .ok M w := ⟨256, rfl, fun w => by kernel_rfl⟩
/-- with so many of the loose writes lasting -/
def DS.upto (S : DS) (j : Nat) : DS := { S with last := flush S.last (S.loose.take j) }
theorem upto_ok {S : DS} (h : S.Ok) (j : Nat) : (DS.upto S j).Ok := by
 refine ⟨h.m1, h.m2, by simpa [DS.upto, flush_len] using h.len, flush_pages _ (fun x hx => h.wlen x (List.mem_of_mem_take hx)) _ h.pages, ?_, h.wlen, h.l1, h.l2⟩
 intro x hx
 simpa [DS.upto, flush_len] using h.wpage x hx
theorem flush_snoc (L : List Pg) (l : List (Nat × Pg)) (x : Nat × Pg) : flush L (l ++ [x]) = (flush L l).set x.1 x.2 := by simp [flush]
theorem upto_succ {S : DS} {j : Nat} {x : Nat × Pg} (hx : S.loose[j]? = some x) : (DS.upto S (j + 1)).last = (DS.upto S j).last.set x.1 x.2 := by
 have hj : j < S.loose.length := (List.getElem?_eq_some_iff.1 hx).1
 have e : S.loose.take (j + 1) = S.loose.take j ++ [x] := by
  rw [List.take_succ_eq_append_getElem hj, (List.getElem?_eq_some_iff.1 hx).2]
 simp only [DS.upto]
 rw [e, flush_snoc]
def SyncRel (w : World) (g : Nat) (S : DS) (A : Option Addr) (c : Nat) (B : Option Addr) (k m n : Nat) (D : DataW Unit) (j : Nat) (wr : World) : Prop := Lay wr g (DS.upto S j) A c B k m n D ∧ Turn (Parts g A B m) w wr
section
variable {w : World} {g : Nat} {S : DS} {F : Nat → Prop} {A B : Option Addr} {c k m n : Nat} {D : DataW Unit}
theorem sync_dead (h : Lay w g S A c B k m n D) (hd : S.dead = true) : Calls Tryz.prog 90 #[.pointer (some ⟨g, 0, none⟩)] w fun e w' => e = .returned (.tuple #[]) ∧ w = w' := by
 have hdd := dead_lay h
 rw [hd] at hdd
 clear h hd
 go_enter Tryz.func90, Tryz.ntmps90
 go_wp2_with fail
 refine hdd.mono ?_
 rintro e w' ⟨rfl, rfl⟩
 clear hdd
 go_wp2_with fail
 refine bodyPost_ret (results_none rfl _ _ _) rfl ?_
 exact ⟨rfl, rfl⟩
/-- a page written whole into the lasting row -/
theorem put_page {w w1 : World} {S S' : DS} (h : Lay w g S A c B k m n D) (hw1 : ∀ i, i < w.heap.size → w1.heap[i]? = w.heap[i]?) {p : Nat} (hp : p < S.last.length) (a : Nat) (b : List UInt8) (hab : a + b.length ≤ 256) {gA : Nat} (hA : A = some ⟨gA, 0, none⟩) {cur : Array Value} (hg : w1.heap[gA]? = some (.cells cur 147 (0, 0)))
  (hS : S' = { S with last := S.last.set p (splice (S.last.getD p []) a b) }) (hok : S'.Ok) : Lay (w1.setRow gA (splice cur.toList (p * 256 + a) (bv b)).toArray) g S' A c B k m n D := by
 subst hS
 have hgA : gA < w.heap.size := h.la.blk gA (by subst hA; rfl)
 have hla1 : Wd w1 147 256 A S.last.length c (lastCells S.last) := h.la.same fun i hi => hw1 i (h.la.blk i hi)
 have hgne : g ≠ gA := fun e => (h.neA (i := gA) (by subst hA; rfl)).1 e.symm
 refine h.relast (fun i hi _ hn => (setRow_other w1 gA i _ (fun e => hn (by subst hA; simp [e]))).trans (hw1 i hi)) ?_ rfl hok ?_
 ·have hf : p * 256 + a + (bv b).length ≤ S.last.length * 256 := by
   rw [bv_len]
   have : (p + 1) * 256 ≤ S.last.length * 256 := Nat.mul_le_mul_right _ hp
   omega
  have := hla1.put hA hg hf
  rw [lastCells_splice h.ok.pages (b := S.last.getD p []) b (by simp [List.getElem?_eq_getElem hp]) hab] at this
  simpa using this
 ·have := h.st.same (w' := w1.setRow gA (splice cur.toList (p * 256 + a) (bv b)).toArray) ((setRow_other w1 gA g _ hgne).trans (hw1 g h.st.lt))
  simpa using this
theorem stores_run {w : World} {G o : Nat} {cur : Array Value} {t : TypeId} {cs : List Value} (hg : w.heap[G]? = some (.cells cur t (0, 0))) (hf : o + cs.length ≤ cur.size) (h1 : ∀ v ∈ cs, v.oneCell' = true) :
  (storeCells ⟨G, o, none⟩ cs).run Tryz.prog w = .ok () (w.setRow G (splice cur.toList o cs).toArray) := by
 have := run_storeCells_at Tryz.prog G o t cs 0 cur w hg (by simpa using hf) h1
 simp only [Nat.add_zero] at this
 rw [this, splice, List.append_assoc]
theorem upto_zero (S : DS) : DS.upto S 0 = S := by simp [DS.upto, flush]
theorem upto_all (S : DS) : (DS.upto S S.loose.length).forget = S.synced := by simp [DS.upto, DS.forget, DS.synced]
theorem sync_nil (h : Lay w g S A c B k m n D) (hd : S.dead = false) (hll : S.loose.length = 0) : Calls Tryz.prog 90 #[.pointer (some ⟨g, 0, none⟩)] w fun e w' => e = .returned (.tuple #[]) ∧ Lay w' g S.synced.burn A c none 0 m 0 (.map []) ∧ Turn (Parts g A B m) w w' := by
 have hdd := dead_lay h
 rw [hd] at hdd
 have c2 := lay2 h
 rw [hll] at c2
 have HD := Lib.hid (dead_false h.ok hd)
 have HS := Lib.hid (show S.forget = S.synced by have := upto_all S; rwa [hll, upto_zero] at this)
 have HH := Lib.hid h
 clear hd h hll
 go_enter Tryz.func90, Tryz.ntmps90
 go_wp2_with fail
 refine hdd.mono ?_
 rintro e w' ⟨rfl, rfl⟩
 clear hdd
 go_wp2_with fail
 refine wp_loop_rounds 1 ?_
 rw [rounds_succ]
 go_wp2_with fail
 refine (forget_lay HH.out).mono ?_
 rintro e w1 ⟨rfl, hl1, ht1⟩
 go_wp2_with fail
 refine (burn_lay hl1 HD.out).mono ?_
 rintro e w2 ⟨rfl, hl2, ht2⟩
 go_wp2_with fail
 go_end0
 refine ⟨rfl, by rw [HS.out] at hl2; exact hl2, ?_⟩
 exact (ht1.mono (fun i _ e => e.elim .inl (fun e => .inr (.inr (.inr e))))).trans ht2 (fun i _ e => .inl e)
set_option maxRecDepth 100000 in
set_option maxHeartbeats 800000 in
theorem sync_some {gA gB : Nat} (h : Lay w g S (some ⟨gA, 0, none⟩) c (some ⟨gB, 0, none⟩) k m n D) (hd : S.dead = false) (hll : S.loose.length ≤ 100000000) : Calls Tryz.prog 90 #[.pointer (some ⟨g, 0, none⟩)] w fun e w' => e = .returned (.tuple #[]) ∧ Lay w' g S.synced.burn (some ⟨gA, 0, none⟩) c none 0 m 0 (.map []) ∧ Turn (Parts g (some ⟨gA, 0, none⟩) (some ⟨gB, 0, none⟩) m) w w' := by
 have hdd := dead_lay h
 rw [hd] at hdd
 have c2 := lay2 h
 have hn4 := h.ok.len4096
 have HD := Lib.hid (dead_false h.ok hd)
 have HW := Lib.hid h.ok.wlen
 have HP := Lib.hid h.ok.wpage
 have HO := Lib.hid h.ok
 have HR := Lib.hid (show SyncRel w g S (some ⟨gA, 0, none⟩) c (some ⟨gB, 0, none⟩) k m n D 0 w from ⟨by rw [upto_zero]; exact h, Turn.refl _ _⟩)
 clear hd h
 go_enter Tryz.func90, Tryz.ntmps90
 go_wp2_with fail
 refine hdd.mono ?_
 rintro e w' ⟨rfl, rfl⟩
 clear hdd
 go_wp2_with fail
 go_loopw [11] (fun i wr => ∃ j : Nat, j ≤ S.loose.length ∧ i = .int .i64 j ∧ SyncRel w g S (some ⟨gA, 0, none⟩) c (some ⟨gB, 0, none⟩) k m n D j wr) (fun i _ => S.loose.length - (intOf i).toNat)
 case atStart => exact ⟨0, by omega, rfl, HR.out⟩
 case round =>
  obtain ⟨j, hj, rfl, hr⟩ := hrel
  clear c2 HR
  by_cases hlt : j < S.loose.length
  ·obtain ⟨⟨p, b⟩, hx⟩ : ∃ x, S.loose[j]? = some x := ⟨_, List.getElem?_eq_getElem hlt⟩
   have hxm : (p, b) ∈ S.loose := List.mem_of_getElem? hx
   have hb : b.length = 256 := HW.out _ hxm
   have hp : p < S.last.length := HP.out _ hxm
   have hl := hr.1
   have hlen : (DS.upto S j).last.length = S.last.length := by simp [DS.upto, flush_len]
   obtain ⟨N, hNe, hN⟩ := size_w
   obtain ⟨M, hMe, hM⟩ := size_p
   have hze := zero_w
   have hM0 : ¬ (M = 0) := by omega
   have hN0 : ¬ (N = 0) := by omega
   have hZ : (wcell 0 zeros).size = N := by rw [wcell_size 0 zeros_len, hNe]
   have hX : (wcell p b).size = N := by rw [wcell_size p hb, hNe]
   have hY : (pcell b).size = M := by rw [pcell_size hb, hMe]
   have hld : (loadCellsFrom ⟨gB, j * N, none⟩ 0 N #[]).run Tryz.prog wr = .ok (wcell p b) wr := by
    have := ldN (w := wr) (G := gB) (o := j * N) (cs := (wcell p b).toList) (fun i v hv => hl.lo.cell rfl (by
     subst hNe
     have e := flat_at 257 _ (loose_each HW.out) j i (Value.int .i64 (p : Int) :: bv b) (by simp [hx]) (by
      rcases Nat.lt_or_ge i 257 with q | q
      ·exact q
      ·rw [List.getElem?_eq_none (by simp [wcell_size p hb]; exact q)] at hv; cases hv)
     exact e.trans hv))
    rw [Array.length_toList, hX] at this
    simpa using this
   have hst := stores_w wr (p : Int) 0 b zeros hb zeros_len
   have hgo : ∀ i, i < wr.heap.size → (wr.alloc (.cells (wcell p b) 149)).heap[i]? = wr.heap[i]? := fun i hi => Below.heap_alloc _ _ _ hi
   have hGn := heap_alloc_new wr (.cells (wcell p b) 149)
   have hl1 : Lay (wr.alloc (.cells (wcell p b) 149)) g (DS.upto S j) (some ⟨gA, 0, none⟩) c (some ⟨gB, 0, none⟩) k m n D := hl.same fun i hi => hgo i (hl.lt i hi)
   have c1 := lay1 hl
   have c1' := lay1 hl1
   have c2 := lay2 hl
   rw [hlen] at c1 c1'
   have p0 : (wr.alloc (.cells (wcell p b) 149)).cell? ⟨wr.heap.size, 0, none⟩ = some (.int .i64 (p : Int)) := by rw [cell_of_row _ _ _ _ _ _ hGn]; rfl
   have hlp : (loadCellsFrom ⟨wr.heap.size, 1, none⟩ 0 M #[]).run Tryz.prog (wr.alloc (.cells (wcell p b) 149)).drew = .ok (pcell b) (wr.alloc (.cells (wcell p b) 149)).drew := by
    have := ldN (w := (wr.alloc (.cells (wcell p b) 149)).drew) (G := wr.heap.size) (o := 1) (cs := (pcell b).toList) (fun i v hv => by
     rw [World.cell?_drew, cell_of_row _ _ _ _ _ _ hGn, Nat.add_comm 1 i]
     simpa [wcell, pcell] using hv)
    rw [Array.length_toList, hY] at this
    simpa using this
   obtain ⟨gA', cur, hA, hgc, hc1, hc2, hcs, _⟩ := hl1.la.form (by rw [hlen]; omega)
   injection hA with hA
   injection hA with hA
   subst hA
   have hsp := stores_run (w := (wr.alloc (.cells (wcell p b) 149)).drew) (G := gA) (o := p * M) (cur := cur) (t := 147) (cs := (pcell b).toList) hgc (by
    rw [Array.length_toList, pcell_size hb, hcs, hMe]
    have : (p + 1) * 256 ≤ c * 256 := Nat.mul_le_mul_right _ (by omega)
    omega) (bv_one b)
   have HL := Lib.hid (show SyncRel w g S (some ⟨gA, 0, none⟩) c (some ⟨gB, 0, none⟩) k m n D (j + 1) ((wr.alloc (.cells (wcell p b) 149)).drew.setRow gA (splice cur.toList (p * M) (pcell b).toList).toArray) from by
    have hgd : (DS.upto S j).last.getD p [] = (DS.upto S j).last.getD p [] := rfl
    have e0 : (DS.upto S (j + 1)) = { DS.upto S j with last := (DS.upto S j).last.set p (splice ((DS.upto S j).last.getD p []) 0 b) } := by
     have e1 := upto_succ hx
     have e2 : splice ((DS.upto S j).last.getD p []) 0 b = b := splice_all _ _ (by rw [hb, getD_len (upto_ok HO.out j).pages (by rw [hlen]; exact hp)])
     rw [e2, ← e1]
     rfl
    have := put_page (w := wr) (w1 := (wr.alloc (.cells (wcell p b) 149)).drew) hl (fun i hi => hgo i hi) (p := p) (by rw [hlen]; exact hp) 0 b (by omega) rfl hgc e0 (upto_ok HO.out (j + 1))
    rw [Nat.add_zero] at this
    subst hMe
    exact ⟨this, ((hr.2.alloc _).drew).setRow gA (.inr (.inr (.inl rfl))) _⟩)
   clear hl hl1 hgo hGn hgc hcs hc1 hc2 hNe hMe hr hx hxm HW HP HO
   go_wp2_with fail
   go_region
   all_goals
    go_wp2_with fail
    go_roundw
    case rel => exact ⟨j + 1, by omega, by go_num, HL.out⟩
    case measure => simp [intOf]; omega
  ·obtain rfl : j = S.loose.length := by omega
   go_wp2_with fail
   refine (forget_lay hr.1).mono ?_
   rintro e w1 ⟨rfl, hl1, ht1⟩
   go_wp2_with fail
   refine (burn_lay hl1 HD.out).mono ?_
   rintro e w2 ⟨rfl, hl2, ht2⟩
   go_wp2_with fail
   go_end0
   refine ⟨rfl, ?_, ?_⟩
   ·rw [upto_all] at hl2
    exact hl2
   ·exact (hr.2.trans ht1 (fun i _ e => e.elim .inl (fun e => .inr (.inr (.inr e))))).trans ht2 (fun i _ e => .inl e)
/-- Sync, dead or not -/
theorem sync_dk (h : Dk w g S F) (hll : S.loose.length ≤ 100000000) : Calls Tryz.prog 90 #[.pointer (some ⟨g, 0, none⟩)] w fun e w' => e = .returned (.tuple #[]) ∧ Went F g w S.sync w' := by
 have hs := went_same h
 obtain ⟨A, c, B, k, m, n, D, h, hp⟩ := h
 unfold DS.sync
 cases hd : S.dead with
 | true => exact (sync_dead h hd).mono fun e w' ⟨he, hw⟩ => ⟨he, by simpa using hw ▸ hs⟩
 | false =>
  have fin : ∀ w', Lay w' g S.synced.burn A c none 0 m 0 (.map []) → Turn (Parts g A B m) w w' → Went F g w (if false = true then S else S.synced.burn) w' := fun w' hl ht => by
   refine went_mk hl (fun i hi => .inl ?_) (ht.mono fun i _ => hp i)
   rcases hi with hi | hi | hi | hi
   ·exact hp i (.inl hi)
   ·exact hp i (.inr (.inl hi))
   ·cases hi
   ·exact hp i (.inr (.inr (.inr hi)))
  by_cases h0 : S.loose.length = 0
  ·exact (sync_nil h hd h0).mono fun e w' ⟨he, hl, ht⟩ => ⟨he, fin w' hl ht⟩
  ·obtain ⟨gB, _, rfl, _⟩ := h.lo.form (by omega)
   have hl0 : 0 < S.last.length := by
    obtain ⟨x, hx⟩ : ∃ x, x ∈ S.loose := ⟨S.loose[0], List.getElem_mem (by omega)⟩
    have := h.ok.wpage x hx
    omega
   obtain ⟨gA, _, rfl, _⟩ := h.la.form hl0
   exact (sync_some h hd hll).mono fun e w' ⟨he, hl, ht⟩ => ⟨he, fin w' hl ht⟩
end
end Go.Proofs.YtpidnkfcccboaaaGreat.DiskSync
