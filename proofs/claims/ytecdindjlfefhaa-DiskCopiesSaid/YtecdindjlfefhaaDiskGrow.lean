/- Contracts of Grow; append of noughts, and of a row, onto a row of wide things. -/
import Derived.Test.YtecdindjlfefhaaDiskRead
import Derived.RegionTactic
import Derived.Deep.RegionLaw
namespace Go.Proofs.Ytecdindjlfefhaa.DiskGrow
open Go.RowKit Base DiskPlain DiskMem DiskSmall DiskRead Go.Maps

theorem zeroCells_rep (v : Value) (k n : Nat) (hk : 0 < k) : (Builtin.zeroCells (Array.replicate k v) n).toList = List.replicate (n * k) v := by
  apply List.ext_getElem?
  intro i
  simp only [Builtin.zeroCells, Array.size_replicate, Array.getElem?_toList, List.getElem?_replicate]
  by_cases h : i < n * k
  · rw [if_pos h, Array.getElem?_eq_getElem (by simpa using h)]
    simp [Nat.mod_lt i hk]
  · rw [if_neg h, Array.getElem?_eq_none (by simpa using h)]
section
variable {P : Program} {w : World}
/-- an append whose run is known, as one step of a region that draws its order, and of one that doesn't -/
theorem step_append_run {ops : Array Oper} {o : Oper} {a : Act} {K : Act → World → Prop} {Q : Exit → Act → World → Prop} {E : Prop} (hg : o.guard = none) (s x : Operand) (t u : TypeId)
    (hop : o.op = Op.call { callee := Callee.builtin Builtin.append, args := #[s, x], argTypes := #[t, u] }) {vs vx v : Value} {w' : World} (hs : a.eval s = vs) (hx : a.eval x = vx)
    (hrun : (Builtin.append_ #[t, u] o.type #[vs, vx]).run P w = .ok v w') (hK : K (a.put o.dst v) w') : if Region.wanted o (yielded ops a.tmps) = true then Oper.wp P o a w K Q else E := by
  have hw : Region.wanted o (yielded ops a.tmps) = true := by simp [Region.wanted, hg]
  rw [if_pos hw]
  unfold Oper.wp
  simp [execOp, hop, resolve, invoke, builtin, hs, hx, hrun, Result.andThen]
  exact hK
theorem wpList_append_run {ops : Array Oper} {rest : List Oper} {o : Oper} {a : Act} {Q : Exit → Act → World → Prop} (hgd : o.guard = none) (s x : Operand) (t u : TypeId)
    (hop : o.op = Op.call { callee := Callee.builtin Builtin.append, args := #[s, x], argTypes := #[t, u] }) {vs vx v : Value} {w' : World} (hs : a.eval s = vs) (hx : a.eval x = vx)
    (hrun : (Builtin.append_ #[t, u] o.type #[vs, vx]).run P w = .ok v w') (h : wpList P ops Q rest (a.put o.dst v) w') : wpList P ops Q (o :: rest) a w := by
  refine wpList_plain hgd fun K hK => ?_
  unfold Oper.wp
  simp [execOp, hop, resolve, invoke, builtin, hs, hx, hrun, Result.andThen]
  exact hK _ _ h
/-- 'append(s, make([]T, m)...)' -/
theorem append_zeros {t ti ty e : TypeId} {i : TypeInfo} {z : Value} (size bytes : Nat) (ht : P.underlying t = some (.slice e)) (hti : P.underlying ti = some (.int .i64)) (hi : P.info? e = some i) (hz : i.zero = some z) (hsize : i.size = size) (hby : i.bytes = bytes) (hzs : z.cells.size = size) (hsz : 0 < size)
    {A : Option Addr} {n c : Nat} {xs : List Value} (hown : Wd w e size A n c xs) (m : Nat) (hm : 0 < m) (h1 : ∀ u ∈ (Builtin.zeroCells z.cells m).toList, u.oneCell' = true) (h63 : n + m ≤ 1000000000) (hbytes : (n + m) * bytes ≤ 140737488355328) :
    ∃ A' c' w', (Builtin.append_ #[t, ti] ty #[.slice A n c, .int .i64 (m : Int)]).run P w = .ok (.slice A' (n + m) c') w' ∧ Wd w' e size A' (n + m) c' (xs ++ (Builtin.zeroCells z.cells m).toList) ∧ w.grownBy w' (A.map (·.block)) ∧
      (A'.map (·.block) = A.map (·.block) ∨ A'.map (·.block) = some w.heap.size) := by
  subst hsize
  subst hby
  have hw : IntKind.i64.wrap (m : Int) = m := IntWalk.i64_in _ (by omega)
  have hne : ¬ (m * i.size = 0) := fun h => by rcases Nat.mul_eq_zero.1 h with h | h <;> omega
  have hmb : m * i.bytes ≤ 140737488355328 := Nat.le_trans (Nat.mul_le_mul_right _ (by omega)) hbytes
  have hmb' : ¬ (281474976710656 < (m : Int) * (i.bytes : Int)) := by rw [← Int.natCast_mul]; omega
  have hneg : ¬ ((m : Int) < 0) := by omega
  have hzl : (Builtin.zeroCells z.cells m).size = m * i.size := by rw [size_zeroCells, hzs]
  have hmx : n + m ≤ maxLen := by unfold maxLen; omega
  have hlen : (xs ++ (Builtin.zeroCells z.cells m).toList).length = (n + m) * i.size := by rw [List.length_append, hown.1, Array.length_toList, hzl, Nat.add_mul]
  have grown : ∀ (old : Nat), old < n + m → ∀ (row : Option Nat),
      Wd (w.drew.alloc (.cells (xs.toArray ++ Builtin.zeroCells z.cells m ++ Builtin.zeroCells z.cells (grownCap w (n + m) old e - (n + m))) e)) e i.size (some ⟨w.heap.size, 0, none⟩) (n + m) (grownCap w (n + m) old e) (xs ++ (Builtin.zeroCells z.cells m).toList) ∧
      w.grownBy (w.drew.alloc (.cells (xs.toArray ++ Builtin.zeroCells z.cells m ++ Builtin.zeroCells z.cells (grownCap w (n + m) old e - (n + m))) e)) row := by
    intro old ho row
    have hge := grownCap_ge w (n + m) old e
    have hcm : grownCap w (n + m) old e ≤ maxLen := grownCap_le_maxLen w (n + m) old e hmx
    refine ⟨⟨hlen, .inr ⟨w.heap.size, _, _, rfl, Nat.zero_le _, heap_alloc_new w.drew _, hge, hcm, ?_, ?_⟩⟩, ⟨rfl, rfl, rfl, by simp, fun k hk _ => Below.heap_alloc w.drew _ k hk⟩⟩
    · simp only [Array.size_append, List.size_toArray, size_zeroCells, hzs, hown.1, ← Nat.add_mul]
      congr 1
      omega
    · simp only [Array.toList_append, List.append_assoc]
      rw [← List.append_assoc, ← hlen]
      exact List.take_left
  rcases hown.2 with ⟨h2, rfl⟩ | ⟨g, cap, cur, h2, _, hg, hnc, hcm, hcs, htake⟩
  · injection h2 with h3 _ h4
    subst h3 h4
    have hx : xs = [] := List.eq_nil_of_length_eq_zero (by simpa using hown.1)
    subst hx
    have h63' : ¬ (9223372036854775807 < (m : Int)) := by omega
    have h48' : ¬ (281474976710656 < Builtin.nextslicecap m 0 * i.bytes) := by rw [nextslicecap_zero hm]; omega
    have hm0 : ¬ (m = 0) := by omega
    have hgr := grown 0 (by omega) (Option.map (·.block) (none : Option Addr))
    simp only [Nat.zero_add, List.nil_append, Array.empty_append] at hgr ⊢
    refine ⟨_, _, _, ?_, hgr.1, hgr.2, .inr rfl⟩
    simp [Builtin.append_, run_underlying ht, run_underlying hti, sizeOf, typeInfo, zeroValue, hi, hz, asInt, asIntOf, hw, hneg, hmb', h63', h48', hm0, Question.forced, Builtin.firstCells, newRow, grownCap]
    intro h0; exact absurd h0 hne
  · injection h2 with h3 _ h4
    subst h3 h4
    by_cases hroom : n + m ≤ c
    · have hfit : n * i.size + (Builtin.zeroCells z.cells m).toList.length ≤ cur.size := by rw [Array.length_toList, hzl, hcs, ← Nat.add_mul]; exact Nat.mul_le_mul_right _ hroom
      have hst := run_storeCells_at P g (n * i.size) e (Builtin.zeroCells z.cells m).toList 0 cur w hg (by simpa using hfit) h1
      simp only [Nat.add_zero] at hst
      have hr : (Builtin.append_ #[t, ti] ty #[.slice (some ⟨g, 0, none⟩) n c, .int .i64 (m : Int)]).run P w = .ok (.slice (some ⟨g, 0, none⟩) (n + m) c) (w.setRow g (cur.toList.take (n * i.size) ++ (Builtin.zeroCells z.cells m).toList ++ cur.toList.drop (n * i.size + (Builtin.zeroCells z.cells m).toList.length)).toArray) := by
        simp [Builtin.append_, run_underlying ht, run_underlying hti, sizeOf, typeInfo, zeroValue, hi, hz, asInt, asIntOf, hw, hneg, hmb', hroom, Addr.add_lit, hst]
        intro h0; exact absurd h0 hne
      refine ⟨some ⟨g, 0, none⟩, c, _, hr, ⟨hlen, .inr ⟨g, c, _, rfl, Nat.zero_le _, setRow_heap w g cur _ e _ hg, hroom, hcm, ?_, ?_⟩⟩, ⟨rfl, rfl, rfl, by simp, fun k _ hk => setRow_other w g k _ (fun e => hk (by simp [e]))⟩, .inl rfl⟩
      · simp only [List.size_toArray, List.length_append, List.length_take, List.length_drop, Array.length_toList] at hfit ⊢
        omega
      · rw [htake, ← hlen]
        exact List.take_left
    · have hfo := run_firstCells_some (P := P) w.drew i.size n ⟨g, 0, none⟩ n c xs hown.1 (fun j u hu => by simpa using World.ownsRow.cells hown (g := g) rfl j u hu)
      have h63' : ¬ (9223372036854775807 < ((n : Int) + (m : Int))) := by omega
      have h48' : ¬ (281474976710656 < Builtin.nextslicecap (n + m) c * i.bytes) := by have := growslice_fits (old := c) (need := n + m) (by omega) hbytes; omega
      have hgr := grown c (by omega) (Option.map (·.block) (some (⟨g, 0, none⟩ : Addr)))
      refine ⟨_, _, _, ?_, hgr.1, hgr.2, .inr rfl⟩
      simp [Builtin.append_, run_underlying ht, run_underlying hti, sizeOf, typeInfo, zeroValue, hi, hz, asInt, asIntOf, hw, hneg, hmb', h63', h48', hroom, Question.forced, hfo, newRow, grownCap]
      intro h0; exact absurd h0 hne
end
/-- its lasting row written anew, the rest as it was -/
theorem _root_.Go.Proofs.Ytecdindjlfefhaa.DiskMem.Lay.relast {w w2 : World} {g : Nat} {S S' : DS} {A B A' : Option Addr} {c k m n c' : Nat} {D : DataW Unit} (h : Lay w g S A c B k m n D) (hs : ∀ i, i < w.heap.size → i ≠ g → A.map (·.block) ≠ some i → w2.heap[i]? = w.heap[i]?)
    (hla : Wd w2 77 256 A' S'.last.length c' (lastCells S'.last)) (hlo : S'.loose = S.loose) (hok : S'.Ok)
    (hst : At w2 g 65 #[.int .i64 S'.most, .slice A' S'.last.length c', .slice B S.loose.length k, .map (some m), .bool S'.fused, .int .i64 S'.left]) : Lay w2 g S' A' c' B k m n D := by
  have own : ∀ i, A.map (·.block) = some i → (Value.slice A S.last.length c).ownBlock = some i := by intro i hi; cases A with
    | none => cases hi
    | some a => simpa [Value.ownBlock] using hi
  refine ⟨by rw [hlo]; exact hst, hla, ?_, map_same h.mp (hs m h.mp.lt h.neM (fun e => (h.neA (own m e)).2.1 rfl)), by rw [hlo]; exact h.nw, by rw [hlo]; exact h.nn, hok⟩
  rw [hlo]
  exact h.lo.same fun i hi => hs i (h.lo.blk i hi) (h.neB hi).1 (fun e => (h.neB hi).2.2.1 (own i e))
theorem sheet_info : (Try.prog.info? 77).map (fun i => (i.zero, i.size, i.bytes)) = some (some (.agg (Array.replicate 256 (.int .u8 0))), 256, 256) := by kernel_rfl
section
variable {w : World} {g : Nat} {S : DS} {F : Nat → Prop} {A B : Option Addr} {c k m n : Nat} {D : DataW Unit}
theorem grow_full (h : Lay w g S A c B k m n D) (x : Int) (hx : S.most < x) : Calls Try.prog 23 #[.pointer (some ⟨g, 0, none⟩), .int .i64 x] w fun e w' => e = .returned (.int .i64 32) ∧ w = w' := by
  have c0 := lay0 h
  clear h
  generalize S.most = y at *
  go_enter Try.func23, Try.ntmps23
  go_wp2_with fail
  go_ret
  exact ⟨rfl, rfl⟩
theorem grow_dead (h : Lay w g S A c B k m n D) (x : Int) (hx : x ≤ S.most) (hd : S.dead = true) : Calls Try.prog 23 #[.pointer (some ⟨g, 0, none⟩), .int .i64 x] w fun e w' => e = .returned (.int .i64 33) ∧ w = w' := by
  have c0 := lay0 h
  have hdd := dead_lay h
  rw [hd] at hdd
  clear h hd
  generalize S.most = y at *
  go_enter Try.func23, Try.ntmps23
  go_wp2_with fail
  refine hdd.mono ?_
  rintro e w' ⟨rfl, rfl⟩
  clear hdd
  go_wp2_with fail
  go_ret
  exact ⟨rfl, rfl⟩
theorem grow_less (h : Lay w g S A c B k m n D) (x : Int) (hx : x ≤ S.most) (hd : S.dead = false) (hl : x ≤ S.last.length) : Calls Try.prog 23 #[.pointer (some ⟨g, 0, none⟩), .int .i64 x] w fun e w' => e = .returned (.int .i64 0) ∧ w = w' := by
  have c0 := lay0 h
  have c1 := lay1 h
  have hdd := dead_lay h
  rw [hd] at hdd
  clear h hd
  generalize S.most = y at *
  generalize S.last.length = z at *
  go_enter Try.func23, Try.ntmps23
  go_wp2_with fail
  refine hdd.mono ?_
  rintro e w' ⟨rfl, rfl⟩
  clear hdd
  go_wp2_with fail
  go_ret
  exact ⟨rfl, rfl⟩
set_option maxRecDepth 100000 in
theorem grow_more (h : Lay w g S A c B k m n D) (x : Nat) (hx : (x : Int) ≤ S.most) (hd : S.dead = false) (hl : S.last.length < x) : Calls Try.prog 23 #[.pointer (some ⟨g, 0, none⟩), .int .i64 (x : Int)] w fun e w' => e = .returned (.int .i64 0) ∧ 
    ∃ A' c', Lay w' g (S.grown x) A' c' B k m n D ∧ Turn (Parts g A B m) w w' ∧ (A'.map (·.block) = A.map (·.block) ∨ A'.map (·.block) = some w.heap.size) := by
  have c0 := lay0 h
  have c1 := lay1 h
  have hlen := h.ok.len4096
  have hm := h.ok.m2
  have hdd := dead_lay h
  rw [hd] at hdd
  obtain ⟨i, h1, h2, h3, h4⟩ := info_parts sheet_info
  obtain ⟨A', c', w1, hrun, hw1, hgr, hpl⟩ := append_zeros (w := w.drew) (t := 62) (ti := 3) (ty := 62) 256 256 Try.underlying62 Try.underlying3 h1 h2 h3 h4 (by simp [Value.cells]) (by omega) (show Wd w.drew _ _ _ _ _ _ from h.la) (x - S.last.length) (by omega) (by
    simp only [Value.cells]; rw [zeroCells_rep _ _ _ (by omega)]; intro u hu; rw [(List.mem_replicate.1 hu).2]; rfl) (by omega) (by omega)
  simp only [Value.cells] at hw1
  rw [zeroCells_rep _ _ _ (by omega), ← lastCells_zeros, ← lastCells_append] at hw1
  have hx1 : ((x - S.last.length : Nat) : Int) = (x : Int) - S.last.length := by omega
  have hx2 : S.last.length + (x - S.last.length) = x := by omega
  rw [hx1, hx2] at hrun
  rw [hx2] at hw1
  have hst : At w1 g 65 #[.int .i64 S.most, .slice A S.last.length c, .slice B S.loose.length k, .map (some m), .bool S.fused, .int .i64 S.left] := h.st.same (hgr.block g h.st.lt (fun e => (h.neA (i := g) (by
    cases A with
    | none => cases e
    | some a => simpa [Value.ownBlock] using e.symm)).1 rfl))
  have d1 : w1.cell? ⟨g, 1, none⟩ = some (.slice A S.last.length c) := by rw [hst.cell]; rfl
  have f1 := hst.frozen 1
  have HL := Lib.hid (show Lay (w1.setCell ⟨g, 1, none⟩ (.slice A' x c')) g (S.grown x) A' c' B k m n D from by
    have hlg : (S.grown x).last.length = x := by simp [DS.grown]; omega
    have hng : A'.map (·.block) ≠ some g := by
      rcases hpl with e | e
      · rw [e]; intro q; exact (h.neA (i := g) (by
          cases A with
          | none => cases q
          | some a => simpa [Value.ownBlock] using q)).1 rfl
      · rw [e]; intro q; injection q with q; have := h.st.lt; rw [World.size_drew] at q; omega
    refine h.relast (fun i hi h1 h2 => (Below.heap_setCell w1 _ _ i h1).trans (hgr.block i hi (fun e => h2 e.symm))) ?_ rfl (h.ok.grown hx) ?_
    · rw [hlg]
      have : (S.grown x).last = S.last ++ List.replicate (x - S.last.length) zeros := by simp [DS.grown]
      rw [this]
      exact hw1.same fun i hi => Below.heap_setCell w1 _ _ i (fun e => hng (by have q := own_blk hi; rw [e] at q; exact q))
    · rw [hlg]
      have := hst.set 1 (.slice A' x c')
      simpa [DS.grown] using this)
  have HT := Lib.hid (show Turn (Parts g A B m) w (w1.setCell ⟨g, 1, none⟩ (.slice A' x c')) from by
    have ht : Turn (Parts g A B m) w w1 := Turn.ofGrown (show w.grownBy w1 _ from ⟨hgr.os, hgr.tape, hgr.output, hgr.size, hgr.block⟩) fun i e _ => .inr (.inl e)
    exact ht.set ⟨g, 1, none⟩ (.inr (.inl rfl)) _)
  clear h hd h1 h2 h3 h4 hw1 hgr hst hx1 hx2
  generalize S.most = y at *
  generalize S.last.length = z at *
  go_enter Try.func23, Try.ntmps23
  go_wp2_with fail
  refine hdd.mono ?_
  rintro e w' ⟨rfl, rfl⟩
  clear hdd
  go_wp2_with fail
  have hwr : IntKind.i64.wrap ((x : Int) - z) = x - z := IntWalk.i64_in _ (by omega)
  go_region_law (refine step_append_run rfl (.tmp 24) (.tmp 31) 62 3 rfl (by simp [Act.eval, Act.put]) (by simp [Act.eval, Act.put]) hrun ?_)
  all_goals
    go_wp2_with fail
    go_ret
    exact ⟨rfl, A', c', HL.out, HT.out, hpl⟩
theorem went_same (h : Dk w g S F) : Went F g w S w := by
  obtain ⟨A, c, B, k, m, n, D, h, hp⟩ := h
  exact went_mk h (fun i hi => .inl (hp i hi)) (Turn.refl _ _)
/-- Grow, whatever is asked -/
theorem grow_dk (h : Dk w g S F) (x : Int) : Calls Try.prog 23 #[.pointer (some ⟨g, 0, none⟩), .int .i64 x] w fun e w' => e = .returned (.int .i64 (S.growE x)) ∧ Went F g w (S.grow x) w' := by
  have hs := went_same h
  obtain ⟨A, c, B, k, m, n, D, h, hp⟩ := h
  unfold DS.growE DS.grow
  by_cases h1 : S.most < x
  · rw [if_pos h1, if_pos h1]
    exact (grow_full h x h1).mono fun e w' ⟨he, hw⟩ => ⟨he, hw ▸ hs⟩
  · rw [if_neg h1, if_neg h1]
    cases hd : S.dead with
    | true => exact (grow_dead h x (by omega) hd).mono fun e w' ⟨he, hw⟩ => ⟨by simpa using he, by simpa using hw ▸ hs⟩
    | false =>
      by_cases h2 : x ≤ S.last.length
      · have e0 : S.grown x = S := by
          have : x.toNat - S.last.length = 0 := by omega
          simp [DS.grown, this]
        exact (grow_less h x (by omega) hd h2).mono fun e w' ⟨he, hw⟩ => ⟨by simpa using he, by simpa [e0] using hw ▸ hs⟩
      · obtain ⟨y, rfl⟩ := Int.eq_ofNat_of_zero_le (show 0 ≤ x by omega)
        refine (grow_more h y (by omega) hd (by omega)).mono fun e w' ⟨he, A', c', hl, ht, hpl⟩ => ⟨by simpa using he, ?_⟩
        simp only [Bool.false_eq_true, if_false]
        refine went_mk hl (fun i hi => ?_) (ht.mono fun i _ => hp i)
        rcases hi with hi | hi | hi | hi
        · exact .inl (hp i (.inl hi))
        · rcases hpl with e | e
          · rw [e] at hi; exact .inl (hp i (.inr (.inl hi)))
          · rw [e] at hi; injection hi with hi; exact .inr (by omega)
        · exact .inl (hp i (.inr (.inr (.inl hi))))
        · exact .inl (hp i (.inr (.inr (.inr hi))))
end
end Go.Proofs.Ytecdindjlfefhaa.DiskGrow
