/- Contracts of Write. -/
import Derived.Test.YtecdindjlfefhaaDiskGrow
namespace Go.Proofs.Ytecdindjlfefhaa.DiskWrite
open Go.RowKit Base DiskPlain DiskMem DiskSmall DiskRead DiskGrow Go.Maps

/-- a loose write's cells: a page's number, and bytes -/
def wcell (p : Int) (l : List UInt8) : Array Value := (Value.int .i64 p :: bv l).toArray
theorem wcell_size (p : Int) {l : List UInt8} (h : l.length = 256) : (wcell p l).size = 257 := by simp [wcell, bv_len, h]
theorem build_w (p : Int) (w : World) : (Instr.build 80 #[(0, .int .i64 p)]).run Try.prog w = .ok (.agg (wcell p zeros)) w := by kernel_rfl
theorem zero_w (w : World) : (zeroValue 80).run Try.prog w = .ok (.agg (wcell 0 zeros)) w := by kernel_rfl
theorem wcell_one (p : Int) (l : List UInt8) : ∀ v ∈ (wcell p l).toList, v.oneCell' = true := by
  intro v hv
  rcases List.mem_cons.1 hv with rfl | hv
  · rfl
  · exact bv_one l v hv
theorem wcell_set (p : Int) (l : List UInt8) : (wcell 0 l).setIfInBounds 0 (.int .i64 p) = wcell p l := by simp [wcell]
theorem stores_w (w : World) (p q : Int) (l l' : List UInt8) (h : l.length = 256) (h' : l'.length = 256) :
    (storeCells ⟨w.heap.size, 0, none⟩ (wcell p l).toList).run Try.prog (w.alloc (.cells (wcell q l') 80)) = .ok () (w.alloc (.cells (wcell p l) 80)) := by
  have e := run_storeCells_from (P := Try.prog) w.heap.size 80 (wcell p l).toList 0 (wcell q l') (w.alloc (.cells (wcell q l') 80)) (heap_alloc_new w _) (by simp [wcell_size p h, wcell_size q h']) (wcell_one p l)
  rw [e, setRow_new]
  simp
/-- the argument's bytes go over into the write -/
theorem copy_w {w : World} (p : Int) (a : Addr) (c : Nat) (l : Pg) (hl : l.length = 256) (hsrc : ∀ j v, (bv l)[j]? = some v → w.cell? (a.add j) = some v) :
    (Builtin.copy_ #[45, 45] 3 #[.slice (some ⟨w.heap.size, 1, none⟩) 256 256, .slice (some a) 256 c]).run Try.prog (w.alloc (.cells (wcell p zeros) 80)) = .ok (.int .i64 256) (w.alloc (.cells (wcell p l) 80)) := by
  have hz := wcell_size p zeros_len
  have := copy_run (w := w.alloc (.cells (wcell p zeros) 80)) 3 w.heap.size 1 256 256 a 256 c (wcell p zeros) 80 (bv l) (heap_alloc_new w _) (by simp [bv_len, hl]) (fun j v hv => by
    have hc := hsrc j v hv
    rw [World.cell?_alloc_lt _ _ _ (World.block_lt_of_cell? w _ hc)]
    exact hc) (by simp [bv_len, hl, hz]) (bv_one l)
  rw [this, setRow_new, bv_len, hl]
  have e : splice (wcell p zeros).toList 1 (bv l) = (wcell p l).toList := by
    simp [splice, wcell, bv_len, hl, zeros_len]
  rw [e]
  rfl
theorem store_w (w : World) (p q : Int) (l l' : List UInt8) (h : l.length = 256) (h' : l'.length = 256) :
    (storeVar 80 ⟨w.heap.size, 0, none⟩ (.agg (wcell p l))).run Try.prog (w.alloc (.cells (wcell q l') 80)) = .ok () (w.alloc (.cells (wcell p l) 80)) := by
  have e := run_storeVar_row (P := Try.prog) (w.alloc (.cells (wcell q l') 80)) w.heap.size 80 80 (wcell q l') (wcell p l) (heap_alloc_new w _) (by rw [wcell_size p h]; kernel_rfl) (by rw [wcell_size p h, wcell_size q h']) (by
    rw [Array.all_eq_true_iff_forall_mem]; intro v hv; exact wcell_one p l v (by simpa using hv))
  rw [e, setRow_new]
theorem own_of {A : Option Addr} {n c i : Nat} (h : A.map (·.block) = some i) : (Value.slice A n c).ownBlock = some i := by
  cases A with
  | none => cases h
  | some a => simpa [Value.ownBlock] using h
theorem own_eq (A : Option Addr) (n c : Nat) : (Value.slice A n c).ownBlock = A.map (·.block) := by cases A <;> rfl
/-- append onto a row of wide things -/
theorem append_wide {P : Program} {w : World} {t ty e : TypeId} {i : TypeInfo} {z : Value} (size bytes : Nat) (ht : P.underlying t = some (.slice e)) (hi : P.info? e = some i) (hz : i.zero = some z) (hsize : i.size = size) (hby : i.bytes = bytes) (hzs : z.cells.size = size) (hsz : 0 < size)
    {A : Option Addr} {n c : Nat} {xs : List Value} (hown : Wd w e size A n c xs) (ad : Addr) (m c2 : Nat) (news : List Value) (hl : news.length = m * size) (hnews : ∀ j u, news[j]? = some u → w.cell? (ad.add j) = some u) (h1 : ∀ u ∈ news, u.oneCell' = true) (h63 : n + m ≤ 1000000000) (hbytes : (n + m) * bytes ≤ 140737488355328) :
    ∃ A' c' w', (Builtin.append_ #[t, t] ty #[.slice A n c, .slice (some ad) m c2]).run P w = .ok (.slice A' (n + m) c') w' ∧ Wd w' e size A' (n + m) c' (xs ++ news) ∧ w.grownBy w' (A.map (·.block)) ∧
      (A'.map (·.block) = A.map (·.block) ∨ A'.map (·.block) = some w.heap.size) := by
  obtain ⟨v', w', hrun, h2, h3, _, h5⟩ := run_append_own_at (P := P) w 0 t ty e i z size bytes ht hi hz hsize hby hzs hsz _ n xs hown ad m c2 news hl hnews h1 (by unfold maxLen; omega) hbytes (Nat.zero_le _)
  have hform : ∃ A' c', v' = .slice A' (n + m) c' := by
    rcases h2.2 with ⟨h4, h5⟩ | ⟨g, cap, cur, h4, _⟩
    · exact ⟨none, 0, by rw [h4, h5]⟩
    · exact ⟨_, _, h4⟩
  obtain ⟨A', c', rfl⟩ := hform
  rw [own_eq] at h3
  rw [own_eq, own_eq] at h5
  exact ⟨A', c', w', hrun, h2, h3, h5⟩
theorem write_info : (Try.prog.info? 80).map (fun i => (i.zero, i.size, i.bytes)) = some (some (.agg (wcell 0 zeros)), 257, 264) := by kernel_rfl
theorem load_w {w : World} {G : Nat} {p : Int} {l : Pg} (hl : l.length = 256) (h : w.heap[G]? = some (.cells (wcell p l) 80 (0, 0))) : (loadCells ⟨G, 0, none⟩ 257).run Try.prog w = .ok (wcell p l) w := by
  have := run_loadCells_list (P := Try.prog) w ⟨G, 0, none⟩ (wcell p l).toList (fun j v hv => by
    rw [add_blk, Nat.zero_add, cell_of_row w G j _ _ _ h]
    simpa using hv)
  simpa [wcell_size p hl] using this
theorem fold_list : ∀ (L : List Value) (k : Nat) (A : Array Value), k + L.length ≤ A.size → ∀ i, ((L.zipIdx k).foldl (fun cs x => cs.setIfInBounds x.snd x.fst) A)[i]? = if k ≤ i ∧ i < k + L.length then L[i - k]? else A[i]?
  | [], k, A, _, i => by simp; omega
  | v :: L, k, A, h, i => by
    rw [List.zipIdx_cons, List.foldl_cons, fold_list L (k + 1) _ (by simp at h ⊢; omega) i]
    simp only [List.length_cons] at h ⊢
    by_cases h1 : k + 1 ≤ i ∧ i < k + 1 + L.length
    · rw [if_pos h1, if_pos (by omega), show i - k = (i - (k + 1)) + 1 by omega]
      simp
    · rw [if_neg h1]
      by_cases h2 : i = k
      · subst h2
        rw [if_pos (by omega), Nat.sub_self, Array.getElem?_setIfInBounds_self_of_lt (by omega)]
        simp
      · rw [if_neg (by omega), Array.getElem?_setIfInBounds_ne (by omega)]
theorem fold_all (Z X : Array Value) (h : Z.size = X.size) : Array.foldl (fun cs x => cs.setIfInBounds x.snd x.fst) Z X.zipIdx 0 X.size = X := by
  have e : Array.foldl (fun cs x => cs.setIfInBounds x.snd x.fst) Z X.zipIdx 0 X.size = (X.toList.zipIdx 0).foldl (fun (cs : Array Value) x => cs.setIfInBounds x.snd x.fst) Z := by
    have : X.size = X.zipIdx.size := by simp
    rw [this, ← Array.foldl_toList]
    simp
  rw [e]
  apply Array.ext_getElem?
  intro i
  rw [fold_list _ 0 Z (by simp [h]) i]
  by_cases hi : i < X.size
  · simp [hi]
  · simp [hi, h]
/-- the size of a loose write, under a name: the walk unfolds no load of so many cells -/
theorem size_w : ∃ N : Nat, N = 257 ∧ ∀ w : World, (sizeOf 80).run Try.prog w = .ok N w := ⟨257, rfl, fun w => by kernel_rfl⟩
theorem ldN {w : World} {G o : Nat} {cs : List Value} (h : ∀ j v, cs[j]? = some v → w.cell? ⟨G, o + j, none⟩ = some v) : (loadCellsFrom ⟨G, o, none⟩ 0 cs.length #[]).run Try.prog w = .ok cs.toArray w :=
  run_loadCells_list (P := Try.prog) w ⟨G, o, none⟩ cs fun j v hv => by rw [add_blk]; exact h j v hv
section
variable {w : World} {g : Nat} {S : DS} {F : Nat → Prop} {A B : Option Addr} {c k m n : Nat} {D : DataW Unit}
theorem write_bad (h : Lay w g S A c B k m n D) (p : Int) (v : Value) (hp : S.has p = false) : Calls Try.prog 21 #[.pointer (some ⟨g, 0, none⟩), .int .i64 p, v] w fun e w' => e = .returned (.int .i64 30) ∧ w = w' := by
  have hh := has_lay h p
  rw [hp] at hh
  clear h hp
  go_enter Try.func21, Try.ntmps21
  go_wp2_with fail
  refine hh.mono ?_
  rintro e w' ⟨rfl, rfl⟩
  clear hh
  go_wp2_with fail
  go_ret
  exact ⟨rfl, rfl⟩
theorem write_size (h : Lay w g S A c B k m n D) (p : Int) (a : Option Addr) (l b : Nat) (hp : S.has p = true) (hl : l ≠ 256) : Calls Try.prog 21 #[.pointer (some ⟨g, 0, none⟩), .int .i64 p, .slice a l b] w fun e w' => e = .returned (.int .i64 31) ∧ w = w' := by
  have hh := has_lay h p
  rw [hp] at hh
  clear h hp
  have hb : (((l : Nat) : Int) != 256) = true := by simp; omega
  have HL := Lib.hid hl
  clear hl
  go_enter Try.func21, Try.ntmps21
  go_wp2_with fail
  refine hh.mono ?_
  rintro e w' ⟨rfl, rfl⟩
  clear hh
  go_wp2_with fail
  go_ret
  exact ⟨rfl, rfl⟩
theorem write_dead (h : Lay w g S A c B k m n D) (p : Int) (a : Option Addr) (b : Nat) (hp : S.has p = true) (hd : S.dead = true) : Calls Try.prog 21 #[.pointer (some ⟨g, 0, none⟩), .int .i64 p, .slice a 256 b] w fun e w' => e = .returned (.int .i64 33) ∧ w = w' := by
  have hh := has_lay h p
  rw [hp] at hh
  have hdd := dead_lay h
  rw [hd] at hdd
  clear h hp hd
  go_enter Try.func21, Try.ntmps21
  go_wp2_with fail
  refine hh.mono ?_
  rintro e w' ⟨rfl, rfl⟩
  clear hh
  go_wp2_with fail
  refine hdd.mono ?_
  rintro e w' ⟨rfl, rfl⟩
  clear hdd
  go_wp2_with fail
  go_ret
  exact ⟨rfl, rfl⟩
set_option maxRecDepth 100000 in
theorem write_good (h : Lay w g S A c B k m n D) (p : Nat) (a : Addr) (b : Nat) (l : Pg) (hl : l.length = 256) (hp : p < S.last.length) (hd : S.dead = false) (hll : S.loose.length ≤ 100000000) (hrow : ∀ j v, (bv l)[j]? = some v → w.cell? (a.add j) = some v) :
    Calls Try.prog 21 #[.pointer (some ⟨g, 0, none⟩), .int .i64 (p : Int), .slice (some a) 256 b] w fun e w' => e = .returned (.int .i64 0) ∧
    ∃ B' k' D', Lay w' g (S.written p l).burn A c B' k' m (n + 1) D' ∧ Turn (Parts g A B m) w w' ∧ (B'.map (·.block) = B.map (·.block) ∨ ∃ i, B'.map (·.block) = some i ∧ w.heap.size ≤ i) := by
  have hlen := h.ok.len4096
  have hh := has_lay h (p : Int)
  rw [has_iff.2 ⟨by omega, by omega⟩] at hh
  have hdd := dead_lay h
  rw [hd] at hdd
  have hze := zero_w
  have hst := stores_w w (p : Int) 0 zeros zeros zeros_len zeros_len
  obtain ⟨N, hNe, hN⟩ := size_w
  have hX : (wcell p l).size = N := by rw [wcell_size p hl, hNe]
  have hZ : (wcell 0 zeros).size = N := by rw [wcell_size 0 zeros_len, hNe]
  have hZp : (wcell p zeros).size = N := by rw [wcell_size p zeros_len, hNe]
  have hN1 : ¬ (16777216 < N) := by omega
  have hN0 : ¬ (N = 0) := by omega
  have hset := wcell_set (p : Int) zeros
  have hcp := copy_w (w := w) (p : Int) a b l hl hrow
  have h1 : Lay (w.alloc (.cells (wcell p l) 80)) g S A c B k m n D := h.same fun i hi => Below.heap_alloc _ _ _ (h.lt i hi)
  have c2 := lay2 h1
  have c3 := lay3 h1
  have hnl := h.nn
  obtain ⟨w2, hup, hm2, hg2⟩ := h1.mp.drew.update law_int Try.underlying61 (by unfold maxLen; omega) (key_int p (by omega)) (plainElem_int Try.underlying3 (WalkArith.wf_i64 (show (-9223372036854775808 : Int) ≤ (S.loose.length : Int) ∧ (S.loose.length : Int) ≤ 9223372036854775807 by omega)))
  have hsz2 : w.heap.size < w2.heap.size := by have := hg2.size; simp at this; omega
  have hot2 : ∀ i, i < w.heap.size + 1 → i ≠ m → w2.heap[i]? = (w.alloc (.cells (wcell p l) 80)).heap[i]? := fun i hi hne => hg2.block i (by simpa using hi) (fun e => hne (by injection e))
  have hmlt := h.mp.lt
  have hglt := h.st.lt
  have hst2 := h1.st.same (hot2 g (by omega) (fun e => h.neM e.symm))
  have d2 : w2.cell? ⟨g, 2, none⟩ = some (.slice B S.loose.length k) := by rw [hst2.cell]; rfl
  have d2a : (w2.alloc (.cells (wcell p l) 80)).cell? ⟨g, 2, none⟩ = some (.slice B S.loose.length k) := (World.cell?_alloc_lt _ _ _ (show g < w2.heap.size by omega)).trans d2
  have hG2 : w2.drew.heap[w.heap.size]? = some (.cells (wcell p l) 80 (0, 0)) := (hot2 w.heap.size (by omega) (by omega)).trans (heap_alloc_new w _)
  have hld : (loadCellsFrom ⟨w.heap.size, 0, none⟩ 0 N #[]).run Try.prog w2.drew = .ok (wcell p l) w2.drew := by
    have := ldN (w := w2.drew) (G := w.heap.size) (o := 0) (cs := (wcell p l).toList) (fun j v hv => by rw [Nat.zero_add, cell_of_row _ _ _ _ _ _ hG2]; simpa using hv)
    rw [Array.length_toList, hX] at this
    simpa using this
  have hfo : Array.foldl (fun cs x => cs.setIfInBounds x.snd x.fst) (Array.map (fun x => (wcell 0 zeros)[x % N]!) (Array.range N)) (wcell p l).zipIdx 0 N = wcell p l := by
    have := fold_all (Array.map (fun x => (wcell 0 zeros)[x % N]!) (Array.range N)) (wcell p l) (by simp [hX])
    rwa [hX] at this
  have hlo2 : Wd (w2.alloc (.cells (wcell p l) 80)).drew 80 257 B S.loose.length k (looseCells S.loose) := h1.lo.same fun i hi => by
    have hil := h.lo.blk i hi
    rw [show (w2.alloc (.cells (wcell p l) 80)).drew.heap = (w2.alloc (.cells (wcell p l) 80)).heap from rfl, Below.heap_alloc w2 _ i (by omega)]
    exact hot2 i (by omega) (h.neB hi).2.1
  obtain ⟨i0, hi1, hi2, hi3, hi4⟩ := info_parts write_info
  obtain ⟨B', k', w3, hrun, hw3, hgr3, hpl3⟩ := append_wide (t := 63) (ty := 63) 257 264 Try.underlying63 hi1 hi2 hi3 hi4 (by simp [Value.cells, wcell_size 0 zeros_len]) (by omega) hlo2 ⟨w2.heap.size, 0, none⟩ 1 1 (wcell p l).toList (by simp [wcell_size p hl]) (fun j u hu => by
    rw [add_blk, Nat.zero_add, World.cell?_drew, cell_of_row _ w2.heap.size j _ _ _ (heap_alloc_new w2 _)]; simpa using hu) (wcell_one p l) (by omega) (by omega)
  have hgr4 : ∀ i, i < w2.heap.size + 1 → B.map (·.block) ≠ some i → w3.heap[i]? = (w2.alloc (.cells (wcell p l) 80)).heap[i]? := fun i hi hne => hgr3.block i (by simpa using hi) (fun e => hne e.symm)
  have hot3 : ∀ i, i < w.heap.size → i ≠ m → B.map (·.block) ≠ some i → w3.heap[i]? = w.heap[i]? := fun i hi hm hB => by
    rw [hgr4 i (by omega) hB, Below.heap_alloc w2 _ i (by omega), hot2 i (by omega) hm, Below.heap_alloc w _ i hi]
  have hBg : B.map (·.block) ≠ some g := fun e => (h.neB (own_of e)).1 rfl
  have hBm : B.map (·.block) ≠ some m := fun e => (h.neB (own_of e)).2.1 rfl
  have hB' : B'.map (·.block) = B.map (·.block) ∨ ∃ i, B'.map (·.block) = some i ∧ w.heap.size ≤ i := by
    rcases hpl3 with e | e
    · exact .inl e
    · exact .inr ⟨_, e, by simp; omega⟩
  have hst3 := h.st.same (hot3 g hglt (fun e => h.neM e.symm) hBg)
  have d3 : w3.cell? ⟨g, 2, none⟩ = some (.slice B S.loose.length k) := by rw [hst3.cell]; rfl
  have f3 := hst3.frozen 2
  have HL := Lib.hid (show Lay (w3.setCell ⟨g, 2, none⟩ (.slice B' (S.loose.length + 1) k')) g (S.written p l) A c B' k' m (n + 1) _ from by
    have ho : ∀ i, i ≠ g → (w3.setCell ⟨g, 2, none⟩ (.slice B' (S.loose.length + 1) k')).heap[i]? = w3.heap[i]? := fun i hi => Below.heap_setCell w3 _ _ i hi
    refine ⟨?_, ?_, ?_, map_same hm2 ?_, newest_put h.mp.isMap h.nw p l, ?_, h.ok.written hp hl⟩
    · have := hst3.set 2 (.slice B' (S.loose.length + 1) k')
      simpa [DS.written] using this
    · exact h.la.same fun i hi => (ho i (h.neA hi).1).trans (hot3 i (h.la.blk i hi) (h.neA hi).2.1 (fun e => (h.neB (own_of e)).2.2.1 hi))
    · have e1 : (S.written p l).loose.length = S.loose.length + 1 := by simp [DS.written]
      have e2 : looseCells (S.written p l).loose = looseCells S.loose ++ (wcell p l).toList := by simp only [DS.written]; rw [looseCells_snoc]; rfl
      rw [e1, e2]
      refine hw3.same fun i hi => ho i (fun e => ?_)
      have q := own_blk hi
      rcases hB' with h5 | ⟨j, h5, h6⟩
      · rw [h5, e] at q; exact hBg q
      · rw [h5] at q; injection q with q; omega
    · rw [ho m h.neM, hgr4 m (by omega) hBm, Below.heap_alloc w2 _ m (by omega)]
    · have := h.nn; simp [DS.written]; omega)
  have HT := Lib.hid (show Turn (Parts g A B m) w (w3.setCell ⟨g, 2, none⟩ (.slice B' (S.loose.length + 1) k')) from by
    have ht : Turn (Parts g A B m) w w3 := ⟨hgr3.os.trans hg2.os, hgr3.tape.trans hg2.tape, hgr3.output.trans hg2.output, by have := hgr3.size; simp at this; omega, fun i hi hn => hot3 i hi (fun e => hn (.inr (.inr (.inr e)))) (fun e => hn (.inr (.inr (.inl e))))⟩
    exact ht.set ⟨g, 2, none⟩ (.inr (.inl rfl)) _)
  have HB := Lib.hid hB'
  have HD := Lib.hid (dead_false h.ok hd)
  clear hw3 hgr3 hpl3 hlo2 hG2 hi1 hi2 hi3 hi4 hst2 hot2 hm2 hg2 h1 hNe hst3 hgr4 hot3 hBg hBm hB' h hd
  go_enter Try.func21, Try.ntmps21
  go_wp2_with fail
  refine hh.mono ?_
  rintro e w' ⟨rfl, rfl⟩
  clear hh
  go_wp2_with fail
  refine hdd.mono ?_
  rintro e w' ⟨rfl, rfl⟩
  clear hdd
  go_wp2_with fail
  go_region
  all_goals
    go_wp2_with fail
    go_region_law (refine step_append_run rfl (.tmp 37) (.tmp 39) 63 63 rfl rfl rfl hrun ?_)
  all_goals
    go_wp2_with fail
    refine (burn_lay HL.out HD.out).mono ?_
    rintro e w' ⟨rfl, hl', ht'⟩
    go_wp2_with fail
    go_ret
    exact ⟨rfl, _, _, _, hl', HT.out.trans ht' (fun i _ e => .inl e), HB.out⟩
/-- Write, whatever is asked: of a page, of bytes -/
theorem write_dk (h : Dk w g S F) (p : Int) (a : Option Addr) (b : Nat) (l : Pg) (hll : S.loose.length ≤ 100000000) (hrow : Row w w.heap.size a (bv l)) :
    Calls Try.prog 21 #[.pointer (some ⟨g, 0, none⟩), .int .i64 p, .slice a l.length b] w fun e w' => e = .returned (.int .i64 (S.writeE p l)) ∧ Went F g w (S.write p l) w' := by
  have hs := went_same h
  obtain ⟨A, c, B, k, m, n, D, h, hp⟩ := h
  unfold DS.writeE DS.write
  cases h1 : S.has p with
  | false => exact (write_bad h p _ h1).mono fun e w' ⟨he, hw⟩ => ⟨by simpa using he, by simpa using hw ▸ hs⟩
  | true =>
    by_cases h2 : l.length = 256
    · cases hd : S.dead with
      | true => rw [h2]; exact (write_dead h p a b h1 hd).mono fun e w' ⟨he, hw⟩ => ⟨by simpa using he, by simpa using hw ▸ hs⟩
      | false =>
        have h3 := has_iff.1 h1
        obtain ⟨q, rfl⟩ := Int.eq_ofNat_of_zero_le h3.1
        obtain ⟨ad, rfl, _⟩ := hrow.get 0 (by simp [bv_len, h2])
        rw [h2]
        refine (write_good h q ad b l h2 (by omega) hd hll (fun j v hv => by obtain ⟨ad', e, _, hc⟩ := hrow j v hv; injection e with e; subst e; exact hc)).mono fun e w' ⟨he, B', k', D', hl', ht, hpl⟩ => ⟨by simpa using he, ?_⟩
        simp only [Bool.true_eq_false, if_false, ne_eq, not_true_eq_false, Bool.false_eq_true, Int.toNat_natCast]
        refine went_mk hl' (fun i hi => ?_) (ht.mono fun i _ => hp i)
        rcases hi with hi | hi | hi | hi
        · exact .inl (hp i (.inl hi))
        · exact .inl (hp i (.inr (.inl hi)))
        · rcases hpl with e | ⟨j, e, hj⟩
          · rw [e] at hi; exact .inl (hp i (.inr (.inr (.inl hi))))
          · rw [e] at hi; injection hi with hi; exact .inr (by omega)
        · exact .inl (hp i (.inr (.inr (.inr hi))))
    · exact (write_size h p a l.length b h1 h2).mono fun e w' ⟨he, hw⟩ => ⟨by simpa [h2] using he, by simpa [h2] using hw ▸ hs⟩
end
end Go.Proofs.Ytecdindjlfefhaa.DiskWrite
