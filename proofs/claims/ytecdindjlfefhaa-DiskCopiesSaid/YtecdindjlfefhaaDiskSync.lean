/- Contracts of Sync. -/
import Derived.Test.YtecdindjlfefhaaDiskWrite
namespace Go.Proofs.Ytecdindjlfefhaa.DiskSync
open Go.RowKit Base DiskPlain DiskMem DiskSmall DiskRead DiskGrow DiskWrite Go.Maps

/-- a page's cells -/
def pcell (l : List UInt8) : Array Value := (bv l).toArray
theorem pcell_size {l : List UInt8} (h : l.length = 256) : (pcell l).size = 256 := by simp [pcell, bv_len, h]
theorem size_p : ∃ M : Nat, M = 256 ∧ ∀ w : World, (sizeOf 77).run Try.prog w = .ok M w := ⟨256, rfl, fun w => by kernel_rfl⟩
/-- with so many of the loose writes lasting -/
def DS.upto (S : DS) (j : Nat) : DS := { S with last := flush S.last (S.loose.take j) }
theorem upto_ok {S : DS} (h : S.Ok) (j : Nat) : (DS.upto S j).Ok := by
  refine ⟨h.m1, h.m2, by simpa [DS.upto, flush_len] using h.len, flush_pages _ (fun x hx => h.wlen x (List.mem_of_mem_take hx)) _ h.pages, ?_, h.wlen, h.l1, h.l2⟩
  intro x hx
  simpa [DS.upto, flush_len] using h.wpage x hx
theorem flush_snoc (L : List Pg) (l : List (Nat × Pg)) (x : Nat × Pg) : flush L (l ++ [x]) = (flush L l).set x.1 x.2 := by simp [flush]
theorem upto_succ {S : DS} {j : Nat} {x : Nat × Pg} (hx : S.loose[j]? = some x) : (DS.upto S (j + 1)).last = (DS.upto S j).last.set x.1 x.2 := by
  have hj : j < S.loose.length := (List.getElem?_eq_some_iff.1 hx).1
  have e : S.loose.take (j + 1) = S.loose.take j ++ [x] := by
    rw [List.take_succ_eq_append_getElem hj, (List.getElem?_eq_some_iff.1 hx).2]
  simp only [DS.upto]
  rw [e, flush_snoc]
def SyncRel (w : World) (g : Nat) (S : DS) (A : Option Addr) (c : Nat) (B : Option Addr) (k m n : Nat) (D : DataW Unit) (j : Nat) (wr : World) : Prop := Lay wr g (DS.upto S j) A c B k m n D ∧ Turn (Parts g A B m) w wr
section
variable {w : World} {g : Nat} {S : DS} {F : Nat → Prop} {A B : Option Addr} {c k m n : Nat} {D : DataW Unit}
theorem sync_dead (h : Lay w g S A c B k m n D) (hd : S.dead = true) : Calls Try.prog 17 #[.pointer (some ⟨g, 0, none⟩)] w fun e w' => e = .returned (.tuple #[]) ∧ w = w' := by
  have hdd := dead_lay h
  rw [hd] at hdd
  clear h hd
  go_enter Try.func17, Try.ntmps17
  go_wp2_with fail
  refine hdd.mono ?_
  rintro e w' ⟨rfl, rfl⟩
  clear hdd
  go_wp2_with fail
  refine bodyPost_ret (results_none rfl _ _ _) rfl ?_
  exact ⟨rfl, rfl⟩
/-- a page written whole into the lasting row -/
theorem put_page {w w1 : World} {S S' : DS} (h : Lay w g S A c B k m n D) (hw1 : ∀ i, i < w.heap.size → w1.heap[i]? = w.heap[i]?) {p : Nat} (hp : p < S.last.length) (a : Nat) (b : List UInt8) (hab : a + b.length ≤ 256) {gA : Nat} (hA : A = some ⟨gA, 0, none⟩) {cur : Array Value} (hg : w1.heap[gA]? = some (.cells cur 77 (0, 0)))
    (hS : S' = { S with last := S.last.set p (splice (S.last.getD p []) a b) }) (hok : S'.Ok) : Lay (w1.setRow gA (splice cur.toList (p * 256 + a) (bv b)).toArray) g S' A c B k m n D := by
  subst hS
  have hgA : gA < w.heap.size := h.la.blk gA (by subst hA; rfl)
  have hla1 : Wd w1 77 256 A S.last.length c (lastCells S.last) := h.la.same fun i hi => hw1 i (h.la.blk i hi)
  have hgne : g ≠ gA := fun e => (h.neA (i := gA) (by subst hA; rfl)).1 e.symm
  refine h.relast (fun i hi _ hn => (setRow_other w1 gA i _ (fun e => hn (by subst hA; simp [e]))).trans (hw1 i hi)) ?_ rfl hok ?_
  · have hf : p * 256 + a + (bv b).length ≤ S.last.length * 256 := by
      rw [bv_len]
      have : (p + 1) * 256 ≤ S.last.length * 256 := Nat.mul_le_mul_right _ hp
      omega
    have := hla1.put hA hg hf
    rw [lastCells_splice h.ok.pages (b := S.last.getD p []) b (by simp [List.getElem?_eq_getElem hp]) hab] at this
    simpa using this
  · have := h.st.same (w' := w1.setRow gA (splice cur.toList (p * 256 + a) (bv b)).toArray) ((setRow_other w1 gA g _ hgne).trans (hw1 g h.st.lt))
    simpa using this
theorem stores_run {w : World} {G o : Nat} {cur : Array Value} {t : TypeId} {cs : List Value} (hg : w.heap[G]? = some (.cells cur t (0, 0))) (hf : o + cs.length ≤ cur.size) (h1 : ∀ v ∈ cs, v.oneCell' = true) :
    (storeCells ⟨G, o, none⟩ cs).run Try.prog w = .ok () (w.setRow G (splice cur.toList o cs).toArray) := by
  have := run_storeCells_at Try.prog G o t cs 0 cur w hg (by simpa using hf) h1
  simp only [Nat.add_zero] at this
  rw [this, splice, List.append_assoc]
theorem upto_zero (S : DS) : DS.upto S 0 = S := by simp [DS.upto, flush]
theorem upto_all (S : DS) : (DS.upto S S.loose.length).forget = S.synced := by simp [DS.upto, DS.forget, DS.synced]
theorem sync_nil (h : Lay w g S A c B k m n D) (hd : S.dead = false) (hll : S.loose.length = 0) : Calls Try.prog 17 #[.pointer (some ⟨g, 0, none⟩)] w fun e w' => e = .returned (.tuple #[]) ∧ Lay w' g S.synced.burn A c none 0 m 0 (.map []) ∧ Turn (Parts g A B m) w w' := by
  have hdd := dead_lay h
  rw [hd] at hdd
  have c2 := lay2 h
  rw [hll] at c2
  have HD := Lib.hid (dead_false h.ok hd)
  have HS := Lib.hid (show S.forget = S.synced by have := upto_all S; rwa [hll, upto_zero] at this)
  have HH := Lib.hid h
  clear hd h hll
  go_enter Try.func17, Try.ntmps17
  go_wp2_with fail
  refine hdd.mono ?_
  rintro e w' ⟨rfl, rfl⟩
  clear hdd
  go_wp2_with fail
  refine wp_loop_rounds 1 ?_
  rw [rounds_succ]
  go_wp2_with fail
  refine (forget_lay HH.out).mono ?_
  rintro e w1 ⟨rfl, hl1, ht1⟩
  go_wp2_with fail
  refine (burn_lay hl1 HD.out).mono ?_
  rintro e w2 ⟨rfl, hl2, ht2⟩
  go_wp2_with fail
  go_end0
  refine ⟨rfl, by rw [HS.out] at hl2; exact hl2, ?_⟩
  exact (ht1.mono (fun i _ e => e.elim .inl (fun e => .inr (.inr (.inr e))))).trans ht2 (fun i _ e => .inl e)
set_option maxRecDepth 100000 in
set_option maxHeartbeats 800000 in
theorem sync_some {gA gB : Nat} (h : Lay w g S (some ⟨gA, 0, none⟩) c (some ⟨gB, 0, none⟩) k m n D) (hd : S.dead = false) (hll : S.loose.length ≤ 100000000) : Calls Try.prog 17 #[.pointer (some ⟨g, 0, none⟩)] w fun e w' => e = .returned (.tuple #[]) ∧ Lay w' g S.synced.burn (some ⟨gA, 0, none⟩) c none 0 m 0 (.map []) ∧ Turn (Parts g (some ⟨gA, 0, none⟩) (some ⟨gB, 0, none⟩) m) w w' := by
  have hdd := dead_lay h
  rw [hd] at hdd
  have c2 := lay2 h
  have hn4 := h.ok.len4096
  have HD := Lib.hid (dead_false h.ok hd)
  have HW := Lib.hid h.ok.wlen
  have HP := Lib.hid h.ok.wpage
  have HO := Lib.hid h.ok
  have HR := Lib.hid (show SyncRel w g S (some ⟨gA, 0, none⟩) c (some ⟨gB, 0, none⟩) k m n D 0 w from ⟨by rw [upto_zero]; exact h, Turn.refl _ _⟩)
  clear hd h
  go_enter Try.func17, Try.ntmps17
  go_wp2_with fail
  refine hdd.mono ?_
  rintro e w' ⟨rfl, rfl⟩
  clear hdd
  go_wp2_with fail
  go_loopw [11] (fun i wr => ∃ j : Nat, j ≤ S.loose.length ∧ i = .int .i64 j ∧ SyncRel w g S (some ⟨gA, 0, none⟩) c (some ⟨gB, 0, none⟩) k m n D j wr) (fun i _ => S.loose.length - (intOf i).toNat)
  case atStart => exact ⟨0, by omega, rfl, HR.out⟩
  case round =>
    obtain ⟨j, hj, rfl, hr⟩ := hrel
    clear c2 HR
    by_cases hlt : j < S.loose.length
    · obtain ⟨⟨p, b⟩, hx⟩ : ∃ x, S.loose[j]? = some x := ⟨_, List.getElem?_eq_getElem hlt⟩
      have hxm : (p, b) ∈ S.loose := List.mem_of_getElem? hx
      have hb : b.length = 256 := HW.out _ hxm
      have hp : p < S.last.length := HP.out _ hxm
      have hl := hr.1
      have hlen : (DS.upto S j).last.length = S.last.length := by simp [DS.upto, flush_len]
      obtain ⟨N, hNe, hN⟩ := size_w
      obtain ⟨M, hMe, hM⟩ := size_p
      have hze := zero_w
      have hM0 : ¬ (M = 0) := by omega
      have hN0 : ¬ (N = 0) := by omega
      have hZ : (wcell 0 zeros).size = N := by rw [wcell_size 0 zeros_len, hNe]
      have hX : (wcell p b).size = N := by rw [wcell_size p hb, hNe]
      have hY : (pcell b).size = M := by rw [pcell_size hb, hMe]
      have hld : (loadCellsFrom ⟨gB, j * N, none⟩ 0 N #[]).run Try.prog wr = .ok (wcell p b) wr := by
        have := ldN (w := wr) (G := gB) (o := j * N) (cs := (wcell p b).toList) (fun i v hv => hl.lo.cell rfl (by
          subst hNe
          have e := flat_at 257 _ (loose_each HW.out) j i (Value.int .i64 (p : Int) :: bv b) (by simp [hx]) (by
            rcases Nat.lt_or_ge i 257 with q | q
            · exact q
            · rw [List.getElem?_eq_none (by simp [wcell_size p hb]; exact q)] at hv; cases hv)
          exact e.trans hv))
        rw [Array.length_toList, hX] at this
        simpa using this
      have hst := stores_w wr (p : Int) 0 b zeros hb zeros_len
      have hgo : ∀ i, i < wr.heap.size → (wr.alloc (.cells (wcell p b) 80)).heap[i]? = wr.heap[i]? := fun i hi => Below.heap_alloc _ _ _ hi
      have hGn := heap_alloc_new wr (.cells (wcell p b) 80)
      have hl1 : Lay (wr.alloc (.cells (wcell p b) 80)) g (DS.upto S j) (some ⟨gA, 0, none⟩) c (some ⟨gB, 0, none⟩) k m n D := hl.same fun i hi => hgo i (hl.lt i hi)
      have c1 := lay1 hl
      have c1' := lay1 hl1
      have c2 := lay2 hl
      rw [hlen] at c1 c1'
      have p0 : (wr.alloc (.cells (wcell p b) 80)).cell? ⟨wr.heap.size, 0, none⟩ = some (.int .i64 (p : Int)) := by rw [cell_of_row _ _ _ _ _ _ hGn]; rfl
      have hlp : (loadCellsFrom ⟨wr.heap.size, 1, none⟩ 0 M #[]).run Try.prog (wr.alloc (.cells (wcell p b) 80)).drew = .ok (pcell b) (wr.alloc (.cells (wcell p b) 80)).drew := by
        have := ldN (w := (wr.alloc (.cells (wcell p b) 80)).drew) (G := wr.heap.size) (o := 1) (cs := (pcell b).toList) (fun i v hv => by
          rw [World.cell?_drew, cell_of_row _ _ _ _ _ _ hGn, Nat.add_comm 1 i]
          simpa [wcell, pcell] using hv)
        rw [Array.length_toList, hY] at this
        simpa using this
      obtain ⟨gA', cur, hA, hgc, hc1, hc2, hcs, _⟩ := hl1.la.form (by rw [hlen]; omega)
      injection hA with hA
      injection hA with hA
      subst hA
      have hsp := stores_run (w := (wr.alloc (.cells (wcell p b) 80)).drew) (G := gA) (o := p * M) (cur := cur) (t := 77) (cs := (pcell b).toList) hgc (by
        rw [Array.length_toList, pcell_size hb, hcs, hMe]
        have : (p + 1) * 256 ≤ c * 256 := Nat.mul_le_mul_right _ (by omega)
        omega) (bv_one b)
      have HL := Lib.hid (show SyncRel w g S (some ⟨gA, 0, none⟩) c (some ⟨gB, 0, none⟩) k m n D (j + 1) ((wr.alloc (.cells (wcell p b) 80)).drew.setRow gA (splice cur.toList (p * M) (pcell b).toList).toArray) from by
        have hgd : (DS.upto S j).last.getD p [] = (DS.upto S j).last.getD p [] := rfl
        have e0 : (DS.upto S (j + 1)) = { DS.upto S j with last := (DS.upto S j).last.set p (splice ((DS.upto S j).last.getD p []) 0 b) } := by
          have e1 := upto_succ hx
          have e2 : splice ((DS.upto S j).last.getD p []) 0 b = b := splice_all _ _ (by rw [hb, getD_len (upto_ok HO.out j).pages (by rw [hlen]; exact hp)])
          rw [e2, ← e1]
          rfl
        have := put_page (w := wr) (w1 := (wr.alloc (.cells (wcell p b) 80)).drew) hl (fun i hi => hgo i hi) (p := p) (by rw [hlen]; exact hp) 0 b (by omega) rfl hgc e0 (upto_ok HO.out (j + 1))
        rw [Nat.add_zero] at this
        subst hMe
        exact ⟨this, ((hr.2.alloc _).drew).setRow gA (.inr (.inr (.inl rfl))) _⟩)
      clear hl hl1 hgo hGn hgc hcs hc1 hc2 hNe hMe hr hx hxm HW HP HO
      go_wp2_with fail
      go_region
      all_goals
        go_wp2_with fail
        go_roundw
        case rel => exact ⟨j + 1, by omega, by go_num, HL.out⟩
        case measure => simp [intOf]; omega
    · obtain rfl : j = S.loose.length := by omega
      go_wp2_with fail
      refine (forget_lay hr.1).mono ?_
      rintro e w1 ⟨rfl, hl1, ht1⟩
      go_wp2_with fail
      refine (burn_lay hl1 HD.out).mono ?_
      rintro e w2 ⟨rfl, hl2, ht2⟩
      go_wp2_with fail
      go_end0
      refine ⟨rfl, ?_, ?_⟩
      · rw [upto_all] at hl2
        exact hl2
      · exact (hr.2.trans ht1 (fun i _ e => e.elim .inl (fun e => .inr (.inr (.inr e))))).trans ht2 (fun i _ e => .inl e)
/-- Sync, dead or not -/
theorem sync_dk (h : Dk w g S F) (hll : S.loose.length ≤ 100000000) : Calls Try.prog 17 #[.pointer (some ⟨g, 0, none⟩)] w fun e w' => e = .returned (.tuple #[]) ∧ Went F g w S.sync w' := by
  have hs := went_same h
  obtain ⟨A, c, B, k, m, n, D, h, hp⟩ := h
  unfold DS.sync
  cases hd : S.dead with
  | true => exact (sync_dead h hd).mono fun e w' ⟨he, hw⟩ => ⟨he, by simpa using hw ▸ hs⟩
  | false =>
    have fin : ∀ w', Lay w' g S.synced.burn A c none 0 m 0 (.map []) → Turn (Parts g A B m) w w' → Went F g w (if false = true then S else S.synced.burn) w' := fun w' hl ht => by
      refine went_mk hl (fun i hi => .inl ?_) (ht.mono fun i _ => hp i)
      rcases hi with hi | hi | hi | hi
      · exact hp i (.inl hi)
      · exact hp i (.inr (.inl hi))
      · cases hi
      · exact hp i (.inr (.inr (.inr hi)))
    by_cases h0 : S.loose.length = 0
    · exact (sync_nil h hd h0).mono fun e w' ⟨he, hl, ht⟩ => ⟨he, fin w' hl ht⟩
    · obtain ⟨gB, _, rfl, _⟩ := h.lo.form (by omega)
      have hl0 : 0 < S.last.length := by
        obtain ⟨x, hx⟩ : ∃ x, x ∈ S.loose := ⟨S.loose[0], List.getElem_mem (by omega)⟩
        have := h.ok.wpage x hx
        omega
      obtain ⟨gA, _, rfl, _⟩ := h.la.form hl0
      exact (sync_some h hd hll).mono fun e w' ⟨he, hl, ht⟩ => ⟨he, fin w' hl ht⟩
end
end Go.Proofs.Ytecdindjlfefhaa.DiskSync
