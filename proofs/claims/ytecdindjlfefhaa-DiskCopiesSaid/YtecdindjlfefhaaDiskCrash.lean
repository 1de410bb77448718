/- Contracts of keep and Crash. -/
import Derived.Test.YtecdindjlfefhaaDiskSync
import Derived.Deep.QuietTactic
import Derived.BigQuiet
namespace Go.Proofs.Ytecdindjlfefhaa.DiskCrash
open Go.RowKit Base DiskPlain DiskMem DiskSmall DiskRead DiskGrow DiskWrite DiskSync Go.Maps

def KeepRel (w : World) (G g : Nat) (S : DS) (p : Nat) (b : Pg) (z : Nat) (A : Option Addr) (c : Nat) (B : Option Addr) (k m n : Nat) (D : DataW Unit) (j : Nat) (wr : World) : Prop :=
  Lay wr g { S with last := S.last.set p (tornTo j (S.last.getD p []) b z) } A c B k m n D ∧ Turn (Parts g A B m) w wr ∧ wr.heap[G]? = some (.cells (wcell p b) 80 (0, 0))
theorem and_one (n : Nat) (h : n < 256) : bits .and .u8 (n : Int) 1 = ((n % 2 : Nat) : Int) := by
  have : ∀ k : Fin 256, bits .and .u8 ((k.val : Nat) : Int) 1 = ((k.val % 2 : Nat) : Int) := by decide +kernel
  exact this ⟨n, h⟩
theorem bit_test (z j : Nat) (hz : z < 256) : (bits .and .u8 ((z : Int) / 2 ^ j) 1 == 1) = bit z j := by
  have e : ((z : Int) / 2 ^ j) = ((z / 2 ^ j : Nat) : Int) := by simp
  have hlt : z / 2 ^ j < 256 := Nat.lt_of_le_of_lt (Nat.div_le_self _ _) hz
  rw [e, and_one _ hlt]
  unfold bit
  rw [Bool.eq_iff_iff]
  simp only [beq_iff_eq]
  omega
theorem slice_run (w : World) (G o j : Nat) (hj : j < 4) : (Instr.sliceAt 77 (.pointer (some ⟨G, o, none⟩)) (some (.int .i64 ((j : Int) * 64))) (some (.int .i64 (((j : Int) + 1) * 64))) none).run Try.prog w = .ok (.slice (some ⟨G, o + j * 64, none⟩) 64 (256 - j * 64)) w := by
  have hal : Try.prog.arrayLen 77 = 256 := by kernel_rfl
  have hel : Try.prog.elem 77 = 5 := by kernel_rfl
  have hu : Try.prog.underlying 77 = some (.array (Try.prog.arrayLen 77) (Try.prog.elem 77)) := by rw [hal, hel]; exact Try.underlying77
  have hs1 : (sizeOf 5).run Try.prog w = .ok 1 w := by kernel_rfl
  rw [run_sliceAt_array_lh (P := Try.prog) w 77 ⟨G, o, none⟩ hu .i64 .i64 ((j : Int) * 64) (((j : Int) + 1) * 64) (by omega) (by omega) (by rw [hal]; omega), hal, hel, hs1]
  simp only [Result.andThen, slicedAt]
  rw [if_neg (by omega), show ((j : Int) * 64).toNat = j * 64 by omega, show (((j : Int) + 1) * 64).toNat = (j + 1) * 64 by omega, add_blk]
  congr 2
  · congr 2; omega
  · omega
theorem torn_step {s b : Pg} {z j : Nat} (hb : b.length = 256) (hj : j < 4) (ht : bit z j = true) : splice (tornTo j s b z) (j * 64) ((b.drop (j * 64)).take 64) = tornTo (j + 1) s b z := by
  have hl := tornTo_len j s b z
  apply List.ext_getElem?
  intro i
  have hcs : ((b.drop (j * 64)).take 64).length = 64 := by simp; omega
  unfold splice
  rw [hcs]
  by_cases hi : i < 256
  · have get : ∀ k, (tornTo k s b z)[i]? = some (if i < 64 * k ∧ bit z (i / 64) = true then b.getD i 0 else s.getD i 0) := fun k => by simp [tornTo, hi]
    by_cases h1 : i < j * 64
    · rw [List.getElem?_append_left (by simp [hl]; omega), List.getElem?_take, if_pos h1, get, get]
      have : (i < 64 * j) ↔ (i < 64 * (j + 1)) := by omega
      simp only [this]
    · rw [List.getElem?_append_right (by simp [hl]; omega)]
      have e0 : ((tornTo j s b z).take (j * 64)).length = j * 64 := by simp [hl]; omega
      rw [e0]
      by_cases h2 : i < (j + 1) * 64
      · rw [List.getElem?_append_left (by rw [hcs]; omega), List.getElem?_take, if_pos (by omega), List.getElem?_drop, get, show j * 64 + (i - j * 64) = i by omega]
        have hq : i / 64 = j := by omega
        rw [if_pos ⟨by omega, by rw [hq]; exact ht⟩, List.getD_eq_getElem?_getD, List.getElem?_eq_getElem (by omega)]
        rfl
      · rw [List.getElem?_append_right (by rw [hcs]; omega), hcs, List.getElem?_drop, get, show j * 64 + 64 + (i - j * 64 - 64) = i by omega, get]
        rw [if_neg (by omega), if_neg (by omega)]
  · rw [List.getElem?_eq_none (by simp [hl]; omega), List.getElem?_eq_none (by rw [tornTo_len]; omega)]
theorem torn_skip {s b : Pg} {z j : Nat} (ht : bit z j = false) : tornTo (j + 1) s b z = tornTo j s b z := by
  unfold tornTo
  apply List.map_congr_left
  intro i _
  by_cases h : i < 64 * j
  · simp [h, show i < 64 * (j + 1) by omega]
  · by_cases h2 : i < 64 * (j + 1)
    · have : i / 64 = j := by omega
      simp [this, ht]
    · simp [h, h2]
theorem torn_zero {s b : Pg} {z : Nat} (hs : s.length = 256) : tornTo 0 s b z = s := by
  apply List.ext_getElem?
  intro i
  by_cases hi : i < 256
  · simp [tornTo, hi, List.getElem?_eq_getElem (show i < s.length by omega)]
  · rw [List.getElem?_eq_none (by rw [tornTo_len]; omega), List.getElem?_eq_none (by omega)]
section
variable {w : World} {g : Nat} {S : DS} {F : Nat → Prop} {A B : Option Addr} {c k m n : Nat} {D : DataW Unit}
set_option maxRecDepth 100000 in
set_option maxHeartbeats 800000 in
theorem keep_lay {gA : Nat} (h : Lay w g S (some ⟨gA, 0, none⟩) c B k m n D) (p : Nat) (b : Pg) (hb : b.length = 256) (hp : p < S.last.length) (z : Nat) (hz : z < 256) : Calls Try.prog 39 #[.pointer (some ⟨g, 0, none⟩), .agg (wcell p b), .int .u8 (z : Int)] w fun e w' => e = .returned (.tuple #[]) ∧
    Lay w' g { S with last := S.last.set p (torn (S.last.getD p []) b z) } (some ⟨gA, 0, none⟩) c B k m n D ∧ Turn (Parts g (some ⟨gA, 0, none⟩) B m) w w' := by
  have hpl := getD_len h.ok.pages hp
  have hn4 := h.ok.len4096
  have HR := Lib.hid (show KeepRel w w.heap.size g S p b z (some ⟨gA, 0, none⟩) c B k m n D 0 (w.alloc (.cells (wcell p b) 80)) from by
    refine ⟨?_, (Turn.refl _ _).alloc _, heap_alloc_new w _⟩
    rw [torn_zero hpl]
    have e : S.last.set p (S.last.getD p []) = S.last := by
      rw [List.getD_eq_getElem?_getD, List.getElem?_eq_getElem hp]; simp
    rw [e]
    exact h.same fun i hi => Below.heap_alloc _ _ _ (h.lt i hi))
  have HO := Lib.hid h.ok
  have hgz : g < w.heap.size ∧ gA < w.heap.size := ⟨h.st.lt, h.la.blk gA rfl⟩
  have HG := Lib.hid hgz
  clear h hgz
  go_enter Try.func39, Try.ntmps39
  go_wp2_with fail
  go_loopw [9] (fun i wr => ∃ j : Nat, j ≤ 4 ∧ i = .int .i64 j ∧ KeepRel w w.heap.size g S p b z (some ⟨gA, 0, none⟩) c B k m n D j wr) (fun i _ => 4 - (intOf i).toNat)
  case atStart => exact ⟨0, by omega, rfl, HR.out⟩
  case round =>
    obtain ⟨j, hj, rfl, hr⟩ := hrel
    clear HR
    by_cases hlt : j < 4
    · have hbt := bit_test z j hz
      cases hbz : bit z j with
      | false =>
        rw [hbz] at hbt
        have HK := Lib.hid (show KeepRel w w.heap.size g S p b z (some ⟨gA, 0, none⟩) c B k m n D (j + 1) wr from by unfold KeepRel at hr ⊢; rw [torn_skip hbz]; exact hr)
        clear hbz hr
        go_wp2_with fail
        go_roundw
        case rel => exact ⟨j + 1, by omega, by go_num, HK.out⟩
        case measure => simp [intOf]; omega
      | true =>
        rw [hbz] at hbt
        obtain ⟨M, hMe, hM⟩ := size_p
        have hM0 : ¬ (M = 0) := by omega
        obtain ⟨hl, ht, hG⟩ := hr
        have c1 := lay1 hl
        have hlen : ({ S with last := S.last.set p (tornTo j (S.last.getD p []) b z) } : DS).last.length = S.last.length := by simp
        rw [hlen] at c1
        have p0 : wr.cell? ⟨w.heap.size, 0, none⟩ = some (.int .i64 (p : Int)) := by rw [cell_of_row _ _ _ _ _ _ hG]; rfl
        have hs1 := fun w => slice_run w gA (p * M) j hlt
        have hs2 := fun w' => slice_run w' w.heap.size 1 j hlt
        have hcl : ((b.drop (j * 64)).take 64).length = 64 := by simp; omega
        obtain ⟨gA', cur, hA, hgc, hc1, hc2, hcs, _⟩ := hl.la.form (by rw [hlen]; omega)
        injection hA with hA
        injection hA with hA
        subst hA
        have hcp := copy_run (w := wr.drew) 3 gA (p * M + j * 64) 64 (256 - j * 64) ⟨w.heap.size, 1 + j * 64, none⟩ 64 (256 - j * 64) cur 77 (bv ((b.drop (j * 64)).take 64)) hgc (by rw [bv_len, hcl]; rfl) (fun i v hv => by
          have hi : i < 64 := by
            rcases Nat.lt_or_ge i 64 with q | q
            · exact q
            · rw [List.getElem?_eq_none (by rw [bv_len, hcl]; exact q)] at hv; cases hv
          rw [add_blk, World.cell?_drew, cell_of_row _ _ _ _ _ _ hG]
          rw [bv_at, List.getElem?_take, if_pos hi, List.getElem?_drop] at hv
          rw [show 1 + j * 64 + i = (j * 64 + i) + 1 by omega]
          simpa [wcell, bv_at] using hv) (by
          rw [bv_len, hcl, hcs, hMe]
          have : (p + 1) * 256 ≤ c * 256 := Nat.mul_le_mul_right _ (by omega)
          omega) (bv_one _)
        rw [bv_len, hcl] at hcp
        have HK := Lib.hid (show KeepRel w w.heap.size g S p b z (some ⟨gA, 0, none⟩) c B k m n D (j + 1) (wr.drew.setRow gA (splice cur.toList (p * M + j * 64) (bv ((b.drop (j * 64)).take 64))).toArray) from by
          have hok : ({ S with last := S.last.set p (tornTo (j + 1) (S.last.getD p []) b z) } : DS).Ok := by
            have h := HO.out
            refine ⟨h.m1, h.m2, by simpa using h.len, ?_, by simpa using h.wpage, h.wlen, h.l1, h.l2⟩
            intro x hx
            rcases List.mem_or_eq_of_mem_set hx with hx | rfl
            · exact h.pages x hx
            · exact tornTo_len _ _ _ _
          refine ⟨?_, (ht.drew).setRow gA (.inr (.inr (.inl rfl))) _, (setRow_other _ gA _ _ (by have := HG.out.2; omega)).trans hG⟩
          subst hMe
          refine put_page (w := wr) (w1 := wr.drew) hl (fun i _ => rfl) (p := p) (by rw [hlen]; exact hp) (j * 64) ((b.drop (j * 64)).take 64) (by rw [hcl]; omega) rfl hgc ?_ hok
          have e1 : (S.last.set p (tornTo j (S.last.getD p []) b z)).getD p [] = tornTo j (S.last.getD p []) b z := by
            rw [List.getD_eq_getElem?_getD, List.getElem?_set_self hp]; rfl
          simp only [e1, torn_step hb hlt hbz, List.set_set])
        clear hl hG hgc hcs hc1 hc2 ht hbz hMe
        generalize bv ((b.drop (j * 64)).take 64) = X at *
        go_wp2_with fail
        go_region
        all_goals
          go_wp2_with fail
          go_roundw
          case rel => exact ⟨j + 1, by omega, by go_num, HK.out⟩
          case measure => simp [intOf]; omega
    · obtain rfl : j = 4 := by omega
      go_wp2_with fail
      go_end0
      exact ⟨rfl, hr.1, hr.2.1⟩
theorem keep_any (h : Lay w g S A c B k m n D) (p : Nat) (b : Pg) (hb : b.length = 256) (hp : p < S.last.length) (z : Nat) (hz : z < 256) : Calls Try.prog 39 #[.pointer (some ⟨g, 0, none⟩), .agg (wcell p b), .int .u8 (z : Int)] w fun e w' => e = .returned (.tuple #[]) ∧
    Lay w' g { S with last := S.last.set p (torn (S.last.getD p []) b z) } A c B k m n D ∧ Turn (Parts g A B m) w w' := by
  obtain ⟨gA, _, rfl, _⟩ := h.la.form (by omega)
  exact keep_lay h p b hb hp z hz
/-- what is kept, as cells -/
def keptCells (ks : List (Int × Nat)) : List Value := (ks.map fun k => [Value.int .i64 k.1, Value.int .u8 (k.2 : Int)]).flatten
theorem kept_each (ks : List (Int × Nat)) : ∀ b ∈ (ks.map fun k => [Value.int .i64 k.1, Value.int .u8 (k.2 : Int)]), b.length = 2 := by
  intro b hb
  obtain ⟨x, _, rfl⟩ := List.mem_map.1 hb
  rfl
theorem kept_at {ks : List (Int × Nat)} {j : Nat} {x : Int × Nat} (hx : ks[j]? = some x) : (keptCells ks)[j * 2]? = some (.int .i64 x.1) ∧ (keptCells ks)[j * 2 + 1]? = some (.int .u8 (x.2 : Int)) := by
  have e0 := flat_at 2 _ (kept_each ks) j 0 [Value.int .i64 x.1, Value.int .u8 (x.2 : Int)] (by simp [hx]) (by omega)
  have e1 := flat_at 2 _ (kept_each ks) j 1 [Value.int .i64 x.1, Value.int .u8 (x.2 : Int)] (by simp [hx]) (by omega)
  exact ⟨by unfold keptCells; simpa using e0, by unfold keptCells; simpa using e1⟩
/-- a row of cells in a block that isn't one of F's -/
def RowN (w : World) (F : Nat → Prop) (A : Option Addr) (vs : List Value) : Prop := ∀ k v, vs[k]? = some v → ∃ ad, A = some ad ∧ ad.block < w.heap.size ∧ ¬ F ad.block ∧ w.cell? (ad.add k) = some v
theorem RowN.kept {w w' : World} {F : Nat → Prop} {A : Option Addr} {vs : List Value} (h : RowN w F A vs) (ht : Turn F w w') : RowN w' F A vs := fun k v hv => by
  obtain ⟨ad, e, h1, h2, h3⟩ := h k v hv
  exact ⟨ad, e, Nat.lt_of_lt_of_le h1 ht.size, h2, (World.cell?_of_block (by rw [blk_add]; exact ht.block _ h1 h2)).trans h3⟩
def DS.keptTo (S : DS) (ks : List (Int × Nat)) (j : Nat) : DS := { S with last := (ks.take j).foldl (keep1 S.loose) S.last }
def CrashRel (w : World) (g : Nat) (S : DS) (ks : List (Int × Nat)) (A : Option Addr) (c : Nat) (B : Option Addr) (k m n : Nat) (D : DataW Unit) (j : Nat) (wr : World) : Prop := Lay wr g (DS.keptTo S ks j) A c B k m n D ∧ Turn (Parts g A B m) w wr
theorem keptTo_succ (S : DS) {ks : List (Int × Nat)} {j : Nat} {x : Int × Nat} (hx : ks[j]? = some x) : (DS.keptTo S ks (j + 1)).last = keep1 S.loose (DS.keptTo S ks j).last x := by
  have hj : j < ks.length := (List.getElem?_eq_some_iff.1 hx).1
  simp only [DS.keptTo]
  rw [List.take_succ_eq_append_getElem hj, (List.getElem?_eq_some_iff.1 hx).2, List.foldl_append]
  rfl
theorem crash_nil (h : Lay w g S A c B k m n D) (K : Option Addr) (ck : Nat) : Calls Try.prog 20 #[.pointer (some ⟨g, 0, none⟩), .slice K 0 ck] w fun e w' => e = .returned (.tuple #[]) ∧
    Lay w' g (S.crash []) A c none 0 m 0 (.map []) ∧ Turn (Parts g A B m) w w' := by
  have HR := Lib.hid (show CrashRel w g S [] A c B k m n D 0 w from ⟨by simpa [DS.keptTo] using h, Turn.refl _ _⟩)
  have HO := Lib.hid h.ok
  clear h
  go_enter Try.func20, Try.ntmps20
  go_wp2_with fail
  refine wp_loop_rounds 1 ?_
  rw [rounds_succ]
  go_wp2_with fail
  have hr := HR.out
  refine (forget_lay hr.1).mono ?_
  rintro e w1 ⟨rfl, hl1, ht1⟩
  have c4 := lay4 hl1
  have c5 := lay5 hl1
  have f4 := layF hl1 4
  have f5 := layF hl1 5
  have HL := Lib.hid (show Lay ((w1.setCell ⟨g, 4, none⟩ (.bool false)).setCell ⟨g, 5, none⟩ (.int .i64 0)) g (S.crash []) A c none 0 m 0 (.map []) from
    hl1.struct (fun i hi => (Below.heap_setCell _ _ _ i hi).trans (Below.heap_setCell w1 _ _ i hi)) (by simp [DS.crash, DS.forget, DS.keptTo]) (by simp [DS.crash, DS.forget]) (HO.out.crash []) (by
      have := (hl1.st.set 4 (.bool false)).set 5 (.int .i64 0)
      simpa [DS.crash, DS.forget, DS.keptTo] using this))
  have HT := Lib.hid (show Turn (Parts g A B m) w ((w1.setCell ⟨g, 4, none⟩ (.bool false)).setCell ⟨g, 5, none⟩ (.int .i64 0)) from
    ((hr.2.trans ht1 (fun i _ e => e.elim .inl (fun e => .inr (.inr (.inr e))))).set ⟨g, 4, none⟩ (.inr (.inl rfl)) _).set ⟨g, 5, none⟩ (.inr (.inl rfl)) _)
  clear hl1 ht1 hr
  go_wp2_with fail
  go_end0
  exact ⟨rfl, HL.out, HT.out⟩
set_option maxRecDepth 100000 in
set_option maxHeartbeats 1600000 in
theorem crash_some (h : Lay w g S A c B k m n D) (kb ko ck : Nat) (ks : List (Int × Nat)) (hks : ks.length ≤ 1000000) (hz : ∀ x ∈ ks, x.2 < 256) (hll : S.loose.length ≤ 100000000) (hrow : RowN w (Parts g A B m) (some ⟨kb, ko, none⟩) (keptCells ks)) : Calls Try.prog 20 #[.pointer (some ⟨g, 0, none⟩), .slice (some ⟨kb, ko, none⟩) ks.length ck] w fun e w' => e = .returned (.tuple #[]) ∧
    Lay w' g (S.crash ks) A c none 0 m 0 (.map []) ∧ Turn (Parts g A B m) w w' := by
  have HR := Lib.hid (show CrashRel w g S ks A c B k m n D 0 w from ⟨by simpa [DS.keptTo] using h, Turn.refl _ _⟩)
  have HO := Lib.hid h.ok
  have HK := Lib.hid hrow
  have HZ := Lib.hid hz
  clear hrow hz h
  go_enter Try.func20, Try.ntmps20
  go_wp2_with fail
  go_loopw [8] (fun i wr => ∃ j : Nat, j ≤ ks.length ∧ i = .int .i64 j ∧ CrashRel w g S ks A c B k m n D j wr) (fun i _ => ks.length - (intOf i).toNat)
  case atStart => exact ⟨0, by omega, rfl, HR.out⟩
  case round =>
    obtain ⟨j, hj, rfl, hr⟩ := hrel
    clear HR
    by_cases hlt : j < ks.length
    · obtain ⟨⟨x, z⟩, hx⟩ : ∃ x, ks[j]? = some x := ⟨_, List.getElem?_eq_getElem hlt⟩
      have hzl : z < 256 := HZ.out _ (List.mem_of_getElem? hx)
      have k0 := (kept_at hx).1
      have k1 := (kept_at hx).2
      have hrw := HK.out.kept hr.2
      have q0 : wr.cell? ⟨kb, ko + j * 2, none⟩ = some (.int .i64 x) := by
        obtain ⟨ad, e, _, _, q⟩ := hrw _ _ k0
        injection e with e; subst e; rwa [add_blk] at q
      have q1 : wr.cell? ⟨kb, ko + j * 2 + 1, none⟩ = some (.int .u8 (z : Int)) := by
        obtain ⟨ad, e, _, _, q⟩ := hrw _ _ k1
        injection e with e; subst e; rwa [add_blk, ← Nat.add_assoc] at q
      have hl := hr.1
      have hl1 : Lay (wr.alloc (.cells #[.int .i64 x, .int .u8 (z : Int)] 52)) g (DS.keptTo S ks j) A c B k m n D := hl.same fun i hi => Below.heap_alloc _ _ _ (hl.lt i hi)
      have ht1 := hr.2.alloc (.cells #[.int .i64 x, .int .u8 (z : Int)] 52)
      have c2 := lay2 hl1
      have hsucc := keptTo_succ S hx
      clear k0 k1 hrw hl hr hx
      by_cases hg : 0 ≤ x ∧ x < S.loose.length
      · obtain ⟨y, rfl⟩ := Int.eq_ofNat_of_zero_le hg.1
        have hy : y < S.loose.length := by omega
        obtain ⟨⟨p, b⟩, hxl⟩ : ∃ x, S.loose[y]? = some x := ⟨_, List.getElem?_eq_getElem hy⟩
        have hxm : (p, b) ∈ S.loose := List.mem_of_getElem? hxl
        have hb : b.length = 256 := HO.out.wlen _ hxm
        have hp : p < (DS.keptTo S ks j).last.length := by simpa [DS.keptTo, keeps_len] using HO.out.wpage _ hxm
        obtain ⟨gB, _, hB, _⟩ := hl1.lo.form (show 0 < S.loose.length by omega)
        have hc2 : (wr.alloc (.cells #[.int .i64 (y : Int), .int .u8 (z : Int)] 52)).cell? ⟨g, 2, none⟩ = some (.slice (some ⟨gB, 0, none⟩) S.loose.length k) := by rw [← hB]; exact c2
        obtain ⟨N, hNe, hN⟩ := size_w
        have hX : (wcell p b).size = N := by rw [wcell_size p hb, hNe]
        have hld : ∀ q, (loadCellsFrom ⟨gB, y * N, none⟩ 0 N #[]).run Try.prog ((wr.alloc (.cells #[.int .i64 (y : Int), .int .u8 (z : Int)] 52)).drewN q) = .ok (wcell p b) ((wr.alloc (.cells #[.int .i64 (y : Int), .int .u8 (z : Int)] 52)).drewN q) := fun q => by
          have := ldN (w := ((wr.alloc (.cells #[.int .i64 (y : Int), .int .u8 (z : Int)] 52)).drewN q)) (G := gB) (o := y * N) (cs := (wcell p b).toList) (fun i v hv => by
            show (wr.alloc (.cells #[.int .i64 (y : Int), .int .u8 (z : Int)] 52)).cell? _ = _
            refine hl1.lo.cell hB ?_
            subst hNe
            have e := flat_at 257 _ (loose_each HO.out.wlen) y i (Value.int .i64 (p : Int) :: bv b) (by simp [hxl]) (by
              rcases Nat.lt_or_ge i 257 with q | q
              · exact q
              · rw [List.getElem?_eq_none (by simp [wcell_size p hb]; exact q)] at hv; cases hv)
            exact e.trans hv)
          rw [Array.length_toList, hX] at this
          simpa using this
        have hke := fun q => keep_any (w := ((wr.alloc (.cells #[.int .i64 (y : Int), .int .u8 (z : Int)] 52)).drewN q)) (hl1.same fun _ _ => rfl) p b hb hp z hzl
        have HS := Lib.hid (show ({ DS.keptTo S ks j with last := (DS.keptTo S ks j).last.set p (torn ((DS.keptTo S ks j).last.getD p []) b z) } : DS) = DS.keptTo S ks (j + 1) from by
          have e1 : (DS.keptTo S ks (j + 1)).last = (DS.keptTo S ks j).last.set p (torn ((DS.keptTo S ks j).last.getD p []) b z) := by
            rw [hsucc, keep1, if_pos hg]
            simp only [Int.toNat_natCast, List.getD_eq_getElem?_getD, hxl, Option.getD_some]
          rw [← e1]
          rfl)
        have HT := Lib.hid ht1
        have h1 : decide ((y : Int) < (S.loose.length : Int)) = true := by simpa using hg.2
        have HG := Lib.hid hg
        have hyl := hy
        clear hl1 ht1 c2 hsucc hg hB hxl hxm hNe
        go_wp2_with fail
        go_quiet (fail)
        go_wp2_with fail
        go_region_with (go_at_call 39; (with_reducible refine (hke _).mono ?_); rintro e w' ⟨rfl, hl', ht'⟩)
        all_goals
          go_wp2_with fail
          go_roundw
          case rel => exact ⟨j + 1, by omega, by go_num, ⟨by rw [← HS.out]; exact hl', (HT.out.drewN _).step ht'⟩⟩
          case measure => simp [intOf]; omega
      · have HN := Lib.hid (show CrashRel w g S ks A c B k m n D (j + 1) (wr.alloc (.cells #[.int .i64 x, .int .u8 (z : Int)] 52)) from by
          have e : DS.keptTo S ks (j + 1) = DS.keptTo S ks j := by
            have e1 : (DS.keptTo S ks (j + 1)).last = (DS.keptTo S ks j).last := by rw [hsucc, keep1, if_neg hg]
            show ({ S with last := _ } : DS) = { S with last := _ }
            rw [show ((ks.take (j + 1)).foldl (keep1 S.loose) S.last) = ((ks.take j).foldl (keep1 S.loose) S.last) from e1]
          exact ⟨by rw [e]; exact hl1, ht1⟩)
        have hc2 : (wr.alloc (.cells #[.int .i64 x, .int .u8 (z : Int)] 52)).cell? ⟨g, 2, none⟩ = some (.slice B S.loose.length k) := c2
        clear hl1 ht1 c2 hsucc
        by_cases h0 : 0 ≤ x
        · have h1 : decide (x < (S.loose.length : Int)) = false := by simp; omega
          have HG := Lib.hid hg
          clear hg
          go_wp2_with fail
          go_quiet (fail)
          go_wp2_with fail
          go_roundw
          case rel => exact ⟨j + 1, by omega, by go_num, ⟨HN.out.1.same fun _ _ => rfl, HN.out.2.drewN _⟩⟩
          case measure => simp [intOf]; omega
        · have h1 : decide (0 ≤ x) = false := by simp; omega
          have HG := Lib.hid hg
          have H0 := Lib.hid h0
          clear hg h0
          go_wp2_with fail
          go_quiet (fail)
          go_wp2_with fail
          go_roundw
          case rel => exact ⟨j + 1, by omega, by go_num, ⟨HN.out.1.same fun _ _ => rfl, HN.out.2.drewN _⟩⟩
          case measure => simp [intOf]; omega
    · obtain rfl : j = ks.length := by omega
      go_wp2_with fail
      refine (forget_lay hr.1).mono ?_
      rintro e w1 ⟨rfl, hl1, ht1⟩
      have c4 := lay4 hl1
      have c5 := lay5 hl1
      have f4 := layF hl1 4
      have f5 := layF hl1 5
      have HL := Lib.hid (show Lay ((w1.setCell ⟨g, 4, none⟩ (.bool false)).setCell ⟨g, 5, none⟩ (.int .i64 0)) g (S.crash ks) A c none 0 m 0 (.map []) from
        hl1.struct (fun i hi => (Below.heap_setCell _ _ _ i hi).trans (Below.heap_setCell w1 _ _ i hi)) (by simp [DS.crash, DS.forget, DS.keptTo]) (by simp [DS.crash, DS.forget]) (HO.out.crash ks) (by
          have := (hl1.st.set 4 (.bool false)).set 5 (.int .i64 0)
          simpa [DS.crash, DS.forget, DS.keptTo] using this))
      have HT := Lib.hid (show Turn (Parts g A B m) w ((w1.setCell ⟨g, 4, none⟩ (.bool false)).setCell ⟨g, 5, none⟩ (.int .i64 0)) from
        ((hr.2.trans ht1 (fun i _ e => e.elim .inl (fun e => .inr (.inr (.inr e))))).set ⟨g, 4, none⟩ (.inr (.inl rfl)) _).set ⟨g, 5, none⟩ (.inr (.inl rfl)) _)
      clear hl1 ht1 hr
      go_wp2_with fail
      go_end0
      exact ⟨rfl, HL.out, HT.out⟩
/-- Crash, whatever is kept -/
theorem crash_dk (h : Dk w g S F) (K : Option Addr) (ck : Nat) (ks : List (Int × Nat)) (hks : ks.length ≤ 1000000) (hz : ∀ x ∈ ks, x.2 < 256) (hll : S.loose.length ≤ 100000000) (hrow : RowN w F K (keptCells ks)) :
    Calls Try.prog 20 #[.pointer (some ⟨g, 0, none⟩), .slice K ks.length ck] w fun e w' => e = .returned (.tuple #[]) ∧ Went F g w (S.crash ks) w' := by
  obtain ⟨A, c, B, k, m, n, D, h, hp⟩ := h
  have fin : ∀ w', Lay w' g (S.crash ks) A c none 0 m 0 (.map []) → Turn (Parts g A B m) w w' → Went F g w (S.crash ks) w' := fun w' hl ht => by
    refine went_mk hl (fun i hi => .inl ?_) (ht.mono fun i _ => hp i)
    rcases hi with hi | hi | hi | hi
    · exact hp i (.inl hi)
    · exact hp i (.inr (.inl hi))
    · cases hi
    · exact hp i (.inr (.inr (.inr hi)))
  cases hks0 : ks with
  | nil => rw [hks0] at fin; exact (crash_nil h K ck).mono fun e w' ⟨he, hl, ht⟩ => ⟨he, fin w' hl ht⟩
  | cons x ks' =>
    rw [← hks0]
    obtain ⟨ad, rfl, h1, h2, h3⟩ := hrow 0 (.int .i64 x.1) (by rw [hks0]; rfl)
    obtain ⟨kb, ko, sp⟩ := ad
    have hsp : sp = none := by
      cases sp with
      | none => rfl
      | some q => simp [World.cell?, Addr.add] at h3; split at h3 <;> simp_all
    subst hsp
    refine (crash_some h kb ko ck ks hks hz hll (fun i v hv => ?_)).mono fun e w' ⟨he, hl, ht⟩ => ⟨he, fin w' hl ht⟩
    obtain ⟨ad, e, q1, q2, q3⟩ := hrow i v hv
    exact ⟨ad, e, q1, fun q => q2 (hp _ q), q3⟩
end
end Go.Proofs.Ytecdindjlfefhaa.DiskCrash
