/- Contracts of Spoil. -/
import Derived.Test.YtecdindjlfefhaaDiskCrash
namespace Go.Proofs.Ytecdindjlfefhaa.DiskSpoil
open Go.RowKit Base DiskPlain DiskMem DiskSmall DiskRead DiskGrow DiskWrite DiskSync DiskCrash Go.Maps

/-- copy of whatever bytes, none let in -/
theorem copy_any {w : World} (gA o off dLen dCap : Nat) (src : Option Addr) (c2 : Nat) (l : Pg) (cur : Array Value) (t : TypeId) (hg : w.heap[gA]? = some (.cells cur t (0, 0))) (hrow : ∀ j v, (bv l)[j]? = some v → ∃ ad, src = some ad ∧ w.cell? (ad.add j) = some v)
    (ho : 0 < l.length → o = off) (hn : l.length ≤ dLen) (hfit : off + l.length ≤ cur.size) :
    (Builtin.copy_ #[45, 45] 3 #[.slice (some ⟨gA, o, none⟩) dLen dCap, .slice src l.length c2]).run Try.prog w = .ok (.int .i64 (l.length : Int)) (w.setRow gA (splice cur.toList off (bv l)).toArray) := by
  rcases Nat.eq_zero_or_pos l.length with h0 | h0
  · obtain rfl : l = [] := List.eq_nil_of_length_eq_zero h0
    have := run_copy_none (P := Try.prog) w 45 45 3 5 (some ⟨gA, o, none⟩) src dLen dCap 0 c2 Try.underlying45 (by kernel_rfl) (by simp)
    simp only [List.length_nil]
    rw [this]
    have e : (splice cur.toList off (bv [])).toArray = cur := by simp [splice, bv]
    rw [e, setRow_self w gA cur t _ hg]
    rfl
  · obtain ⟨ad, rfl, _⟩ := hrow 0 ((bv l)[0]'(by rw [bv_len]; exact h0)) (List.getElem?_eq_getElem _)
    rw [ho h0]
    have := copy_run (w := w) 3 gA off dLen dCap ad l.length c2 cur t (bv l) hg (by rw [bv_len]; exact (Nat.min_eq_left hn).symm) (fun j v hv => by
      obtain ⟨ad', e, h⟩ := hrow j v hv
      injection e with e
      subst e
      exact h) (by rw [bv_len]; exact hfit) (bv_one l)
    rw [this, bv_len]
theorem slice_from (G o at_ : Nat) (h : at_ ≤ 256) : ∃ o', (at_ < 256 → o' = o + at_) ∧ ∀ w : World, (Instr.sliceAt 77 (.pointer (some ⟨G, o, none⟩)) (some (.int .i64 (at_ : Int))) none none).run Try.prog w = .ok (.slice (some ⟨G, o', none⟩) (256 - at_) (256 - at_)) w := by
  have hal : Try.prog.arrayLen 77 = 256 := by kernel_rfl
  have hel : Try.prog.elem 77 = 5 := by kernel_rfl
  have hu : Try.prog.underlying 77 = some (.array (Try.prog.arrayLen 77) (Try.prog.elem 77)) := by rw [hal, hel]; exact Try.underlying77
  have hs1 : ∀ w, (sizeOf 5).run Try.prog w = .ok 1 w := fun w => by kernel_rfl
  refine ⟨if 256 = at_ then o else o + at_, fun hl => by rw [if_neg (by omega)], fun w => ?_⟩
  rw [run_sliceAt_array_l (P := Try.prog) w 77 ⟨G, o, none⟩ hu .i64 (at_ : Int) (by omega) (by rw [hal]; omega), hal, hel, hs1]
  simp only [Result.andThen, slicedAt, Int.toNat_natCast, Nat.mul_one]
  by_cases e : 256 = at_
  · rw [if_pos e, if_pos e]
  · rw [if_neg e, if_neg e, add_blk]
/-- the loose writes of which those below j are spoilt -/
def spf (p a : Nat) (b : Pg) (x : Nat × Pg) : Nat × Pg := if x.1 = p then (x.1, splice x.2 a b) else x
def spl (l : List (Nat × Pg)) (p a : Nat) (b : Pg) (j : Nat) : List (Nat × Pg) := (l.take j).map (spf p a b) ++ l.drop j
theorem spf_fst (p a : Nat) (b : Pg) (x : Nat × Pg) : (spf p a b x).1 = x.1 := by unfold spf; split <;> rfl
theorem spl_len (l : List (Nat × Pg)) (p a : Nat) (b : Pg) (j : Nat) : (spl l p a b j).length = l.length := by simp [spl]; omega
theorem spl_at (l : List (Nat × Pg)) (p a : Nat) (b : Pg) (j i : Nat) : (spl l p a b j)[i]? = if i < j then (l[i]?).map (spf p a b) else l[i]? := by
  unfold spl
  by_cases h : i < j
  · rw [if_pos h]
    by_cases h2 : i < l.length
    · rw [List.getElem?_append_left (by simp; omega)]
      simp [h]
    · rw [List.getElem?_append_right (by simp; omega), List.getElem?_drop, List.getElem?_eq_none (by simp; omega), List.getElem?_eq_none (by omega)]
      rfl
  · rw [if_neg h, List.getElem?_append_right (by simp; omega), List.getElem?_drop]
    by_cases h2 : j ≤ l.length
    · congr 1; simp; omega
    · rw [List.getElem?_eq_none (by simp; omega), List.getElem?_eq_none (by omega)]
theorem spl_succ {l : List (Nat × Pg)} {p a : Nat} {b : Pg} {j : Nat} {x : Nat × Pg} (hx : l[j]? = some x) : spl l p a b (j + 1) = (spl l p a b j).set j (spf p a b x) := by
  have hj : j < l.length := (List.getElem?_eq_some_iff.1 hx).1
  apply List.ext_getElem?
  intro i
  rw [List.getElem?_set, spl_at, spl_at, spl_len]
  by_cases h : j = i
  · subst h; rw [if_pos rfl, if_pos (by omega), if_pos hj, hx]; rfl
  · rw [if_neg h]
    by_cases h2 : i < j
    · rw [if_pos h2, if_pos (by omega)]
    · rw [if_neg h2, if_neg (by omega)]
theorem spl_all (l : List (Nat × Pg)) (p a : Nat) (b : Pg) : spl l p a b l.length = l.map fun x => if x.1 = p then (x.1, splice x.2 a b) else x := by
  unfold spl; rw [List.take_length, List.drop_length, List.append_nil]; rfl
theorem spl_mem {l : List (Nat × Pg)} {p a : Nat} {b : Pg} {j : Nat} {y : Nat × Pg} (h : y ∈ spl l p a b j) : ∃ x ∈ l, y.1 = x.1 ∧ (y = x ∨ y.2 = splice x.2 a b) := by
  unfold spl at h
  rcases List.mem_append.1 h with h | h
  · obtain ⟨x, hx, rfl⟩ := List.mem_map.1 h
    refine ⟨x, List.mem_of_mem_take hx, spf_fst _ _ _ _, ?_⟩
    unfold spf
    split
    · exact .inr rfl
    · exact .inl rfl
  · exact ⟨y, List.mem_of_mem_drop h, rfl, .inl rfl⟩
theorem newest_congr {D : DataW Unit} {l l' : List (Nat × Pg)} (h : Newest D l) (hf : ∀ i : Nat, (l'[i]?).map (fun x : Nat × Pg => x.1) = (l[i]?).map (fun x : Nat × Pg => x.1)) : Newest D l' := by
  intro q
  refine ⟨fun ht => ?_, fun hx x hm => ?_⟩
  · obtain ⟨i, c, h1, h2, h3⟩ := (h q).1 ht
    have e := hf i
    rw [h2] at e
    cases hl : l'[i]? with
    | none => rw [hl] at e; cases e
    | some y =>
      rw [hl] at e
      simp at e
      refine ⟨i, y.2, h1, by rw [hl, ← e], fun j x hj hx => ?_⟩
      have e2 := hf j
      rw [hx] at e2
      cases hl2 : l[j]? with
      | none => rw [hl2] at e2; cases e2
      | some y2 =>
        rw [hl2] at e2
        simp at e2
        rw [e2]
        exact h3 j y2 hj hl2
  · obtain ⟨i, hi, rfl⟩ := List.getElem_of_mem hm
    have e := hf i
    rw [List.getElem?_eq_getElem hi] at e
    cases hl : l[i]? with
    | none => rw [hl] at e; cases e
    | some y =>
      rw [hl] at e
      simp at e
      rw [e]
      exact (h q).2 hx y (List.mem_of_getElem? hl)
section
variable {w : World} {g : Nat} {S : DS} {F : Nat → Prop} {A B : Option Addr} {c k m n : Nat} {D : DataW Unit}
/-- its loose row written anew, in place -/
theorem _root_.Go.Proofs.Ytecdindjlfefhaa.DiskMem.Lay.reloose {w2 : World} {S' : DS} (h : Lay w g S A c B k m n D) (hs : ∀ i, i < w.heap.size → B.map (·.block) ≠ some i → w2.heap[i]? = w.heap[i]?)
    (hlo : Wd w2 80 257 B S'.loose.length k (looseCells S'.loose)) (hS : S' = { S with loose := S'.loose }) (hlen : S'.loose.length = S.loose.length) (hnw : Newest D S'.loose) (hok : S'.Ok) : Lay w2 g S' A c B k m n D := by
  have hBg : B.map (·.block) ≠ some g := fun e => (h.neB (own_of e)).1 rfl
  have hBm : B.map (·.block) ≠ some m := fun e => (h.neB (own_of e)).2.1 rfl
  refine ⟨?_, ?_, hlo, map_same h.mp (hs m h.mp.lt hBm), hnw, by rw [hlen]; exact h.nn, hok⟩
  · have := h.st.same (hs g h.st.lt hBg)
    rw [hS]
    simp only
    rw [hlen]
    exact this
  · have e : S'.last = S.last := by rw [hS]
    rw [e]
    exact h.la.same fun i hi => hs i (h.la.blk i hi) (fun q => (h.neB (own_of q)).2.2.1 hi)
def SpRel (w : World) (g : Nat) (S : DS) (p a : Nat) (b : Pg) (A : Option Addr) (c : Nat) (B : Option Addr) (k m n : Nat) (D : DataW Unit) (j : Nat) (wr : World) : Prop :=
  Lay wr g { S with last := S.last.set p (splice (S.last.getD p []) a b), loose := spl S.loose p a b j } A c B k m n D ∧ Turn (Parts g A B m) w wr
theorem sp_ok (h : S.Ok) {p a : Nat} {b : Pg} (hp : p < S.last.length) (hab : a + b.length ≤ 256) (j : Nat) : ({ S with last := S.last.set p (splice (S.last.getD p []) a b), loose := spl S.loose p a b j } : DS).Ok := by
  refine ⟨h.m1, h.m2, by simpa using h.len, (h.spoilt hp hab).pages, ?_, ?_, h.l1, h.l2⟩
  · intro y hy
    obtain ⟨x, hx, e, _⟩ := spl_mem hy
    have := h.wpage x hx
    simp only [List.length_set]
    omega
  · intro y hy
    obtain ⟨x, hx, _, e⟩ := spl_mem hy
    have hl := h.wlen x hx
    rcases e with rfl | e
    · exact hl
    · rw [e, length_splice _ _ _ (by omega)]; exact hl
theorem spoil_bad (h : Lay w g S A c B k m n D) (p at_ : Int) (v : Value) (hp : S.has p = false) : Calls Try.prog 31 #[.pointer (some ⟨g, 0, none⟩), .int .i64 p, .int .i64 at_, v] w fun e w' => e = .returned (.int .i64 30) ∧ w = w' := by
  have hh := has_lay h p
  rw [hp] at hh
  clear h hp
  go_enter Try.func31, Try.ntmps31
  go_wp2_with fail
  refine hh.mono ?_
  rintro e w' ⟨rfl, rfl⟩
  clear hh
  go_wp2_with fail
  go_ret
  exact ⟨rfl, rfl⟩
theorem spoil_size (h : Lay w g S A c B k m n D) (p at_ : Int) (a : Option Addr) (l b : Nat) (hl : l ≤ 9000000000000000000) (hp : S.has p = true) (hat : at_ < 0 ∨ at_ > 256 - (l : Int)) : Calls Try.prog 31 #[.pointer (some ⟨g, 0, none⟩), .int .i64 p, .int .i64 at_, .slice a l b] w fun e w' => e = .returned (.int .i64 31) ∧ w = w' := by
  have hh := has_lay h p
  rw [hp] at hh
  clear h hp
  by_cases h0 : at_ < 0
  · clear hat
    go_enter Try.func31, Try.ntmps31
    go_wp2_with fail
    refine hh.mono ?_
    rintro e w' ⟨rfl, rfl⟩
    clear hh
    go_wp2_with fail
    go_ret
    exact ⟨rfl, rfl⟩
  · have h1 : 256 - (l : Int) < at_ := by omega
    clear hat
    go_enter Try.func31, Try.ntmps31
    go_wp2_with fail
    refine hh.mono ?_
    rintro e w' ⟨rfl, rfl⟩
    clear hh
    go_wp2_with fail
    go_ret
    exact ⟨rfl, rfl⟩
theorem spoil_nil {gA : Nat} (h : Lay w g S (some ⟨gA, 0, none⟩) c B k m n D) (p at_ : Nat) (a : Option Addr) (ca : Nat) (b : Pg) (hp : p < S.last.length) (hab : at_ + b.length ≤ 256) (hll : S.loose.length = 0) (hrow : RowN w (Parts g (some ⟨gA, 0, none⟩) B m) a (bv b)) :
    Calls Try.prog 31 #[.pointer (some ⟨g, 0, none⟩), .int .i64 (p : Int), .int .i64 (at_ : Int), .slice a b.length ca] w fun e w' => e = .returned (.int .i64 0) ∧ Lay w' g (S.spoilt p at_ b) (some ⟨gA, 0, none⟩) c B k m n D ∧ Turn (Parts g (some ⟨gA, 0, none⟩) B m) w w' := by
  have hlen4 := h.ok.len4096
  have hh := has_lay h (p : Int)
  rw [has_iff.2 ⟨by omega, by omega⟩] at hh
  have c1 := lay1 h
  obtain ⟨M, hMe, hM⟩ := size_p
  have hM0 : ¬ (M = 0) := by omega
  obtain ⟨gA', cur, hA, hgc, hc1, hc2, hcs, _⟩ := h.la.form (by omega)
  injection hA with hA
  injection hA with hA
  subst hA
  obtain ⟨o1, ho1, hsl1⟩ := slice_from gA (p * M) at_ (by omega)
  have hcp1 := copy_any (w := w) gA o1 (p * M + at_) (256 - at_) (256 - at_) a ca b cur 77 hgc (fun j v hv => by obtain ⟨ad, e, _, _, q⟩ := hrow j v hv; exact ⟨ad, e, q⟩) (fun hb => ho1 (by omega)) (by omega) (by
    rw [hcs, hMe]
    have : (p + 1) * 256 ≤ c * 256 := Nat.mul_le_mul_right _ (by omega)
    omega)
  have h1 := put_page (w := w) (w1 := w) (S' := { S with last := S.last.set p (splice (S.last.getD p []) at_ b) }) h (fun _ _ => rfl) (p := p) hp at_ b hab rfl hgc rfl (by
    have q := sp_ok h.ok hp hab 0
    refine ⟨q.m1, q.m2, q.len, q.pages, ?_, h.ok.wlen, q.l1, q.l2⟩
    intro x hx; simpa using h.ok.wpage x hx)
  have ht1 : Turn (Parts g (some ⟨gA, 0, none⟩) B m) w (w.setRow gA (splice cur.toList (p * 256 + at_) (bv b)).toArray) := (Turn.refl _ _).setRow gA (.inr (.inr (.inl rfl))) _
  have hw1 : w.setRow gA (splice cur.toList (p * M + at_) (bv b)).toArray = w.setRow gA (splice cur.toList (p * 256 + at_) (bv b)).toArray := by rw [hMe]
  rw [hw1] at hcp1
  have c2 := lay2 h1
  generalize hw1e : w.setRow gA (splice cur.toList (p * 256 + at_) (bv b)).toArray = w1 at *
  have HC := Lib.hid hw1e
  clear hw1e hw1 hgc hcs hc1 hc2 ho1
  have e0 : S.loose = [] := List.eq_nil_of_length_eq_zero hll
  have HL := Lib.hid (show Lay w1 g (S.spoilt p at_ b) (some ⟨gA, 0, none⟩) c B k m n D from by
    have e : S.spoilt p at_ b = { S with last := S.last.set p (splice (S.last.getD p []) at_ b) } := by simp [DS.spoilt, e0]
    rw [e]; exact h1)
  have c2' : w1.cell? ⟨g, 2, none⟩ = some (.slice B 0 k) := by have := c2; simp only [e0, List.length_nil] at this; exact this
  have HT := Lib.hid ht1
  have HM := Lib.hid hMe
  clear h h1 ht1 c2 hrow hMe e0 hll
  go_enter Try.func31, Try.ntmps31
  go_wp2_with fail
  refine hh.mono ?_
  rintro e w' ⟨rfl, rfl⟩
  clear hh
  go_wp2_with fail
  refine wp_loop_rounds 1 ?_
  rw [rounds_succ]
  go_wp2_with fail
  go_ret
  exact ⟨rfl, HL.out, HT.out⟩
set_option maxRecDepth 100000 in
set_option maxHeartbeats 1600000 in
theorem spoil_some {gA gB : Nat} (h : Lay w g S (some ⟨gA, 0, none⟩) c (some ⟨gB, 0, none⟩) k m n D) (p at_ : Nat) (a : Option Addr) (ca : Nat) (b : Pg) (hp : p < S.last.length) (hab : at_ + b.length ≤ 256) (hll : S.loose.length ≤ 100000000) (hrow : RowN w (Parts g (some ⟨gA, 0, none⟩) (some ⟨gB, 0, none⟩) m) a (bv b)) :
    Calls Try.prog 31 #[.pointer (some ⟨g, 0, none⟩), .int .i64 (p : Int), .int .i64 (at_ : Int), .slice a b.length ca] w fun e w' => e = .returned (.int .i64 0) ∧ Lay w' g (S.spoilt p at_ b) (some ⟨gA, 0, none⟩) c (some ⟨gB, 0, none⟩) k m n D ∧ Turn (Parts g (some ⟨gA, 0, none⟩) (some ⟨gB, 0, none⟩) m) w w' := by
  have hlen4 := h.ok.len4096
  have hh := has_lay h (p : Int)
  rw [has_iff.2 ⟨by omega, by omega⟩] at hh
  have c1 := lay1 h
  obtain ⟨M, hMe, hM⟩ := size_p
  have hM0 : ¬ (M = 0) := by omega
  obtain ⟨gA', cur, hA, hgc, hc1, hc2, hcs, _⟩ := h.la.form (by omega)
  injection hA with hA
  injection hA with hA
  subst hA
  obtain ⟨o1, ho1, hsl1⟩ := slice_from gA (p * M) at_ (by omega)
  have hcp1 := copy_any (w := w) gA o1 (p * M + at_) (256 - at_) (256 - at_) a ca b cur 77 hgc (fun j v hv => by obtain ⟨ad, e, _, _, q⟩ := hrow j v hv; exact ⟨ad, e, q⟩) (fun hb => ho1 (by omega)) (by omega) (by
    rw [hcs, hMe]
    have : (p + 1) * 256 ≤ c * 256 := Nat.mul_le_mul_right _ (by omega)
    omega)
  have h1 := put_page (w := w) (w1 := w) (S' := { S with last := S.last.set p (splice (S.last.getD p []) at_ b) }) h (fun _ _ => rfl) (p := p) hp at_ b hab rfl hgc rfl (by
    have q := sp_ok h.ok hp hab 0
    refine ⟨q.m1, q.m2, q.len, q.pages, ?_, h.ok.wlen, q.l1, q.l2⟩
    intro x hx; simpa using h.ok.wpage x hx)
  have ht1 : Turn (Parts g (some ⟨gA, 0, none⟩) (some ⟨gB, 0, none⟩) m) w (w.setRow gA (splice cur.toList (p * 256 + at_) (bv b)).toArray) := (Turn.refl _ _).setRow gA (.inr (.inr (.inl rfl))) _
  have hw1 : w.setRow gA (splice cur.toList (p * M + at_) (bv b)).toArray = w.setRow gA (splice cur.toList (p * 256 + at_) (bv b)).toArray := by rw [hMe]
  rw [hw1] at hcp1
  have c2 := lay2 h1
  generalize hw1e : w.setRow gA (splice cur.toList (p * 256 + at_) (bv b)).toArray = w1 at *
  have HC := Lib.hid hw1e
  clear hw1e hw1 hgc hcs hc1 hc2 ho1
  have HR := Lib.hid (show SpRel w g S p at_ b (some ⟨gA, 0, none⟩) c (some ⟨gB, 0, none⟩) k m n D 0 w1 from by
    refine ⟨?_, ht1⟩
    have e : spl S.loose p at_ b 0 = S.loose := by simp [spl]
    rw [e]; exact h1)
  have HK := Lib.hid hrow
  have HO := Lib.hid h.ok
  have HN := Lib.hid h.nw
  have HM := Lib.hid hMe
  have HP := Lib.hid hp
  clear h h1 ht1 hrow hMe
  go_enter Try.func31, Try.ntmps31
  go_wp2_with fail
  refine hh.mono ?_
  rintro e w' ⟨rfl, rfl⟩
  clear hh
  go_wp2_with fail
  clear c1 c2 hcp1 hsl1
  go_loopw [38] (fun i wr => ∃ j : Nat, j ≤ S.loose.length ∧ i = .int .i64 j ∧ SpRel w g S p at_ b (some ⟨gA, 0, none⟩) c (some ⟨gB, 0, none⟩) k m n D j wr) (fun i _ => S.loose.length - (intOf i).toNat)
  case atStart => exact ⟨0, by omega, rfl, HR.out⟩
  case round =>
    obtain ⟨j, hj, rfl, hr⟩ := hrel
    clear HR
    by_cases hlt : j < S.loose.length
    · obtain ⟨⟨x, y⟩, hx⟩ : ∃ x, S.loose[j]? = some x := ⟨_, List.getElem?_eq_getElem hlt⟩
      have hl := hr.1
      have hsj : (spl S.loose p at_ b j)[j]? = some (x, y) := by rw [spl_at, if_neg (by omega)]; exact hx
      have hok := hl.ok
      obtain ⟨N, hNe, hN⟩ := size_w
      have hN0 : ¬ (N = 0) := by omega
      have c2 : wr.cell? ⟨g, 2, none⟩ = some (.slice (some ⟨gB, 0, none⟩) S.loose.length k) := by have := lay2 hl; simp only [spl_len] at this; exact this
      have p0 : wr.cell? ⟨gB, j * N, none⟩ = some (.int .i64 (x : Int)) := by rw [hNe]; exact hl.lo.cell rfl (looseCells_page hok.wlen hsj)
      by_cases hxp : x = p
      · subst hxp
        have hyl : y.length = 256 := hok.wlen (x, y) (List.mem_of_getElem? hsj)
        have hrw := HK.out.kept hr.2
        obtain ⟨gB', cur2, hB, hgc2, hc3, hc4, hcs2, _⟩ := hl.lo.form (by simp only [spl_len]; omega)
        injection hB with hB
        injection hB with hB
        subst hB
        simp only [spl_len] at hc3
        obtain ⟨o2, ho2, hsl2⟩ := slice_from gB (j * N + 1) at_ (by omega)
        have hcp2 := copy_any (w := wr) gB o2 (j * N + 1 + at_) (256 - at_) (256 - at_) a ca b cur2 80 hgc2 (fun j v hv => by obtain ⟨ad, e, _, _, q⟩ := hrw j v hv; exact ⟨ad, e, q⟩) (fun hb => ho2 (by omega)) (by omega) (by
          rw [hcs2, hNe]
          have : (j + 1) * 257 ≤ k * 257 := Nat.mul_le_mul_right _ (by omega)
          omega)
        have HL := Lib.hid (show SpRel w g S x at_ b (some ⟨gA, 0, none⟩) c (some ⟨gB, 0, none⟩) k m n D (j + 1) (wr.setRow gB (splice cur2.toList (j * N + 1 + at_) (bv b)).toArray) from by
          refine ⟨?_, hr.2.setRow gB (.inr (.inr (.inr (.inl rfl)))) _⟩
          subst hNe
          have e1 : spl S.loose x at_ b (j + 1) = (spl S.loose x at_ b j).set j (x, splice y at_ b) := by rw [spl_succ hx]; simp [spf]
          refine hl.reloose (fun i hi hn => setRow_other wr gB i _ (fun e => hn (by simp [e]))) ?_ rfl (by simp only [spl_len]) ?_ (sp_ok HO.out HP.out hab (j + 1))
          · have hf : j * 257 + 1 + at_ + (bv b).length ≤ (spl S.loose x at_ b j).length * 257 := by
              rw [bv_len, spl_len]
              have : (j + 1) * 257 ≤ S.loose.length * 257 := Nat.mul_le_mul_right _ hlt
              omega
            have := hl.lo.put rfl hgc2 hf
            rw [looseCells_splice hok.wlen b hsj hab] at this
            simp only [e1, List.length_set]
            exact this
          · refine newest_congr hl.nw fun i => ?_
            simp only
            rw [spl_at, spl_at]
            by_cases q1 : i < j
            · rw [if_pos q1, if_pos (by omega)]
            · rw [if_neg q1]
              by_cases q2 : i < j + 1
              · rw [if_pos q2]
                cases S.loose[i]? with
                | none => rfl
                | some v => simp [spf_fst]
              · rw [if_neg q2])
        clear hl hr hok hrw hgc2 hcs2 hc3 hc4 hNe hx hsj ho2
        go_wp2_with fail
        go_roundw
        case rel => exact ⟨j + 1, by omega, by go_num, HL.out⟩
        case measure => simp [intOf]; omega
      · have hbq : (((x : Nat) : Int) == ((p : Nat) : Int)) = false := beq_eq_false_iff_ne.2 (by omega)
        have HL := Lib.hid (show SpRel w g S p at_ b (some ⟨gA, 0, none⟩) c (some ⟨gB, 0, none⟩) k m n D (j + 1) wr from by
          have e : spl S.loose p at_ b (j + 1) = spl S.loose p at_ b j := by
            rw [spl_succ hx]
            apply List.ext_getElem?
            intro i
            rw [List.getElem?_set]
            by_cases q : j = i
            · subst q; rw [if_pos rfl, spl_len, if_pos hlt, hsj]; simp [spf, hxp]
            · rw [if_neg q]
          unfold SpRel at hr ⊢
          rw [e]; exact hr)
        have HX := Lib.hid hxp
        clear hl hr hok hNe hx hsj hxp
        go_wp2_with fail
        go_roundw
        case rel => exact ⟨j + 1, by omega, by go_num, HL.out⟩
        case measure => simp [intOf]; omega
    · obtain rfl : j = S.loose.length := by omega
      go_wp2_with fail
      go_ret
      refine ⟨rfl, ?_, hr.2⟩
      have e : S.spoilt p at_ b = { S with last := S.last.set p (splice (S.last.getD p []) at_ b), loose := spl S.loose p at_ b S.loose.length } := by
        unfold DS.spoilt; rw [spl_all]
      rw [e]
      exact hr.1
/-- Spoil, whatever is asked -/
theorem spoil_dk (h : Dk w g S F) (p at_ : Int) (a : Option Addr) (ca : Nat) (b : Pg) (hbl : b.length ≤ 1000000000) (hll : S.loose.length ≤ 100000000) (hrow : RowN w F a (bv b)) :
    Calls Try.prog 31 #[.pointer (some ⟨g, 0, none⟩), .int .i64 p, .int .i64 at_, .slice a b.length ca] w fun e w' => e = .returned (.int .i64 (S.spoilE p at_ b)) ∧ Went F g w (S.spoil p at_ b) w' := by
  have hs := went_same h
  obtain ⟨A, c, B, k, m, n, D, h, hp⟩ := h
  unfold DS.spoilE DS.spoil
  cases h1 : S.has p with
  | false => exact (spoil_bad h p at_ _ h1).mono fun e w' ⟨he, hw⟩ => ⟨by simpa using he, by simpa using hw ▸ hs⟩
  | true =>
    by_cases h2 : at_ < 0 ∨ at_ > 256 - b.length
    · exact (spoil_size h p at_ a b.length ca (by omega) h1 h2).mono fun e w' ⟨he, hw⟩ => ⟨by simpa [h2] using he, by simpa [h2] using hw ▸ hs⟩
    · have h3 := has_iff.1 h1
      obtain ⟨q, rfl⟩ := Int.eq_ofNat_of_zero_le h3.1
      obtain ⟨r, rfl⟩ := Int.eq_ofNat_of_zero_le (show 0 ≤ at_ by omega)
      have hrow' : RowN w (Parts g A B m) a (bv b) := fun i v hv => by
        obtain ⟨ad, e, q1, q2, q3⟩ := hrow i v hv
        exact ⟨ad, e, q1, fun q => q2 (hp _ q), q3⟩
      obtain ⟨gA, _, rfl, _⟩ := h.la.form (by omega)
      have fin : ∀ e w', e = Ending.returned (.int .i64 0) ∧ Lay w' g (S.spoilt q r b) (some ⟨gA, 0, none⟩) c B k m n D ∧ Turn (Parts g (some ⟨gA, 0, none⟩) B m) w w' → e = Ending.returned (.int .i64 (if true = false then 30 else if (r : Int) < 0 ∨ (r : Int) > 256 - b.length then 31 else 0)) ∧ Went F g w (if true = false then S else if (r : Int) < 0 ∨ (r : Int) > 256 - b.length then S else S.spoilt (q : Int).toNat (r : Int).toNat b) w' := by
        rintro e w' ⟨he, hl, ht⟩
        rw [if_neg (by simp), if_neg h2, if_neg (by simp), if_neg h2]
        exact ⟨he, went_mk hl (fun i hi => .inl (hp i hi)) (ht.mono fun i _ => hp i)⟩
      by_cases h0 : S.loose.length = 0
      · exact (spoil_nil h q r a ca b (by omega) (by omega) h0 hrow').mono fin
      · obtain ⟨gB, _, rfl, _⟩ := h.lo.form (by omega)
        exact (spoil_some h q r a ca b (by omega) (by omega) hll hrow').mono fin
end
end Go.Proofs.Ytecdindjlfefhaa.DiskSpoil
