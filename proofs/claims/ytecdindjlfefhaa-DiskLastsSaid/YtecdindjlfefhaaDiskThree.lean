/- Three disks beside each other, and a row of what survives; a crash with all kept whole is a sync. -/
import Derived.Test.YtecdindjlfefhaaDiskSyncs
namespace Go.Proofs.Ytecdindjlfefhaa.DiskThree
open Go.RowKit Base DiskPlain DiskMem DiskSmall DiskRead DiskGrow DiskWrite DiskSync DiskCrash DiskSpoil DiskCopy DiskLaw DiskDo DiskPlumb DiskTwo DiskGrows DiskSim Go.Maps

/-- each of n writes, whole -/
def alls (n : Nat) : List (Int × Nat) := (List.range n).map fun (i : Nat) => ((i : Int), 15)
theorem alls_len (n : Nat) : (alls n).length = n := by simp [alls]
theorem alls_succ (n : Nat) : alls (n + 1) = alls n ++ [((n : Int), 15)] := by simp [alls, List.range_succ]
theorem alls_lt (n : Nat) : ∀ x ∈ alls n, x.2 < 256 := by
  intro x hx
  simp only [alls, List.mem_map] at hx
  obtain ⟨_, _, rfl⟩ := hx
  omega
theorem kept_succ (n : Nat) : keptCells (alls (n + 1)) = keptCells (alls n) ++ [.int .i64 (n : Int), .int .u8 15] := by simp [keptCells, alls_succ]
theorem torn_all (s b : Pg) (hb : b.length = 256) : torn s b 15 = b := by
  apply List.ext_getElem (by rw [torn_len, hb])
  intro i h1 h2
  have hi : i < 256 := by rw [torn_len] at h1; exact h1
  have hbit : ∀ k : Nat, k < 4 → bit 15 k = true := by decide
  have hk := hbit (i / 64) (by omega)
  simp [torn, tornTo, hk, hi, hb, List.getD_eq_getElem?_getD]
theorem keep_all (L : List Pg) (l : List (Nat × Pg)) (hl : ∀ x ∈ l, x.2.length = 256) : ∀ j, j ≤ l.length → (alls j).foldl (keep1 l) L = flush L (l.take j)
  | 0, _ => by simp [alls, flush]
  | j + 1, h => by
    have ih := keep_all L l hl j (by omega)
    have hj : j < l.length := by omega
    rw [alls_succ, List.foldl_append, ih, List.foldl_cons, List.foldl_nil, List.take_succ_eq_append_getElem hj, flush_snoc]
    have e : l.getD j (0, []) = l[j] := by rw [List.getD_eq_getElem?_getD, List.getElem?_eq_getElem hj]; rfl
    unfold keep1
    rw [if_pos ⟨by omega, by omega⟩]
    simp only [Int.toNat_natCast, e]
    rw [torn_all _ _ (hl _ (List.getElem_mem hj))]
theorem crash_all {S : DS} (h : S.Ok) (hf : S.fused = false) : (S.crash (alls S.loose.length)).last = S.sync.last := by
  have e : S.sync = S.synced := by unfold DS.sync; rw [dead_no hf, if_neg (by simp), burn_no (by exact hf)]
  rw [e]
  show (alls S.loose.length).foldl (keep1 S.loose) S.last = flush S.last S.loose
  rw [keep_all S.last S.loose h.wlen S.loose.length (Nat.le_refl _), List.take_length]
/-- nothing is loose: a crash leaves the pages -/
theorem crash_none {S : DS} (h : S.loose = []) (ks : List (Int × Nat)) : (S.crash ks).last = S.last ∧ (S.crash ks).loose = [] := by
  refine ⟨?_, rfl⟩
  show ks.foldl (keep1 S.loose) S.last = S.last
  rw [h]
  induction ks with
  | nil => rfl
  | cons k ks ih => rw [List.foldl_cons]; unfold keep1 at ih ⊢; rw [if_neg (fun q => by have := q.2; simp at this; omega)]; exact ih
/-- which acts the second part lets be done -/
def okW (x : Ac) : Bool := few x && x.kind == 1
theorem okW_6 (x : Ac) (h : okW x = true) : x.kind ≠ 6 := by
  simp [okW] at h
  have := h.2
  omega
theorem act_write {S : DS} {x : Ac} (hx : x.kind = 1) (hf : S.fused = false) : act S x = if S.writeE x.page x.b = 0 then S.written x.page.toNat x.b else S := by
  rw [(act1 S hx).1]
  unfold DS.write DS.writeE
  rw [dead_no hf]
  cases q : S.has x.page with
  | false => simp
  | true =>
    by_cases r : x.b.length ≠ 256
    · simp [r]
    · simp [r]; first | done | exact burn_no (by exact hf)
theorem runs_last : ∀ (xs : List Ac) (S : DS), S.fused = false → (runs okW S xs).last = S.last
  | [], S, _ => rfl
  | x :: xs, S, hf => by
    have ih := runs_last xs
    simp only [runs, List.foldl_cons] at ih ⊢
    split
    · rename_i q
      have hk : x.kind = 1 := by simp [okW] at q; exact q.2
      rw [ih _ (act_fused S x hf (by omega)), act_write hk hf]
      split <;> rfl
    · exact ih S hf

/-- three disks, and a row of so many whole writes, in blocks apart -/
structure FourIn (W w : World) (d : Nat) (D : DS) (x : Nat) (X : DS) (y : Nat) (Y : DS) (A : Option Addr) (c n : Nat) (F G H K : Nat → Prop) : Prop where
  hd : Dk w d D F
  hx : Dk w x X G
  hy : Dk w y Y H
  ha : Wd w 52 2 A n c (keptCells (alls n))
  hk : ∀ i, A.map (·.block) = some i → K i
  sF : Since W w F
  sG : Since W w G
  sH : Since W w H
  sK : Since W w K
  FG : Apart F G
  FH : Apart F H
  FK : Apart F K
  GH : Apart G H
  GK : Apart G K
  HK : Apart H K
  below : Below W.heap.size W w
def Four (W w : World) (d : Nat) (D : DS) (x : Nat) (X : DS) (y : Nat) (Y : DS) (A : Option Addr) (c n : Nat) : Prop := ∃ F G H K, FourIn W w d D x X y Y A c n F G H K
section
variable {W w w' wa : World} {d x y : Nat} {D X X' Y Y' : DS} {A : Option Addr} {c n : Nat} {F G H K : Nat → Prop}
theorem apS (h : Apart F G) : Apart G F := fun i hi hf => h i hf hi
theorem Four.swap (t : Four W w d D x X y Y A c n) : Four W w d D y Y x X A c n := by
  obtain ⟨F, G, H, K, t⟩ := t
  exact ⟨F, H, G, K, t.hd, t.hy, t.hx, t.ha, t.hk, t.sF, t.sH, t.sG, t.sK, t.FH, t.FG, t.FK, apS t.GH, t.HK, t.GK, t.below⟩
theorem Wd.kept {e : TypeId} {size : Nat} {xs : List Value} (h : Wd w e size A n c xs) (hk : ∀ i, A.map (·.block) = some i → K i) (ht : Turn G w w') (hd : Apart G K) : Wd w' e size A n c xs :=
  h.same fun i hi => ht.block i (h.blk i hi) fun hg => hd i hg (hk i (by rw [own_eq] at hi; exact hi))
theorem Four.step (t : Four W w d D x X y Y A c n) (hb : Below w.heap.size w w') : Four W w' d D x X y Y A c n := by
  obtain ⟨F, G, H, K, t⟩ := t
  exact ⟨F, G, H, K, t.hd.below hb, t.hx.below hb, t.hy.below hb, t.ha.same fun i hi => hb.block i (t.ha.blk i hi), t.hk, t.sF.step hb.size, t.sG.step hb.size, t.sH.step hb.size, t.sK.step hb.size, t.FG, t.FH, t.FK, t.GH, t.GK, t.HK, t.below.trans (hb.mono t.below.size)⟩
theorem Four.alloc (t : Four W w d D x X y Y A c n) (o : Obj) : Four W (w.alloc o) d D x X y Y A c n := t.step ((Below.refl _ w).alloc (Nat.le_refl _) _)
theorem Four.drew (t : Four W w d D x X y Y A c n) : Four W w.drew d D x X y Y A c n := t.step (Below.refl _ w).drew
theorem Four.one (t : Four W w d D x X y Y A c n) : Mine W w d D := by
  obtain ⟨F, G, H, K, t⟩ := t
  exact ⟨F, t.hd, t.sF, t.below⟩
theorem Four.two (t : Four W w d D x X y Y A c n) : Mine W w x X := by
  obtain ⟨F, G, H, K, t⟩ := t
  exact ⟨G, t.hx, t.sG, t.below⟩
theorem Four.three (t : Four W w d D x X y Y A c n) : Mine W w y Y := t.swap.two
theorem Four.below (t : Four W w d D x X y Y A c n) : Below W.heap.size W w := t.one.below
/-- the third disk has turned -/
theorem Four.went (t : FourIn W w d D x X y Y A c n F G H K) (hw : Went H y w Y' w') : Four W w' d D x X y Y' A c n := by
  obtain ⟨H', q1, q2, q3⟩ := hw
  have hs := t.below.size
  have far : ∀ (I : Nat → Prop), Since W w I → Apart I H → Apart I H' := fun I sI aI i hi hh => by
    rcases (q1 i hh).1 with q | q
    · exact aI i hi q
    · have := (sI i hi).2; omega
  exact ⟨F, G, H', K, t.hd.kept q3 (fun i _ hf hh => t.FH i hf hh), t.hx.kept q3 (fun i _ hg hh => t.GH i hg hh), q2, Wd.kept t.ha t.hk q3 t.HK, t.hk, t.sF.step q3.size, t.sG.step q3.size,
    fun i hi => ⟨(q1 i hi).1.elim (fun q => (t.sH i q).1) (fun q => by omega), (q1 i hi).2⟩, t.sK.step q3.size, t.FG, far F t.sF t.FH, t.FK, far G t.sG t.GH, t.GK, apS (far K t.sK (apS t.HK)),
    q3.belowOf t.below hs (fun k hk => (t.sH k hk).1)⟩
theorem f_write (t : Four W w d D x X y Y A c n) (p : Int) (a : Option Addr) (b : Nat) (l : Pg) (m : Nat) (hm : l.length = m) (hll : Y.loose.length ≤ 100000000) (hrow : Row w w.heap.size a (bv l)) :
    Calls Try.prog 21 #[.pointer (some ⟨y, 0, none⟩), .int .i64 p, .slice a m b] w fun e w' => e = .returned (.int .i64 (Y.writeE p l)) ∧ Four W w' d D x X y (Y.write p l) A c n := by
  subst hm
  obtain ⟨F, G, H, K, t⟩ := t
  exact (write_dk t.hy p a b l hll hrow).mono fun _ _ ⟨he, hw⟩ => ⟨he, Four.went t hw⟩
theorem f_sync (t : Four W w d D x X y Y A c n) (hll : Y.loose.length ≤ 100000000) : Calls Try.prog 17 #[.pointer (some ⟨y, 0, none⟩)] w fun e w' => e = .returned (.tuple #[]) ∧ Four W w' d D x X y Y.sync A c n := by
  obtain ⟨F, G, H, K, t⟩ := t
  exact (sync_dk t.hy hll).mono fun _ _ ⟨he, hw⟩ => ⟨he, Four.went t hw⟩
theorem f_crash (t : Four W w d D x X y Y A c n) (hn : n ≤ 1000) (hll : Y.loose.length ≤ 100000000) : Calls Try.prog 20 #[.pointer (some ⟨y, 0, none⟩), .slice A n c] w fun e w' => e = .returned (.tuple #[]) ∧ Four W w' d D x X y (Y.crash (alls n)) A c n := by
  obtain ⟨F, G, H, K, t⟩ := t
  have h := crash_dk t.hy A c (alls n) (by rw [alls_len]; omega) (alls_lt n) hll (fun j v hv => by
    have hl : 0 < n := by
      rcases Nat.eq_zero_or_pos n with q | q
      · subst q; simp [alls, keptCells] at hv
      · exact q
    obtain ⟨g, cur, rfl, hg, _⟩ := t.ha.form hl
    refine ⟨_, rfl, heap_lt hg, fun q => t.HK g q (t.hk g rfl), ?_⟩
    rw [add_zero_block]
    exact t.ha.cell rfl hv)
  rw [alls_len] at h
  exact h.mono fun _ _ ⟨he, hw⟩ => ⟨he, Four.went t hw⟩
/-- one more is kept -/
theorem f_append (t : Four W w d D x X y Y A c n) (hn : n ≤ 1000) : ∃ A' c' w', (Builtin.append_ #[33, 33] 33 #[.slice A n c, .slice (some ⟨w.heap.size, 0, none⟩) 1 1]).run Try.prog (w.alloc (.cells #[.int .i64 (n : Int), .int .u8 15] 52)) = .ok (.slice A' (n + 1) c') w' ∧
    Four W w' d D x X y Y A' c' (n + 1) := by
  obtain ⟨F, G, H, K, t⟩ := t
  obtain ⟨i, i1, i2, i3, i4⟩ := info_parts torn_info
  have hb0 : Below w.heap.size w (w.alloc (.cells #[.int .i64 (n : Int), .int .u8 15] 52)) := (Below.refl _ w).alloc (Nat.le_refl _) _
  have hown : Wd (w.alloc (.cells #[.int .i64 (n : Int), .int .u8 15] 52)) 52 2 A n c (keptCells (alls n)) := t.ha.same fun i hi => hb0.block i (t.ha.blk i hi)
  obtain ⟨A', c', w2, hrun, hw2, hgr, hpl⟩ := append_wide (t := 33) (ty := 33) 2 16 Try.underlying33 i1 i2 i3 i4 (by simp [Value.cells]) (by omega) hown ⟨w.heap.size, 0, none⟩ 1 1 [.int .i64 (n : Int), .int .u8 15] rfl (fun j u hu => by
    rw [add_zero_block, cell_of_row _ _ _ _ _ _ (heap_alloc_new w _)]
    simpa using hu) (by intro u hu; simp at hu; rcases hu with rfl | rfl <;> rfl) (by omega) (by omega)
  rw [← kept_succ] at hw2
  have hs := t.below.size
  have ht : Turn (fun i => A.map (·.block) = some i) w w2 := (Turn.ofBelow hb0).trans (Turn.ofGrown hgr (F := fun i => A.map (·.block) = some i) fun k hk _ => hk) fun _ _ q => q
  have ht' : Turn K w w2 := ht.mono fun i _ q => t.hk i q
  have hsz : w.heap.size < w2.heap.size := by have := hgr.size; simp at this; omega
  refine ⟨A', c', w2, hrun, F, G, H, fun i => K i ∨ i = w.heap.size ∨ i = w.heap.size + 1 ∧ i < w2.heap.size, t.hd.kept ht' (fun i _ hf hk => t.FK i hf hk), t.hx.kept ht' (fun i _ hf hk => t.GK i hf hk), t.hy.kept ht' (fun i _ hf hk => t.HK i hf hk), hw2, ?_, t.sF.step ht.size, t.sG.step ht.size, t.sH.step ht.size, ?_, t.FG, t.FH, ?_, t.GH, ?_, ?_, ?_⟩
  · intro i hi
    rcases hpl with e | e
    · exact .inl (t.hk i (by rw [← e]; exact hi))
    · rw [e] at hi
      simp at hi
      have h2 : i < w2.heap.size := hw2.blk i (by rw [own_eq, e]; simp; omega)
      exact .inr (.inr ⟨by omega, h2⟩)
  · intro i hi
    rcases hi with q | q | q
    · have := t.sK i q; omega
    · omega
    · omega
  · intro i hf hi
    have := t.sF i hf
    rcases hi with q | q | q
    · exact t.FK i hf q
    · omega
    · omega
  · intro i hf hi
    have := t.sG i hf
    rcases hi with q | q | q
    · exact t.GK i hf q
    · omega
    · omega
  · intro i hf hi
    have := t.sH i hf
    rcases hi with q | q | q
    · exact t.HK i hf q
    · omega
    · omega
  · exact ht'.belowOf t.below hs (fun k hk => (t.sK k hk).1)
/-- a third disk is made, as the second one is, and an empty row -/
theorem t_crash (t : Two W w d D x X) (B : Option Addr) (cb : Nat) (ks : List (Int × Nat)) (m : Nat) (hm : ks.length = m) (hks : ks.length ≤ 1000000) (hz : ∀ x ∈ ks, x.2 < 256) (hll : D.loose.length ≤ 100000000)
    (hrow : Row W W.heap.size B (keptCells ks)) : Calls Try.prog 20 #[.pointer (some ⟨d, 0, none⟩), .slice B m cb] w fun e w' => e = .returned (.tuple #[]) ∧ Two W w' d (D.crash ks) x X := by
  subst hm
  obtain ⟨F, G, h1, h2, h3, h4, h5, h6⟩ := t
  have hs := h6.size
  refine (crash_dk h1 B cb ks hks hz hll (fun j v hv => ?_)).mono fun _ _ ⟨he, hw⟩ => ⟨he, Two.went h2 h3 h4 h5 h6 hw⟩
  obtain ⟨ad, e, q1, q2⟩ := hrow j v hv
  exact ⟨ad, e, by omega, fun q => by have := h3 _ q; omega, (h6.cell (p := ad.add j) (by rw [blk_add]; exact q1)).trans q2⟩
theorem t_third (t : Two W w d D x X) (hll : X.loose.length ≤ 100000000) : Calls Try.prog 16 #[.pointer (some ⟨x, 0, none⟩)] w fun e w' => e = .returned (.pointer (some ⟨w.heap.size, 0, none⟩)) ∧ Four W (w'.alloc (.cells #[] 52)) d D x X w.heap.size X (some ⟨w'.heap.size, 0, none⟩) 0 0 := by
  obtain ⟨F, G, h1, h2, h3, h4, h5, h6⟩ := t
  have hs := h6.size
  refine (copy_dk h2 hll).mono fun _ w' ⟨he, hd, hb⟩ => ⟨he, ?_⟩
  have hs2 := hb.size
  have hb0 : Below w'.heap.size w' (w'.alloc (.cells #[] 52)) := (Below.refl _ w').alloc (Nat.le_refl _) _
  have hb1 : Below w.heap.size w (w'.alloc (.cells #[] 52)) := hb.trans (hb0.mono hs2)
  refine ⟨F, G, fun i => w.heap.size ≤ i ∧ i < w'.heap.size, fun i => i = w'.heap.size, h1.below hb1, h2.below hb1, (hd.below hb0).mono fun i hi _ => hi, World.ownsRow_made w' #[] 0 (Nat.zero_le _) (by simp [maxLen]) rfl, fun i hi => by simp at hi; omega, h3.step hb1.size, h4.step hb1.size, fun i hi => by simp; omega, fun i hi => by simp; omega, h5, fun i hi hj => ?_, fun i hi hj => ?_, fun i hi hj => ?_, fun i hi hj => ?_, fun i hi hj => ?_, h6.trans (hb1.mono hs)⟩
  · have := (h3 i hi).2; omega
  · have := (h3 i hi).2; omega
  · have := (h4 i hi).2; omega
  · have := (h4 i hi).2; omega
  · omega
end
end Go.Proofs.Ytecdindjlfefhaa.DiskThree
