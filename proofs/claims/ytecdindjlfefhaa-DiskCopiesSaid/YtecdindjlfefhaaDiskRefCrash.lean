/- The document's disk: Do of a crash. -/
import Derived.Test.YtecdindjlfefhaaDiskBox
namespace Go.Proofs.Ytecdindjlfefhaa.DiskRefCrash
open Go.RowKit Base DiskPlain DiskMem DiskSmall DiskRead DiskGrow DiskWrite DiskSync DiskCrash DiskSpoil DiskCopy DiskLaw DiskDo DiskPlumb DiskTwo DiskGrows DiskSim DiskSyncs DiskRef DiskRefRead DiskRefDo DiskRefDo3 DiskBox Go.Maps

def keeps (l : List (Nat × Pg)) (L : List Pg) (ks : List (Int × Nat)) : List Pg := ks.foldl (keep1 l) L
theorem keeps_take {l : List (Nat × Pg)} {L : List Pg} {ks : List (Int × Nat)} {k : Nat} {n : Int} {z : Nat} (hx : ks[k]? = some (n, z)) : keeps l L (ks.take (k + 1)) = keep1 l (keeps l L (ks.take k)) (n, z) := by
  have hj : k < ks.length := (List.getElem?_eq_some_iff.1 hx).1
  rw [List.take_succ_eq_append_getElem hj, (List.getElem?_eq_some_iff.1 hx).2]
  simp [keeps]
theorem keep1_hit {l : List (Nat × Pg)} {L : List Pg} {n p z : Nat} {y s : Pg} (hl : l[n]? = some (p, y)) (hs : L[p]? = some s) : keep1 l L ((n : Int), z) = L.set p (torn s y z) := by
  have hn : n < l.length := (List.getElem?_eq_some_iff.1 hl).1
  unfold keep1
  rw [if_pos ⟨by simp, by simpa using hn⟩]
  simp only [Int.toNat_natCast, List.getD_eq_getElem?_getD, hl, Option.getD_some, hs]
theorem keep1_miss {l : List (Nat × Pg)} {L : List Pg} {n : Int} {z : Nat} (h : n < 0 ∨ (l.length : Int) ≤ n) : keep1 l L (n, z) = L := by
  unfold keep1
  rw [if_neg (by simp only; omega)]
theorem idx_kept {A : Option Addr} {ab ao n c j : Nat} (hA : A = some ⟨ab, ao, none⟩) (hj : j < n) (w : World) : (Instr.indexAt 33 (.slice A n c) (.int .i64 (j : Int))).run Try.prog w = .ok (.pointer (some ⟨ab, ao + j * 2, none⟩)) w := by
  subst hA
  have h2 : (j : Int) < n := by omega
  go_simp
/-- the row of what is kept, by addresses -/
theorem kept_row {w : World} {K : Option Addr} {ks : List (Int × Nat)} (h : Row w w.heap.size K (keptCells ks)) (hn : 0 < ks.length) : ∃ kb ko, K = some ⟨kb, ko, none⟩ ∧ kb < w.heap.size ∧ ∀ k v, (keptCells ks)[k]? = some v → w.cell? ⟨kb, ko + k, none⟩ = some v := by
  have hr : RowR w (fun _ => True) K (keptCells ks) := fun k v hv => by
    obtain ⟨ad, e, h1, h2⟩ := h k v hv
    exact ⟨ad, e, trivial, h1, h2⟩
  exact row_at hr (by rw [kept_len]; omega)
def CrRel (w : World) (m : Int) (L : List Pg) (nL : Nat) (l : List (Nat × Pg)) (n2 : Nat) (A2 : Option Addr) (c2 : Nat) (fb : Bool) (f : Int) (R : Nat → Prop) (x : Ac) (K : Option Addr) (ck : Nat) (i : Value) (wr : World) : Prop :=
  ∃ (k : Nat) (A : Option Addr) (c : Nat), k ≤ x.kept.length ∧ i = .int .i64 k ∧ Bx w m (keeps l L (x.kept.take k)) nL A c l n2 A2 c2 fb f R x K ck wr
section
variable {w : World} {S : DS} {A1 A2 : Option Addr} {c1 c2 : Nat} {f : Int} {R : Nat → Prop}
set_option maxRecDepth 100000 in
set_option maxHeartbeats 2000000 in
theorem rdo_crash (h : RefP w S A1 A2 f R) (hok : S.Ok) (hR : ∀ b, R b → b < w.heap.size) (x : Ac) (K : Option Addr) (ck : Nat) (hk : x.kind = 3) (hll : S.loose.length ≤ 100000000) (hkl : x.kept.length ≤ 1000000) (hz : ∀ y ∈ x.kept, y.2 < 256) (hrow : Row w w.heap.size K (keptCells x.kept)) :
    Calls Try.prog 13 #[.agg #[.int .i64 S.most, .slice A1 S.last.length c1, .slice A2 S.loose.length c2, .bool S.fused, .int .i64 f], .agg #[.int .i64 x.kind, .int .i64 x.n, .int .i64 x.page, .int .i64 x.at_, .string x.s, .slice K x.kept.length ck]] w (RefPost w R (S.crash x.kept) 0) := by
  have hln := hok.len4096
  have HOK := Lib.hid hok
  have HRR := Lib.hid hR
  have HZ := Lib.hid hz
  have HW := Lib.hid hrow
  have HE := Lib.hid (show ∀ (A : Option Addr) (c : Nat) (v wz : World), Bx w S.most (keeps S.loose S.last (x.kept.take x.kept.length)) S.last.length A c [] 0 none 0 false f R x K ck v → Turn (fun b => b = w.heap.size + 1 + 1) v wz →
      RefPost w R (S.crash x.kept) 0 (.returned (.tuple #[.agg #[.int .i64 S.most, .slice A S.last.length c, .slice none 0 0, .bool false, .int .i64 f], .int .i64 0])) wz from fun A c v wz hb ht => by
    rw [List.take_length] at hb
    exact bx_end (S' := S.crash x.kept) hb (by intro q; cases q) ht hR 0)
  have HB := Lib.hid (bx_start (c1 := c1) (c2 := c2) (x := x) (K := K) (ck := ck) h f)
  obtain ⟨kd, xn, xp, xa, xs, xk⟩ := x
  simp only at hk
  subst hk
  dsimp only at HE HB HZ HW hkl ⊢
  clear h hok hR hz hrow
  cases hfu : S.fused with
  | false =>
    rw [hfu] at HB
    clear hfu
    go_enter Try.func13, Try.ntmps13
    go_wp2_with fail
    all_goals
      go_loopw [9] (fun i wr => CrRel w S.most S.last S.last.length S.loose S.loose.length A2 c2 false f R ⟨3, xn, xp, xa, xs, xk⟩ K ck i wr) (fun i _ => xk.length - (intOf i).toNat)
      case atStart => exact ⟨0, A1, c1, by omega, rfl, HB.out⟩
      case round =>
        obtain ⟨k, A, c, hk, rfl, hs⟩ := hrel
        dsimp only at hk hs
        have x5 : wr.cell? ⟨w.heap.size + 1, 5, none⟩ = some (.slice K xk.length ck) := by rw [hs.x.cell]; rfl
        by_cases hlt : k < xk.length
        · obtain ⟨⟨n, z⟩, hx⟩ : ∃ x, xk[k]? = some x := ⟨_, List.getElem?_eq_getElem hlt⟩
          obtain ⟨kb, ko, hK, hkb, hkc⟩ := kept_row (HW.out.belowSize hs.below) (by omega)
          have q0 := hkc _ _ (kept_at hx).1
          have q1 := hkc _ _ (kept_at hx).2
          rw [← Nat.add_assoc] at q1
          have hik := idx_kept (n := xk.length) (c := ck) hK hlt
          have HK := Lib.hid hK
          have hz := HZ.out _ (List.mem_of_getElem? hx)
          have hkt := keeps_take (l := S.loose) (L := S.last) hx
          have HX := Lib.hid hx
          clear hK hkc hx
          by_cases hin : 0 ≤ n ∧ n < (S.loose.length : Int)
          · obtain ⟨n, rfl⟩ := Int.eq_ofNat_of_zero_le hin.1
            have hn : n < S.loose.length := by omega
            have hn2 : decide ((n : Int) < (S.loose.length : Int)) = true := by simp; omega
            have hn3 : (n : Int) < (S.loose.length : Int) := by omega
            clear hin
            obtain ⟨⟨p, y⟩, hy⟩ : ∃ x, S.loose[n]? = some x := ⟨_, List.getElem?_eq_getElem hn⟩
            have hp : p < (keeps S.loose S.last (xk.take k)).length := by rw [hs.nl]; exact HOK.out.wpage _ (List.mem_of_getElem? hy)
            obtain ⟨sp, hsp⟩ : ∃ s, (keeps S.loose S.last (xk.take k))[p]? = some s := ⟨_, List.getElem?_eq_getElem hp⟩
            rw [keep1_hit hy hsp] at hkt
            have HT := Lib.hid hkt
            have HLN := Lib.hid (show sp.length = 256 ∧ y.length = 256 ∧ z < 256 from ⟨keeps_pages _ _ _ HOK.out.pages _ (List.mem_of_getElem? hsp), HOK.out.wlen _ (List.mem_of_getElem? hy), hz⟩)
            obtain ⟨bb, bo, hA2, hbb, hc2⟩ := row_at hs.lo (by rw [looseStr_len]; omega)
            have s0 := hc2 _ _ (looseStr_at hy).1
            have s1 := hc2 _ _ (looseStr_at hy).2
            rw [← Nat.add_assoc] at s1
            have hi2 := idx_loose (n := S.loose.length) (c := c2) hA2 hn
            have HA2 := Lib.hid hA2
            obtain ⟨ab, ao, hA, hab, hc1⟩ := row_at hs.la (by simp [lastStr]; omega)
            have l0 := hc1 p (.string (tx sp)) (by simp [lastStr, hsp])
            have hi1 := idx_last (n := S.last.length) (c := c) hA (by rw [← hs.nl]; exact hp)
            have HA := Lib.hid hA
            have b1 := hs.d1
            have b2 := hs.d2
            have hsq := hs.step ((Below.refl _ wr).alloc (Nat.le_refl _) (.cells #[.int .i64 (p : Int), .string (tx y)] 68))
            have hw := Lib.hid (fun wx (hb : Below (wr.alloc (.cells #[.int .i64 (p : Int), .string (tx y)] 68)).heap.size (wr.alloc (.cells #[.int .i64 (p : Int), .string (tx y)] 68)) wx) => bx_with hsq (p := p) (y := torn sp y z) hp (by rw [hs.nl]; exact hln) hb)
            have HSP := Lib.hid (show ∀ wx, Below (wr.alloc (.cells #[.int .i64 (p : Int), .string (tx y)] 68)).heap.size (wr.alloc (.cells #[.int .i64 (p : Int), .string (tx y)] 68)) wx → (fun w' : World => w'.cell? ⟨w.heap.size, 1, none⟩ = some (.slice A S.last.length c) ∧ w'.cell? ⟨wr.heap.size, 0, none⟩ = some (.int .i64 (p : Int)) ∧ w'.cell? ⟨wr.heap.size, 1, none⟩ = some (.string (tx y)) ∧ w'.cell? ⟨ab, ao + p, none⟩ = some (.string (tx sp)) ∧ w'.cell? ⟨w.heap.size + 1, 5, none⟩ = some (.slice K xk.length ck) ∧ w'.cell? ⟨kb, ko + k * 2 + 1, none⟩ = some (.int .u8 (z : Int))) wx from fun wx hb => by
              have hb2 : Below wr.heap.size wr wx := ((Below.refl _ wr).alloc (Nat.le_refl _) _).trans (hb.mono (by simp))
              refine ⟨(hsq.step hb).d1, ?_, ?_, (hb2.cell (p := ⟨ab, ao + p, none⟩) hab).trans l0, (hb2.cell (p := ⟨w.heap.size + 1, 5, none⟩) hs.x.lt).trans x5, (hb2.cell (p := ⟨kb, ko + k * 2 + 1, none⟩) hkb).trans q1⟩
              · exact (hb.cell (p := ⟨wr.heap.size, 0, none⟩) (by simp)).trans (cell_new wr _ _ 0)
              · exact (hb.cell (p := ⟨wr.heap.size, 1, none⟩) (by simp)).trans (cell_new wr _ _ 1))
            have HS := Lib.hid hs
            have HSQ := Lib.hid hsq
            have HY := Lib.hid hy
            have HPP := Lib.hid hp
            clear hA hA2 hc1 hc2 hsp hkt hz hs hsq hy hp
            go_wp2_with fail
            refine wp_region_any (by kernel_rfl) ?_
            change wpAny _ _ _ _ _ _ _ (World.drew _)
            refine Held.any_of_G (S := (fun w' : World => w'.cell? ⟨w.heap.size, 1, none⟩ = some (.slice A S.last.length c) ∧ w'.cell? ⟨wr.heap.size, 0, none⟩ = some (.int .i64 (p : Int)) ∧ w'.cell? ⟨wr.heap.size, 1, none⟩ = some (.string (tx y)) ∧ w'.cell? ⟨ab, ao + p, none⟩ = some (.string (tx sp)) ∧ w'.cell? ⟨w.heap.size + 1, 5, none⟩ = some (.slice K xk.length ck) ∧ w'.cell? ⟨kb, ko + k * 2 + 1, none⟩ = some (.int .u8 (z : Int)))) (z := 21) _ _ _ _ ?_
            refine Held.G_take (i := 0) (d := 150) (v := ?_) [0, 1, 19, 20, 21] rfl rfl (by kernel_rfl) (by kernel_rfl) (by kernel_rfl) (by kernel_rfl) (fun _ _ _ h => h) (Or.inl ⟨by rfl, ?_⟩) (HSP.out _ (Below.refl _ _).drew) ?_
            rotate_left 1
            · intro w hSw; clear hSw; go_simp <;> with_reducible rfl
            simp only [Act.put, List.setIfInBounds_toArray, List.set_cons_zero, List.set_cons_succ]
            refine Held.G_take (i := 1) (d := 151) (v := ?_) [1, 19, 20, 21] rfl rfl (by kernel_rfl) (by kernel_rfl) (by kernel_rfl) (by kernel_rfl) (fun _ _ _ h => h) (Or.inl ⟨by rfl, ?_⟩) (HSP.out _ (Below.refl _ _).drew) ?_
            rotate_left 1
            · intro w hSw; obtain ⟨h1, h2, h3, h4, h5, h6⟩ := hSw; go_simp <;> with_reducible rfl
            simp only [Act.put, List.setIfInBounds_toArray, List.set_cons_zero, List.set_cons_succ]
            refine Held.G_take (i := 2) (d := 152) (v := ?_) [2, 3, 19, 20, 21] rfl rfl (by kernel_rfl) (by kernel_rfl) (by kernel_rfl) (by kernel_rfl) (fun _ _ _ h => h) (Or.inl ⟨by rfl, ?_⟩) (HSP.out _ (Below.refl _ _).drew) ?_
            rotate_left 1
            · intro w hSw; clear hSw; go_simp <;> with_reducible rfl
            simp only [Act.put, List.setIfInBounds_toArray, List.set_cons_zero, List.set_cons_succ]
            refine Held.G_take (i := 3) (d := 153) (v := ?_) [3, 19, 20, 21] rfl rfl (by kernel_rfl) (by kernel_rfl) (by kernel_rfl) (by kernel_rfl) (fun _ _ _ h => h) (Or.inl ⟨by rfl, ?_⟩) (HSP.out _ (Below.refl _ _).drew) ?_
            rotate_left 1
            · intro w hSw; obtain ⟨h1, h2, h3, h4, h5, h6⟩ := hSw; go_simp <;> with_reducible rfl
            simp only [Act.put, List.setIfInBounds_toArray, List.set_cons_zero, List.set_cons_succ]
            refine Held.G_take (i := 4) (d := 154) (v := ?_) [4, 5, 8, 9, 18, 19, 20, 21] rfl rfl (by kernel_rfl) (by kernel_rfl) (by kernel_rfl) (by kernel_rfl) (fun _ _ _ h => h) (Or.inl ⟨by rfl, ?_⟩) (HSP.out _ (Below.refl _ _).drew) ?_
            rotate_left 1
            · intro w hSw; clear hSw; go_simp <;> with_reducible rfl
            simp only [Act.put, List.setIfInBounds_toArray, List.set_cons_zero, List.set_cons_succ]
            refine Held.G_take (i := 5) (d := 155) (v := ?_) [5, 8, 9, 18, 19, 20, 21] rfl rfl (by kernel_rfl) (by kernel_rfl) (by kernel_rfl) (by kernel_rfl) (fun _ _ _ h => h) (Or.inl ⟨by rfl, ?_⟩) (HSP.out _ (Below.refl _ _).drew) ?_
            rotate_left 1
            · intro w hSw; obtain ⟨h1, h2, h3, h4, h5, h6⟩ := hSw; go_simp <;> with_reducible rfl
            simp only [Act.put, List.setIfInBounds_toArray, List.set_cons_zero, List.set_cons_succ]
            refine Held.G_take (i := 6) (d := 156) (v := ?_) [6, 7, 8, 9, 18, 19, 20, 21] rfl rfl (by kernel_rfl) (by kernel_rfl) (by kernel_rfl) (by kernel_rfl) (fun _ _ _ h => h) (Or.inl ⟨by rfl, ?_⟩) (HSP.out _ (Below.refl _ _).drew) ?_
            rotate_left 1
            · intro w hSw; clear hSw; go_simp <;> with_reducible rfl
            simp only [Act.put, List.setIfInBounds_toArray, List.set_cons_zero, List.set_cons_succ]
            refine Held.G_take (i := 7) (d := 157) (v := ?_) [7, 8, 9, 18, 19, 20, 21] rfl rfl (by kernel_rfl) (by kernel_rfl) (by kernel_rfl) (by kernel_rfl) (fun _ _ _ h => h) (Or.inl ⟨by rfl, ?_⟩) (HSP.out _ (Below.refl _ _).drew) ?_
            rotate_left 1
            · intro w hSw; obtain ⟨h1, h2, h3, h4, h5, h6⟩ := hSw; go_simp <;> with_reducible rfl
            simp only [Act.put, List.setIfInBounds_toArray, List.set_cons_zero, List.set_cons_succ]
            refine Held.G_take (i := 8) (d := 158) (v := ?_) [8, 9, 18, 19, 20, 21] rfl rfl (by kernel_rfl) (by kernel_rfl) (by kernel_rfl) (by kernel_rfl) (fun _ _ _ h => h) (Or.inl ⟨by rfl, ?_⟩) (HSP.out _ (Below.refl _ _).drew) ?_
            rotate_left 1
            · intro w hSw; clear hSw; go_simp <;> with_reducible rfl
            simp only [Act.put, List.setIfInBounds_toArray, List.set_cons_zero, List.set_cons_succ]
            refine Held.G_take (i := 9) (d := 159) (v := ?_) [9, 18, 19, 20, 21] rfl rfl (by kernel_rfl) (by kernel_rfl) (by kernel_rfl) (by kernel_rfl) (fun _ _ _ h => h) (Or.inl ⟨by rfl, ?_⟩) (HSP.out _ (Below.refl _ _).drew) ?_
            rotate_left 1
            · intro w hSw; obtain ⟨h1, h2, h3, h4, h5, h6⟩ := hSw; go_simp <;> with_reducible rfl
            simp only [Act.put, List.setIfInBounds_toArray, List.set_cons_zero, List.set_cons_succ]
            refine Held.G_take (i := 10) (d := 160) (v := ?_) [10, 11, 18, 19, 20, 21] rfl rfl (by kernel_rfl) (by kernel_rfl) (by kernel_rfl) (by kernel_rfl) (fun _ _ _ h => h) (Or.inl ⟨by rfl, ?_⟩) (HSP.out _ (Below.refl _ _).drew) ?_
            rotate_left 1
            · intro w hSw; clear hSw; go_simp <;> with_reducible rfl
            simp only [Act.put, List.setIfInBounds_toArray, List.set_cons_zero, List.set_cons_succ]
            refine Held.G_take (i := 11) (d := 161) (v := ?_) [11, 18, 19, 20, 21] rfl rfl (by kernel_rfl) (by kernel_rfl) (by kernel_rfl) (by kernel_rfl) (fun _ _ _ h => h) (Or.inl ⟨by rfl, ?_⟩) (HSP.out _ (Below.refl _ _).drew) ?_
            rotate_left 1
            · intro w hSw; obtain ⟨h1, h2, h3, h4, h5, h6⟩ := hSw; go_simp <;> with_reducible rfl
            simp only [Act.put, List.setIfInBounds_toArray, List.set_cons_zero, List.set_cons_succ]
            refine Held.G_take (i := 12) (d := 162) (v := ?_) [12, 13, 15, 16, 17, 18, 19, 20, 21] rfl rfl (by kernel_rfl) (by kernel_rfl) (by kernel_rfl) (by kernel_rfl) (fun _ _ _ h => h) (Or.inl ⟨by rfl, ?_⟩) (HSP.out _ (Below.refl _ _).drew) ?_
            rotate_left 1
            · intro w hSw; clear hSw; go_simp <;> with_reducible rfl
            simp only [Act.put, List.setIfInBounds_toArray, List.set_cons_zero, List.set_cons_succ]
            refine Held.G_take (i := 13) (d := 163) (v := ?_) [13, 15, 16, 17, 18, 19, 20, 21] rfl rfl (by kernel_rfl) (by kernel_rfl) (by kernel_rfl) (by kernel_rfl) (fun _ _ _ h => h) (Or.inl ⟨by rfl, ?_⟩) (HSP.out _ (Below.refl _ _).drew) ?_
            rotate_left 1
            · intro w hSw; obtain ⟨h1, h2, h3, h4, h5, h6⟩ := hSw; go_simp <;> with_reducible rfl
            simp only [Act.put, List.setIfInBounds_toArray, List.set_cons_zero, List.set_cons_succ]
            refine Held.G_take (i := 14) (d := 164) (v := ?_) [14, 15, 16, 17, 18, 19, 20, 21] rfl rfl (by kernel_rfl) (by kernel_rfl) (by kernel_rfl) (by kernel_rfl) (fun _ _ _ h => h) (Or.inl ⟨by rfl, ?_⟩) (HSP.out _ (Below.refl _ _).drew) ?_
            rotate_left 1
            · intro w hSw; clear hSw; go_simp <;> with_reducible rfl
            simp only [Act.put, List.setIfInBounds_toArray, List.set_cons_zero, List.set_cons_succ]
            refine Held.G_take (i := 15) (d := 165) (v := ?_) [15, 16, 17, 18, 19, 20, 21] rfl rfl (by kernel_rfl) (by kernel_rfl) (by kernel_rfl) (by kernel_rfl) (fun _ _ _ h => h) (Or.inl ⟨by rfl, ?_⟩) (HSP.out _ (Below.refl _ _).drew) ?_
            rotate_left 1
            · intro w hSw; clear hSw; go_simp <;> with_reducible rfl
            simp only [Act.put, List.setIfInBounds_toArray, List.set_cons_zero, List.set_cons_succ]
            refine Held.G_take (i := 16) (d := 166) (v := ?_) [16, 17, 18, 19, 20, 21] rfl rfl (by kernel_rfl) (by kernel_rfl) (by kernel_rfl) (by kernel_rfl) (fun _ _ _ h => h) (Or.inl ⟨by rfl, ?_⟩) (HSP.out _ (Below.refl _ _).drew) ?_
            rotate_left 1
            · intro w hSw; clear hSw; go_simp <;> with_reducible rfl
            simp only [Act.put, List.setIfInBounds_toArray, List.set_cons_zero, List.set_cons_succ]
            refine Held.G_take (i := 17) (d := 167) (v := ?_) [17, 18, 19, 20, 21] rfl rfl (by kernel_rfl) (by kernel_rfl) (by kernel_rfl) (by kernel_rfl) (fun _ _ _ h => h) (Or.inl ⟨by rfl, ?_⟩) (HSP.out _ (Below.refl _ _).drew) ?_
            rotate_left 1
            · intro w hSw; obtain ⟨h1, h2, h3, h4, h5, h6⟩ := hSw; go_simp <;> with_reducible rfl
            simp only [Act.put, List.setIfInBounds_toArray, List.set_cons_zero, List.set_cons_succ]
            refine Held.G_ready (rs := [18]) (by decide +kernel) (by simp) ?_
            refine Held.G_cons rfl (fun KK hK => ?_) Held.G_nil
            go_simp
            (with_reducible refine (torn_any _ sp y z HLN.out.1 HLN.out.2.1 HLN.out.2.2).mono ?_)
            rintro e wt ⟨rfl, rfl⟩
            go_wp2_with fail
            refine ⟨(HSP.out _ (Below.refl _ _).drew), ?_⟩
            refine Held.G_ready (rs := [19]) (by decide +kernel) (by simp) ?_
            refine Held.G_cons rfl (fun KK hK => ?_) Held.G_nil
            go_simp
            (with_reducible refine (hw.out _ (Below.refl _ _).drew).mono ?_)
            rintro e wz ⟨A', c', rfl, fz, cz, HZW⟩
            go_wp2_with fail
            refine ⟨(HSP.out _ HZW.out.1), ?_⟩
            refine Held.G_take (i := 20) (d := 170) (v := ?_) [20, 21] rfl rfl (by kernel_rfl) (by kernel_rfl) (by kernel_rfl) (by kernel_rfl) (fun _ _ _ h => h) (Or.inl ⟨by rfl, ?_⟩) (HSP.out _ HZW.out.1) ?_
            rotate_left 1
            · intro w hSw; clear hSw; go_simp <;> with_reducible rfl
            simp only [Act.put, List.setIfInBounds_toArray, List.set_cons_zero, List.set_cons_succ]
            refine Held.G_ready (rs := [21]) (by decide +kernel) (by simp) ?_
            refine Held.G_last rfl (fun KK hK => ?_) Held.G_nil
            go_simp
            refine hK _ _ ?_
            clear hK KK
            refine Held.G_done (by kernel_rfl) ?_ _
            have HN := Lib.hid (HZW.out.2.1.put1 HRR.out HZW.out.2.2 (by simpa using HZW.out.2.1.nl) c')
            rw [← HT.out] at HN
            clear fz cz HZW
            go_wp2_with fail
            go_roundw
            case rel => exact ⟨k + 1, A', c', by show k + 1 ≤ xk.length; omega, by go_num, HN.out⟩
            case measure => simp [intOf]; omega
          · have hkm : keep1 S.loose (keeps S.loose S.last (xk.take k)) (n, z) = keeps S.loose S.last (xk.take k) := keep1_miss (by omega)
            rw [hkm] at hkt
            have HN := Lib.hid (show ∀ wx, Below wr.heap.size wr wx → Bx w S.most (keeps S.loose S.last (xk.take (k + 1))) S.last.length A c S.loose S.loose.length A2 c2 false f R ⟨3, xn, xp, xa, xs, xk⟩ K ck wx from fun wx hb => by rw [hkt]; exact hs.step hb)
            have b2 := hs.d2
            have hn3 : n < 0 ∨ (0 ≤ n ∧ (S.loose.length : Int) ≤ n) := by omega
            clear hkm hkt hs hin
            rcases hn3 with hn3 | ⟨hn3, hn4⟩
            all_goals
              go_wp2_with fail
              go_roundw
              case rel => exact ⟨k + 1, A, c, by show k + 1 ≤ xk.length; omega, by go_num, HN.out _ (by repeat (first | exact Below.refl _ _ | apply Below.drew))⟩
              case measure => simp [intOf]; omega
        · obtain rfl : k = xk.length := by omega
          have b0 := hs.d0
          have b1 := hs.d1
          have b2 := hs.d2
          have b3 := hs.d3
          have b4 := hs.d4
          have f2 := hs.d.frozen 2
          have f3 := hs.d.frozen 3
          have r0 := hs.r.cell 0
          have r1 := hs.r.cell 1
          have r2 := hs.r.cell 2
          have r3 := hs.r.cell 3
          have r4 := hs.r.cell 4
          have g0 := hs.r.frozen 0
          have g1 := hs.r.frozen 1
          have g2 := hs.r.frozen 2
          have g3 := hs.r.frozen 3
          have g4 := hs.r.frozen 4
          have HX := Lib.hid ((hs.put2 HRR.out (A3 := none) (l' := []) (n3 := 0) (rowR_nil _ _) rfl 0).put3 HRR.out false)
          clear hs
          go_wp2_with fail
          exact bodyPost_ret (v := .tuple #[.agg #[.int .i64 S.most, .slice A S.last.length c, .slice none 0 0, .bool false, .int .i64 f], .int .i64 0]) (by simp [results, Try.results13, go_sem, r0, r1, r2, r3, r4]) rfl (HE.out A c _ _ HX.out (turn5 _ _ _ _ _ _ _))
  | true =>
    rw [hfu] at HB
    clear hfu
    go_enter Try.func13, Try.ntmps13
    go_wp2_with fail
    all_goals
      go_loopw [9] (fun i wr => CrRel w S.most S.last S.last.length S.loose S.loose.length A2 c2 true f R ⟨3, xn, xp, xa, xs, xk⟩ K ck i wr) (fun i _ => xk.length - (intOf i).toNat)
      case atStart => exact ⟨0, A1, c1, by omega, rfl, HB.out⟩
      case round =>
        obtain ⟨k, A, c, hk, rfl, hs⟩ := hrel
        dsimp only at hk hs
        have x5 : wr.cell? ⟨w.heap.size + 1, 5, none⟩ = some (.slice K xk.length ck) := by rw [hs.x.cell]; rfl
        by_cases hlt : k < xk.length
        · obtain ⟨⟨n, z⟩, hx⟩ : ∃ x, xk[k]? = some x := ⟨_, List.getElem?_eq_getElem hlt⟩
          obtain ⟨kb, ko, hK, hkb, hkc⟩ := kept_row (HW.out.belowSize hs.below) (by omega)
          have q0 := hkc _ _ (kept_at hx).1
          have q1 := hkc _ _ (kept_at hx).2
          rw [← Nat.add_assoc] at q1
          have hik := idx_kept (n := xk.length) (c := ck) hK hlt
          have HK := Lib.hid hK
          have hz := HZ.out _ (List.mem_of_getElem? hx)
          have hkt := keeps_take (l := S.loose) (L := S.last) hx
          have HX := Lib.hid hx
          clear hK hkc hx
          by_cases hin : 0 ≤ n ∧ n < (S.loose.length : Int)
          · obtain ⟨n, rfl⟩ := Int.eq_ofNat_of_zero_le hin.1
            have hn : n < S.loose.length := by omega
            have hn2 : decide ((n : Int) < (S.loose.length : Int)) = true := by simp; omega
            have hn3 : (n : Int) < (S.loose.length : Int) := by omega
            clear hin
            obtain ⟨⟨p, y⟩, hy⟩ : ∃ x, S.loose[n]? = some x := ⟨_, List.getElem?_eq_getElem hn⟩
            have hp : p < (keeps S.loose S.last (xk.take k)).length := by rw [hs.nl]; exact HOK.out.wpage _ (List.mem_of_getElem? hy)
            obtain ⟨sp, hsp⟩ : ∃ s, (keeps S.loose S.last (xk.take k))[p]? = some s := ⟨_, List.getElem?_eq_getElem hp⟩
            rw [keep1_hit hy hsp] at hkt
            have HT := Lib.hid hkt
            have HLN := Lib.hid (show sp.length = 256 ∧ y.length = 256 ∧ z < 256 from ⟨keeps_pages _ _ _ HOK.out.pages _ (List.mem_of_getElem? hsp), HOK.out.wlen _ (List.mem_of_getElem? hy), hz⟩)
            obtain ⟨bb, bo, hA2, hbb, hc2⟩ := row_at hs.lo (by rw [looseStr_len]; omega)
            have s0 := hc2 _ _ (looseStr_at hy).1
            have s1 := hc2 _ _ (looseStr_at hy).2
            rw [← Nat.add_assoc] at s1
            have hi2 := idx_loose (n := S.loose.length) (c := c2) hA2 hn
            have HA2 := Lib.hid hA2
            obtain ⟨ab, ao, hA, hab, hc1⟩ := row_at hs.la (by simp [lastStr]; omega)
            have l0 := hc1 p (.string (tx sp)) (by simp [lastStr, hsp])
            have hi1 := idx_last (n := S.last.length) (c := c) hA (by rw [← hs.nl]; exact hp)
            have HA := Lib.hid hA
            have b1 := hs.d1
            have b2 := hs.d2
            have hsq := hs.step ((Below.refl _ wr).alloc (Nat.le_refl _) (.cells #[.int .i64 (p : Int), .string (tx y)] 68))
            have hw := Lib.hid (fun wx (hb : Below (wr.alloc (.cells #[.int .i64 (p : Int), .string (tx y)] 68)).heap.size (wr.alloc (.cells #[.int .i64 (p : Int), .string (tx y)] 68)) wx) => bx_with hsq (p := p) (y := torn sp y z) hp (by rw [hs.nl]; exact hln) hb)
            have HSP := Lib.hid (show ∀ wx, Below (wr.alloc (.cells #[.int .i64 (p : Int), .string (tx y)] 68)).heap.size (wr.alloc (.cells #[.int .i64 (p : Int), .string (tx y)] 68)) wx → (fun w' : World => w'.cell? ⟨w.heap.size, 1, none⟩ = some (.slice A S.last.length c) ∧ w'.cell? ⟨wr.heap.size, 0, none⟩ = some (.int .i64 (p : Int)) ∧ w'.cell? ⟨wr.heap.size, 1, none⟩ = some (.string (tx y)) ∧ w'.cell? ⟨ab, ao + p, none⟩ = some (.string (tx sp)) ∧ w'.cell? ⟨w.heap.size + 1, 5, none⟩ = some (.slice K xk.length ck) ∧ w'.cell? ⟨kb, ko + k * 2 + 1, none⟩ = some (.int .u8 (z : Int))) wx from fun wx hb => by
              have hb2 : Below wr.heap.size wr wx := ((Below.refl _ wr).alloc (Nat.le_refl _) _).trans (hb.mono (by simp))
              refine ⟨(hsq.step hb).d1, ?_, ?_, (hb2.cell (p := ⟨ab, ao + p, none⟩) hab).trans l0, (hb2.cell (p := ⟨w.heap.size + 1, 5, none⟩) hs.x.lt).trans x5, (hb2.cell (p := ⟨kb, ko + k * 2 + 1, none⟩) hkb).trans q1⟩
              · exact (hb.cell (p := ⟨wr.heap.size, 0, none⟩) (by simp)).trans (cell_new wr _ _ 0)
              · exact (hb.cell (p := ⟨wr.heap.size, 1, none⟩) (by simp)).trans (cell_new wr _ _ 1))
            have HS := Lib.hid hs
            have HSQ := Lib.hid hsq
            have HY := Lib.hid hy
            have HPP := Lib.hid hp
            clear hA hA2 hc1 hc2 hsp hkt hz hs hsq hy hp
            go_wp2_with fail
            refine wp_region_any (by kernel_rfl) ?_
            change wpAny _ _ _ _ _ _ _ (World.drew _)
            refine Held.any_of_G (S := (fun w' : World => w'.cell? ⟨w.heap.size, 1, none⟩ = some (.slice A S.last.length c) ∧ w'.cell? ⟨wr.heap.size, 0, none⟩ = some (.int .i64 (p : Int)) ∧ w'.cell? ⟨wr.heap.size, 1, none⟩ = some (.string (tx y)) ∧ w'.cell? ⟨ab, ao + p, none⟩ = some (.string (tx sp)) ∧ w'.cell? ⟨w.heap.size + 1, 5, none⟩ = some (.slice K xk.length ck) ∧ w'.cell? ⟨kb, ko + k * 2 + 1, none⟩ = some (.int .u8 (z : Int)))) (z := 21) _ _ _ _ ?_
            refine Held.G_take (i := 0) (d := 150) (v := ?_) [0, 1, 19, 20, 21] rfl rfl (by kernel_rfl) (by kernel_rfl) (by kernel_rfl) (by kernel_rfl) (fun _ _ _ h => h) (Or.inl ⟨by rfl, ?_⟩) (HSP.out _ (Below.refl _ _).drew) ?_
            rotate_left 1
            · intro w hSw; clear hSw; go_simp <;> with_reducible rfl
            simp only [Act.put, List.setIfInBounds_toArray, List.set_cons_zero, List.set_cons_succ]
            refine Held.G_take (i := 1) (d := 151) (v := ?_) [1, 19, 20, 21] rfl rfl (by kernel_rfl) (by kernel_rfl) (by kernel_rfl) (by kernel_rfl) (fun _ _ _ h => h) (Or.inl ⟨by rfl, ?_⟩) (HSP.out _ (Below.refl _ _).drew) ?_
            rotate_left 1
            · intro w hSw; obtain ⟨h1, h2, h3, h4, h5, h6⟩ := hSw; go_simp <;> with_reducible rfl
            simp only [Act.put, List.setIfInBounds_toArray, List.set_cons_zero, List.set_cons_succ]
            refine Held.G_take (i := 2) (d := 152) (v := ?_) [2, 3, 19, 20, 21] rfl rfl (by kernel_rfl) (by kernel_rfl) (by kernel_rfl) (by kernel_rfl) (fun _ _ _ h => h) (Or.inl ⟨by rfl, ?_⟩) (HSP.out _ (Below.refl _ _).drew) ?_
            rotate_left 1
            · intro w hSw; clear hSw; go_simp <;> with_reducible rfl
            simp only [Act.put, List.setIfInBounds_toArray, List.set_cons_zero, List.set_cons_succ]
            refine Held.G_take (i := 3) (d := 153) (v := ?_) [3, 19, 20, 21] rfl rfl (by kernel_rfl) (by kernel_rfl) (by kernel_rfl) (by kernel_rfl) (fun _ _ _ h => h) (Or.inl ⟨by rfl, ?_⟩) (HSP.out _ (Below.refl _ _).drew) ?_
            rotate_left 1
            · intro w hSw; obtain ⟨h1, h2, h3, h4, h5, h6⟩ := hSw; go_simp <;> with_reducible rfl
            simp only [Act.put, List.setIfInBounds_toArray, List.set_cons_zero, List.set_cons_succ]
            refine Held.G_take (i := 4) (d := 154) (v := ?_) [4, 5, 8, 9, 18, 19, 20, 21] rfl rfl (by kernel_rfl) (by kernel_rfl) (by kernel_rfl) (by kernel_rfl) (fun _ _ _ h => h) (Or.inl ⟨by rfl, ?_⟩) (HSP.out _ (Below.refl _ _).drew) ?_
            rotate_left 1
            · intro w hSw; clear hSw; go_simp <;> with_reducible rfl
            simp only [Act.put, List.setIfInBounds_toArray, List.set_cons_zero, List.set_cons_succ]
            refine Held.G_take (i := 5) (d := 155) (v := ?_) [5, 8, 9, 18, 19, 20, 21] rfl rfl (by kernel_rfl) (by kernel_rfl) (by kernel_rfl) (by kernel_rfl) (fun _ _ _ h => h) (Or.inl ⟨by rfl, ?_⟩) (HSP.out _ (Below.refl _ _).drew) ?_
            rotate_left 1
            · intro w hSw; obtain ⟨h1, h2, h3, h4, h5, h6⟩ := hSw; go_simp <;> with_reducible rfl
            simp only [Act.put, List.setIfInBounds_toArray, List.set_cons_zero, List.set_cons_succ]
            refine Held.G_take (i := 6) (d := 156) (v := ?_) [6, 7, 8, 9, 18, 19, 20, 21] rfl rfl (by kernel_rfl) (by kernel_rfl) (by kernel_rfl) (by kernel_rfl) (fun _ _ _ h => h) (Or.inl ⟨by rfl, ?_⟩) (HSP.out _ (Below.refl _ _).drew) ?_
            rotate_left 1
            · intro w hSw; clear hSw; go_simp <;> with_reducible rfl
            simp only [Act.put, List.setIfInBounds_toArray, List.set_cons_zero, List.set_cons_succ]
            refine Held.G_take (i := 7) (d := 157) (v := ?_) [7, 8, 9, 18, 19, 20, 21] rfl rfl (by kernel_rfl) (by kernel_rfl) (by kernel_rfl) (by kernel_rfl) (fun _ _ _ h => h) (Or.inl ⟨by rfl, ?_⟩) (HSP.out _ (Below.refl _ _).drew) ?_
            rotate_left 1
            · intro w hSw; obtain ⟨h1, h2, h3, h4, h5, h6⟩ := hSw; go_simp <;> with_reducible rfl
            simp only [Act.put, List.setIfInBounds_toArray, List.set_cons_zero, List.set_cons_succ]
            refine Held.G_take (i := 8) (d := 158) (v := ?_) [8, 9, 18, 19, 20, 21] rfl rfl (by kernel_rfl) (by kernel_rfl) (by kernel_rfl) (by kernel_rfl) (fun _ _ _ h => h) (Or.inl ⟨by rfl, ?_⟩) (HSP.out _ (Below.refl _ _).drew) ?_
            rotate_left 1
            · intro w hSw; clear hSw; go_simp <;> with_reducible rfl
            simp only [Act.put, List.setIfInBounds_toArray, List.set_cons_zero, List.set_cons_succ]
            refine Held.G_take (i := 9) (d := 159) (v := ?_) [9, 18, 19, 20, 21] rfl rfl (by kernel_rfl) (by kernel_rfl) (by kernel_rfl) (by kernel_rfl) (fun _ _ _ h => h) (Or.inl ⟨by rfl, ?_⟩) (HSP.out _ (Below.refl _ _).drew) ?_
            rotate_left 1
            · intro w hSw; obtain ⟨h1, h2, h3, h4, h5, h6⟩ := hSw; go_simp <;> with_reducible rfl
            simp only [Act.put, List.setIfInBounds_toArray, List.set_cons_zero, List.set_cons_succ]
            refine Held.G_take (i := 10) (d := 160) (v := ?_) [10, 11, 18, 19, 20, 21] rfl rfl (by kernel_rfl) (by kernel_rfl) (by kernel_rfl) (by kernel_rfl) (fun _ _ _ h => h) (Or.inl ⟨by rfl, ?_⟩) (HSP.out _ (Below.refl _ _).drew) ?_
            rotate_left 1
            · intro w hSw; clear hSw; go_simp <;> with_reducible rfl
            simp only [Act.put, List.setIfInBounds_toArray, List.set_cons_zero, List.set_cons_succ]
            refine Held.G_take (i := 11) (d := 161) (v := ?_) [11, 18, 19, 20, 21] rfl rfl (by kernel_rfl) (by kernel_rfl) (by kernel_rfl) (by kernel_rfl) (fun _ _ _ h => h) (Or.inl ⟨by rfl, ?_⟩) (HSP.out _ (Below.refl _ _).drew) ?_
            rotate_left 1
            · intro w hSw; obtain ⟨h1, h2, h3, h4, h5, h6⟩ := hSw; go_simp <;> with_reducible rfl
            simp only [Act.put, List.setIfInBounds_toArray, List.set_cons_zero, List.set_cons_succ]
            refine Held.G_take (i := 12) (d := 162) (v := ?_) [12, 13, 15, 16, 17, 18, 19, 20, 21] rfl rfl (by kernel_rfl) (by kernel_rfl) (by kernel_rfl) (by kernel_rfl) (fun _ _ _ h => h) (Or.inl ⟨by rfl, ?_⟩) (HSP.out _ (Below.refl _ _).drew) ?_
            rotate_left 1
            · intro w hSw; clear hSw; go_simp <;> with_reducible rfl
            simp only [Act.put, List.setIfInBounds_toArray, List.set_cons_zero, List.set_cons_succ]
            refine Held.G_take (i := 13) (d := 163) (v := ?_) [13, 15, 16, 17, 18, 19, 20, 21] rfl rfl (by kernel_rfl) (by kernel_rfl) (by kernel_rfl) (by kernel_rfl) (fun _ _ _ h => h) (Or.inl ⟨by rfl, ?_⟩) (HSP.out _ (Below.refl _ _).drew) ?_
            rotate_left 1
            · intro w hSw; obtain ⟨h1, h2, h3, h4, h5, h6⟩ := hSw; go_simp <;> with_reducible rfl
            simp only [Act.put, List.setIfInBounds_toArray, List.set_cons_zero, List.set_cons_succ]
            refine Held.G_take (i := 14) (d := 164) (v := ?_) [14, 15, 16, 17, 18, 19, 20, 21] rfl rfl (by kernel_rfl) (by kernel_rfl) (by kernel_rfl) (by kernel_rfl) (fun _ _ _ h => h) (Or.inl ⟨by rfl, ?_⟩) (HSP.out _ (Below.refl _ _).drew) ?_
            rotate_left 1
            · intro w hSw; clear hSw; go_simp <;> with_reducible rfl
            simp only [Act.put, List.setIfInBounds_toArray, List.set_cons_zero, List.set_cons_succ]
            refine Held.G_take (i := 15) (d := 165) (v := ?_) [15, 16, 17, 18, 19, 20, 21] rfl rfl (by kernel_rfl) (by kernel_rfl) (by kernel_rfl) (by kernel_rfl) (fun _ _ _ h => h) (Or.inl ⟨by rfl, ?_⟩) (HSP.out _ (Below.refl _ _).drew) ?_
            rotate_left 1
            · intro w hSw; clear hSw; go_simp <;> with_reducible rfl
            simp only [Act.put, List.setIfInBounds_toArray, List.set_cons_zero, List.set_cons_succ]
            refine Held.G_take (i := 16) (d := 166) (v := ?_) [16, 17, 18, 19, 20, 21] rfl rfl (by kernel_rfl) (by kernel_rfl) (by kernel_rfl) (by kernel_rfl) (fun _ _ _ h => h) (Or.inl ⟨by rfl, ?_⟩) (HSP.out _ (Below.refl _ _).drew) ?_
            rotate_left 1
            · intro w hSw; clear hSw; go_simp <;> with_reducible rfl
            simp only [Act.put, List.setIfInBounds_toArray, List.set_cons_zero, List.set_cons_succ]
            refine Held.G_take (i := 17) (d := 167) (v := ?_) [17, 18, 19, 20, 21] rfl rfl (by kernel_rfl) (by kernel_rfl) (by kernel_rfl) (by kernel_rfl) (fun _ _ _ h => h) (Or.inl ⟨by rfl, ?_⟩) (HSP.out _ (Below.refl _ _).drew) ?_
            rotate_left 1
            · intro w hSw; obtain ⟨h1, h2, h3, h4, h5, h6⟩ := hSw; go_simp <;> with_reducible rfl
            simp only [Act.put, List.setIfInBounds_toArray, List.set_cons_zero, List.set_cons_succ]
            refine Held.G_ready (rs := [18]) (by decide +kernel) (by simp) ?_
            refine Held.G_cons rfl (fun KK hK => ?_) Held.G_nil
            go_simp
            (with_reducible refine (torn_any _ sp y z HLN.out.1 HLN.out.2.1 HLN.out.2.2).mono ?_)
            rintro e wt ⟨rfl, rfl⟩
            go_wp2_with fail
            refine ⟨(HSP.out _ (Below.refl _ _).drew), ?_⟩
            refine Held.G_ready (rs := [19]) (by decide +kernel) (by simp) ?_
            refine Held.G_cons rfl (fun KK hK => ?_) Held.G_nil
            go_simp
            (with_reducible refine (hw.out _ (Below.refl _ _).drew).mono ?_)
            rintro e wz ⟨A', c', rfl, fz, cz, HZW⟩
            go_wp2_with fail
            refine ⟨(HSP.out _ HZW.out.1), ?_⟩
            refine Held.G_take (i := 20) (d := 170) (v := ?_) [20, 21] rfl rfl (by kernel_rfl) (by kernel_rfl) (by kernel_rfl) (by kernel_rfl) (fun _ _ _ h => h) (Or.inl ⟨by rfl, ?_⟩) (HSP.out _ HZW.out.1) ?_
            rotate_left 1
            · intro w hSw; clear hSw; go_simp <;> with_reducible rfl
            simp only [Act.put, List.setIfInBounds_toArray, List.set_cons_zero, List.set_cons_succ]
            refine Held.G_ready (rs := [21]) (by decide +kernel) (by simp) ?_
            refine Held.G_last rfl (fun KK hK => ?_) Held.G_nil
            go_simp
            refine hK _ _ ?_
            clear hK KK
            refine Held.G_done (by kernel_rfl) ?_ _
            have HN := Lib.hid (HZW.out.2.1.put1 HRR.out HZW.out.2.2 (by simpa using HZW.out.2.1.nl) c')
            rw [← HT.out] at HN
            clear fz cz HZW
            go_wp2_with fail
            go_roundw
            case rel => exact ⟨k + 1, A', c', by show k + 1 ≤ xk.length; omega, by go_num, HN.out⟩
            case measure => simp [intOf]; omega
          · have hkm : keep1 S.loose (keeps S.loose S.last (xk.take k)) (n, z) = keeps S.loose S.last (xk.take k) := keep1_miss (by omega)
            rw [hkm] at hkt
            have HN := Lib.hid (show ∀ wx, Below wr.heap.size wr wx → Bx w S.most (keeps S.loose S.last (xk.take (k + 1))) S.last.length A c S.loose S.loose.length A2 c2 true f R ⟨3, xn, xp, xa, xs, xk⟩ K ck wx from fun wx hb => by rw [hkt]; exact hs.step hb)
            have b2 := hs.d2
            have hn3 : n < 0 ∨ (0 ≤ n ∧ (S.loose.length : Int) ≤ n) := by omega
            clear hkm hkt hs hin
            rcases hn3 with hn3 | ⟨hn3, hn4⟩
            all_goals
              go_wp2_with fail
              go_roundw
              case rel => exact ⟨k + 1, A, c, by show k + 1 ≤ xk.length; omega, by go_num, HN.out _ (by repeat (first | exact Below.refl _ _ | apply Below.drew))⟩
              case measure => simp [intOf]; omega
        · obtain rfl : k = xk.length := by omega
          have b0 := hs.d0
          have b1 := hs.d1
          have b2 := hs.d2
          have b3 := hs.d3
          have b4 := hs.d4
          have f2 := hs.d.frozen 2
          have f3 := hs.d.frozen 3
          have r0 := hs.r.cell 0
          have r1 := hs.r.cell 1
          have r2 := hs.r.cell 2
          have r3 := hs.r.cell 3
          have r4 := hs.r.cell 4
          have g0 := hs.r.frozen 0
          have g1 := hs.r.frozen 1
          have g2 := hs.r.frozen 2
          have g3 := hs.r.frozen 3
          have g4 := hs.r.frozen 4
          have HX := Lib.hid ((hs.put2 HRR.out (A3 := none) (l' := []) (n3 := 0) (rowR_nil _ _) rfl 0).put3 HRR.out false)
          clear hs
          go_wp2_with fail
          exact bodyPost_ret (v := .tuple #[.agg #[.int .i64 S.most, .slice A S.last.length c, .slice none 0 0, .bool false, .int .i64 f], .int .i64 0]) (by simp [results, Try.results13, go_sem, r0, r1, r2, r3, r4]) rfl (HE.out A c _ _ HX.out (turn5 _ _ _ _ _ _ _))
end
end Go.Proofs.Ytecdindjlfefhaa.DiskRefCrash
