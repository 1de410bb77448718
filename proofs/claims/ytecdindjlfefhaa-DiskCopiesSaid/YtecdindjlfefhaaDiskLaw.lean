/- A disk of the law's own: each call's contract in one word; page and awake. -/
import Derived.Test.YtecdindjlfefhaaDiskCopy
namespace Go.Proofs.Ytecdindjlfefhaa.DiskLaw
open Go.RowKit Base DiskPlain DiskMem DiskSmall DiskRead DiskGrow DiskWrite DiskSync DiskCrash DiskSpoil DiskCopy Go.Maps

section
variable {W w w' wa : World} {g : Nat} {S S' : DS} {F G : Nat → Prop}
theorem Went.after (hb : Below w.heap.size w wa) (h : Went F g wa S w') : Went F g w S w' := by
  obtain ⟨F', h1, h2, h3⟩ := h
  have hs := hb.size
  exact ⟨F', fun i hi => ⟨(h1 i hi).1.imp id (fun q => by omega), (h1 i hi).2⟩, h2, (Turn.ofBelow hb).trans h3 fun _ _ q => q⟩
theorem dead_dk (h : Dk w g S F) : Calls Try.prog 26 #[.pointer (some ⟨g, 0, none⟩)] w fun e w' => e = .returned (.bool S.dead) ∧ w = w' := by
  obtain ⟨A, c, B, k, m, n, D, h, hp⟩ := h
  exact dead_lay h
theorem pages_dk (h : Dk w g S F) : Calls Try.prog 18 #[.pointer (some ⟨g, 0, none⟩)] w fun e w' => e = .returned (.int .i64 (S.last.length : Int)) ∧ w = w' := by
  obtain ⟨A, c, B, k, m, n, D, h, hp⟩ := h
  exact pages_lay h
theorem loose_dk (h : Dk w g S F) : Calls Try.prog 22 #[.pointer (some ⟨g, 0, none⟩)] w fun e w' => e = .returned (.int .i64 (S.loose.length : Int)) ∧ w = w' := by
  obtain ⟨A, c, B, k, m, n, D, h, hp⟩ := h
  exact loose_lay h
theorem fuse_dk (h : Dk w g S F) (x : Int) (hx : x ≤ 9223372036854775807) : Calls Try.prog 25 #[.pointer (some ⟨g, 0, none⟩), .int .i64 x] w fun e w' => e = .returned (.tuple #[]) ∧ Went F g w (S.fuse x) w' := by
  obtain ⟨A, c, B, k, m, n, D, h, hp⟩ := h
  exact (fuse_lay h x hx).mono fun e w' ⟨he, hl, ht⟩ => ⟨he, went_mk hl (fun i hi => .inl (hp i hi)) (ht.mono fun i _ e => hp i (.inl e))⟩
theorem read_dk (h : Dk w g S F) (p : Nat) (hp : p < S.last.length) (hll : S.loose.length ≤ 1000000000) : Calls Try.prog 19 #[.pointer (some ⟨g, 0, none⟩), .int .i64 (p : Int)] w fun e w' =>
    e = .returned (.tuple #[.slice (some ⟨w.heap.size, 0, none⟩) 256 256, .int .i64 0]) ∧ w' = w.alloc (.cells (pcell (S.rd p)) 5) := by
  obtain ⟨A, c, B, k, m, n, D, h, _⟩ := h
  exact read_lay h p hp hll
theorem read_no (h : Dk w g S F) (p : Int) (hp : S.has p = false) : Calls Try.prog 19 #[.pointer (some ⟨g, 0, none⟩), .int .i64 p] w fun e w' => e = .returned (.tuple #[.slice none 0 0, .int .i64 30]) ∧ w = w' := by
  obtain ⟨A, c, B, k, m, n, D, h, _⟩ := h
  exact read_bad h p hp
theorem new_dk (w : World) (x : Int) (h1 : 1 ≤ x) (h2 : x ≤ 4096) : Calls Try.prog 10 #[.int .i64 x] w fun e w' => e = .returned (.tuple #[.pointer (some ⟨w.heap.size + 1, 0, none⟩), .int .i64 0]) ∧
    Dk w' (w.heap.size + 1) (new x) (fun i => w.heap.size ≤ i ∧ i < w'.heap.size) ∧ Below w.heap.size w w' := by
  refine (new_good w x h1 h2).mono fun e w' ⟨he, hl, hb⟩ => ⟨he, ⟨none, 0, none, 0, _, 0, _, hl, fun i hi => ⟨?_, hl.lt i hi⟩⟩, hb⟩
  rcases hi with rfl | hi | hi | rfl
  · omega
  · cases hi
  · cases hi
  · omega

/-- a disk that was made since W -/
def Mine (W w : World) (g : Nat) (S : DS) : Prop := ∃ F, Dk w g S F ∧ (∀ i, F i → W.heap.size ≤ i ∧ i < w.heap.size) ∧ Below W.heap.size W w
theorem Mine.ok (h : Mine W w g S) : S.Ok := by obtain ⟨F, h, _⟩ := h; exact h.ok
theorem Mine.below (h : Mine W w g S) : Below W.heap.size W w := by obtain ⟨F, _, _, h⟩ := h; exact h
theorem Mine.went (hF : ∀ i, F i → W.heap.size ≤ i ∧ i < w.heap.size) (hb : Below W.heap.size W w) (h : Went F g w S' w') : Mine W w' g S' := by
  obtain ⟨F', h1, h2, h3⟩ := h
  have hs := hb.size
  exact ⟨F', h2, fun i hi => ⟨(h1 i hi).1.elim (fun q => (hF i q).1) (fun q => by omega), (h1 i hi).2⟩, h3.belowOf hb hs (fun k hk => (hF k hk).1)⟩
theorem Mine.step (h : Mine W w g S) (hb : Below w.heap.size w w') : Mine W w' g S := by
  obtain ⟨F, h1, h2, h3⟩ := h
  exact ⟨F, h1.below hb, fun i hi => ⟨(h2 i hi).1, Nat.lt_of_lt_of_le (h2 i hi).2 hb.size⟩, h3.trans (hb.mono h3.size)⟩
theorem Mine.alloc (h : Mine W w g S) (o : Obj) : Mine W (w.alloc o) g S := h.step ((Below.refl _ w).alloc (Nat.le_refl _) _)
theorem Mine.drewN (h : Mine W w g S) (n : Nat) : Mine W (w.drewN n) g S := h.step (below_drewN w _ n)
theorem m_new (W : World) (x : Int) (h1 : 1 ≤ x) (h2 : x ≤ 4096) : Calls Try.prog 10 #[.int .i64 x] W fun e w' => e = .returned (.tuple #[.pointer (some ⟨W.heap.size + 1, 0, none⟩), .int .i64 0]) ∧ Mine W w' (W.heap.size + 1) (new x) :=
  (new_dk W x h1 h2).mono fun _ _ ⟨he, hd, hb⟩ => ⟨he, _, hd, fun _ hi => hi, hb⟩
theorem m_grow (h : Mine W w g S) (x : Int) : Calls Try.prog 23 #[.pointer (some ⟨g, 0, none⟩), .int .i64 x] w fun e w' => e = .returned (.int .i64 (S.growE x)) ∧ Mine W w' g (S.grow x) := by
  obtain ⟨F, h1, h2, h3⟩ := h
  exact (grow_dk h1 x).mono fun _ _ ⟨he, hw⟩ => ⟨he, Mine.went h2 h3 hw⟩
theorem m_write (h : Mine W w g S) (p : Int) (a : Option Addr) (b : Nat) (l : Pg) (n : Nat) (hn : l.length = n) (hll : S.loose.length ≤ 100000000) (hrow : Row w w.heap.size a (bv l)) :
    Calls Try.prog 21 #[.pointer (some ⟨g, 0, none⟩), .int .i64 p, .slice a n b] w fun e w' => e = .returned (.int .i64 (S.writeE p l)) ∧ Mine W w' g (S.write p l) := by
  subst hn
  obtain ⟨F, h1, h2, h3⟩ := h
  exact (write_dk h1 p a b l hll hrow).mono fun _ _ ⟨he, hw⟩ => ⟨he, Mine.went h2 h3 hw⟩
theorem m_sync (h : Mine W w g S) (hll : S.loose.length ≤ 100000000) : Calls Try.prog 17 #[.pointer (some ⟨g, 0, none⟩)] w fun e w' => e = .returned (.tuple #[]) ∧ Mine W w' g S.sync := by
  obtain ⟨F, h1, h2, h3⟩ := h
  exact (sync_dk h1 hll).mono fun _ _ ⟨he, hw⟩ => ⟨he, Mine.went h2 h3 hw⟩
theorem m_fuse (h : Mine W w g S) (x : Int) (hx : x ≤ 9223372036854775807) : Calls Try.prog 25 #[.pointer (some ⟨g, 0, none⟩), .int .i64 x] w fun e w' => e = .returned (.tuple #[]) ∧ Mine W w' g (S.fuse x) := by
  obtain ⟨F, h1, h2, h3⟩ := h
  exact (fuse_dk h1 x hx).mono fun _ _ ⟨he, hw⟩ => ⟨he, Mine.went h2 h3 hw⟩
theorem m_dead (h : Mine W w g S) : Calls Try.prog 26 #[.pointer (some ⟨g, 0, none⟩)] w fun e w' => e = .returned (.bool S.dead) ∧ w = w' := by
  obtain ⟨F, h1, _⟩ := h
  exact dead_dk h1
theorem m_pages (h : Mine W w g S) : Calls Try.prog 18 #[.pointer (some ⟨g, 0, none⟩)] w fun e w' => e = .returned (.int .i64 (S.last.length : Int)) ∧ w = w' := by
  obtain ⟨F, h1, _⟩ := h
  exact pages_dk h1
theorem m_loose (h : Mine W w g S) : Calls Try.prog 22 #[.pointer (some ⟨g, 0, none⟩)] w fun e w' => e = .returned (.int .i64 (S.loose.length : Int)) ∧ w = w' := by
  obtain ⟨F, h1, _⟩ := h
  exact loose_dk h1
theorem m_read (h : Mine W w g S) (p : Nat) (hp : p < S.last.length) (hll : S.loose.length ≤ 1000000000) : Calls Try.prog 19 #[.pointer (some ⟨g, 0, none⟩), .int .i64 (p : Int)] w fun e w' =>
    e = .returned (.tuple #[.slice (some ⟨w.heap.size, 0, none⟩) 256 256, .int .i64 0]) ∧ w' = w.alloc (.cells (pcell (S.rd p)) 5) := by
  obtain ⟨F, h1, _⟩ := h
  exact read_dk h1 p hp hll
/-- what is kept lies in memory from before W, or in a block that is new -/
theorem m_crash (h : Mine W w g S) (hb : Below w.heap.size w wa) (K : Option Addr) (ck : Nat) (ks : List (Int × Nat)) (n : Nat) (hn : ks.length = n) (hks : ks.length ≤ 1000000) (hz : ∀ x ∈ ks, x.2 < 256) (hll : S.loose.length ≤ 100000000)
    (hrow : ∀ j v, (keptCells ks)[j]? = some v → ∃ ad, K = some ad ∧ ad.block < wa.heap.size ∧ (ad.block < W.heap.size ∨ w.heap.size ≤ ad.block) ∧ wa.cell? (ad.add j) = some v) :
    Calls Try.prog 20 #[.pointer (some ⟨g, 0, none⟩), .slice K n ck] wa fun e w' => e = .returned (.tuple #[]) ∧ Mine W w' g (S.crash ks) := by
  subst hn
  obtain ⟨F, h1, h2, h3⟩ := h
  refine (crash_dk (h1.below hb) K ck ks hks hz hll (fun j v hv => ?_)).mono fun _ _ ⟨he, hw⟩ => ⟨he, Mine.went h2 h3 (Went.after hb hw)⟩
  obtain ⟨ad, e, q1, q2, q3⟩ := hrow j v hv
  exact ⟨ad, e, q1, fun q => by have := h2 _ q; omega, q3⟩
theorem m_copy (h : Mine W w g S) (hll : S.loose.length ≤ 100000000) : Calls Try.prog 16 #[.pointer (some ⟨g, 0, none⟩)] w fun e w' => e = .returned (.pointer (some ⟨w.heap.size, 0, none⟩)) ∧ Mine W w' g S ∧ Mine W w' w.heap.size S := by
  have h0 := h
  obtain ⟨F, h1, h2, h3⟩ := h
  refine (copy_dk h1 hll).mono fun _ w' ⟨he, hd, hb⟩ => ⟨he, h0.step hb, _, hd, fun i hi => ⟨Nat.le_trans h3.size hi.1, hi.2⟩, h3.trans (hb.mono h3.size)⟩
end

/-- a page of one byte -/
def rep (c : Nat) : Pg := List.replicate 256 (UInt8.ofNat c)
theorem rep_len (c : Nat) : (rep c).length = 256 := List.length_replicate
def pk (c k : Nat) : Array Value := pcell (List.replicate k (UInt8.ofNat c) ++ List.replicate (256 - k) 0)
theorem pk_size (c k : Nat) (hk : k ≤ 256) : (pk c k).size = 256 := pcell_size (by simp; omega)
theorem pk_set (c k : Nat) (hc : c < 256) (hk : k < 256) : (pk c k).setIfInBounds k (.int .u8 (c : Int)) = pk c (k + 1) := by
  apply Array.ext_getElem?
  intro i
  have get : ∀ j, (pk c j)[i]? = ((List.replicate j (UInt8.ofNat c) ++ List.replicate (256 - j) 0)[i]?).map fun c => Value.int .u8 (c.toNat : Int) := fun j => by simp only [pk, pcell, List.getElem?_toArray, bv_at]
  by_cases h : i = k
  · subst h
    rw [Array.getElem?_setIfInBounds_self_of_lt (by rw [pk_size c i (by omega)]; exact hk), get, List.getElem?_append_left (by simp), List.getElem?_replicate, if_pos (by omega)]
    simp
    omega
  · rw [Array.getElem?_setIfInBounds_ne (by omega), get, get]
    congr 1
    by_cases h2 : i < k
    · rw [List.getElem?_append_left (by simp; omega), List.getElem?_append_left (by simp; omega), List.getElem?_replicate, List.getElem?_replicate, if_pos h2, if_pos (by omega)]
    · rw [List.getElem?_append_right (by simp; omega), List.getElem?_append_right (by simp; omega), List.getElem?_replicate, List.getElem?_replicate]
      simp only [List.length_replicate]
      by_cases h3 : i < 256
      · rw [if_pos (by omega), if_pos (by omega)]
      · rw [if_neg (by omega), if_neg (by omega)]
theorem pk_at (c k : Nat) (hk : k < 256) : ∃ v, (pk c k)[k]? = some v := ⟨_, Array.getElem?_eq_getElem (by rw [pk_size c k (by omega)]; exact hk)⟩
set_option maxRecDepth 100000 in
theorem page_any (w : World) (c : Nat) (hc : c < 256) : Calls Try.prog 24 #[.int .u8 (c : Int)] w fun e w' => e = .returned (.slice (some ⟨w.heap.size, 0, none⟩) 256 256) ∧ w' = w.alloc (.cells (pcell (rep c)) 5) := by
  have hmk := mk_run
  have e0 : zrow = pk c 0 := by simp [zrow, pk, pcell, zeros]
  rw [e0] at hmk
  clear e0
  go_enter Try.func24, Try.ntmps24
  go_wp2_with fail
  go_loopw [4] (fun i wr => ∃ k : Nat, k ≤ 256 ∧ i = .int .i64 k ∧ Hid (wr = w.alloc (.cells (pk c k) 5))) (fun i _ => 256 - (intOf i).toNat)
  case atStart => exact ⟨0, by omega, rfl, show Hid _ from rfl⟩
  case round =>
    obtain ⟨k, hk, rfl, hr⟩ := hrel
    by_cases hlt : k < 256
    · obtain ⟨v, hv⟩ := pk_at c k hlt
      have q : wr.cell? ⟨w.heap.size, k, none⟩ = some v := by rw [hr.out, cell_of_row _ _ _ _ _ _ (heap_alloc_new w _)]; exact hv
      have f : wr.frozen? ⟨w.heap.size, k, none⟩ = false := by rw [hr.out]; exact frozen_of_row _ _ _ _ _ (heap_alloc_new w _)
      have HN := Lib.hid (show wr.setCell ⟨w.heap.size, k, none⟩ (.int .u8 (c : Int)) = w.alloc (.cells (pk c (k + 1)) 5) by
        rw [hr.out, World.setCell_alloc_new, pk_set c k hc hlt])
      clear hv hr
      go_wp2_with fail
      go_roundw
      case rel => exact ⟨k + 1, by omega, by go_num, show Hid _ from HN.out⟩
      case measure => simp [intOf]; omega
    · obtain rfl : k = 256 := by omega
      go_wp2_with fail
      go_ret
      exact ⟨rfl, by rw [hr.out]; simp [pk, rep]⟩
theorem rep_at (c i : Nat) (hi : i < 256) : (rep c).getD i 0 = UInt8.ofNat c := by
  rw [List.getD_eq_getElem?_getD, rep, List.getElem?_replicate, if_pos hi]; rfl
theorem torn_rep (a b z i : Nat) (ha : a < 256) (hb : b < 256) (hi : i < 256) : (pcell (torn (rep a) (rep b) z))[i]? = some (.int .u8 ((if bit z (i / 64) = true then b else a : Nat) : Int)) := by
  simp only [pcell, List.getElem?_toArray, bv_at, torn, tornTo, List.getElem?_map, List.getElem?_range hi, Option.map_some, rep_at _ _ hi]
  have h4 : i < 64 * 4 := by omega
  by_cases h : bit z (i / 64) = true
  · simp only [h, h4, and_self, if_true]
    congr 2
    simp; omega
  · rw [if_neg (fun q => h q.2), if_neg h]
    congr 2
    simp; omega
/-- two pages, the second or the first of which was written, synced, written again, and torn -/
def st0 (m : Int) : DS := ⟨m, [zeros, zeros], [], false, 0⟩
theorem st_grow (m : Int) (h : 2 ≤ m) : (new m).grow 2 = st0 m ∧ (new m).growE 2 = 0 := by
  have h1 : ¬ (2 > (new m).most) := by simp [new]; omega
  unfold DS.grow DS.growE
  rw [if_neg h1, if_neg h1]
  exact ⟨rfl, rfl⟩
def wr1 (L : List Pg) (m : Int) (p : Nat) (b : Pg) : DS := ⟨m, L, [(p, b)], false, 0⟩
theorem st_write (L : List Pg) (m : Int) (p c : Nat) (hp : p < L.length) : (⟨m, L, [], false, 0⟩ : DS).write (p : Int) (rep c) = wr1 L m p (rep c) ∧ (⟨m, L, [], false, 0⟩ : DS).writeE (p : Int) (rep c) = 0 := by
  have h1 : (⟨m, L, [], false, 0⟩ : DS).has (p : Int) = true := has_iff.2 ⟨by omega, by simpa using hp⟩
  have h2 := rep_len c
  unfold DS.write DS.writeE
  rw [h1, if_neg (by simp), if_neg (by simp [h2]), if_neg (by simp [DS.dead]), if_neg (by simp), if_neg (by simp [h2]), if_neg (by simp [DS.dead])]
  exact ⟨by simp [DS.written, DS.burn, wr1], rfl⟩
theorem st_sync (L : List Pg) (m : Int) (p : Nat) (b : Pg) : (wr1 L m p b).sync = ⟨m, L.set p b, [], false, 0⟩ := by
  unfold DS.sync
  rw [if_neg (by simp [DS.dead, wr1])]
  simp [DS.synced, DS.burn, wr1, flush]
theorem st_crash (L : List Pg) (m : Int) (p : Nat) (b : Pg) (z : Nat) : (wr1 L m p b).crash [(0, z)] = ⟨m, L.set p (torn (L.getD p []) b z), [], false, 0⟩ := by
  simp [DS.crash, wr1, keep1]
set_option maxRecDepth 100000 in
set_option maxHeartbeats 1600000 in
theorem awake_any (w : World) : Calls Try.prog 11 #[] w fun e w' => e = .returned (.bool true) ∧ Below w.heap.size w w' := by
  obtain ⟨g1, g2⟩ := st_grow 5 (by omega)
  obtain ⟨a1, a2⟩ := st_write [zeros, zeros] 5 0 1 (by simp)
  have s1 := st_sync [zeros, zeros] 5 0 (rep 1)
  obtain ⟨b1, b2⟩ := st_write [rep 1, zeros] 5 0 2 (by simp)
  have k1 := st_crash [rep 1, zeros] 5 0 (rep 2) 2
  have G := Lib.hid (And.intro g1 (And.intro g2 (And.intro a1 (And.intro a2 (And.intro s1 (And.intro b1 (And.intro b2 k1)))))))
  clear g1 g2 a1 a2 s1 b1 b2 k1
  go_enter Try.func11, Try.ntmps11
  go_wp2_with fail
  refine (m_new w 5 (by omega) (by omega)).mono ?_
  rintro e w1 ⟨rfl, m1⟩
  go_wp2_with fail
  refine (m_grow m1 2).mono ?_
  rintro e w2 ⟨rfl, m2⟩
  rw [G.out.1] at m2
  rw [G.out.2.1]
  go_wp2_with fail
  refine (page_any _ 1 (by omega)).mono ?_
  rintro e w3 ⟨rfl, rfl⟩
  have m3 := m2.alloc (.cells (pcell (rep 1)) 5)
  go_wp2_with fail
  refine (m_write m3 0 (some ⟨w2.heap.size, 0, none⟩) 256 (rep 1) 256 (rep_len 1) (by simp [st0]) (row_of_block (heap_alloc_new w2 _) |>.more (by simp))).mono ?_
  rintro e w4 ⟨rfl, m4⟩
  rw [show (st0 5).writeE 0 (rep 1) = 0 from G.out.2.2.2.1]
  rw [show (st0 5).write 0 (rep 1) = wr1 [zeros, zeros] 5 0 (rep 1) from G.out.2.2.1] at m4
  clear m1 m2 m3
  go_wp2_with fail
  refine (m_sync m4 (by simp [wr1])).mono ?_
  rintro e w5 ⟨rfl, m5⟩
  rw [G.out.2.2.2.2.1] at m5
  go_wp2_with fail
  refine (page_any _ 2 (by omega)).mono ?_
  rintro e w6 ⟨rfl, rfl⟩
  have m6 := m5.alloc (.cells (pcell (rep 2)) 5)
  go_wp2_with fail
  refine (m_write m6 0 (some ⟨w5.heap.size, 0, none⟩) 256 (rep 2) 256 (rep_len 2) (by simp) (row_of_block (heap_alloc_new w5 _) |>.more (by simp))).mono ?_
  rintro e w7 ⟨rfl, m7⟩
  rw [show (⟨5, [zeros, zeros].set 0 (rep 1), [], false, 0⟩ : DS).writeE 0 (rep 2) = 0 from G.out.2.2.2.2.2.2.1]
  rw [show (⟨5, [zeros, zeros].set 0 (rep 1), [], false, 0⟩ : DS).write 0 (rep 2) = wr1 [rep 1, zeros] 5 0 (rep 2) from G.out.2.2.2.2.2.1] at m7
  clear m4 m5 m6
  go_wp2_with fail
  refine (m_loose m7).mono ?_
  rintro e w8 ⟨rfl, rfl⟩
  rw [show (((wr1 [rep 1, zeros] 5 0 (rep 2)).loose.length : Nat) : Int) = 1 from rfl]
  go_wp2_with fail
  refine (m_crash m7 ((Below.refl _ w7).alloc (Nat.le_refl _) (.cells #[.int .i64 0, .int .u8 2] 52)) (some ⟨w7.heap.size, 0, none⟩) 1 [(0, 2)] 1 rfl (by simp) (by simp) (by simp [wr1]) (fun j v hv => ⟨_, rfl, by simp, .inr (by simp), by
    rw [add_blk, Nat.zero_add, cell_of_row _ _ _ _ _ _ (heap_alloc_new w7 _)]
    simpa [keptCells] using hv⟩)).mono ?_
  rintro e w9 ⟨rfl, m9⟩
  rw [G.out.2.2.2.2.2.2.2] at m9
  clear m7
  go_wp2_with fail
  refine (m_read m9 0 (by simp) (by simp)).mono ?_
  rintro e w10 ⟨rfl, rfl⟩
  have m10 := m9.alloc (.cells (pcell ((⟨5, [rep 1, zeros].set 0 (torn ([rep 1, zeros].getD 0 []) (rep 2) 2), [], false, 0⟩ : DS).rd 0)) 5)
  have erd : (⟨5, [rep 1, zeros].set 0 (torn ([rep 1, zeros].getD 0 []) (rep 2) 2), [], false, 0⟩ : DS).rd 0 = torn (rep 1) (rep 2) 2 := rfl
  rw [erd] at m10 ⊢
  clear m9 erd
  have q63 : (pcell (torn (rep 1) (rep 2) 2))[63]? = some (.int .u8 1) := torn_rep 1 2 2 63 (by omega) (by omega) (by omega)
  have q64 : (pcell (torn (rep 1) (rep 2) 2))[64]? = some (.int .u8 2) := torn_rep 1 2 2 64 (by omega) (by omega) (by omega)
  have q127 : (pcell (torn (rep 1) (rep 2) 2))[127]? = some (.int .u8 2) := torn_rep 1 2 2 127 (by omega) (by omega) (by omega)
  have q128 : (pcell (torn (rep 1) (rep 2) 2))[128]? = some (.int .u8 1) := torn_rep 1 2 2 128 (by omega) (by omega) (by omega)
  generalize pcell (torn (rep 1) (rep 2) 2) = X at *
  go_wp2_with fail
  refine (m_pages m10).mono ?_
  rintro e w11 ⟨rfl, rfl⟩
  rw [show (((⟨5, [rep 1, zeros].set 0 (torn ([rep 1, zeros].getD 0 []) (rep 2) 2), [], false, 0⟩ : DS).last.length : Nat) : Int) = 2 from rfl]
  go_wp2_with fail
  refine (m_loose m10).mono ?_
  rintro e w12 ⟨rfl, rfl⟩
  rw [show (((⟨5, [rep 1, zeros].set 0 (torn ([rep 1, zeros].getD 0 []) (rep 2) 2), [], false, 0⟩ : DS).loose.length : Nat) : Int) = 0 from rfl]
  go_wp2_with fail
  refine (m_copy m10 (by simp)).mono ?_
  rintro e w13 ⟨rfl, m13, _⟩
  go_wp2_with fail
  go_ret
  exact ⟨rfl, m13.below⟩
end Go.Proofs.Ytecdindjlfefhaa.DiskLaw
