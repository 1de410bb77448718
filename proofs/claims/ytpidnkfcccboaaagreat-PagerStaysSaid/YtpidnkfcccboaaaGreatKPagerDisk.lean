/- The disk's calls as the pager wants them; what it reads of the disk behind them. -/
import Derived.Test.YtpidnkfcccboaaaGreatKDiskRead
import Derived.Test.YtpidnkfcccboaaaGreatKDiskSync
import Derived.Test.YtpidnkfcccboaaaGreatKPagerPlumb
namespace Go.Proofs.YtpidnkfcccboaaaGreat.PagerDisk
open Go.RowKit Base DiskPlain DiskMem DiskSmall DiskRead DiskGrow DiskWrite DiskSync Go.Maps PagerSpec PagerMem
open PagerPlain (PS By zs)

theorem rd_len {S : DS} (h : S.Ok) (p : Nat) (hp : p < S.last.length) : (S.rd p).length = 256 := by
  have hs : ∀ (l : List (Nat × Pg)), (∀ x ∈ l, x.2.length = 256) → ∀ s : Pg, s.length = 256 → (over l p s).length = 256 := by
    intro l
    induction l with
    | nil => intro _ s hs; exact hs
    | cons x l ih =>
      intro hl s hs
      simp only [over, List.foldl_cons] at ih ⊢
      exact ih (fun y hy => hl y (by simp [hy])) _ (by split; · exact hl x (by simp)
                                                       · exact hs)
  exact hs _ h.wlen _ (getD_len h.pages hp)
theorem rd_grown {S : DS} (h : S.Ok) (n : Int) (p : Nat) : (S.grown n).rd p = if p < S.last.length then S.rd p else if p < (S.grown n).last.length then zeros else S.rd p := by
  unfold DS.rd
  by_cases hp : p < S.last.length
  · rw [if_pos hp]
    simp only [DS.grown]
    rw [List.getD_eq_getElem?_getD, List.getD_eq_getElem?_getD, List.getElem?_append_left hp]
  · rw [if_neg hp]
    have hm : ∀ x ∈ S.loose, x.1 ≠ p := fun x hx e => by have := h.wpage x hx; omega
    split
    · rename_i hq
      simp only [DS.grown] at hq ⊢
      rw [over_miss _ hm, List.getD_eq_getElem?_getD, List.getElem?_append_right (by omega), List.getElem?_replicate, if_pos (by simp at hq; omega)]
      rfl
    · rename_i hq
      simp only [DS.grown] at hq ⊢
      rw [over_miss _ hm, over_miss _ hm, List.getD_eq_getElem?_getD, List.getD_eq_getElem?_getD, List.getElem?_eq_none (by omega), List.getElem?_eq_none (by omega)]
theorem dead_no {S : DS} (h : S.fused = false) : S.dead = false := by simp [DS.dead, h]
theorem burn_no {S : DS} (h : S.fused = false) : S.burn = S := by simp [DS.burn, h]
theorem rd_written (S : DS) (p q : Nat) (b : Pg) : (S.written p b).rd q = if p = q then b else S.rd q := by
  simp only [DS.rd, DS.written, over, List.foldl_append, List.foldl_cons, List.foldl_nil]
theorem flush_rd (q : Nat) : ∀ (l : List (Nat × Pg)) (L : List Pg), q < L.length → (flush L l).getD q [] = over l q (L.getD q [])
  | [], L, _ => rfl
  | x :: l, L, h => by
    have ih := flush_rd q l (L.set x.1 x.2) (by simpa using h)
    simp only [flush, over, List.foldl_cons] at ih ⊢
    rw [ih]
    congr 1
    simp only [List.getD_eq_getElem?_getD, List.getElem?_set]
    by_cases e : x.1 = q
    · subst e; simp [h]
    · simp [e]
theorem rd_synced (S : DS) (q : Nat) (h : q < S.last.length) : S.synced.rd q = S.rd q := flush_rd q S.loose S.last h
section
variable {w w' : World} {g : Nat} {S : DS} {F : Nat → Prop}
theorem dead_dk (h : Dk w g S F) : Calls Tryz.prog 40 #[.pointer (some ⟨g, 0, none⟩)] w fun e w' => e = .returned (.bool S.dead) ∧ w = w' := by
  obtain ⟨A, c, B, k, m, n, D, h, hp⟩ := h
  exact dead_lay h
theorem pages_dk (h : Dk w g S F) : Calls Tryz.prog 65 #[.pointer (some ⟨g, 0, none⟩)] w fun e w' => e = .returned (.int .i64 (S.last.length : Int)) ∧ w = w' := by
  obtain ⟨A, c, B, k, m, n, D, h, hp⟩ := h
  exact pages_lay h
theorem read_dk (h : Dk w g S F) (p : Nat) (hp : p < S.last.length) (hll : S.loose.length ≤ 1000000000) : Calls Tryz.prog 47 #[.pointer (some ⟨g, 0, none⟩), .int .i64 (p : Int)] w fun e w' =>
    e = .returned (.tuple #[.slice (some ⟨w.heap.size, 0, none⟩) 256 256, .int .i64 0]) ∧ w' = w.alloc (.cells (pcell (S.rd p)) 5) := by
  obtain ⟨A, c, B, k, m, n, D, h, _⟩ := h
  exact read_lay h p hp hll
theorem new_dk (w : World) (x : Int) (h1 : 1 ≤ x) (h2 : x ≤ 4096) : Calls Tryz.prog 28 #[.int .i64 x] w fun e w' => e = .returned (.tuple #[.pointer (some ⟨w.heap.size + 1, 0, none⟩), .int .i64 0]) ∧
    Dk w' (w.heap.size + 1) (new x) (fun i => w.heap.size ≤ i ∧ i < w'.heap.size) ∧ Below w.heap.size w w' := by
  refine (new_good w x h1 h2).mono fun e w' ⟨he, hl, hb⟩ => ⟨he, ⟨none, 0, none, 0, _, 0, _, hl, fun i hi => ⟨?_, hl.lt i hi⟩⟩, hb⟩
  rcases hi with rfl | hi | hi | rfl
  · omega
  · cases hi
  · cases hi
  · omega
end
/-! what is read behind a call -/
theorem zeros_zs : zeros = zs := rfl
theorem grow_live {S : DS} (h : S.fused = false) {n : Int} (hn : n ≤ S.most) : S.growE n = 0 ∧ S.grow n = S.grown n := by
  have h1 : ¬ n > S.most := by omega
  unfold DS.growE DS.grow
  rw [if_neg h1, if_neg h1, dead_no h]
  exact ⟨rfl, rfl⟩
theorem grow_full {S : DS} {n : Int} (hn : S.most < n) : S.growE n = 32 ∧ S.grow n = S := by
  unfold DS.growE DS.grow
  rw [if_pos hn, if_pos hn]
  exact ⟨rfl, rfl⟩
theorem write_live {S : DS} (h : S.fused = false) {n : Int} {b : By} (h0 : 0 ≤ n) (h1 : n < S.last.length) (hb : b.length = 256) : S.writeE n b = 0 ∧ S.write n b = S.written n.toNat b := by
  have e : S.has n = true := has_iff.2 ⟨h0, h1⟩
  unfold DS.writeE DS.write
  have hd := dead_no h
  have hbn : (S.written n.toNat b).burn = S.written n.toNat b := burn_no (by exact h)
  simp [e, hb, hd, hbn]
theorem sync_live {S : DS} (h : S.fused = false) : S.sync = S.synced := by
  unfold DS.sync
  rw [dead_no h, if_neg (by simp), burn_no (by exact h)]
theorem grown_len2 (S : DS) (n : Int) : ((S.grown n).last.length : Int) = max (S.last.length : Int) n := by
  simp only [DS.grown, List.length_append, List.length_replicate]
  omega
theorem _root_.Go.Proofs.YtpidnkfcccboaaaGreat.PagerMem.Agree.of {S : DS} {P Q : PS} (h : Agree S P) (e1 : Q.most = P.most) (e2 : Q.pg = P.pg) (e3 : Q.len = P.len) (e4 : Q.rd = P.rd) : Agree S Q :=
  ⟨by rw [e1]; exact h.most, h.live, by rw [e2]; exact h.pg, by rw [e3]; exact h.len, by rw [e4]; exact h.rd, by rw [e4]; exact h.rz⟩
/-- the disk grown, where there is room -/
theorem _root_.Go.Proofs.YtpidnkfcccboaaaGreat.PagerMem.Agree.grow {S : DS} {P Q : PS} (h : Agree S P) (hS : S.Ok) (hpm : Q.pg ≤ P.most) (e1 : Q.most = P.most) (e3 : Q.len = max P.len Q.pg) (e4 : Q.rd = P.rd) : S.growE Q.pg = 0 ∧ Agree (S.grow Q.pg) Q ∧ (S.grow Q.pg).loose = S.loose := by
  have hg := grow_live h.live (n := Q.pg) (by rw [h.most]; exact hpm)
  have hl := grown_len2 S Q.pg
  have hlen := h.len
  refine ⟨hg.1, ?_, by rw [hg.2]; rfl⟩
  rw [hg.2]
  refine ⟨by rw [e1]; exact h.most, h.live, by omega, by omega, fun q hq => ?_, fun q hq => by rw [e4]; exact h.rz q (by omega)⟩
  rw [rd_grown hS, e4]
  split
  · rename_i h1; exact h.rd q h1
  · rename_i h1
    first
      | (rw [h.rz q (by omega)]; exact zeros_zs)
      | (split
         · rw [h.rz q (by omega)]; exact zeros_zs
         · omega)
/-- a page written -/
theorem _root_.Go.Proofs.YtpidnkfcccboaaaGreat.PagerMem.Agree.write {S : DS} {P Q : PS} (h : Agree S P) {no : Int} {b : By} (hb : b.length = 256) (h0 : 0 ≤ no) (hn : no < S.last.length) (e1 : Q.most = P.most) (e2 : Q.pg = P.pg) (e3 : Q.len = P.len) (e4 : Q.rd = fun q => if q = no then b else P.rd q) :
    S.writeE no b = 0 ∧ Agree (S.write no b) Q ∧ (S.write no b).loose.length = S.loose.length + 1 ∧ (S.write no b).last = S.last := by
  have hw := write_live h.live h0 hn hb
  rw [hw.2]
  refine ⟨hw.1, ⟨by rw [e1]; exact h.most, h.live, by rw [e2]; exact h.pg, by rw [e3]; exact h.len, fun q hq => ?_, fun q hq => ?_⟩, by simp [DS.written], rfl⟩
  · rw [rd_written, e4]
    show _ = if (q : Int) = no then b else P.rd q
    by_cases e : no.toNat = q
    · rw [if_pos e, if_pos (by omega)]
    · rw [if_neg e, if_neg (by omega)]
      exact h.rd q hq
  · have hq' : (S.last.length : Int) ≤ q := hq
    rw [e4]
    simp only
    rw [if_neg (by omega)]
    exact h.rz q hq'
theorem _root_.Go.Proofs.YtpidnkfcccboaaaGreat.PagerMem.Agree.sync {S : DS} {P : PS} (h : Agree S P) : Agree S.sync P ∧ S.sync.loose = [] ∧ S.sync.last.length = S.last.length := by
  rw [sync_live h.live]
  have hl : S.synced.last.length = S.last.length := flush_len _ _
  exact ⟨⟨h.most, h.live, by rw [hl]; exact h.pg, by rw [hl]; exact h.len, fun q hq => by rw [hl] at hq; rw [rd_synced S q hq]; exact h.rd q hq, fun q hq => h.rz q (by rw [hl] at hq; exact hq)⟩, rfl, hl⟩
end Go.Proofs.YtpidnkfcccboaaaGreat.PagerDisk
