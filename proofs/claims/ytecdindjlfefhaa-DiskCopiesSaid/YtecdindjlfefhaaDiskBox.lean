/- The document's disk within Do: the boxes of its parameters and of its result; what the loops keep. -/
import Derived.Test.YtecdindjlfefhaaDiskRefDo3
import Derived.Test.YtecdindjlfefhaaHeld
namespace Go.Proofs.Ytecdindjlfefhaa.DiskBox
open Go.RowKit Base DiskPlain DiskMem DiskSmall DiskRead DiskGrow DiskWrite DiskSync DiskCrash DiskSpoil DiskCopy DiskLaw DiskDo DiskPlumb DiskTwo DiskGrows DiskSim DiskSyncs DiskRef DiskRefRead DiskRefDo DiskRefDo3 Go.Maps

theorem flush_take {L : List Pg} {l : List (Nat × Pg)} {k : Nat} {x : Nat × Pg} (hx : l[k]? = some x) : flush L (l.take (k + 1)) = (flush L (l.take k)).set x.1 x.2 := by
  have hj : k < l.length := (List.getElem?_eq_some_iff.1 hx).1
  rw [List.take_succ_eq_append_getElem hj, (List.getElem?_eq_some_iff.1 hx).2]
  simp [flush]
/-- the boxes: the disk (pages L of nL, loose writes l of n2), the act, the result; rows in blocks of R or new ones -/
structure Bx (w : World) (m : Int) (L : List Pg) (nL : Nat) (A : Option Addr) (c : Nat) (l : List (Nat × Pg)) (n2 : Nat) (A2 : Option Addr) (c2 : Nat) (fb : Bool) (f : Int) (R : Nat → Prop) (x : Ac) (K : Option Addr) (ck : Nat) (wr : World) : Prop where
  d : At wr w.heap.size 31 #[.int .i64 m, .slice A nL c, .slice A2 n2 c2, .bool fb, .int .i64 f]
  x : At wr (w.heap.size + 1) 35 #[.int .i64 x.kind, .int .i64 x.n, .int .i64 x.page, .int .i64 x.at_, .string x.s, .slice K x.kept.length ck]
  r : At wr (w.heap.size + 1 + 1) 31 #[.int .i64 0, .slice none 0 0, .slice none 0 0, .bool false, .int .i64 0]
  la : RowR wr (fun b => R b ∨ w.heap.size + 1 + 1 < b) A (lastStr L)
  lo : RowR wr (fun b => R b ∨ w.heap.size + 1 + 1 < b) A2 (looseStr l)
  nl : L.length = nL
  n2 : l.length = n2
  below : Below w.heap.size w wr
section
variable {w wr wx wz : World} {m : Int} {L L' : List Pg} {nL : Nat} {A A' : Option Addr} {c c' : Nat} {l l' : List (Nat × Pg)} {n2 n3 : Nat} {A2 A3 : Option Addr} {c2 c3 : Nat} {fb : Bool} {f : Int} {R : Nat → Prop} {x : Ac} {K : Option Addr} {ck : Nat}
theorem Bx.step (h : Bx w m L nL A c l n2 A2 c2 fb f R x K ck wr) (hb : Below wr.heap.size wr wx) : Bx w m L nL A c l n2 A2 c2 fb f R x K ck wx :=
  ⟨h.d.same (hb.block _ h.d.lt), h.x.same (hb.block _ h.x.lt), h.r.same (hb.block _ h.r.lt), h.la.below hb, h.lo.below hb, h.nl, h.n2, h.below.trans (hb.mono h.below.size)⟩
theorem Bx.drew (h : Bx w m L nL A c l n2 A2 c2 fb f R x K ck wr) : Bx w m L nL A c l n2 A2 c2 fb f R x K ck wr.drew := h.step (Below.refl _ _).drew
theorem Bx.drewN (h : Bx w m L nL A c l n2 A2 c2 fb f R x K ck wr) (n : Nat) : Bx w m L nL A c l n2 A2 c2 fb f R x K ck (wr.drewN n) := h.step (below_drewN wr _ n)
theorem Bx.d1 (h : Bx w m L nL A c l n2 A2 c2 fb f R x K ck wr) : wr.cell? ⟨w.heap.size, 1, none⟩ = some (.slice A nL c) := by rw [h.d.cell]; rfl
theorem Bx.d2 (h : Bx w m L nL A c l n2 A2 c2 fb f R x K ck wr) : wr.cell? ⟨w.heap.size, 2, none⟩ = some (.slice A2 n2 c2) := by rw [h.d.cell]; rfl
theorem Bx.d0 (h : Bx w m L nL A c l n2 A2 c2 fb f R x K ck wr) : wr.cell? ⟨w.heap.size, 0, none⟩ = some (.int .i64 m) := by rw [h.d.cell]; rfl
theorem Bx.d3 (h : Bx w m L nL A c l n2 A2 c2 fb f R x K ck wr) : wr.cell? ⟨w.heap.size, 3, none⟩ = some (.bool fb) := by rw [h.d.cell]; rfl
theorem Bx.d4 (h : Bx w m L nL A c l n2 A2 c2 fb f R x K ck wr) : wr.cell? ⟨w.heap.size, 4, none⟩ = some (.int .i64 f) := by rw [h.d.cell]; rfl
/-- stores into the disk's box -/
theorem turn_box (wz : World) (i : Nat) (u : Value) : Turn (fun b => b = w.heap.size) wz (wz.setCell ⟨w.heap.size, i, none⟩ u) := (Turn.refl (fun b => b = w.heap.size) wz).set ⟨w.heap.size, i, none⟩ (.inr rfl) _
theorem turn5 (v : World) (r : Nat) (u0 u1 u2 u3 u4 : Value) : Turn (fun b => b = r) v (((((v.setCell ⟨r, 0, none⟩ u0).setCell ⟨r, 1, none⟩ u1).setCell ⟨r, 2, none⟩ u2).setCell ⟨r, 3, none⟩ u3).setCell ⟨r, 4, none⟩ u4) :=
  (((((Turn.refl (fun b => b = r) v).set ⟨r, 0, none⟩ (.inr rfl) u0).set ⟨r, 1, none⟩ (.inr rfl) u1).set ⟨r, 2, none⟩ (.inr rfl) u2).set ⟨r, 3, none⟩ (.inr rfl) u3).set ⟨r, 4, none⟩ (.inr rfl) u4
theorem row_box (hR : ∀ b, R b → b < w.heap.size) {B : Option Addr} {vs : List Value} (h : RowR wz (fun b => R b ∨ w.heap.size + 1 + 1 < b) B vs) (i : Nat) (u : Value) : RowR (wz.setCell ⟨w.heap.size, i, none⟩ u) (fun b => R b ∨ w.heap.size + 1 + 1 < b) B vs := by
  refine h.turn (turn_box wz i u) ?_
  rintro b (q | q) rfl
  · exact absurd (hR _ q) (by omega)
  · omega
theorem Bx.put1 (h : Bx w m L nL A c l n2 A2 c2 fb f R x K ck wz) (hR : ∀ b, R b → b < w.heap.size) {n' : Nat} (hr : RowR wz (fun b => R b ∨ w.heap.size + 1 + 1 < b) A' (lastStr L')) (hl : L'.length = n') (c' : Nat) : Bx w m L' n' A' c' l n2 A2 c2 fb f R x K ck (wz.setCell ⟨w.heap.size, 1, none⟩ (.slice A' n' c')) :=
  ⟨h.d.set 1 _, h.x.same (Below.heap_setCell wz _ _ _ (by simp)), h.r.same (Below.heap_setCell wz _ _ _ (by simp; omega)), row_box hR hr _ _, row_box hR h.lo _ _, hl, h.n2, h.below.setCell (Nat.le_refl _) _⟩
theorem Bx.put2 (h : Bx w m L nL A c l n2 A2 c2 fb f R x K ck wz) (hR : ∀ b, R b → b < w.heap.size) (hr : RowR wz (fun b => R b ∨ w.heap.size + 1 + 1 < b) A3 (looseStr l')) (hl : l'.length = n3) (c3 : Nat) : Bx w m L nL A c l' n3 A3 c3 fb f R x K ck (wz.setCell ⟨w.heap.size, 2, none⟩ (.slice A3 n3 c3)) :=
  ⟨h.d.set 2 _, h.x.same (Below.heap_setCell wz _ _ _ (by simp)), h.r.same (Below.heap_setCell wz _ _ _ (by simp; omega)), row_box hR h.la _ _, row_box hR hr _ _, h.nl, hl, h.below.setCell (Nat.le_refl _) _⟩
theorem Bx.put3 (h : Bx w m L nL A c l n2 A2 c2 fb f R x K ck wz) (hR : ∀ b, R b → b < w.heap.size) (fb' : Bool) : Bx w m L nL A c l n2 A2 c2 fb' f R x K ck (wz.setCell ⟨w.heap.size, 3, none⟩ (.bool fb')) :=
  ⟨h.d.set 3 _, h.x.same (Below.heap_setCell wz _ _ _ (by simp)), h.r.same (Below.heap_setCell wz _ _ _ (by simp; omega)), row_box hR h.la _ _, row_box hR h.lo _ _, h.nl, h.n2, h.below.setCell (Nat.le_refl _) _⟩
theorem Bx.put4 (h : Bx w m L nL A c l n2 A2 c2 fb f R x K ck wz) (hR : ∀ b, R b → b < w.heap.size) (f' : Int) : Bx w m L nL A c l n2 A2 c2 fb f' R x K ck (wz.setCell ⟨w.heap.size, 4, none⟩ (.int .i64 f')) :=
  ⟨h.d.set 4 _, h.x.same (Below.heap_setCell wz _ _ _ (by simp)), h.r.same (Below.heap_setCell wz _ _ _ (by simp; omega)), row_box hR h.la _ _, row_box hR h.lo _ _, h.nl, h.n2, h.below.setCell (Nat.le_refl _) _⟩
theorem rowR_nil (w : World) (R : Nat → Prop) : RowR w R none [] := fun k v h => by simp at h
/-- the boxes as they are made -/
theorem bx_start {S : DS} {A1 : Option Addr} {c1 : Nat} (h : RefP w S A1 A2 f R) (f' : Int) : Bx w S.most S.last S.last.length A1 c1 S.loose S.loose.length A2 c2 S.fused f' R x K ck (((w.alloc (.cells #[.int .i64 S.most, .slice A1 S.last.length c1, .slice A2 S.loose.length c2, .bool S.fused, .int .i64 f'] 31)).alloc (.cells #[.int .i64 x.kind, .int .i64 x.n, .int .i64 x.page, .int .i64 x.at_, .string x.s, .slice K x.kept.length ck] 35)).alloc (.cells #[.int .i64 0, .slice none 0 0, .slice none 0 0, .bool false, .int .i64 0] 31)) := by
  have hb : Below w.heap.size w (((w.alloc (.cells #[.int .i64 S.most, .slice A1 S.last.length c1, .slice A2 S.loose.length c2, .bool S.fused, .int .i64 f'] 31)).alloc (.cells #[.int .i64 x.kind, .int .i64 x.n, .int .i64 x.page, .int .i64 x.at_, .string x.s, .slice K x.kept.length ck] 35)).alloc (.cells #[.int .i64 0, .slice none 0 0, .slice none 0 0, .bool false, .int .i64 0] 31)) :=
    (((Below.refl _ _).alloc (Nat.le_refl _) _).alloc (by simp) _).alloc (by simp; omega) _
  refine ⟨?_, ?_, ?_, (h.la.below hb).mono fun i q _ => .inl q, (h.lo.below hb).mono fun i q _ => .inl q, rfl, rfl, hb⟩
  · unfold At
    rw [Below.heap_alloc _ _ _ (by simp; omega), Below.heap_alloc _ _ _ (by simp), heap_alloc_new]
  · unfold At
    have := heap_alloc_new (w.alloc (.cells #[.int .i64 S.most, .slice A1 S.last.length c1, .slice A2 S.loose.length c2, .bool S.fused, .int .i64 f'] 31)) (.cells #[.int .i64 x.kind, .int .i64 x.n, .int .i64 x.page, .int .i64 x.at_, .string x.s, .slice K x.kept.length ck] 35)
    rw [World.size_alloc] at this
    rw [Below.heap_alloc _ _ _ (by simp), this]
  · unfold At
    have := heap_alloc_new ((w.alloc (.cells #[.int .i64 S.most, .slice A1 S.last.length c1, .slice A2 S.loose.length c2, .bool S.fused, .int .i64 f'] 31)).alloc (.cells #[.int .i64 x.kind, .int .i64 x.n, .int .i64 x.page, .int .i64 x.at_, .string x.s, .slice K x.kept.length ck] 35)) (.cells #[.int .i64 0, .slice none 0 0, .slice none 0 0, .bool false, .int .i64 0] 31)
    rw [World.size_alloc, World.size_alloc] at this
    exact this
/-- what the boxes leave -/
theorem bx_end {S' : DS} (h : Bx w S'.most S'.last nL A c S'.loose n2 A2 c2 S'.fused f R x K ck wr) (hf : S'.fused = true → f = S'.left) (ht : Turn (fun b => b = w.heap.size + 1 + 1) wr wz) (hR : ∀ b, R b → b < w.heap.size) (E : Int) :
    RefPost w R S' E (.returned (.tuple #[.agg #[.int .i64 S'.most, .slice A nL c, .slice A2 n2 c2, .bool S'.fused, .int .i64 f], .int .i64 E])) wz := by
  have hw : Below w.heap.size w wz := ht.belowOf h.below h.below.size (fun k e => by omega)
  have hrow : ∀ b, b < wr.heap.size → b ≠ w.heap.size + 1 + 1 → wz.heap[b]? = wr.heap[b]? := fun b q1 q2 => ht.block b q1 q2
  have hs := ht.size
  have hrr : ∀ {B : Option Addr} {vs : List Value}, RowR wr (fun b => R b ∨ w.heap.size + 1 + 1 < b) B vs → RowR wz (fun b => R b ∨ w.heap.size ≤ b) B vs := fun q k v hv => by
    obtain ⟨ad, e, q1, q2, q3⟩ := q k v hv
    have hne : ad.block ≠ w.heap.size + 1 + 1 := fun e => by
      rcases q1 with q1 | q1
      · have := hR _ q1; omega
      · omega
    refine ⟨ad, e, ?_, by omega, (World.cell?_of_block (by rw [blk_add]; exact hrow _ q2 hne)).trans q3⟩
    rcases q1 with q1 | q1
    · exact .inl q1
    · exact .inr (by omega)
  refine ⟨A, c, A2, c2, f, by rw [h.nl, h.n2], ⟨hrr h.la, hrr h.lo, hf⟩, hw⟩
/-- with, called within -/
theorem bx_with (h : Bx w m L nL A c l n2 A2 c2 fb f R x K ck wr) {p : Nat} {y : Pg} (hp : p < L.length) (hL : L.length ≤ 4096) (hb : Below wr.heap.size wr wx) :
    Calls Try.prog 28 #[.slice A nL c, .int .i64 (p : Int), .string (tx y)] wx fun e wz => ∃ A' c', e = .returned (.slice A' nL c') ∧ wz.frozen? ⟨w.heap.size, 1, none⟩ = false ∧ wz.cell? ⟨w.heap.size, 1, none⟩ = some (.slice A nL c) ∧ Hid (Below wr.heap.size wr wz ∧ Bx w m L nL A c l n2 A2 c2 fb f R x K ck wz ∧ RowR wz (fun b => R b ∨ w.heap.size + 1 + 1 < b) A' (lastStr (L.set p y))) := by
  have hx := h.step hb
  refine (with_any wx A c (L.map tx) nL p (by simp [h.nl]) (tx y) hx.la.row (by simp; omega) (by simpa using hp)).mono ?_
  rintro e wz ⟨A', c', rfl, hr, hz⟩
  have hsz := hx.step hz
  have hlt := hx.r.lt
  refine ⟨A', c', rfl, hsz.d.frozen 1, hsz.d1, ⟨hb.trans (hz.mono hb.size), hsz, ?_⟩⟩
  rw [lastStr, List.map_set]
  exact hr.mono fun i q _ => .inr (by omega)
end
end Go.Proofs.Ytecdindjlfefhaa.DiskBox
