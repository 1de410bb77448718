/- The document's Do, whatever the act; a disk beside the document's. -/
import Derived.Test.YtecdindjlfefhaaDiskRefSync
import Derived.Test.YtecdindjlfefhaaDiskRefCrash
import Derived.Test.YtecdindjlfefhaaDiskRefWrite
import Derived.Test.YtecdindjlfefhaaDiskRefGrow
import Derived.Test.YtecdindjlfefhaaDiskRefSpoil
import Derived.Test.YtecdindjlfefhaaDiskRefDo2
import Derived.Test.YtecdindjlfefhaaDiskSame
namespace Go.Proofs.Ytecdindjlfefhaa.DiskAny
open Go.RowKit Base DiskPlain DiskMem DiskSmall DiskRead DiskGrow DiskWrite DiskSync DiskCrash DiskSpoil DiskCopy DiskLaw DiskDo DiskPlumb DiskTwo DiskGrows DiskSim DiskSyncs DiskRef DiskRefRead DiskRefDo DiskRefDo2 DiskRefDo3 DiskBox DiskSame Go.Maps

section
variable {w : World} {S : DS} {A1 A2 : Option Addr} {c1 c2 : Nat} {f : Int} {R : Nat → Prop}
theorem rdo_any (h : RefP w S A1 A2 f R) (hok : S.Ok) (hR : ∀ b, R b → b < w.heap.size) (x : Ac) (K : Option Addr) (ck : Nat) (hx : AcOk x) (hf : few x = true) (hll : S.loose.length ≤ 100000000) (hrow : Row w w.heap.size K (keptCells x.kept)) :
    Calls Try.prog 13 #[.agg #[.int .i64 S.most, .slice A1 S.last.length c1, .slice A2 S.loose.length c2, .bool S.fused, .int .i64 f], .agg #[.int .i64 x.kind, .int .i64 x.n, .int .i64 x.page, .int .i64 x.at_, .string x.s, .slice K x.kept.length ck]] w (RefPost w R (act S x) (actE S x)) := by
  obtain ⟨f1, f2, f3⟩ := few_sizes hf
  have hxb : x.b.length = x.s.size := by simp [Ac.b]
  by_cases k0 : x.kind = 0
  · have e1 : act S x = S.grow x.n := by simp [act, k0]
    have e2 : actE S x = S.growE x.n := by simp [actE, k0]
    rw [e1, e2]
    by_cases q : x.n > S.most
    · have g1 : S.grow x.n = S := by unfold DS.grow; rw [if_pos q]
      have g2 : S.growE x.n = 32 := by unfold DS.growE; rw [if_pos q]
      rw [g1, g2]
      exact rdo_full h x K ck k0 q
    · cases hd : S.dead with
      | true =>
        have g1 : S.grow x.n = S := by unfold DS.grow; rw [if_neg q, if_pos hd]
        have g2 : S.growE x.n = 33 := by unfold DS.growE; rw [if_neg q, if_pos hd]
        rw [g1, g2]
        exact rdo_dead0 h x K ck k0 (by omega) hd
      | false =>
        have g2 : S.growE x.n = 0 := by unfold DS.growE; rw [if_neg q, if_neg (by simp [hd])]
        rw [g2]
        exact DiskRefGrow.rdo_grow h hok hR x K ck k0 (by omega) hd hll
  by_cases k1 : x.kind = 1
  · have e1 : act S x = S.write x.page x.b := by simp [act, k1]
    have e2 : actE S x = S.writeE x.page x.b := by simp [actE, k1]
    rw [e1, e2]
    cases hp : S.has x.page with
    | false =>
      have g1 : S.write x.page x.b = S := by unfold DS.write; rw [if_pos hp]
      have g2 : S.writeE x.page x.b = 30 := by unfold DS.writeE; rw [if_pos hp]
      rw [g1, g2]
      exact rdo_page1 h x K ck k1 hp
    | true =>
      by_cases hs : x.s.size = 256
      · cases hd : S.dead with
        | true =>
          have g1 : S.write x.page x.b = S := by unfold DS.write; rw [if_neg (by simp [hp]), if_neg (by omega), if_pos hd]
          have g2 : S.writeE x.page x.b = 33 := by unfold DS.writeE; rw [if_neg (by simp [hp]), if_neg (by omega), if_pos hd]
          rw [g1, g2]
          exact rdo_dead1 h x K ck k1 hp hs hd
        | false =>
          have g2 : S.writeE x.page x.b = 0 := by unfold DS.writeE; rw [if_neg (by simp [hp]), if_neg (by omega), if_neg (by simp [hd])]
          rw [g2]
          exact DiskRefWrite.rdo_write h hok hR x K ck k1 hp hs hd hll
      · have g1 : S.write x.page x.b = S := by unfold DS.write; rw [if_neg (by simp [hp]), if_pos (by omega)]
        have g2 : S.writeE x.page x.b = 31 := by unfold DS.writeE; rw [if_neg (by simp [hp]), if_pos (by omega)]
        rw [g1, g2]
        exact rdo_size1 h x K ck k1 hp hs f1
  by_cases k2 : x.kind = 2
  · have e1 : act S x = S.sync := by simp [act, k2]
    have e2 : actE S x = 0 := by simp [actE, k2]
    rw [e1, e2]
    cases hd : S.dead with
    | true =>
      have g1 : S.sync = S := by unfold DS.sync; rw [if_pos hd]
      rw [g1]
      exact rdo_dead2 h x K ck k2 hd
    | false => exact DiskRefSync.rdo_sync h hok hR x K ck k2 hd hll
  by_cases k3 : x.kind = 3
  · have e1 : act S x = S.crash x.kept := by simp [act, k3]
    have e2 : actE S x = 0 := by simp [actE, k3]
    rw [e1, e2]
    exact DiskRefCrash.rdo_crash h hok hR x K ck k3 hll (by omega) hx.z hrow
  by_cases k4 : x.kind = 4
  · have e1 : act S x = S.spoil x.page x.at_ x.b := by simp [act, k4]
    have e2 : actE S x = S.spoilE x.page x.at_ x.b := by simp [actE, k4]
    rw [e1, e2]
    cases hp : S.has x.page with
    | false =>
      have g1 : S.spoil x.page x.at_ x.b = S := by unfold DS.spoil; rw [if_pos hp]
      have g2 : S.spoilE x.page x.at_ x.b = 30 := by unfold DS.spoilE; rw [if_pos hp]
      rw [g1, g2]
      exact rdo_page4 h x K ck k4 hp
    | true =>
      by_cases ha : x.at_ < 0 ∨ x.at_ > 256 - (x.s.size : Int)
      · have g1 : S.spoil x.page x.at_ x.b = S := by unfold DS.spoil; rw [if_neg (by simp [hp]), if_pos (by rw [hxb]; exact ha)]
        have g2 : S.spoilE x.page x.at_ x.b = 31 := by unfold DS.spoilE; rw [if_neg (by simp [hp]), if_pos (by rw [hxb]; exact ha)]
        rw [g1, g2]
        exact rdo_at4 h x K ck k4 hp f1 ha
      · have g1 : S.spoil x.page x.at_ x.b = S.spoilt x.page.toNat x.at_.toNat x.b := by unfold DS.spoil; rw [if_neg (by simp [hp]), if_neg (by rw [hxb]; exact ha)]
        have g2 : S.spoilE x.page x.at_ x.b = 0 := by unfold DS.spoilE; rw [if_neg (by simp [hp]), if_neg (by rw [hxb]; exact ha)]
        rw [g1, g2]
        exact DiskRefSpoil.rdo_spoil h hok hR x K ck k4 hp ha hll
  by_cases k6 : x.kind = 6
  · have e1 : act S x = S.fuse x.n := by simp [act, k6]
    have e2 : actE S x = 0 := by simp [actE, k6]
    rw [e1, e2]
    cases hd : S.dead with
    | true =>
      have g1 : S.fuse x.n = S := by unfold DS.fuse; rw [if_pos hd]
      rw [g1]
      exact rdo_dead6 h x K ck k6 hd
    | false => exact rdo_fuse h x K ck k6 hd
  · have e1 : act S x = S := by simp [act, k0, k1, k2, k3, k4, k6]
    have e2 : actE S x = 0 := by simp [actE, k0, k1, k4]
    rw [e1, e2]
    exact rdo_none h x K ck k0 k1 k2 k3 k4 k6
end
/-- the cells of the document's disk -/
def boxOf (T : DS) (A1 : Option Addr) (c1 : Nat) (A2 : Option Addr) (c2 : Nat) (f : Int) : Array Value := #[.int .i64 T.most, .slice A1 T.last.length c1, .slice A2 T.loose.length c2, .bool T.fused, .int .i64 f]
/-- the disk at g is S; the box at mb is the document's T -/
structure Core (w : World) (g mb : Nat) (S T : DS) (A1 : Option Addr) (c1 : Nat) (A2 : Option Addr) (c2 : Nat) (f : Int) (F R : Nat → Prop) : Prop where
  dk : Dk w g S F
  rf : RefP w T A1 A2 f R
  box : At w mb 31 (boxOf T A1 c1 A2 c2 f)
  FR : Apart F R
  mF : ¬ F mb
  mR : ¬ R mb
def Foot (F R : Nat → Prop) (mb : Nat) (b : Nat) : Prop := F b ∨ R b ∨ b = mb
/-- .. made since W; and Q holds of blocks G apart, of which H may be written (rows that are read only may be shared) -/
structure AlIn (W w : World) (g mb : Nat) (S T : DS) (A1 : Option Addr) (c1 : Nat) (A2 : Option Addr) (c2 : Nat) (f : Int) (F R : Nat → Prop) (Q : World → Prop) (G H : Nat → Prop) : Prop where
  core : Core w g mb S T A1 c1 A2 c2 f F R
  since : Since W w (Foot F R mb)
  q : Q w
  loc : ∀ a b, Q a → (∀ i, G i → b.heap[i]? = a.heap[i]?) → Q b
  sG : Since W w G
  sH : Since W w H
  ap : Apart (fun b => F b ∨ b = mb) G
  apH : Apart R H
  below : Below W.heap.size W w
section
variable {W w w' wx wz : World} {g mb : Nat} {S S' T : DS} {A1 A2 : Option Addr} {c1 c2 : Nat} {f : Int} {F R G H : Nat → Prop} {Q : World → Prop}
theorem RefP.same (h : RefP w T A1 A2 f R) (hs : ∀ i, R i → i < w.heap.size → w'.heap[i]? = w.heap[i]?) : RefP w' T A1 A2 f R := by
  have e : ∀ {B : Option Addr} {vs : List Value}, RowR w R B vs → RowR w' R B vs := fun q k v hv => by
    obtain ⟨ad, e, q1, q2, q3⟩ := q k v hv
    have hb := hs _ q1 q2
    rw [Array.getElem?_eq_getElem q2] at hb
    exact ⟨ad, e, q1, heap_lt hb, (World.cell?_of_block (by rw [blk_add]; exact hs _ q1 q2)).trans q3⟩
  exact ⟨e h.la, e h.lo, h.fu⟩
theorem Core.kept (h : Core w g mb S T A1 c1 A2 c2 f F R) (hs : ∀ i, Foot F R mb i → i < w.heap.size → w'.heap[i]? = w.heap[i]?) : Core w' g mb S T A1 c1 A2 c2 f F R := by
  refine ⟨?_, RefP.same h.rf (fun i q hi => hs i (.inr (.inl q)) hi), h.box.same (hs _ (.inr (.inr rfl)) h.box.lt), h.FR, h.mF, h.mR⟩
  obtain ⟨A, c, B, k, m, n, D, hl, hp⟩ := h.dk
  exact ⟨A, c, B, k, m, n, D, hl.same fun i hi => hs i (.inl (hp i hi)) (hl.lt i hi), hp⟩
theorem AlIn.step (h : AlIn W w g mb S T A1 c1 A2 c2 f F R Q G H) (hb : Below w.heap.size w w') : AlIn W w' g mb S T A1 c1 A2 c2 f F R Q G H :=
  ⟨h.core.kept (fun i _ hi => hb.block i hi), h.since.step hb.size, h.loc _ _ h.q (fun i hi => hb.block i (h.sG i hi).2), h.loc, h.sG.step hb.size, h.sH.step hb.size, h.ap, h.apH, h.below.trans (hb.mono h.below.size)⟩
/-- an act, done to the disk -/
theorem al_do (t : AlIn W w g mb S T A1 c1 A2 c2 f F R Q G H) (x : Ac) (K : Option Addr) (ck : Nat) (hx : AcOk x) (hf : few x = true) (hll : S.loose.length ≤ 100000000) (hrow : Row w w.heap.size K (keptCells x.kept)) :
    Calls Try.prog 14 #[.pointer (some ⟨g, 0, none⟩), .agg #[.int .i64 x.kind, .int .i64 x.n, .int .i64 x.page, .int .i64 x.at_, .string x.s, .slice K x.kept.length ck]] w fun e w' => e = .returned (.int .i64 (actE S x)) ∧ ∃ F', AlIn W w' g mb (act S x) T A1 c1 A2 c2 f F' R Q G H := by
  refine (do_dk t.core.dk (fun i hi => (t.since i (.inl hi)).2) x K ck hx hf hll hrow).mono ?_
  rintro e w' ⟨he, F', q1, q2, q3⟩
  have hs := t.below.size
  have sR : Since W w R := fun i hi => t.since i (.inr (.inl hi))
  have sm := t.since mb (.inr (.inr rfl))
  refine ⟨he, F', ⟨q2, RefP.same t.core.rf (fun i hi hl => q3.block i hl (fun hF => t.core.FR i hF hi)), t.core.box.same (q3.block _ sm.2 t.core.mF), ?_, ?_, t.core.mR⟩, ?_, ?_, t.loc, t.sG.step q3.size, t.sH.step q3.size, ?_, t.apH, q3.belowOf t.below hs (fun k hk => (t.since k (.inl hk)).1)⟩
  · intro i hi hR
    rcases (q1 i hi).1 with q | q
    · exact t.core.FR i q hR
    · have := (sR i hR).2; omega
  · intro hi
    rcases (q1 mb hi).1 with q | q
    · exact t.core.mF q
    · omega
  · rintro i (hi | hi | rfl)
    · exact ⟨(q1 i hi).1.elim (fun q => (t.since i (.inl q)).1) (fun q => by omega), (q1 i hi).2⟩
    · have := sR i hi; have := q3.size; omega
    · have := q3.size; omega
  · exact t.loc _ _ t.q (fun i hi => q3.block i (t.sG i hi).2 (fun hF => t.ap i (.inl hF) hi))
  · rintro i (hi | rfl) hG
    · rcases (q1 i hi).1 with q | q
      · exact t.ap i (.inl q) hG
      · have := (t.sG i hG).2; omega
    · exact t.ap i (.inr rfl) hG
/-- the document's act: what it answers, and what is laid into the box then -/
def RefMid (W w : World) (g mb : Nat) (S T' : DS) (F : Nat → Prop) (Q : World → Prop) (G H : Nat → Prop) (wx w' : World) (A1 : Option Addr) (c1 : Nat) (A2 : Option Addr) (c2 : Nat) (f : Int) : Prop :=
  Below wx.heap.size wx w' ∧ ∀ w'', Turn (fun b => b = mb ∨ (w.heap.size ≤ b ∧ b < wx.heap.size)) w' w'' → At w'' mb 31 (boxOf T' A1 c1 A2 c2 f) → ∃ R', AlIn W w'' g mb S T' A1 c1 A2 c2 f F R' Q G H
theorem al_ref (t : AlIn W w g mb S T A1 c1 A2 c2 f F R Q G H) (hb : Below w.heap.size w wx) (hok : T.Ok) (x : Ac) (K : Option Addr) (ck : Nat) (hx : AcOk x) (hf : few x = true) (hll : T.loose.length ≤ 100000000) (hrow : Row wx wx.heap.size K (keptCells x.kept)) :
    Calls Try.prog 13 #[.agg (boxOf T A1 c1 A2 c2 f), .agg #[.int .i64 x.kind, .int .i64 x.n, .int .i64 x.page, .int .i64 x.at_, .string x.s, .slice K x.kept.length ck]] wx fun e w' => ∃ A1' c1' A2' c2' f', e = .returned (.tuple #[.agg (boxOf (act T x) A1' c1' A2' c2' f'), .int .i64 (actE T x)]) ∧
      Hid (RefMid W w g mb S (act T x) F Q G H wx w' A1' c1' A2' c2' f') := by
  have tx := t.step hb
  have hsx := hb.size
  refine (rdo_any tx.core.rf hok (fun b hi => (tx.since b (.inr (.inl hi))).2) x K ck hx hf hll hrow).mono ?_
  rintro e w' ⟨A1', c1', A2', c2', f', he, hr, hbw⟩
  refine ⟨A1', c1', A2', c2', f', he, ⟨hbw, fun w'' ht hbox => ?_⟩⟩
  have hs := t.below.size
  have hsw := hbw.size
  have hst := ht.size
  have sm := t.since mb (.inr (.inr rfl))
  have ty := tx.step hbw
  have far : ∀ i, i < w.heap.size → i ≠ mb → w''.heap[i]? = w'.heap[i]? := fun i h1 h2 => ht.block i (by omega) (by rintro (q | q) <;> omega)
  refine ⟨fun b => (R b ∨ wx.heap.size ≤ b) ∧ b < w'.heap.size, ⟨?_, ?_, hbox, ?_, t.core.mF, ?_⟩, ?_, ?_, t.loc, ?_, ?_, ?_, ?_, ?_⟩
  · obtain ⟨A, c, B, k, m, n, D, hl, hp⟩ := ty.core.dk
    exact ⟨A, c, B, k, m, n, D, hl.same fun i hi => far i (t.since i (.inl (hp i hi))).2 (fun e => t.core.mF (e ▸ hp i hi)), hp⟩
  · refine RefP.same (hr.mono fun i q hi => ⟨q, hi⟩) (fun i hi hl => ht.block i hl ?_)
    rintro (q | q)
    · subst q
      rcases hi.1 with q | q
      · exact t.core.mR q
      · omega
    · rcases hi.1 with q2 | q2
      · have := (t.since i (.inr (.inl q2))).2; omega
      · omega
  · intro i hi hr'
    rcases hr'.1 with q | q
    · exact t.core.FR i hi q
    · have := (t.since i (.inl hi)).2; omega
  · rintro ⟨q | q, _⟩
    · exact t.core.mR q
    · omega
  · rintro i (hi | hi | rfl)
    · have := t.since i (.inl hi); omega
    · rcases hi.1 with q | q
      · have := t.since i (.inr (.inl q)); omega
      · omega
    · omega
  · exact t.loc _ _ ty.q (fun i hi => far i (t.sG i hi).2 (fun e => t.ap mb (.inr rfl) (e ▸ hi)))
  · exact fun i hi => ⟨(t.sG i hi).1, by have := (t.sG i hi).2; omega⟩
  · exact fun i hi => ⟨(t.sH i hi).1, by have := (t.sH i hi).2; omega⟩
  · exact t.ap
  · intro i hi hH
    rcases hi.1 with q | q
    · exact t.apH i q hH
    · have := (t.sH i hH).2; omega
  · exact ht.belowOf (ty.below) ty.below.size (fun k hk => by rcases hk with q | q <;> omega)
theorem at5 {w : World} {mb : Nat} {t : TypeId} {a0 a1 a2 a3 a4 b0 b1 b2 b3 b4 : Value} (h : At w mb t #[a0, a1, a2, a3, a4]) : At (((((w.setCell ⟨mb, 0, none⟩ b0).setCell ⟨mb, 1, none⟩ b1).setCell ⟨mb, 2, none⟩ b2).setCell ⟨mb, 3, none⟩ b3).setCell ⟨mb, 4, none⟩ b4) mb t #[b0, b1, b2, b3, b4] :=
  ((((h.set 0 b0).set 1 b1).set 2 b2).set 3 b3).set 4 b4
/-- same, of the two -/
theorem al_same (t : AlIn W w g mb S S A1 c1 A2 c2 f F R Q G H) (hll : S.loose.length ≤ 100000000) :
    Calls Try.prog 15 #[.pointer (some ⟨g, 0, none⟩), .agg (boxOf S A1 c1 A2 c2 f)] w fun e w' => e = .returned (.bool true) ∧ AlIn W w' g mb S S A1 c1 A2 c2 f F R Q G H :=
  (same_any t.core.dk t.core.rf hll).mono fun _ _ ⟨he, hb⟩ => ⟨he, t.step hb⟩
end
end Go.Proofs.Ytecdindjlfefhaa.DiskAny
