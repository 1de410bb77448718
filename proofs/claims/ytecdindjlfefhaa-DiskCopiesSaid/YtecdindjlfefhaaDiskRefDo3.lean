/- The document's disk: Do of a fuse. -/
import Derived.Test.YtecdindjlfefhaaDiskRefDo
namespace Go.Proofs.Ytecdindjlfefhaa.DiskRefDo3
open Go.RowKit Base DiskPlain DiskMem DiskSmall DiskRead DiskGrow DiskWrite DiskSync DiskCrash DiskSpoil DiskCopy DiskLaw DiskDo DiskPlumb DiskTwo DiskGrows DiskSim DiskSyncs DiskRef DiskRefRead DiskRefDo Go.Maps

section
variable {w : World} {S : DS} {A1 A2 : Option Addr} {c1 c2 : Nat} {f : Int} {R : Nat → Prop}
theorem alive_f (h : RefP w S A1 A2 f R) (hd : S.dead = false) : S.fused = false ∨ (S.fused = true ∧ f ≠ 0) := by
  cases hf : S.fused with
  | false => exact .inl rfl
  | true =>
    refine .inr ⟨rfl, fun e => ?_⟩
    have := h.fu hf
    simp only [DS.dead, hf, Bool.true_and, beq_eq_false_iff_ne] at hd
    exact hd (by rw [← this]; exact e)
set_option maxRecDepth 100000 in
set_option maxHeartbeats 800000 in
theorem rdo_fuse (h : RefP w S A1 A2 f R) (x : Ac) (K : Option Addr) (ck : Nat) (hk : x.kind = 6) (hd : S.dead = false) :
    Calls Try.prog 13 #[.agg #[.int .i64 S.most, .slice A1 S.last.length c1, .slice A2 S.loose.length c2, .bool S.fused, .int .i64 f], .agg #[.int .i64 x.kind, .int .i64 x.n, .int .i64 x.page, .int .i64 x.at_, .string x.s, .slice K x.kept.length ck]] w (RefPost w R (S.fuse x.n) 0) := by
  have hal := alive_f h hd
  have HP := Lib.hid (show ∀ w', Below w.heap.size w w' → RefPost w R (S.fuse x.n) 0 (.returned (.tuple #[.agg #[.int .i64 S.most, .slice A1 S.last.length c1, .slice A2 S.loose.length c2, .bool true, .int .i64 (max x.n 0)], .int .i64 0])) w' from fun w' hb => by
    have e : S.fuse x.n = { S with fused := true, left := max x.n 0 } := by simp [DS.fuse, hd]
    rw [e]
    have q := (h.below hb).mono (Q := fun b => R b ∨ w.heap.size ≤ b) fun _ q _ => .inl q
    exact ⟨A1, c1, A2, c2, max x.n 0, rfl, ⟨q.la, q.lo, fun _ => rfl⟩, hb⟩)
  rw [hk]
  clear h hk hd
  generalize S.last.length = n1 at *
  generalize S.loose.length = n2 at *
  generalize S.most = m0 at *
  rcases hal with hfu | ⟨hfu, hf0⟩
  · rw [hfu]
    by_cases hx : x.n < 0
    · rw [show max x.n 0 = 0 by omega] at HP
      go_enter Try.func13, Try.ntmps13
      go_wp2_with fail
      all_goals go_region
      all_goals go_wp2_with fail
      all_goals exact bodyPost_ret (v := .tuple #[.agg #[.int .i64 m0, .slice A1 n1 c1, .slice A2 n2 c2, .bool true, .int .i64 0], .int .i64 0]) (by simp [results, Try.results13, go_sem]) rfl (HP.out _ ((((Below.refl _ _).alloc (Nat.le_refl _) _).alloc (by simp) _).alloc (by simp; omega) _).drew)
    · rw [show max x.n 0 = x.n by omega] at HP
      go_enter Try.func13, Try.ntmps13
      go_wp2_with fail
      all_goals go_region
      all_goals go_wp2_with fail
      all_goals exact bodyPost_ret (v := .tuple #[.agg #[.int .i64 m0, .slice A1 n1 c1, .slice A2 n2 c2, .bool true, .int .i64 x.n], .int .i64 0]) (by simp [results, Try.results13, go_sem]) rfl (HP.out _ ((((Below.refl _ _).alloc (Nat.le_refl _) _).alloc (by simp) _).alloc (by simp; omega) _).drew)
  · rw [hfu]
    have hfb : (f == 0) = false := beq_eq_false_iff_ne.2 hf0
    have HF := Lib.hid hf0
    clear hf0
    by_cases hx : x.n < 0
    · rw [show max x.n 0 = 0 by omega] at HP
      go_enter Try.func13, Try.ntmps13
      go_wp2_with fail
      all_goals go_region
      all_goals go_wp2_with fail
      all_goals exact bodyPost_ret (v := .tuple #[.agg #[.int .i64 m0, .slice A1 n1 c1, .slice A2 n2 c2, .bool true, .int .i64 0], .int .i64 0]) (by simp [results, Try.results13, go_sem]) rfl (HP.out _ ((((Below.refl _ _).alloc (Nat.le_refl _) _).alloc (by simp) _).alloc (by simp; omega) _).drew)
    · rw [show max x.n 0 = x.n by omega] at HP
      go_enter Try.func13, Try.ntmps13
      go_wp2_with fail
      all_goals go_region
      all_goals go_wp2_with fail
      all_goals exact bodyPost_ret (v := .tuple #[.agg #[.int .i64 m0, .slice A1 n1 c1, .slice A2 n2 c2, .bool true, .int .i64 x.n], .int .i64 0]) (by simp [results, Try.results13, go_sem]) rfl (HP.out _ ((((Below.refl _ _).alloc (Nat.le_refl _) _).alloc (by simp) _).alloc (by simp; omega) _).drew)
end
end Go.Proofs.Ytecdindjlfefhaa.DiskRefDo3
