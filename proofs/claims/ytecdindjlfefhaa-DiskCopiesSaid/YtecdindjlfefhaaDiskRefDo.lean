/- The document's disk: an act done. -/
import Derived.Test.YtecdindjlfefhaaDiskRefRead
import Derived.Deep.RegionWith
namespace Go.Proofs.Ytecdindjlfefhaa.DiskRefDo
open Go.RowKit Base DiskPlain DiskMem DiskSmall DiskRead DiskGrow DiskWrite DiskSync DiskCrash DiskSpoil DiskCopy DiskLaw DiskDo DiskPlumb DiskTwo DiskGrows DiskSim DiskSyncs DiskRef DiskRefRead Go.Maps

/-- behind Do: the document's disk is S', in the same blocks or in new ones; nothing has turned -/
def RefPost (w : World) (R : Nat → Prop) (S' : DS) (E : Int) (e : Ending) (w' : World) : Prop :=
  ∃ A1 c1 A2 c2 f, e = .returned (.tuple #[.agg #[.int .i64 S'.most, .slice A1 S'.last.length c1, .slice A2 S'.loose.length c2, .bool S'.fused, .int .i64 f], .int .i64 E]) ∧ RefP w' S' A1 A2 f (fun b => R b ∨ w.heap.size ≤ b) ∧ Below w.heap.size w w'
theorem refPost_same {w w' : World} {R : Nat → Prop} {S : DS} {A1 A2 : Option Addr} {c1 c2 : Nat} {f : Int} (h : RefP w S A1 A2 f R) (hb : Below w.heap.size w w') (E : Int) : RefPost w R S E (.returned (.tuple #[.agg #[.int .i64 S.most, .slice A1 S.last.length c1, .slice A2 S.loose.length c2, .bool S.fused, .int .i64 f], .int .i64 E])) w' :=
  ⟨A1, c1, A2, c2, f, rfl, (h.below hb).mono fun _ q _ => .inl q, hb⟩
section
variable {w : World} {S : DS} {A1 A2 : Option Addr} {c1 c2 : Nat} {f : Int} {R : Nat → Prop}
set_option maxRecDepth 100000 in
set_option maxHeartbeats 800000 in
theorem rdo_none (h : RefP w S A1 A2 f R) (x : Ac) (K : Option Addr) (ck : Nat) (h0 : x.kind ≠ 0) (h1 : x.kind ≠ 1) (h2 : x.kind ≠ 2) (h3 : x.kind ≠ 3) (h4 : x.kind ≠ 4) (h6 : x.kind ≠ 6) :
    Calls Try.prog 13 #[.agg #[.int .i64 S.most, .slice A1 S.last.length c1, .slice A2 S.loose.length c2, .bool S.fused, .int .i64 f], .agg #[.int .i64 x.kind, .int .i64 x.n, .int .i64 x.page, .int .i64 x.at_, .string x.s, .slice K x.kept.length ck]] w (RefPost w R S 0) := by
  have HP := Lib.hid (fun w' hb => refPost_same (c1 := c1) (c2 := c2) (w' := w') h hb 0)
  have b0 := beq_eq_false_iff_ne.2 h0
  have b1 := beq_eq_false_iff_ne.2 h1
  have b2 := beq_eq_false_iff_ne.2 h2
  have b3 := beq_eq_false_iff_ne.2 h3
  have b4 := beq_eq_false_iff_ne.2 h4
  have b6 := beq_eq_false_iff_ne.2 h6
  clear h h0 h1 h2 h3 h4 h6
  generalize S.last.length = n1 at *
  generalize S.loose.length = n2 at *
  generalize S.most = m0 at *
  cases hfu : S.fused with
  | false =>
    rw [hfu] at HP
    go_enter Try.func13, Try.ntmps13
    go_wp2_with fail
    all_goals exact bodyPost_ret (v := .tuple #[.agg #[.int .i64 m0, .slice A1 n1 c1, .slice A2 n2 c2, .bool false, .int .i64 f], .int .i64 0]) (by simp [results, Try.results13, go_sem]) rfl (HP.out _ ((((Below.refl _ _).alloc (Nat.le_refl _) _).alloc (by simp) _).alloc (by simp; omega) _))
  | true =>
    rw [hfu] at HP
    rcases Decidable.em (f = 0) with hf0 | hf0
    · subst hf0
      go_enter Try.func13, Try.ntmps13
      go_wp2_with fail
      all_goals exact bodyPost_ret (v := .tuple #[.agg #[.int .i64 m0, .slice A1 n1 c1, .slice A2 n2 c2, .bool true, .int .i64 0], .int .i64 0]) (by simp [results, Try.results13, go_sem]) rfl (HP.out _ ((((Below.refl _ _).alloc (Nat.le_refl _) _).alloc (by simp) _).alloc (by simp; omega) _))
    · have hfb : (f == 0) = false := beq_eq_false_iff_ne.2 hf0
      go_enter Try.func13, Try.ntmps13
      go_wp2_with fail
      all_goals exact bodyPost_ret (v := .tuple #[.agg #[.int .i64 m0, .slice A1 n1 c1, .slice A2 n2 c2, .bool true, .int .i64 f], .int .i64 0]) (by simp [results, Try.results13, go_sem]) rfl (HP.out _ ((((Below.refl _ _).alloc (Nat.le_refl _) _).alloc (by simp) _).alloc (by simp; omega) _))

set_option maxRecDepth 100000 in
set_option maxHeartbeats 800000 in
theorem rdo_full (h : RefP w S A1 A2 f R) (x : Ac) (K : Option Addr) (ck : Nat) (hk : x.kind = 0) (hx : S.most < x.n) :
    Calls Try.prog 13 #[.agg #[.int .i64 S.most, .slice A1 S.last.length c1, .slice A2 S.loose.length c2, .bool S.fused, .int .i64 f], .agg #[.int .i64 x.kind, .int .i64 x.n, .int .i64 x.page, .int .i64 x.at_, .string x.s, .slice K x.kept.length ck]] w (RefPost w R S 32) := by
  have HP := Lib.hid (fun w' hb => refPost_same (c1 := c1) (c2 := c2) (w' := w') h hb 32)
  rw [hk]
  clear h hk
  generalize S.last.length = n1 at *
  generalize S.loose.length = n2 at *
  generalize S.most = m0 at *
  cases hfu : S.fused with
  | false =>
    rw [hfu] at HP
    go_enter Try.func13, Try.ntmps13
    go_wp2_with fail
    all_goals exact bodyPost_ret (v := .tuple #[.agg #[.int .i64 m0, .slice A1 n1 c1, .slice A2 n2 c2, .bool false, .int .i64 f], .int .i64 32]) (by simp [results, Try.results13, go_sem]) rfl (HP.out _ ((((Below.refl _ _).alloc (Nat.le_refl _) _).alloc (by simp) _).alloc (by simp; omega) _))
  | true =>
    rw [hfu] at HP
    rcases Decidable.em (f = 0) with hf0 | hf0
    · subst hf0
      go_enter Try.func13, Try.ntmps13
      go_wp2_with fail
      all_goals exact bodyPost_ret (v := .tuple #[.agg #[.int .i64 m0, .slice A1 n1 c1, .slice A2 n2 c2, .bool true, .int .i64 0], .int .i64 32]) (by simp [results, Try.results13, go_sem]) rfl (HP.out _ ((((Below.refl _ _).alloc (Nat.le_refl _) _).alloc (by simp) _).alloc (by simp; omega) _))
    · have hfb : (f == 0) = false := beq_eq_false_iff_ne.2 hf0
      go_enter Try.func13, Try.ntmps13
      go_wp2_with fail
      all_goals exact bodyPost_ret (v := .tuple #[.agg #[.int .i64 m0, .slice A1 n1 c1, .slice A2 n2 c2, .bool true, .int .i64 f], .int .i64 32]) (by simp [results, Try.results13, go_sem]) rfl (HP.out _ ((((Below.refl _ _).alloc (Nat.le_refl _) _).alloc (by simp) _).alloc (by simp; omega) _))

set_option maxRecDepth 100000 in
set_option maxHeartbeats 800000 in
theorem rdo_page1 (h : RefP w S A1 A2 f R) (x : Ac) (K : Option Addr) (ck : Nat) (hk : x.kind = 1) (hp : S.has x.page = false) :
    Calls Try.prog 13 #[.agg #[.int .i64 S.most, .slice A1 S.last.length c1, .slice A2 S.loose.length c2, .bool S.fused, .int .i64 f], .agg #[.int .i64 x.kind, .int .i64 x.n, .int .i64 x.page, .int .i64 x.at_, .string x.s, .slice K x.kept.length ck]] w (RefPost w R S 30) := by
  have HP := Lib.hid (fun w' hb => refPost_same (c1 := c1) (c2 := c2) (w' := w') h hb 30)
  rw [hk]
  have hpp : x.page < 0 ∨ (0 ≤ x.page ∧ (S.last.length : Int) ≤ x.page) := by simp [DS.has] at hp; omega
  clear h hk hp
  generalize S.last.length = n1 at *
  generalize S.loose.length = n2 at *
  generalize S.most = m0 at *
  have hpq : x.page < 0 ∨ (0 ≤ x.page ∧ decide (x.page < (n1 : Int)) = false) := hpp.imp id fun q => ⟨q.1, by simp; omega⟩
  clear hpp
  rcases hpq with hp0 | ⟨hp0, hp1⟩
  · cases hfu : S.fused with
    | false =>
      rw [hfu] at HP
      go_enter Try.func13, Try.ntmps13
      go_wp2_with fail
      all_goals exact bodyPost_ret (v := .tuple #[.agg #[.int .i64 m0, .slice A1 n1 c1, .slice A2 n2 c2, .bool false, .int .i64 f], .int .i64 30]) (by simp [results, Try.results13, go_sem]) rfl (HP.out _ ((((Below.refl _ _).alloc (Nat.le_refl _) _).alloc (by simp) _).alloc (by simp; omega) _))
    | true =>
      rw [hfu] at HP
      rcases Decidable.em (f = 0) with hf0 | hf0
      · subst hf0
        go_enter Try.func13, Try.ntmps13
        go_wp2_with fail
        all_goals exact bodyPost_ret (v := .tuple #[.agg #[.int .i64 m0, .slice A1 n1 c1, .slice A2 n2 c2, .bool true, .int .i64 0], .int .i64 30]) (by simp [results, Try.results13, go_sem]) rfl (HP.out _ ((((Below.refl _ _).alloc (Nat.le_refl _) _).alloc (by simp) _).alloc (by simp; omega) _))
      · have hfb : (f == 0) = false := beq_eq_false_iff_ne.2 hf0
        go_enter Try.func13, Try.ntmps13
        go_wp2_with fail
        all_goals exact bodyPost_ret (v := .tuple #[.agg #[.int .i64 m0, .slice A1 n1 c1, .slice A2 n2 c2, .bool true, .int .i64 f], .int .i64 30]) (by simp [results, Try.results13, go_sem]) rfl (HP.out _ ((((Below.refl _ _).alloc (Nat.le_refl _) _).alloc (by simp) _).alloc (by simp; omega) _))
  · cases hfu : S.fused with
    | false =>
      rw [hfu] at HP
      go_enter Try.func13, Try.ntmps13
      go_wp2_with fail
      all_goals exact bodyPost_ret (v := .tuple #[.agg #[.int .i64 m0, .slice A1 n1 c1, .slice A2 n2 c2, .bool false, .int .i64 f], .int .i64 30]) (by simp [results, Try.results13, go_sem]) rfl (HP.out _ ((((Below.refl _ _).alloc (Nat.le_refl _) _).alloc (by simp) _).alloc (by simp; omega) _))
    | true =>
      rw [hfu] at HP
      rcases Decidable.em (f = 0) with hf0 | hf0
      · subst hf0
        go_enter Try.func13, Try.ntmps13
        go_wp2_with fail
        all_goals exact bodyPost_ret (v := .tuple #[.agg #[.int .i64 m0, .slice A1 n1 c1, .slice A2 n2 c2, .bool true, .int .i64 0], .int .i64 30]) (by simp [results, Try.results13, go_sem]) rfl (HP.out _ ((((Below.refl _ _).alloc (Nat.le_refl _) _).alloc (by simp) _).alloc (by simp; omega) _))
      · have hfb : (f == 0) = false := beq_eq_false_iff_ne.2 hf0
        go_enter Try.func13, Try.ntmps13
        go_wp2_with fail
        all_goals exact bodyPost_ret (v := .tuple #[.agg #[.int .i64 m0, .slice A1 n1 c1, .slice A2 n2 c2, .bool true, .int .i64 f], .int .i64 30]) (by simp [results, Try.results13, go_sem]) rfl (HP.out _ ((((Below.refl _ _).alloc (Nat.le_refl _) _).alloc (by simp) _).alloc (by simp; omega) _))

set_option maxRecDepth 100000 in
set_option maxHeartbeats 800000 in
theorem rdo_page4 (h : RefP w S A1 A2 f R) (x : Ac) (K : Option Addr) (ck : Nat) (hk : x.kind = 4) (hp : S.has x.page = false) :
    Calls Try.prog 13 #[.agg #[.int .i64 S.most, .slice A1 S.last.length c1, .slice A2 S.loose.length c2, .bool S.fused, .int .i64 f], .agg #[.int .i64 x.kind, .int .i64 x.n, .int .i64 x.page, .int .i64 x.at_, .string x.s, .slice K x.kept.length ck]] w (RefPost w R S 30) := by
  have HP := Lib.hid (fun w' hb => refPost_same (c1 := c1) (c2 := c2) (w' := w') h hb 30)
  rw [hk]
  have hpp : x.page < 0 ∨ (0 ≤ x.page ∧ (S.last.length : Int) ≤ x.page) := by simp [DS.has] at hp; omega
  clear h hk hp
  generalize S.last.length = n1 at *
  generalize S.loose.length = n2 at *
  generalize S.most = m0 at *
  have hpq : x.page < 0 ∨ (0 ≤ x.page ∧ decide (x.page < (n1 : Int)) = false) := hpp.imp id fun q => ⟨q.1, by simp; omega⟩
  clear hpp
  rcases hpq with hp0 | ⟨hp0, hp1⟩
  · cases hfu : S.fused with
    | false =>
      rw [hfu] at HP
      go_enter Try.func13, Try.ntmps13
      go_wp2_with fail
      all_goals exact bodyPost_ret (v := .tuple #[.agg #[.int .i64 m0, .slice A1 n1 c1, .slice A2 n2 c2, .bool false, .int .i64 f], .int .i64 30]) (by simp [results, Try.results13, go_sem]) rfl (HP.out _ ((((Below.refl _ _).alloc (Nat.le_refl _) _).alloc (by simp) _).alloc (by simp; omega) _))
    | true =>
      rw [hfu] at HP
      rcases Decidable.em (f = 0) with hf0 | hf0
      · subst hf0
        go_enter Try.func13, Try.ntmps13
        go_wp2_with fail
        all_goals exact bodyPost_ret (v := .tuple #[.agg #[.int .i64 m0, .slice A1 n1 c1, .slice A2 n2 c2, .bool true, .int .i64 0], .int .i64 30]) (by simp [results, Try.results13, go_sem]) rfl (HP.out _ ((((Below.refl _ _).alloc (Nat.le_refl _) _).alloc (by simp) _).alloc (by simp; omega) _))
      · have hfb : (f == 0) = false := beq_eq_false_iff_ne.2 hf0
        go_enter Try.func13, Try.ntmps13
        go_wp2_with fail
        all_goals exact bodyPost_ret (v := .tuple #[.agg #[.int .i64 m0, .slice A1 n1 c1, .slice A2 n2 c2, .bool true, .int .i64 f], .int .i64 30]) (by simp [results, Try.results13, go_sem]) rfl (HP.out _ ((((Below.refl _ _).alloc (Nat.le_refl _) _).alloc (by simp) _).alloc (by simp; omega) _))
  · cases hfu : S.fused with
    | false =>
      rw [hfu] at HP
      go_enter Try.func13, Try.ntmps13
      go_wp2_with fail
      all_goals exact bodyPost_ret (v := .tuple #[.agg #[.int .i64 m0, .slice A1 n1 c1, .slice A2 n2 c2, .bool false, .int .i64 f], .int .i64 30]) (by simp [results, Try.results13, go_sem]) rfl (HP.out _ ((((Below.refl _ _).alloc (Nat.le_refl _) _).alloc (by simp) _).alloc (by simp; omega) _))
    | true =>
      rw [hfu] at HP
      rcases Decidable.em (f = 0) with hf0 | hf0
      · subst hf0
        go_enter Try.func13, Try.ntmps13
        go_wp2_with fail
        all_goals exact bodyPost_ret (v := .tuple #[.agg #[.int .i64 m0, .slice A1 n1 c1, .slice A2 n2 c2, .bool true, .int .i64 0], .int .i64 30]) (by simp [results, Try.results13, go_sem]) rfl (HP.out _ ((((Below.refl _ _).alloc (Nat.le_refl _) _).alloc (by simp) _).alloc (by simp; omega) _))
      · have hfb : (f == 0) = false := beq_eq_false_iff_ne.2 hf0
        go_enter Try.func13, Try.ntmps13
        go_wp2_with fail
        all_goals exact bodyPost_ret (v := .tuple #[.agg #[.int .i64 m0, .slice A1 n1 c1, .slice A2 n2 c2, .bool true, .int .i64 f], .int .i64 30]) (by simp [results, Try.results13, go_sem]) rfl (HP.out _ ((((Below.refl _ _).alloc (Nat.le_refl _) _).alloc (by simp) _).alloc (by simp; omega) _))

end
end Go.Proofs.Ytecdindjlfefhaa.DiskRefDo
