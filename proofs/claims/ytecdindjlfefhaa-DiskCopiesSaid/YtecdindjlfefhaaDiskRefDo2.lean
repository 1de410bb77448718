/- The document's disk: Do's ways that leave the disk as it is. -/
import Derived.Test.YtecdindjlfefhaaDiskRefDo
namespace Go.Proofs.Ytecdindjlfefhaa.DiskRefDo2
open Go.RowKit Base DiskPlain DiskMem DiskSmall DiskRead DiskGrow DiskWrite DiskSync DiskCrash DiskSpoil DiskCopy DiskLaw DiskDo DiskPlumb DiskTwo DiskGrows DiskSim DiskSyncs DiskRef DiskRefRead DiskRefDo Go.Maps

section
variable {w : World} {S : DS} {A1 A2 : Option Addr} {c1 c2 : Nat} {f : Int} {R : Nat → Prop}
theorem dead_f (h : RefP w S A1 A2 f R) (hd : S.dead = true) : S.fused = true ∧ f = 0 := by
  simp only [DS.dead, Bool.and_eq_true, beq_iff_eq] at hd
  exact ⟨hd.1, (h.fu hd.1).trans hd.2⟩
set_option maxRecDepth 100000 in
set_option maxHeartbeats 800000 in
theorem rdo_dead0 (h : RefP w S A1 A2 f R) (x : Ac) (K : Option Addr) (ck : Nat) (hk : x.kind = 0) (hx : x.n ≤ S.most) (hd : S.dead = true) :
    Calls Try.prog 13 #[.agg #[.int .i64 S.most, .slice A1 S.last.length c1, .slice A2 S.loose.length c2, .bool S.fused, .int .i64 f], .agg #[.int .i64 x.kind, .int .i64 x.n, .int .i64 x.page, .int .i64 x.at_, .string x.s, .slice K x.kept.length ck]] w (RefPost w R S 33) := by
  have HP := Lib.hid (fun w' hb => refPost_same (c1 := c1) (c2 := c2) (w' := w') h hb 33)
  rw [hk]
  have hdd := dead_f h hd
  clear h hk hd
  generalize S.last.length = n1 at *
  generalize S.loose.length = n2 at *
  generalize S.most = m0 at *
  have hfu := hdd.1
  have hf0 := hdd.2
  clear hdd
  rw [hfu] at HP ⊢
  subst hf0
  go_enter Try.func13, Try.ntmps13
  go_wp2_with fail
  all_goals exact bodyPost_ret (v := .tuple #[.agg #[.int .i64 m0, .slice A1 n1 c1, .slice A2 n2 c2, .bool true, .int .i64 0], .int .i64 33]) (by simp [results, Try.results13, go_sem]) rfl (HP.out _ ((((Below.refl _ _).alloc (Nat.le_refl _) _).alloc (by simp) _).alloc (by simp; omega) _))

set_option maxRecDepth 100000 in
set_option maxHeartbeats 800000 in
theorem rdo_size1 (h : RefP w S A1 A2 f R) (x : Ac) (K : Option Addr) (ck : Nat) (hk : x.kind = 1) (hp : S.has x.page = true) (hl : x.s.size ≠ 256) (_hls : x.s.size ≤ 300) :
    Calls Try.prog 13 #[.agg #[.int .i64 S.most, .slice A1 S.last.length c1, .slice A2 S.loose.length c2, .bool S.fused, .int .i64 f], .agg #[.int .i64 x.kind, .int .i64 x.n, .int .i64 x.page, .int .i64 x.at_, .string x.s, .slice K x.kept.length ck]] w (RefPost w R S 31) := by
  have HP := Lib.hid (fun w' hb => refPost_same (c1 := c1) (c2 := c2) (w' := w') h hb 31)
  rw [hk]
  have hp0 : 0 ≤ x.page := (has_iff.1 hp).1
  have hp1 : x.page < (S.last.length : Int) := (has_iff.1 hp).2
  have hlb : (((x.s.size : Nat) : Int) != 256) = true := by simp; omega
  have HL := Lib.hid hl
  clear h hk hp hl
  generalize S.last.length = n1 at *
  generalize S.loose.length = n2 at *
  generalize S.most = m0 at *
  have hp2 : decide (x.page < (n1 : Int)) = true := by simpa using hp1
  cases hfu : S.fused with
  | false =>
    rw [hfu] at HP
    go_enter Try.func13, Try.ntmps13
    go_wp2_with fail
    all_goals exact bodyPost_ret (v := .tuple #[.agg #[.int .i64 m0, .slice A1 n1 c1, .slice A2 n2 c2, .bool false, .int .i64 f], .int .i64 31]) (by simp [results, Try.results13, go_sem]) rfl (HP.out _ ((((Below.refl _ _).alloc (Nat.le_refl _) _).alloc (by simp) _).alloc (by simp; omega) _))
  | true =>
    rw [hfu] at HP
    rcases Decidable.em (f = 0) with hf0 | hf0
    · subst hf0
      go_enter Try.func13, Try.ntmps13
      go_wp2_with fail
      all_goals exact bodyPost_ret (v := .tuple #[.agg #[.int .i64 m0, .slice A1 n1 c1, .slice A2 n2 c2, .bool true, .int .i64 0], .int .i64 31]) (by simp [results, Try.results13, go_sem]) rfl (HP.out _ ((((Below.refl _ _).alloc (Nat.le_refl _) _).alloc (by simp) _).alloc (by simp; omega) _))
    · have hfb : (f == 0) = false := beq_eq_false_iff_ne.2 hf0
      have HF := Lib.hid hf0
      clear hf0
      go_enter Try.func13, Try.ntmps13
      go_wp2_with fail
      all_goals exact bodyPost_ret (v := .tuple #[.agg #[.int .i64 m0, .slice A1 n1 c1, .slice A2 n2 c2, .bool true, .int .i64 f], .int .i64 31]) (by simp [results, Try.results13, go_sem]) rfl (HP.out _ ((((Below.refl _ _).alloc (Nat.le_refl _) _).alloc (by simp) _).alloc (by simp; omega) _))

set_option maxRecDepth 100000 in
set_option maxHeartbeats 800000 in
theorem rdo_dead1 (h : RefP w S A1 A2 f R) (x : Ac) (K : Option Addr) (ck : Nat) (hk : x.kind = 1) (hp : S.has x.page = true) (hl : x.s.size = 256) (hd : S.dead = true) :
    Calls Try.prog 13 #[.agg #[.int .i64 S.most, .slice A1 S.last.length c1, .slice A2 S.loose.length c2, .bool S.fused, .int .i64 f], .agg #[.int .i64 x.kind, .int .i64 x.n, .int .i64 x.page, .int .i64 x.at_, .string x.s, .slice K x.kept.length ck]] w (RefPost w R S 33) := by
  have HP := Lib.hid (fun w' hb => refPost_same (c1 := c1) (c2 := c2) (w' := w') h hb 33)
  rw [hk]
  have hp0 : 0 ≤ x.page := (has_iff.1 hp).1
  have hp1 : x.page < (S.last.length : Int) := (has_iff.1 hp).2
  have hdd := dead_f h hd
  clear h hk hp hd
  generalize S.last.length = n1 at *
  generalize S.loose.length = n2 at *
  generalize S.most = m0 at *
  have hfu := hdd.1
  have hf0 := hdd.2
  clear hdd
  rw [hfu] at HP ⊢
  subst hf0
  have hp2 : decide (x.page < (n1 : Int)) = true := by simpa using hp1
  go_enter Try.func13, Try.ntmps13
  go_wp2_with fail
  all_goals exact bodyPost_ret (v := .tuple #[.agg #[.int .i64 m0, .slice A1 n1 c1, .slice A2 n2 c2, .bool true, .int .i64 0], .int .i64 33]) (by simp [results, Try.results13, go_sem]) rfl (HP.out _ ((((Below.refl _ _).alloc (Nat.le_refl _) _).alloc (by simp) _).alloc (by simp; omega) _))

set_option maxRecDepth 100000 in
set_option maxHeartbeats 800000 in
theorem rdo_dead2 (h : RefP w S A1 A2 f R) (x : Ac) (K : Option Addr) (ck : Nat) (hk : x.kind = 2) (hd : S.dead = true) :
    Calls Try.prog 13 #[.agg #[.int .i64 S.most, .slice A1 S.last.length c1, .slice A2 S.loose.length c2, .bool S.fused, .int .i64 f], .agg #[.int .i64 x.kind, .int .i64 x.n, .int .i64 x.page, .int .i64 x.at_, .string x.s, .slice K x.kept.length ck]] w (RefPost w R S 0) := by
  have HP := Lib.hid (fun w' hb => refPost_same (c1 := c1) (c2 := c2) (w' := w') h hb 0)
  rw [hk]
  have hdd := dead_f h hd
  clear h hk hd
  generalize S.last.length = n1 at *
  generalize S.loose.length = n2 at *
  generalize S.most = m0 at *
  have hfu := hdd.1
  have hf0 := hdd.2
  clear hdd
  rw [hfu] at HP ⊢
  subst hf0
  go_enter Try.func13, Try.ntmps13
  go_wp2_with fail
  all_goals exact bodyPost_ret (v := .tuple #[.agg #[.int .i64 m0, .slice A1 n1 c1, .slice A2 n2 c2, .bool true, .int .i64 0], .int .i64 0]) (by simp [results, Try.results13, go_sem]) rfl (HP.out _ ((((Below.refl _ _).alloc (Nat.le_refl _) _).alloc (by simp) _).alloc (by simp; omega) _))

set_option maxRecDepth 100000 in
set_option maxHeartbeats 800000 in
theorem rdo_dead6 (h : RefP w S A1 A2 f R) (x : Ac) (K : Option Addr) (ck : Nat) (hk : x.kind = 6) (hd : S.dead = true) :
    Calls Try.prog 13 #[.agg #[.int .i64 S.most, .slice A1 S.last.length c1, .slice A2 S.loose.length c2, .bool S.fused, .int .i64 f], .agg #[.int .i64 x.kind, .int .i64 x.n, .int .i64 x.page, .int .i64 x.at_, .string x.s, .slice K x.kept.length ck]] w (RefPost w R S 0) := by
  have HP := Lib.hid (fun w' hb => refPost_same (c1 := c1) (c2 := c2) (w' := w') h hb 0)
  rw [hk]
  have hdd := dead_f h hd
  clear h hk hd
  generalize S.last.length = n1 at *
  generalize S.loose.length = n2 at *
  generalize S.most = m0 at *
  have hfu := hdd.1
  have hf0 := hdd.2
  clear hdd
  rw [hfu] at HP ⊢
  subst hf0
  go_enter Try.func13, Try.ntmps13
  go_wp2_with fail
  all_goals exact bodyPost_ret (v := .tuple #[.agg #[.int .i64 m0, .slice A1 n1 c1, .slice A2 n2 c2, .bool true, .int .i64 0], .int .i64 0]) (by simp [results, Try.results13, go_sem]) rfl (HP.out _ ((((Below.refl _ _).alloc (Nat.le_refl _) _).alloc (by simp) _).alloc (by simp; omega) _))

set_option maxRecDepth 100000 in
set_option maxHeartbeats 800000 in
theorem rdo_at4 (h : RefP w S A1 A2 f R) (x : Ac) (K : Option Addr) (ck : Nat) (hk : x.kind = 4) (hp : S.has x.page = true) (hls : x.s.size ≤ 300) (ha : x.at_ < 0 ∨ x.at_ > 256 - (x.s.size : Int)) :
    Calls Try.prog 13 #[.agg #[.int .i64 S.most, .slice A1 S.last.length c1, .slice A2 S.loose.length c2, .bool S.fused, .int .i64 f], .agg #[.int .i64 x.kind, .int .i64 x.n, .int .i64 x.page, .int .i64 x.at_, .string x.s, .slice K x.kept.length ck]] w (RefPost w R S 31) := by
  have HP := Lib.hid (fun w' hb => refPost_same (c1 := c1) (c2 := c2) (w' := w') h hb 31)
  rw [hk]
  have hp0 : 0 ≤ x.page := (has_iff.1 hp).1
  have hp1 : x.page < (S.last.length : Int) := (has_iff.1 hp).2
  have hat : x.at_ < 0 ∨ (0 ≤ x.at_ ∧ 256 < x.at_) ∨ (0 ≤ x.at_ ∧ x.at_ ≤ 256 ∧ 256 < x.at_ + (x.s.size : Int)) := by omega
  clear h hk hp ha
  generalize S.last.length = n1 at *
  generalize S.loose.length = n2 at *
  generalize S.most = m0 at *
  have hp2 : decide (x.page < (n1 : Int)) = true := by simpa using hp1
  rcases hat with hat | ⟨hat, hat2⟩ | ⟨hat, hat2, hat3⟩
  · cases hfu : S.fused with
    | false =>
      rw [hfu] at HP
      go_enter Try.func13, Try.ntmps13
      go_wp2_with fail
      all_goals exact bodyPost_ret (v := .tuple #[.agg #[.int .i64 m0, .slice A1 n1 c1, .slice A2 n2 c2, .bool false, .int .i64 f], .int .i64 31]) (by simp [results, Try.results13, go_sem]) rfl (HP.out _ ((((Below.refl _ _).alloc (Nat.le_refl _) _).alloc (by simp) _).alloc (by simp; omega) _))
    | true =>
      rw [hfu] at HP
      rcases Decidable.em (f = 0) with hf0 | hf0
      · subst hf0
        go_enter Try.func13, Try.ntmps13
        go_wp2_with fail
        all_goals exact bodyPost_ret (v := .tuple #[.agg #[.int .i64 m0, .slice A1 n1 c1, .slice A2 n2 c2, .bool true, .int .i64 0], .int .i64 31]) (by simp [results, Try.results13, go_sem]) rfl (HP.out _ ((((Below.refl _ _).alloc (Nat.le_refl _) _).alloc (by simp) _).alloc (by simp; omega) _))
      · have hfb : (f == 0) = false := beq_eq_false_iff_ne.2 hf0
        have HF := Lib.hid hf0
        clear hf0
        go_enter Try.func13, Try.ntmps13
        go_wp2_with fail
        all_goals exact bodyPost_ret (v := .tuple #[.agg #[.int .i64 m0, .slice A1 n1 c1, .slice A2 n2 c2, .bool true, .int .i64 f], .int .i64 31]) (by simp [results, Try.results13, go_sem]) rfl (HP.out _ ((((Below.refl _ _).alloc (Nat.le_refl _) _).alloc (by simp) _).alloc (by simp; omega) _))
  · cases hfu : S.fused with
    | false =>
      rw [hfu] at HP
      go_enter Try.func13, Try.ntmps13
      go_wp2_with fail
      all_goals exact bodyPost_ret (v := .tuple #[.agg #[.int .i64 m0, .slice A1 n1 c1, .slice A2 n2 c2, .bool false, .int .i64 f], .int .i64 31]) (by simp [results, Try.results13, go_sem]) rfl (HP.out _ ((((Below.refl _ _).alloc (Nat.le_refl _) _).alloc (by simp) _).alloc (by simp; omega) _))
    | true =>
      rw [hfu] at HP
      rcases Decidable.em (f = 0) with hf0 | hf0
      · subst hf0
        go_enter Try.func13, Try.ntmps13
        go_wp2_with fail
        all_goals exact bodyPost_ret (v := .tuple #[.agg #[.int .i64 m0, .slice A1 n1 c1, .slice A2 n2 c2, .bool true, .int .i64 0], .int .i64 31]) (by simp [results, Try.results13, go_sem]) rfl (HP.out _ ((((Below.refl _ _).alloc (Nat.le_refl _) _).alloc (by simp) _).alloc (by simp; omega) _))
      · have hfb : (f == 0) = false := beq_eq_false_iff_ne.2 hf0
        have HF := Lib.hid hf0
        clear hf0
        go_enter Try.func13, Try.ntmps13
        go_wp2_with fail
        all_goals exact bodyPost_ret (v := .tuple #[.agg #[.int .i64 m0, .slice A1 n1 c1, .slice A2 n2 c2, .bool true, .int .i64 f], .int .i64 31]) (by simp [results, Try.results13, go_sem]) rfl (HP.out _ ((((Below.refl _ _).alloc (Nat.le_refl _) _).alloc (by simp) _).alloc (by simp; omega) _))
  · cases hfu : S.fused with
    | false =>
      rw [hfu] at HP
      go_enter Try.func13, Try.ntmps13
      go_wp2_with fail
      all_goals exact bodyPost_ret (v := .tuple #[.agg #[.int .i64 m0, .slice A1 n1 c1, .slice A2 n2 c2, .bool false, .int .i64 f], .int .i64 31]) (by simp [results, Try.results13, go_sem]) rfl (HP.out _ ((((Below.refl _ _).alloc (Nat.le_refl _) _).alloc (by simp) _).alloc (by simp; omega) _))
    | true =>
      rw [hfu] at HP
      rcases Decidable.em (f = 0) with hf0 | hf0
      · subst hf0
        go_enter Try.func13, Try.ntmps13
        go_wp2_with fail
        all_goals exact bodyPost_ret (v := .tuple #[.agg #[.int .i64 m0, .slice A1 n1 c1, .slice A2 n2 c2, .bool true, .int .i64 0], .int .i64 31]) (by simp [results, Try.results13, go_sem]) rfl (HP.out _ ((((Below.refl _ _).alloc (Nat.le_refl _) _).alloc (by simp) _).alloc (by simp; omega) _))
      · have hfb : (f == 0) = false := beq_eq_false_iff_ne.2 hf0
        have HF := Lib.hid hf0
        clear hf0
        go_enter Try.func13, Try.ntmps13
        go_wp2_with fail
        all_goals exact bodyPost_ret (v := .tuple #[.agg #[.int .i64 m0, .slice A1 n1 c1, .slice A2 n2 c2, .bool true, .int .i64 f], .int .i64 31]) (by simp [results, Try.results13, go_sem]) rfl (HP.out _ ((((Below.refl _ _).alloc (Nat.le_refl _) _).alloc (by simp) _).alloc (by simp; omega) _))

end
end Go.Proofs.Ytecdindjlfefhaa.DiskRefDo2
