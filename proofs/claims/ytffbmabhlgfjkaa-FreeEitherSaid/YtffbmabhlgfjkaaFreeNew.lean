/- append([]api.Free{}, l...) where the order is drawn: what is old stays. -/
import Derived.Test.YtffbmabhlgfjkaaFreePut
import Derived.Test.YtffbmabhlgfjkaaFreeCheck
namespace Go.Proofs.Ytffbmabhlgfjkaa.FreeNew
open Go.RowKit Base FreePlain FreeMem FreeSl

def Emp (v : Value) : Prop := ∃ g, v = .slice (some ⟨g, 0, none⟩) 0 0
theorem append_new {w : World} (g : Nat) {A : Option Addr} {c n : Nat} {l : Fs} (hn : n = l.length) (hr : Row w w.heap.size A (fr l)) (hl : l.length ≤ 1000) :
    ∃ A' c' w', (Builtin.append_ #[22, 22] 22 #[.slice (some ⟨g, 0, none⟩) 0 0, .slice A n c]).run Try.prog w = .ok (.slice A' n c') w' ∧ SlF l (.slice A' n c') w' ∧ Below w.heap.size w w' := by
  subst hn
  obtain ⟨i, i1, i2, i3, i4⟩ := info_parts info_f
  cases l with
  | nil =>
    refine ⟨some ⟨g, 0, none⟩, 0, w, ?_, ⟨_, _, rfl, Nat.le_refl _, by intro k v hv; simp [fr] at hv⟩, Below.refl _ _⟩
    have hf : ∀ w : World, (Builtin.firstCells 2 0 (.slice A 0 c)).run Try.prog w = .ok #[] w := fun w => by cases A <;> simp [Builtin.firstCells, loadCells, loadCellsFrom]
    simp [Builtin.append_, run_underlying under_f, sizeOf, typeInfo, i1, i3, Builtin.lenOf, hf, storeCells]
  | cons u l =>
    have he : (Builtin.append_ #[22, 22] 22 #[.slice (some ⟨g, 0, none⟩) 0 0, .slice A (u :: l).length c]).run Try.prog w = (Builtin.append_ #[22, 22] 22 #[.slice none 0 0, .slice A (u :: l).length c]).run Try.prog w := by
      have h1 : ¬ ((u :: l).length = 0) := by simp
      have hf : ∀ w : World, (Builtin.firstCells 2 0 (.slice (some ⟨g, 0, none⟩) 0 0)).run Try.prog w = .ok #[] w := fun w => by simp [Builtin.firstCells, loadCells, loadCellsFrom]
      have hf2 : ∀ w : World, (Builtin.firstCells 2 0 (.slice none 0 0)).run Try.prog w = .ok #[] w := fun w => by simp [Builtin.firstCells]
      have h2 : Builtin.nextslicecap (u :: l).length 0 = (u :: l).length := by simp [Builtin.nextslicecap]; try omega
      have h3 : ¬ (2 ^ 48 < (u :: l).length * 16) := by omega
      generalize (u :: l).length = m at *
      simp [Builtin.append_, run_underlying under_f, sizeOf, typeInfo, i1, Builtin.lenOf, h1, h2, i4, h3, i3, hf, hf2]
    obtain ⟨A', c', w', hrun, ho, hg⟩ := run_append_f (OwnF.nil w w.heap.size) (n := 0) (m := (u :: l).length) (k := (u :: l).length) (c2 := c) (news := u :: l) rfl rfl (by omega) hr (by omega) (Nat.le_refl _)
    rw [List.nil_append] at ho
    exact ⟨A', c', w', he.trans hrun, ⟨A', c', rfl, ho.cap.1, ho.row⟩, (OwnF.nil w w.heap.size).below (Below.refl _ _) hg (Nat.le_refl _) (Nat.le_refl _)⟩
theorem putS (w : World) (v : Value) (l : Fs) (g e : Int) (hv : SlF l v w) (hu : Rise l) (hl : l.length ≤ 1000) :
    Calls Try.prog 14 #[v, .int .i64 g, .int .i64 e] w fun r w' => ∃ A m c, r = .returned (.slice A m c) ∧ SlF (ins g e l) (.slice A m c) w' ∧ Below w.heap.size w w' := by
  obtain ⟨A, c, rfl, hc, hr⟩ := hv
  refine (FreePut.put_any w A l.length c l g e rfl hc hr hu hl).mono ?_
  rintro r w' ⟨A', m, c', rfl, hm, ho, hb⟩
  exact ⟨A', m, c', rfl, ⟨A', c', by rw [hm], ho.cap.1, ho.row⟩, hb⟩
theorem sameS (w : World) (v u : Value) (l q : Fs) (hv : SlF l v w) (hu : SlF q u w) (hlq : l = q) (hl : l.length ≤ 1000) :
    Calls Try.prog 17 #[v, u] w fun r w' => r = .returned (.bool true) ∧ Below w.heap.size w w' := by
  obtain ⟨A, c, rfl, _, hr⟩ := hv
  obtain ⟨B, d, rfl, _, hq⟩ := hu
  exact FreeCheck.rsame_any w A B l.length c q.length d l q true rfl rfl hr hq (by omega) (iff_of_true rfl hlq)
end Go.Proofs.Ytffbmabhlgfjkaa.FreeNew
