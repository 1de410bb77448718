/- The document's answers for tuples: names, letter by letter. -/
import Derived.Test.YtilcnhdfdgmekaaGreatChecked
import Derived.Test.YtilcnhdfdgmekaaGreatKFactsPlain
import Derived.Test.YtilcnhdfdgmekaaGreatKReg
import Derived.Test.YtilcnhdfdgmekaaGreatKTuplePlain
import Derived.Deep.CutBlock
namespace Go.Proofs.YtilcnhdfdgmekaaGreat.TupleRef
open Go.RowKit Base KeyPlain TuplePlain

/-- a user's, and a tuple's, value -/
def uc (u : Us) : Array Value := #[.string u.k, .string u.i, .string u.r]
def tc (t : Tp) : Array Value := #[.string t.k, .string t.i, .string t.r, .string t.u.k, .string t.u.i, .string t.u.r]
theorem al (w : World) (o : Obj) : Below w.heap.size w (w.alloc o) := (Below.refl _ _).alloc (Nat.le_refl _) _

/-! letters, one by one -/
def pre : List UInt8 → Bool
  | [] => true
  | c :: r => low c && r.all nch
theorem pre_snoc (l : List UInt8) (c : UInt8) : pre (l ++ [c]) = (pre l && if l.length = 0 then low c else nch c) := by
  cases l with
  | nil => simp [pre]
  | cons d r =>
    rw [if_neg (by simp)]
    simp [pre, List.all_append, Bool.and_assoc]
theorem pre_cut {l : List UInt8} {k : Nat} (h : pre (l.take k) = false) : pre l = false := by
  have e : l = l.take k ++ l.drop k := (List.take_append_drop k l).symm
  rw [e]
  generalize l.drop k = d
  generalize l.take k = t at h
  cases t with
  | nil => cases h
  | cons c r =>
    simp only [pre, Bool.and_eq_false_iff] at h
    simp only [List.cons_append, pre, List.all_append, Bool.and_eq_false_iff]
    rcases h with h | h
    · exact Or.inl h
    · exact Or.inr (Or.inl h)
theorem name_pre (l : List UInt8) : nameL l = (pre l && (decide (1 ≤ l.length) && decide (l.length ≤ 12))) := by
  cases l with
  | nil => rfl
  | cons c r =>
    have e : decide ((c :: r).length ≤ 12) = decide (r.length ≤ 11) := by simp
    rw [e]
    simp [nameL, pre]
theorem id_pre (l : List UInt8) : idL l = (l.all ich && (decide (1 ≤ l.length) && decide (l.length ≤ 16))) := by unfold idL; rw [Bool.and_assoc]
theorem all_cut {l : List UInt8} {k : Nat} {p : UInt8 → Bool} (h : (l.take k).all p = false) : l.all p = false := by
  rw [← List.take_append_drop k l, List.all_append, h, Bool.false_and]
theorem u8_ge (c d : UInt8) : decide ((d.toNat : Int) ≤ (c.toNat : Int)) = decide (d ≤ c) := by
  rw [decide_eq_decide, UInt8.le_iff_toNat_le]; omega
theorem take_succ {s : ByteArray} {k : Nat} (h : k < s.size) : (bl s).take (k + 1) = (bl s).take k ++ [s[k]] := ba_take_snoc s k h
theorem low_iff (c : UInt8) : low c = true ↔ 97 ≤ c.toNat ∧ c.toNat ≤ 122 := by
  simp only [low, Bool.and_eq_true, decide_eq_true_eq, UInt8.le_iff_toNat_le]
  exact Iff.rfl
theorem dig_iff (c : UInt8) : dig c = true ↔ 48 ≤ c.toNat ∧ c.toNat ≤ 57 := by
  simp only [dig, Bool.and_eq_true, decide_eq_true_eq, UInt8.le_iff_toNat_le]
  exact Iff.rfl
theorem eq_iff (c d : UInt8) : (c == d) = true ↔ c.toNat = d.toNat := by
  rw [beq_iff_eq]
  exact UInt8.toNat_inj.symm
theorem nch_iff (c : UInt8) : nch c = true ↔ (97 ≤ c.toNat ∧ c.toNat ≤ 122) ∨ (48 ≤ c.toNat ∧ c.toNat ≤ 57) ∨ c.toNat = 95 := by
  simp only [nch, Bool.or_eq_true, low_iff, dig_iff, eq_iff, or_assoc]
  exact Iff.rfl
theorem ich_iff (c : UInt8) : ich c = true ↔ (97 ≤ c.toNat ∧ c.toNat ≤ 122) ∨ (48 ≤ c.toNat ∧ c.toNat ≤ 57) ∨ c.toNat = 95 ∨ c.toNat = 45 ∨ c.toNat = 46 := by
  simp only [ich, Bool.or_eq_true, low_iff, dig_iff, eq_iff, or_assoc]
  exact Iff.rfl
set_option maxHeartbeats 6400000 in
theorem refName_any (s : ByteArray) (w : World) (hs : s.size ≤ 4611686018427387904) :
    Calls Tryz.prog 50 #[.string s] w fun e w' => e = .returned (.bool (nameL (bl s))) ∧ w = w' := by
  go_enter Tryz.func50, Tryz.ntmps50
  go_wp2_with fail
  go_loop [3, 4] (fun i c => c = c ∧ ∃ k : Nat, k ≤ s.size ∧ i = .int .i64 k ∧ pre ((bl s).take k) = true) (fun i _ => s.size - (intOf i).toNat)
  case atStart => exact ⟨rfl, 0, by omega, rfl, rfl⟩
  case round =>
    obtain ⟨_, k, hk, rfl, hp⟩ := hrel
    by_cases h1 : k < s.size
    · have hl : ((bl s).take k).length = k := by rw [List.length_take, bl_size]; omega
      have hstep := pre_snoc ((bl s).take k) s[k]
      rw [hl, hp, Bool.true_and, ← take_succ h1] at hstep
      have HST := Lib.hid hstep
      clear hstep hp hl
      have HF := Lib.hid (show pre ((bl s).take (k + 1)) = false → nameL (bl s) = false from fun q => by rw [name_pre, pre_cut q, Bool.false_and])
      have hlt := s[k].toNat_lt
      have hz : (k : Int) < (s.size : Int) := by omega
      by_cases c1 : 97 ≤ s[k].toNat
      · have i1 : (97 : Int) ≤ (s[k].toNat : Int) := by omega
        by_cases c2 : s[k].toNat ≤ 122
        · have i2 : (s[k].toNat : Int) ≤ (122 : Int) := by omega
          have HS := Lib.hid (show pre ((bl s).take (k + 1)) = true from by
            rw [HST.out]
            split
            · exact (low_iff _).2 (by omega)
            · exact (nch_iff _).2 (by omega))
          go_wp2_with fail
          go_round
          case rel => exact ⟨trivial, k + 1, by omega, by go_num, HS.out⟩
          case measure => simp [intOf]; omega
        have i2 : ¬ (s[k].toNat : Int) ≤ (122 : Int) := by omega
        by_cases c3 : k = 0
        · have i3 : ¬ (0 : Int) < (k : Int) := by omega
          have HN := Lib.hid (HF.out (by rw [HST.out]; rw [if_pos (by omega)]; exact Bool.eq_false_iff.2 fun q => by have := (low_iff _).1 q; omega))
          clear c3
          go_wp2_with fail
          go_ret
          exact ⟨ret_bool HN.out.symm, rfl⟩
        have i3 : (0 : Int) < (k : Int) := by omega
        have i4 : (48 : Int) ≤ (s[k].toNat : Int) := by omega
        have i5 : ¬ (s[k].toNat : Int) ≤ (57 : Int) := by omega
        have i6 : ((s[k].toNat : Int) == 95) = false := by rw [beq_eq_false_iff_ne]; omega
        have HN := Lib.hid (HF.out (by rw [HST.out]; rw [if_neg (by omega)]; exact Bool.eq_false_iff.2 fun q => by have := (nch_iff _).1 q; omega))
        go_wp2_with fail
        go_ret
        exact ⟨ret_bool HN.out.symm, rfl⟩
      have i1 : ¬ (97 : Int) ≤ (s[k].toNat : Int) := by omega
      by_cases c3 : k = 0
      · have i3 : ¬ (0 : Int) < (k : Int) := by omega
        have HN := Lib.hid (HF.out (by rw [HST.out]; rw [if_pos (by omega)]; exact Bool.eq_false_iff.2 fun q => by have := (low_iff _).1 q; omega))
        clear c3
        go_wp2_with fail
        go_ret
        exact ⟨ret_bool HN.out.symm, rfl⟩
      have i3 : (0 : Int) < (k : Int) := by omega
      by_cases c4 : 48 ≤ s[k].toNat
      · have i4 : (48 : Int) ≤ (s[k].toNat : Int) := by omega
        by_cases c5 : s[k].toNat ≤ 57
        · have i5 : (s[k].toNat : Int) ≤ (57 : Int) := by omega
          have HS := Lib.hid (show pre ((bl s).take (k + 1)) = true from by rw [HST.out]; rw [if_neg (by omega)]; exact (nch_iff _).2 (by omega))
          go_wp2_with fail
          go_round
          case rel => exact ⟨trivial, k + 1, by omega, by go_num, HS.out⟩
          case measure => simp [intOf]; omega
        have i5 : ¬ (s[k].toNat : Int) ≤ (57 : Int) := by omega
        by_cases c6 : s[k].toNat = 95
        · have i6 : ((s[k].toNat : Int) == 95) = true := by rw [beq_iff_eq]; omega
          have HS := Lib.hid (show pre ((bl s).take (k + 1)) = true from by rw [HST.out]; rw [if_neg (by omega)]; exact (nch_iff _).2 (by omega))
          go_wp2_with fail
          go_round
          case rel => exact ⟨trivial, k + 1, by omega, by go_num, HS.out⟩
          case measure => simp [intOf]; omega
        have i6 : ((s[k].toNat : Int) == 95) = false := by rw [beq_eq_false_iff_ne]; omega
        have HN := Lib.hid (HF.out (by rw [HST.out]; rw [if_neg (by omega)]; exact Bool.eq_false_iff.2 fun q => by have := (nch_iff _).1 q; omega))
        go_wp2_with fail
        go_ret
        exact ⟨ret_bool HN.out.symm, rfl⟩
      have i4 : ¬ (48 : Int) ≤ (s[k].toNat : Int) := by omega
      have i6 : ((s[k].toNat : Int) == 95) = false := by rw [beq_eq_false_iff_ne]; omega
      have HN := Lib.hid (HF.out (by rw [HST.out]; rw [if_neg (by omega)]; exact Bool.eq_false_iff.2 fun q => by have := (nch_iff _).1 q; omega))
      go_wp2_with fail
      go_ret
      exact ⟨ret_bool HN.out.symm, rfl⟩
    · have hz : ¬ ((k : Int) < (s.size : Int)) := by omega
      have hk2 : k = s.size := by omega
      rw [List.take_of_length_le (by rw [bl_size]; omega)] at hp
      have HE := Lib.hid (show nameL (bl s) = (decide (1 ≤ s.size) && decide (s.size ≤ 12)) from by rw [name_pre, hp, Bool.true_and, bl_size])
      clear hp
      by_cases h2 : 1 ≤ s.size
      · by_cases h3 : s.size ≤ 12
        · have HF := Lib.hid (show nameL (bl s) = true from by rw [HE.out, decide_eq_true h2, decide_eq_true h3]; rfl)
          have h2I : (1 : Int) ≤ (s.size : Int) := by omega
          have h3I : (s.size : Int) ≤ 12 := by omega
          go_wp2_with fail
          go_ret
          exact ⟨ret_bool HF.out.symm, rfl⟩
        · have HF := Lib.hid (show nameL (bl s) = false from by rw [HE.out, decide_eq_false h3, Bool.and_false])
          have h2I : (1 : Int) ≤ (s.size : Int) := by omega
          have h3I : ¬ (s.size : Int) ≤ 12 := by omega
          go_wp2_with fail
          go_ret
          exact ⟨ret_bool HF.out.symm, rfl⟩
      · have HF := Lib.hid (show nameL (bl s) = false from by rw [HE.out, decide_eq_false h2, Bool.false_and])
        have h2I : ¬ (1 : Int) ≤ (s.size : Int) := by omega
        go_wp2_with fail
        go_ret
        exact ⟨ret_bool HF.out.symm, rfl⟩
set_option maxHeartbeats 6400000 in
theorem refID_any (s : ByteArray) (w : World) (hs : s.size ≤ 4611686018427387904) :
    Calls Tryz.prog 51 #[.string s] w fun e w' => e = .returned (.bool (idL (bl s))) ∧ w = w' := by
  go_enter Tryz.func51, Tryz.ntmps51
  go_wp2_with fail
  go_loop [3, 4] (fun i c => c = c ∧ ∃ k : Nat, k ≤ s.size ∧ i = .int .i64 k ∧ ((bl s).take k).all ich = true) (fun i _ => s.size - (intOf i).toNat)
  case atStart => exact ⟨rfl, 0, by omega, rfl, rfl⟩
  case round =>
    obtain ⟨_, k, hk, rfl, hp⟩ := hrel
    by_cases h1 : k < s.size
    · have hstep : ((bl s).take (k + 1)).all ich = ich s[k] := by rw [take_succ h1, List.all_append, hp]; simp
      have HST := Lib.hid hstep
      clear hstep hp
      have HF := Lib.hid (show ((bl s).take (k + 1)).all ich = false → idL (bl s) = false from fun q => by rw [id_pre, all_cut q, Bool.false_and])
      have hlt := s[k].toNat_lt
      have hz : (k : Int) < (s.size : Int) := by omega
      by_cases c1 : 97 ≤ s[k].toNat
      · have i1 : (97 : Int) ≤ (s[k].toNat : Int) := by omega
        by_cases c2 : s[k].toNat ≤ 122
        · have i2 : (s[k].toNat : Int) ≤ (122 : Int) := by omega
          have HS := Lib.hid (show ((bl s).take (k + 1)).all ich = true from by rw [HST.out]; exact (ich_iff _).2 (by omega))
          go_wp2_with fail
          go_round
          case rel => exact ⟨trivial, k + 1, by omega, by go_num, HS.out⟩
          case measure => simp [intOf]; omega
        have i2 : ¬ (s[k].toNat : Int) ≤ (122 : Int) := by omega
        have i4 : (48 : Int) ≤ (s[k].toNat : Int) := by omega
        have i5 : ¬ (s[k].toNat : Int) ≤ (57 : Int) := by omega
        have i6 : ((s[k].toNat : Int) != 95) = true := by rw [bne_iff_ne]; omega
        have i7 : ((s[k].toNat : Int) != 45) = true := by rw [bne_iff_ne]; omega
        have i8 : ((s[k].toNat : Int) != 46) = true := by rw [bne_iff_ne]; omega
        have HN := Lib.hid (HF.out (by rw [HST.out]; exact Bool.eq_false_iff.2 fun q => by have := (ich_iff _).1 q; omega))
        go_wp2_with fail
        go_ret
        exact ⟨ret_bool HN.out.symm, rfl⟩
      have i1 : ¬ (97 : Int) ≤ (s[k].toNat : Int) := by omega
      by_cases c4 : 48 ≤ s[k].toNat
      · have i4 : (48 : Int) ≤ (s[k].toNat : Int) := by omega
        by_cases c5 : s[k].toNat ≤ 57
        · have i5 : (s[k].toNat : Int) ≤ (57 : Int) := by omega
          have HS := Lib.hid (show ((bl s).take (k + 1)).all ich = true from by rw [HST.out]; exact (ich_iff _).2 (by omega))
          go_wp2_with fail
          go_round
          case rel => exact ⟨trivial, k + 1, by omega, by go_num, HS.out⟩
          case measure => simp [intOf]; omega
        have i5 : ¬ (s[k].toNat : Int) ≤ (57 : Int) := by omega
        by_cases c6 : s[k].toNat = 95
        · have i6 : ((s[k].toNat : Int) != 95) = false := by simp; omega
          have HS := Lib.hid (show ((bl s).take (k + 1)).all ich = true from by rw [HST.out]; exact (ich_iff _).2 (by omega))
          go_wp2_with fail
          go_round
          case rel => exact ⟨trivial, k + 1, by omega, by go_num, HS.out⟩
          case measure => simp [intOf]; omega
        have i6 : ((s[k].toNat : Int) != 95) = true := by rw [bne_iff_ne]; omega
        have i7 : ((s[k].toNat : Int) != 45) = true := by rw [bne_iff_ne]; omega
        have i8 : ((s[k].toNat : Int) != 46) = true := by rw [bne_iff_ne]; omega
        have HN := Lib.hid (HF.out (by rw [HST.out]; exact Bool.eq_false_iff.2 fun q => by have := (ich_iff _).1 q; omega))
        go_wp2_with fail
        go_ret
        exact ⟨ret_bool HN.out.symm, rfl⟩
      have i4 : ¬ (48 : Int) ≤ (s[k].toNat : Int) := by omega
      have i6 : ((s[k].toNat : Int) != 95) = true := by rw [bne_iff_ne]; omega
      by_cases c7 : s[k].toNat = 45
      · have i7 : ((s[k].toNat : Int) != 45) = false := by simp; omega
        have HS := Lib.hid (show ((bl s).take (k + 1)).all ich = true from by rw [HST.out]; exact (ich_iff _).2 (by omega))
        go_wp2_with fail
        go_round
        case rel => exact ⟨trivial, k + 1, by omega, by go_num, HS.out⟩
        case measure => simp [intOf]; omega
      have i7 : ((s[k].toNat : Int) != 45) = true := by rw [bne_iff_ne]; omega
      by_cases c8 : s[k].toNat = 46
      · have i8 : ((s[k].toNat : Int) != 46) = false := by simp; omega
        have HS := Lib.hid (show ((bl s).take (k + 1)).all ich = true from by rw [HST.out]; exact (ich_iff _).2 (by omega))
        go_wp2_with fail
        go_round
        case rel => exact ⟨trivial, k + 1, by omega, by go_num, HS.out⟩
        case measure => simp [intOf]; omega
      have i8 : ((s[k].toNat : Int) != 46) = true := by rw [bne_iff_ne]; omega
      have HN := Lib.hid (HF.out (by rw [HST.out]; exact Bool.eq_false_iff.2 fun q => by have := (ich_iff _).1 q; omega))
      go_wp2_with fail
      go_ret
      exact ⟨ret_bool HN.out.symm, rfl⟩
    · have hz : ¬ ((k : Int) < (s.size : Int)) := by omega
      have hk2 : k = s.size := by omega
      rw [List.take_of_length_le (by rw [bl_size]; omega)] at hp
      have HE := Lib.hid (show idL (bl s) = (decide (1 ≤ s.size) && decide (s.size ≤ 16)) from by rw [id_pre, hp, Bool.true_and, bl_size])
      clear hp
      by_cases h2 : 1 ≤ s.size
      · by_cases h3 : s.size ≤ 16
        · have HF := Lib.hid (show idL (bl s) = true from by rw [HE.out, decide_eq_true h2, decide_eq_true h3]; rfl)
          have h2I : (1 : Int) ≤ (s.size : Int) := by omega
          have h3I : (s.size : Int) ≤ 16 := by omega
          go_wp2_with fail
          go_ret
          exact ⟨ret_bool HF.out.symm, rfl⟩
        · have HF := Lib.hid (show idL (bl s) = false from by rw [HE.out, decide_eq_false h3, Bool.and_false])
          have h2I : (1 : Int) ≤ (s.size : Int) := by omega
          have h3I : ¬ (s.size : Int) ≤ 16 := by omega
          go_wp2_with fail
          go_ret
          exact ⟨ret_bool HF.out.symm, rfl⟩
      · have HF := Lib.hid (show idL (bl s) = false from by rw [HE.out, decide_eq_false h2, Bool.false_and])
        have h2I : ¬ (1 : Int) ≤ (s.size : Int) := by omega
        go_wp2_with fail
        go_ret
        exact ⟨ret_bool HF.out.symm, rfl⟩
theorem empty_eq (s : ByteArray) : s.toList.isEmpty = decide (s.size = 0) := by
  rw [Lib.toList_data, Bool.eq_iff_iff, List.isEmpty_iff, decide_eq_true_eq]
  exact ⟨fun h => by rw [← bl_size]; exact (by rw [show bl s = [] from h]; rfl), fun h => List.eq_nil_of_length_eq_zero h⟩
end Go.Proofs.YtilcnhdfdgmekaaGreat.TupleRef
