/- The document's answers for tuples: names, texts, parts, keys. -/
import Derived.Test.YtpiojnphbanggaaTuplePlain
import Derived.Test.YtpiojnphbanggaaKeyRef
import Derived.Test.YtpiojnphbanggaaKeyRead
import Derived.Test.YtpiojnphbanggaaStr
import Derived.Test.YtpiojnphbanggaaInv2
import Derived.Test.YtpiojnphbanggaaFrames
import Derived.Deep.CutBlock
namespace Go.Proofs.Ytpiojnphbanggaa.TupleRef
open Go.RowKit Base KeyPlain TuplePlain

/-- a user's, and a tuple's, value -/
def uc (u : Us) : Array Value := #[.string u.k, .string u.i, .string u.r]
def tc (t : Tp) : Array Value := #[.string t.k, .string t.i, .string t.r, .string t.u.k, .string t.u.i, .string t.u.r]
theorem al (w : World) (o : Obj) : Below w.heap.size w (w.alloc o) := (Below.refl _ _).alloc (Nat.le_refl _) _

/-! letters, one by one -/
def pre : List UInt8 → Bool
  | [] => true
  | c :: r => low c && r.all nch
theorem pre_snoc (l : List UInt8) (c : UInt8) : pre (l ++ [c]) = (pre l && if l.length = 0 then low c else nch c) := by
  cases l with
  | nil => simp [pre]
  | cons d r =>
    rw [if_neg (by simp)]
    simp [pre, List.all_append, Bool.and_assoc]
theorem pre_cut {l : List UInt8} {k : Nat} (h : pre (l.take k) = false) : pre l = false := by
  have e : l = l.take k ++ l.drop k := (List.take_append_drop k l).symm
  rw [e]
  generalize l.drop k = d
  generalize l.take k = t at h
  cases t with
  | nil => cases h
  | cons c r =>
    simp only [pre, Bool.and_eq_false_iff] at h
    simp only [List.cons_append, pre, List.all_append, Bool.and_eq_false_iff]
    rcases h with h | h
    · exact Or.inl h
    · exact Or.inr (Or.inl h)
theorem name_pre (l : List UInt8) : nameL l = (pre l && (decide (1 ≤ l.length) && decide (l.length ≤ 12))) := by
  cases l with
  | nil => rfl
  | cons c r =>
    have e : decide ((c :: r).length ≤ 12) = decide (r.length ≤ 11) := by simp
    rw [e]
    simp [nameL, pre]
theorem id_pre (l : List UInt8) : idL l = (l.all ich && (decide (1 ≤ l.length) && decide (l.length ≤ 16))) := by unfold idL; rw [Bool.and_assoc]
theorem all_cut {l : List UInt8} {k : Nat} {p : UInt8 → Bool} (h : (l.take k).all p = false) : l.all p = false := by
  rw [← List.take_append_drop k l, List.all_append, h, Bool.false_and]
theorem u8_ge (c d : UInt8) : decide ((d.toNat : Int) ≤ (c.toNat : Int)) = decide (d ≤ c) := by
  rw [decide_eq_decide, UInt8.le_iff_toNat_le]; omega
theorem take_succ {s : ByteArray} {k : Nat} (h : k < s.size) : (bl s).take (k + 1) = (bl s).take k ++ [s[k]] := ba_take_snoc s k h
theorem low_iff (c : UInt8) : low c = true ↔ 97 ≤ c.toNat ∧ c.toNat ≤ 122 := by
  simp only [low, Bool.and_eq_true, decide_eq_true_eq, UInt8.le_iff_toNat_le]
  exact Iff.rfl
theorem dig_iff (c : UInt8) : dig c = true ↔ 48 ≤ c.toNat ∧ c.toNat ≤ 57 := by
  simp only [dig, Bool.and_eq_true, decide_eq_true_eq, UInt8.le_iff_toNat_le]
  exact Iff.rfl
theorem eq_iff (c d : UInt8) : (c == d) = true ↔ c.toNat = d.toNat := by
  rw [beq_iff_eq]
  exact UInt8.toNat_inj.symm
theorem nch_iff (c : UInt8) : nch c = true ↔ (97 ≤ c.toNat ∧ c.toNat ≤ 122) ∨ (48 ≤ c.toNat ∧ c.toNat ≤ 57) ∨ c.toNat = 95 := by
  simp only [nch, Bool.or_eq_true, low_iff, dig_iff, eq_iff, or_assoc]
  exact Iff.rfl
theorem ich_iff (c : UInt8) : ich c = true ↔ (97 ≤ c.toNat ∧ c.toNat ≤ 122) ∨ (48 ≤ c.toNat ∧ c.toNat ≤ 57) ∨ c.toNat = 95 ∨ c.toNat = 45 ∨ c.toNat = 46 := by
  simp only [ich, Bool.or_eq_true, low_iff, dig_iff, eq_iff, or_assoc]
  exact Iff.rfl
set_option maxHeartbeats 6400000 in
theorem refName_any (s : ByteArray) (w : World) (hs : s.size ≤ 1000000) :
    Calls Try.prog 23 #[.string s] w fun e w' => e = .returned (.bool (nameL (bl s))) ∧ w = w' := by
  go_enter Try.func23, Try.ntmps23
  go_wp2_with fail
  go_loop [3, 4] (fun i c => c = c ∧ ∃ k : Nat, k ≤ s.size ∧ i = .int .i64 k ∧ pre ((bl s).take k) = true) (fun i _ => s.size - (intOf i).toNat)
  case atStart => exact ⟨rfl, 0, by omega, rfl, rfl⟩
  case round =>
    obtain ⟨_, k, hk, rfl, hp⟩ := hrel
    by_cases h1 : k < s.size
    · have hl : ((bl s).take k).length = k := by rw [List.length_take, bl_size]; omega
      have hstep := pre_snoc ((bl s).take k) s[k]
      rw [hl, hp, Bool.true_and, ← take_succ h1] at hstep
      have HST := Lib.hid hstep
      clear hstep hp hl
      have HF := Lib.hid (show pre ((bl s).take (k + 1)) = false → nameL (bl s) = false from fun q => by rw [name_pre, pre_cut q, Bool.false_and])
      have hlt := s[k].toNat_lt
      have hz : (k : Int) < (s.size : Int) := by omega
      by_cases c1 : 97 ≤ s[k].toNat
      · have i1 : (97 : Int) ≤ (s[k].toNat : Int) := by omega
        by_cases c2 : s[k].toNat ≤ 122
        · have i2 : (s[k].toNat : Int) ≤ (122 : Int) := by omega
          have HS := Lib.hid (show pre ((bl s).take (k + 1)) = true from by
            rw [HST.out]
            split
            · exact (low_iff _).2 (by omega)
            · exact (nch_iff _).2 (by omega))
          go_wp2_with fail
          go_round
          case rel => exact ⟨trivial, k + 1, by omega, by go_num, HS.out⟩
          case measure => simp [intOf]; omega
        have i2 : ¬ (s[k].toNat : Int) ≤ (122 : Int) := by omega
        by_cases c3 : k = 0
        · have i3 : ¬ (0 : Int) < (k : Int) := by omega
          have HN := Lib.hid (HF.out (by rw [HST.out]; rw [if_pos (by omega)]; exact Bool.eq_false_iff.2 fun q => by have := (low_iff _).1 q; omega))
          clear c3
          go_wp2_with fail
          go_ret
          exact ⟨ret_bool HN.out.symm, rfl⟩
        have i3 : (0 : Int) < (k : Int) := by omega
        have i4 : (48 : Int) ≤ (s[k].toNat : Int) := by omega
        have i5 : ¬ (s[k].toNat : Int) ≤ (57 : Int) := by omega
        have i6 : ((s[k].toNat : Int) == 95) = false := by rw [beq_eq_false_iff_ne]; omega
        have HN := Lib.hid (HF.out (by rw [HST.out]; rw [if_neg (by omega)]; exact Bool.eq_false_iff.2 fun q => by have := (nch_iff _).1 q; omega))
        go_wp2_with fail
        go_ret
        exact ⟨ret_bool HN.out.symm, rfl⟩
      have i1 : ¬ (97 : Int) ≤ (s[k].toNat : Int) := by omega
      by_cases c3 : k = 0
      · have i3 : ¬ (0 : Int) < (k : Int) := by omega
        have HN := Lib.hid (HF.out (by rw [HST.out]; rw [if_pos (by omega)]; exact Bool.eq_false_iff.2 fun q => by have := (low_iff _).1 q; omega))
        clear c3
        go_wp2_with fail
        go_ret
        exact ⟨ret_bool HN.out.symm, rfl⟩
      have i3 : (0 : Int) < (k : Int) := by omega
      by_cases c4 : 48 ≤ s[k].toNat
      · have i4 : (48 : Int) ≤ (s[k].toNat : Int) := by omega
        by_cases c5 : s[k].toNat ≤ 57
        · have i5 : (s[k].toNat : Int) ≤ (57 : Int) := by omega
          have HS := Lib.hid (show pre ((bl s).take (k + 1)) = true from by rw [HST.out]; rw [if_neg (by omega)]; exact (nch_iff _).2 (by omega))
          go_wp2_with fail
          go_round
          case rel => exact ⟨trivial, k + 1, by omega, by go_num, HS.out⟩
          case measure => simp [intOf]; omega
        have i5 : ¬ (s[k].toNat : Int) ≤ (57 : Int) := by omega
        by_cases c6 : s[k].toNat = 95
        · have i6 : ((s[k].toNat : Int) == 95) = true := by rw [beq_iff_eq]; omega
          have HS := Lib.hid (show pre ((bl s).take (k + 1)) = true from by rw [HST.out]; rw [if_neg (by omega)]; exact (nch_iff _).2 (by omega))
          go_wp2_with fail
          go_round
          case rel => exact ⟨trivial, k + 1, by omega, by go_num, HS.out⟩
          case measure => simp [intOf]; omega
        have i6 : ((s[k].toNat : Int) == 95) = false := by rw [beq_eq_false_iff_ne]; omega
        have HN := Lib.hid (HF.out (by rw [HST.out]; rw [if_neg (by omega)]; exact Bool.eq_false_iff.2 fun q => by have := (nch_iff _).1 q; omega))
        go_wp2_with fail
        go_ret
        exact ⟨ret_bool HN.out.symm, rfl⟩
      have i4 : ¬ (48 : Int) ≤ (s[k].toNat : Int) := by omega
      have i6 : ((s[k].toNat : Int) == 95) = false := by rw [beq_eq_false_iff_ne]; omega
      have HN := Lib.hid (HF.out (by rw [HST.out]; rw [if_neg (by omega)]; exact Bool.eq_false_iff.2 fun q => by have := (nch_iff _).1 q; omega))
      go_wp2_with fail
      go_ret
      exact ⟨ret_bool HN.out.symm, rfl⟩
    · have hz : ¬ ((k : Int) < (s.size : Int)) := by omega
      have hk2 : k = s.size := by omega
      rw [List.take_of_length_le (by rw [bl_size]; omega)] at hp
      have HE := Lib.hid (show nameL (bl s) = (decide (1 ≤ s.size) && decide (s.size ≤ 12)) from by rw [name_pre, hp, Bool.true_and, bl_size])
      clear hp
      by_cases h2 : 1 ≤ s.size
      · by_cases h3 : s.size ≤ 12
        · have HF := Lib.hid (show nameL (bl s) = true from by rw [HE.out, decide_eq_true h2, decide_eq_true h3]; rfl)
          have h2I : (1 : Int) ≤ (s.size : Int) := by omega
          have h3I : (s.size : Int) ≤ 12 := by omega
          go_wp2_with fail
          go_ret
          exact ⟨ret_bool HF.out.symm, rfl⟩
        · have HF := Lib.hid (show nameL (bl s) = false from by rw [HE.out, decide_eq_false h3, Bool.and_false])
          have h2I : (1 : Int) ≤ (s.size : Int) := by omega
          have h3I : ¬ (s.size : Int) ≤ 12 := by omega
          go_wp2_with fail
          go_ret
          exact ⟨ret_bool HF.out.symm, rfl⟩
      · have HF := Lib.hid (show nameL (bl s) = false from by rw [HE.out, decide_eq_false h2, Bool.false_and])
        have h2I : ¬ (1 : Int) ≤ (s.size : Int) := by omega
        go_wp2_with fail
        go_ret
        exact ⟨ret_bool HF.out.symm, rfl⟩
set_option maxHeartbeats 6400000 in
theorem refID_any (s : ByteArray) (w : World) (hs : s.size ≤ 1000000) :
    Calls Try.prog 25 #[.string s] w fun e w' => e = .returned (.bool (idL (bl s))) ∧ w = w' := by
  go_enter Try.func25, Try.ntmps25
  go_wp2_with fail
  go_loop [3, 4] (fun i c => c = c ∧ ∃ k : Nat, k ≤ s.size ∧ i = .int .i64 k ∧ ((bl s).take k).all ich = true) (fun i _ => s.size - (intOf i).toNat)
  case atStart => exact ⟨rfl, 0, by omega, rfl, rfl⟩
  case round =>
    obtain ⟨_, k, hk, rfl, hp⟩ := hrel
    by_cases h1 : k < s.size
    · have hstep : ((bl s).take (k + 1)).all ich = ich s[k] := by rw [take_succ h1, List.all_append, hp]; simp
      have HST := Lib.hid hstep
      clear hstep hp
      have HF := Lib.hid (show ((bl s).take (k + 1)).all ich = false → idL (bl s) = false from fun q => by rw [id_pre, all_cut q, Bool.false_and])
      have hlt := s[k].toNat_lt
      have hz : (k : Int) < (s.size : Int) := by omega
      by_cases c1 : 97 ≤ s[k].toNat
      · have i1 : (97 : Int) ≤ (s[k].toNat : Int) := by omega
        by_cases c2 : s[k].toNat ≤ 122
        · have i2 : (s[k].toNat : Int) ≤ (122 : Int) := by omega
          have HS := Lib.hid (show ((bl s).take (k + 1)).all ich = true from by rw [HST.out]; exact (ich_iff _).2 (by omega))
          go_wp2_with fail
          go_round
          case rel => exact ⟨trivial, k + 1, by omega, by go_num, HS.out⟩
          case measure => simp [intOf]; omega
        have i2 : ¬ (s[k].toNat : Int) ≤ (122 : Int) := by omega
        have i4 : (48 : Int) ≤ (s[k].toNat : Int) := by omega
        have i5 : ¬ (s[k].toNat : Int) ≤ (57 : Int) := by omega
        have i6 : ((s[k].toNat : Int) != 95) = true := by rw [bne_iff_ne]; omega
        have i7 : ((s[k].toNat : Int) != 45) = true := by rw [bne_iff_ne]; omega
        have i8 : ((s[k].toNat : Int) != 46) = true := by rw [bne_iff_ne]; omega
        have HN := Lib.hid (HF.out (by rw [HST.out]; exact Bool.eq_false_iff.2 fun q => by have := (ich_iff _).1 q; omega))
        go_wp2_with fail
        go_ret
        exact ⟨ret_bool HN.out.symm, rfl⟩
      have i1 : ¬ (97 : Int) ≤ (s[k].toNat : Int) := by omega
      by_cases c4 : 48 ≤ s[k].toNat
      · have i4 : (48 : Int) ≤ (s[k].toNat : Int) := by omega
        by_cases c5 : s[k].toNat ≤ 57
        · have i5 : (s[k].toNat : Int) ≤ (57 : Int) := by omega
          have HS := Lib.hid (show ((bl s).take (k + 1)).all ich = true from by rw [HST.out]; exact (ich_iff _).2 (by omega))
          go_wp2_with fail
          go_round
          case rel => exact ⟨trivial, k + 1, by omega, by go_num, HS.out⟩
          case measure => simp [intOf]; omega
        have i5 : ¬ (s[k].toNat : Int) ≤ (57 : Int) := by omega
        by_cases c6 : s[k].toNat = 95
        · have i6 : ((s[k].toNat : Int) != 95) = false := by simp; omega
          have HS := Lib.hid (show ((bl s).take (k + 1)).all ich = true from by rw [HST.out]; exact (ich_iff _).2 (by omega))
          go_wp2_with fail
          go_round
          case rel => exact ⟨trivial, k + 1, by omega, by go_num, HS.out⟩
          case measure => simp [intOf]; omega
        have i6 : ((s[k].toNat : Int) != 95) = true := by rw [bne_iff_ne]; omega
        have i7 : ((s[k].toNat : Int) != 45) = true := by rw [bne_iff_ne]; omega
        have i8 : ((s[k].toNat : Int) != 46) = true := by rw [bne_iff_ne]; omega
        have HN := Lib.hid (HF.out (by rw [HST.out]; exact Bool.eq_false_iff.2 fun q => by have := (ich_iff _).1 q; omega))
        go_wp2_with fail
        go_ret
        exact ⟨ret_bool HN.out.symm, rfl⟩
      have i4 : ¬ (48 : Int) ≤ (s[k].toNat : Int) := by omega
      have i6 : ((s[k].toNat : Int) != 95) = true := by rw [bne_iff_ne]; omega
      by_cases c7 : s[k].toNat = 45
      · have i7 : ((s[k].toNat : Int) != 45) = false := by simp; omega
        have HS := Lib.hid (show ((bl s).take (k + 1)).all ich = true from by rw [HST.out]; exact (ich_iff _).2 (by omega))
        go_wp2_with fail
        go_round
        case rel => exact ⟨trivial, k + 1, by omega, by go_num, HS.out⟩
        case measure => simp [intOf]; omega
      have i7 : ((s[k].toNat : Int) != 45) = true := by rw [bne_iff_ne]; omega
      by_cases c8 : s[k].toNat = 46
      · have i8 : ((s[k].toNat : Int) != 46) = false := by simp; omega
        have HS := Lib.hid (show ((bl s).take (k + 1)).all ich = true from by rw [HST.out]; exact (ich_iff _).2 (by omega))
        go_wp2_with fail
        go_round
        case rel => exact ⟨trivial, k + 1, by omega, by go_num, HS.out⟩
        case measure => simp [intOf]; omega
      have i8 : ((s[k].toNat : Int) != 46) = true := by rw [bne_iff_ne]; omega
      have HN := Lib.hid (HF.out (by rw [HST.out]; exact Bool.eq_false_iff.2 fun q => by have := (ich_iff _).1 q; omega))
      go_wp2_with fail
      go_ret
      exact ⟨ret_bool HN.out.symm, rfl⟩
    · have hz : ¬ ((k : Int) < (s.size : Int)) := by omega
      have hk2 : k = s.size := by omega
      rw [List.take_of_length_le (by rw [bl_size]; omega)] at hp
      have HE := Lib.hid (show idL (bl s) = (decide (1 ≤ s.size) && decide (s.size ≤ 16)) from by rw [id_pre, hp, Bool.true_and, bl_size])
      clear hp
      by_cases h2 : 1 ≤ s.size
      · by_cases h3 : s.size ≤ 16
        · have HF := Lib.hid (show idL (bl s) = true from by rw [HE.out, decide_eq_true h2, decide_eq_true h3]; rfl)
          have h2I : (1 : Int) ≤ (s.size : Int) := by omega
          have h3I : (s.size : Int) ≤ 16 := by omega
          go_wp2_with fail
          go_ret
          exact ⟨ret_bool HF.out.symm, rfl⟩
        · have HF := Lib.hid (show idL (bl s) = false from by rw [HE.out, decide_eq_false h3, Bool.and_false])
          have h2I : (1 : Int) ≤ (s.size : Int) := by omega
          have h3I : ¬ (s.size : Int) ≤ 16 := by omega
          go_wp2_with fail
          go_ret
          exact ⟨ret_bool HF.out.symm, rfl⟩
      · have HF := Lib.hid (show idL (bl s) = false from by rw [HE.out, decide_eq_false h2, Bool.false_and])
        have h2I : ¬ (1 : Int) ≤ (s.size : Int) := by omega
        go_wp2_with fail
        go_ret
        exact ⟨ret_bool HF.out.symm, rfl⟩
/-! users and tuples -/
def UsF (u : Us) : Prop := u.k.size ≤ 1000000 ∧ u.i.size ≤ 1000000 ∧ u.r.size ≤ 1000000
def TpF (t : Tp) : Prop := t.k.size ≤ 1000000 ∧ t.i.size ≤ 1000000 ∧ t.r.size ≤ 1000000 ∧ UsF t.u
theorem empty_eq (s : ByteArray) : s.toList.isEmpty = decide (s.size = 0) := by
  rw [Lib.toList_data, Bool.eq_iff_iff, List.isEmpty_iff, decide_eq_true_eq]
  exact ⟨fun h => by rw [← bl_size]; exact (by rw [show bl s = [] from h]; rfl), fun h => List.eq_nil_of_length_eq_zero h⟩
set_option maxHeartbeats 3200000 in
theorem refUser_any (u : Us) (w : World) (hu : UsF u) :
    Calls Try.prog 16 #[.agg (uc u)] w fun e w' => e = .returned (.bool u.ok) ∧ Below w.heap.size w w' := by
  obtain ⟨k, i, r⟩ := u
  obtain ⟨h1, h2, h3⟩ := hu
  have c1 := fun w => refName_any k w h1
  have c2 := fun w => refID_any i w h2
  have c3 := fun w => refName_any r w h3
  have e0 := empty_eq r
  have HOK := Lib.hid (show (Us.mk k i r).ok = (nameL (bl k) && idL (bl i) && (decide (r.size = 0) || nameL (bl r))) from rfl)
  unfold uc
  generalize nameL (bl k) = b1 at *
  generalize idL (bl i) = b2 at *
  generalize nameL (bl r) = b3 at *
  have hb := al w (.cells #[.string k, .string i, .string r] 23)
  go_enter Try.func16, Try.ntmps16
  cases b1 with
  | false =>
    go_wp2_with fail
    (with_reducible refine (c1 _).mono ?_)
    rintro e w' ⟨rfl, rfl⟩
    go_wp2_with fail
    go_ret
    exact ⟨ret_bool (by rw [HOK.out]; rfl), hb⟩
  | true =>
    cases b2 with
    | false =>
      go_wp2_with fail
      (with_reducible refine (c1 _).mono ?_)
      rintro e w' ⟨rfl, rfl⟩
      go_wp2_with fail
      (with_reducible refine (c2 _).mono ?_)
      rintro e w' ⟨rfl, rfl⟩
      go_wp2_with fail
      go_ret
      exact ⟨ret_bool (by rw [HOK.out]; rfl), hb⟩
    | true =>
      by_cases hz : r.size = 0
      · rw [decide_eq_true hz] at e0
        have HO := Lib.hid (show (Us.mk k i r).ok = true from by rw [HOK.out, decide_eq_true hz]; rfl)
        clear hz
        go_wp2_with fail
        (with_reducible refine (c1 _).mono ?_)
        rintro e w' ⟨rfl, rfl⟩
        go_wp2_with fail
        (with_reducible refine (c2 _).mono ?_)
        rintro e w' ⟨rfl, rfl⟩
        go_wp2_with fail
        go_ret
        exact ⟨ret_bool HO.out.symm, hb⟩
      · rw [decide_eq_false hz] at e0
        have HO := Lib.hid (show (Us.mk k i r).ok = b3 from by rw [HOK.out, decide_eq_false hz]; rfl)
        clear hz
        go_wp2_with fail
        (with_reducible refine (c1 _).mono ?_)
        rintro e w' ⟨rfl, rfl⟩
        go_wp2_with fail
        (with_reducible refine (c2 _).mono ?_)
        rintro e w' ⟨rfl, rfl⟩
        go_wp2_with fail
        (with_reducible refine (c3 _).mono ?_)
        rintro e w' ⟨rfl, rfl⟩
        cases b3 with
        | false =>
          go_wp2_with fail
          go_ret
          exact ⟨ret_bool HO.out.symm, hb⟩
        | true =>
          go_wp2_with fail
          go_ret
          exact ⟨ret_bool HO.out.symm, hb⟩
set_option maxHeartbeats 3200000 in
theorem refCheck_any (t : Tp) (w : World) (ht : TpF t) :
    Calls Try.prog 19 #[.agg (tc t)] w fun e w' => e = .returned (.bool t.ok) ∧ Below w.heap.size w w' := by
  obtain ⟨k, i, r, u⟩ := t
  obtain ⟨h1, h2, h3, h4⟩ := ht
  have c1 := fun w => refName_any k w h1
  have c2 := fun w => refID_any i w h2
  have c3 := fun w => refName_any r w h3
  have c4 := fun w => refUser_any u w h4
  have HOK := Lib.hid (show (Tp.mk k i r u).ok = (nameL (bl k) && idL (bl i) && nameL (bl r) && u.ok) from rfl)
  unfold uc at c4
  unfold tc
  generalize nameL (bl k) = b1 at *
  generalize idL (bl i) = b2 at *
  generalize nameL (bl r) = b3 at *
  generalize u.ok = b4 at *
  have hb := al w (.cells #[.string k, .string i, .string r, .string u.k, .string u.i, .string u.r] 25)
  go_enter Try.func19, Try.ntmps19
  cases b1 with
  | false =>
    go_wp2_with fail
    (with_reducible refine (c1 _).mono ?_)
    rintro e w' ⟨rfl, rfl⟩
    go_wp2_with fail
    go_ret
    exact ⟨ret_bool (by rw [HOK.out]; rfl), hb⟩
  | true =>
    cases b2 with
    | false =>
      go_wp2_with fail
      (with_reducible refine (c1 _).mono ?_)
      rintro e w' ⟨rfl, rfl⟩
      go_wp2_with fail
      (with_reducible refine (c2 _).mono ?_)
      rintro e w' ⟨rfl, rfl⟩
      go_wp2_with fail
      go_ret
      exact ⟨ret_bool (by rw [HOK.out]; rfl), hb⟩
    | true =>
      cases b3 with
      | false =>
        go_wp2_with fail
        (with_reducible refine (c1 _).mono ?_)
        rintro e w' ⟨rfl, rfl⟩
        go_wp2_with fail
        (with_reducible refine (c2 _).mono ?_)
        rintro e w' ⟨rfl, rfl⟩
        go_wp2_with fail
        (with_reducible refine (c3 _).mono ?_)
        rintro e w' ⟨rfl, rfl⟩
        go_wp2_with fail
        go_ret
        exact ⟨ret_bool (by rw [HOK.out]; rfl), hb⟩
      | true =>
        go_wp2_with fail
        (with_reducible refine (c1 _).mono ?_)
        rintro e w' ⟨rfl, rfl⟩
        go_wp2_with fail
        (with_reducible refine (c2 _).mono ?_)
        rintro e w' ⟨rfl, rfl⟩
        go_wp2_with fail
        (with_reducible refine (c3 _).mono ?_)
        rintro e w' ⟨rfl, rfl⟩
        go_wp2_with fail
        (with_reducible refine (c4 _).mono ?_)
        rintro e w' ⟨rfl, hb2⟩
        have HB := Lib.hid (hb.trans (hb2.mono hb.size))
        clear hb hb2
        go_wp2_with fail
        go_ret
        exact ⟨ret_bool (by rw [HOK.out]; rfl), HB.out⟩
theorem str_cat (a b : ByteArray) : (a ++ b).data.toList = a.data.toList ++ b.data.toList := by simp
set_option maxHeartbeats 3200000 in
theorem refShowUser_any (u : Us) (w : World) (hu : UsF u) :
    Calls Try.prog 18 #[.agg (uc u)] w fun e w' => e = .returned (.string ⟨u.show.toArray⟩) ∧ Below w.heap.size w w' := by
  obtain ⟨h1, h2, h3⟩ := hu
  have e0 := empty_eq u.r
  have hb := al w (.cells #[.string u.k, .string u.i, .string u.r] 23)
  unfold uc
  go_enter Try.func18, Try.ntmps18
  by_cases hz : u.r.size = 0
  · rw [decide_eq_true hz] at e0
    have HS := Lib.hid (show u.k ++ ⟨#[58]⟩ ++ u.i = ⟨u.show.toArray⟩ from ba_of (by unfold Us.show; rw [if_pos hz]; simp [bl]))
    clear hz
    go_wp2_with fail
    go_ret
    exact ⟨ret_str HS.out, hb⟩
  · rw [decide_eq_false hz] at e0
    have HS := Lib.hid (show u.k ++ ⟨#[58]⟩ ++ u.i ++ ⟨#[35]⟩ ++ u.r = ⟨u.show.toArray⟩ from ba_of (by unfold Us.show; rw [if_neg hz]; simp [bl]))
    clear hz
    go_wp2_with fail
    go_ret
    exact ⟨ret_str HS.out, hb⟩
theorem six_at {w : World} {g : Nat} {t : TypeId} {a b c d e f : Value} (q : w.heap[g]? = some (.cells #[a, b, c, d, e, f] t (0, 0))) : w.cell? ⟨g, 0, none⟩ = some a ∧ w.cell? ⟨g, 1, none⟩ = some b ∧ w.cell? ⟨g, 2, none⟩ = some c ∧ w.cell? ⟨g, 3, none⟩ = some d ∧ w.cell? ⟨g, 4, none⟩ = some e ∧ w.cell? ⟨g, 5, none⟩ = some f := by
  refine ⟨?_, ?_, ?_, ?_, ?_, ?_⟩ <;> (simp only [World.cell?, q]; rfl)
set_option maxRecDepth 100000 in
set_option maxHeartbeats 6400000 in
theorem refShow_any (t : Tp) (w : World) (ht : TpF t) :
    Calls Try.prog 21 #[.agg (tc t)] w fun e w' => e = .returned (.string ⟨t.show.toArray⟩) ∧ Below w.heap.size w w' := by
  obtain ⟨g1, g2, g3, g4⟩ := ht
  obtain ⟨g5, g6, g7⟩ := g4
  have c4 := fun w => refShowUser_any t.u w ⟨g5, g6, g7⟩
  obtain ⟨us, hus⟩ : ∃ v : ByteArray, v = ⟨t.u.show.toArray⟩ := ⟨_, rfl⟩
  have hul : us.size ≤ 4000000 := by rw [hus]; show t.u.show.toArray.size ≤ _; rw [List.size_toArray]; unfold Us.show; split <;> simp only [List.length_append, List.length_cons, List.length_nil, bl_size] <;> omega
  obtain ⟨p2, hp2⟩ : ∃ s : ByteArray, s = t.k ++ ⟨#[58]⟩ := ⟨_, rfl⟩
  have zp2 : p2.size ≤ 2000000 := by rw [hp2, ByteArray.size_append]; show t.k.size + 1 ≤ _; omega
  obtain ⟨p5, hp5⟩ : ∃ s : ByteArray, s = p2 ++ t.i := ⟨_, rfl⟩
  have zp5 : p5.size ≤ 4000000 := by rw [hp5, ByteArray.size_append]; omega
  obtain ⟨p6, hp6⟩ : ∃ s : ByteArray, s = p5 ++ ⟨#[35]⟩ := ⟨_, rfl⟩
  have zp6 : p6.size ≤ 5000000 := by rw [hp6, ByteArray.size_append]; show p5.size + 1 ≤ _; omega
  obtain ⟨p9, hp9⟩ : ∃ s : ByteArray, s = p6 ++ t.r := ⟨_, rfl⟩
  have zp9 : p9.size ≤ 7000000 := by rw [hp9, ByteArray.size_append]; omega
  obtain ⟨pa, hpa⟩ : ∃ s : ByteArray, s = p9 ++ ⟨#[64]⟩ := ⟨_, rfl⟩
  have zpa : pa.size ≤ 8000000 := by rw [hpa, ByteArray.size_append]; show p9.size + 1 ≤ _; omega
  obtain ⟨pe, hpe⟩ : ∃ s : ByteArray, s = pa ++ us := ⟨_, rfl⟩
  have zpe : pe.size ≤ 20000000 := by rw [hpe, ByteArray.size_append]; omega
  have HS := Lib.hid (show pe = ⟨t.show.toArray⟩ from by rw [hpe, hpa, hp9, hp6, hp5, hp2, hus]; exact ba_of (by simp [bl, Tp.show]))
  have Hp2 := Lib.hid hp2
  have Hp5 := Lib.hid hp5
  have Hp6 := Lib.hid hp6
  have Hp9 := Lib.hid hp9
  have Hpa := Lib.hid hpa
  have Hpe := Lib.hid hpe
  clear hp2 hp5 hp6 hp9 hpa hpe
  rw [← hus] at c4
  have HU := Lib.hid c4
  clear hus c4
  unfold uc at HU
  unfold tc
  obtain ⟨w1, hw1⟩ : ∃ v, v = w.alloc (.cells #[.string t.k, .string t.i, .string t.r, .string t.u.k, .string t.u.i, .string t.u.r] 25) := ⟨_, rfl⟩
  obtain ⟨b, hb⟩ : ∃ v, v = w.heap.size := ⟨_, rfl⟩
  have HB1 := Lib.hid (show Below w.heap.size w w1 from by rw [hw1]; exact al _ _)
  have h1 : w1.heap[b]? = some (.cells #[.string t.k, .string t.i, .string t.r, .string t.u.k, .string t.u.i, .string t.u.r] 25 (0, 0)) := by rw [hw1, hb]; exact heap_alloc_new w _
  have hlt : b < w1.heap.size := by rw [hw1, hb]; simp
  have HC := Lib.hid (fun (w' : World) (hw' : Below w1.heap.size w1 w') => six_at ((hw'.block b hlt).trans h1))
  have HW := Lib.hid hw1
  have HBE := Lib.hid hb
  clear hw1 h1 hlt hb
  go_enter Try.func21, Try.ntmps21
  go_upto_region 1 with fail
  try rw [← HW.out]
  try rw [← HBE.out]
  clear HW
  have hJ0 : Below w1.heap.size w1 (World.drew w1) := (Below.refl _ _).drew
  refine wp_region_any (by kernel_rfl) ?_
  change wpAny _ _ _ _ _ _ _ (World.drew _)
  refine Inv.inv_any (fun (i : Nat) (v : Value) (w : World) => match i with | 0 => v = .pointer (some ⟨b, 0, none⟩) | 1 => v = .string (t.k) | 2 => v = .string (p2) | 3 => v = .pointer (some ⟨b, 1, none⟩) | 4 => v = .string (t.i) | 5 => v = .string (p5) | 6 => v = .string (p6) | 7 => v = .pointer (some ⟨b, 2, none⟩) | 8 => v = .string (t.r) | 9 => v = .string (p9) | 10 => v = .string (pa) | 11 => v = .pointer (some ⟨b, 3, none⟩) | 12 => v = .agg #[.string t.u.k, .string t.u.i, .string t.u.r] | 13 => v = .string (us) | 14 => v = .string (pe) | _ => True) (fun w' : World => Below w1.heap.size w1 w') _ 15 18 rfl rfl rfl (by kernel_rfl) (by kernel_rfl) hJ0 ?_ ?_ ?_ ?_
  · intro j v w w' h hb
    match j, h with
    | 0, h => exact h
    | 1, h => exact h
    | 2, h => exact h
    | 3, h => exact h
    | 4, h => exact h
    | 5, h => exact h
    | 6, h => exact h
    | 7, h => exact h
    | 8, h => exact h
    | 9, h => exact h
    | 10, h => exact h
    | 11, h => exact h
    | 12, h => exact h
    | 13, h => exact h
    | 14, h => exact h
    | 15, _ => exact trivial
    | (_ + 16), _ => exact trivial
  · skip
    refine Inv.from_cons _ _ _ _ rfl (fun _ a w hJ hF F K hK => ?_) ?_
    · have hz : a.tmps.size = 18 := hF.size
      have e1 : a.tmps[1]? = some (.pointer (some ⟨b, 0, none⟩)) := Inv2.some_slot (by rw [hz]; exact Nat.le_of_ble_eq_true rfl) (hF.slot 1 (by kernel_rfl))
      clear F hF hz
      go_simp
      exact hK (.pointer (some ⟨b, 0, none⟩)) _ hJ (Below.refl _ _) rfl
    refine Inv.from_cons _ _ _ _ rfl (fun _ a w hJ hF F K hK => ?_) ?_
    · have hz : a.tmps.size = 18 := hF.size
      have e3 : a.tmps[3]? = some (.pointer (some ⟨b, 0, none⟩)) := Inv2.some_slot (by rw [hz]; exact Nat.le_of_ble_eq_true rfl) (F 0 (by kernel_rfl) 3 rfl)
      clear F hF hz
      obtain ⟨d0, d1, d2, d3, d4, d5⟩ := HC.out _ hJ
      go_simp
      exact hK (.string (t.k)) _ hJ (Below.refl _ _) rfl
    refine Inv.from_cons _ _ _ _ rfl (fun _ a w hJ hF F K hK => ?_) ?_
    · have hz : a.tmps.size = 18 := hF.size
      have e4 : a.tmps[4]? = some (.string (t.k)) := Inv2.some_slot (by rw [hz]; exact Nat.le_of_ble_eq_true rfl) (F 1 (by kernel_rfl) 4 rfl)
      clear F hF hz
      go_simp
      rw [if_neg (by omega), ← Hp2.out]
      go_simp
      exact hK (.string p2) _ hJ (Below.refl _ _) rfl
    refine Inv.from_cons _ _ _ _ rfl (fun _ a w hJ hF F K hK => ?_) ?_
    · have hz : a.tmps.size = 18 := hF.size
      have e1 : a.tmps[1]? = some (.pointer (some ⟨b, 0, none⟩)) := Inv2.some_slot (by rw [hz]; exact Nat.le_of_ble_eq_true rfl) (hF.slot 1 (by kernel_rfl))
      clear F hF hz
      go_simp
      exact hK (.pointer (some ⟨b, 1, none⟩)) _ hJ (Below.refl _ _) rfl
    refine Inv.from_cons _ _ _ _ rfl (fun _ a w hJ hF F K hK => ?_) ?_
    · have hz : a.tmps.size = 18 := hF.size
      have e6 : a.tmps[6]? = some (.pointer (some ⟨b, 1, none⟩)) := Inv2.some_slot (by rw [hz]; exact Nat.le_of_ble_eq_true rfl) (F 3 (by kernel_rfl) 6 rfl)
      clear F hF hz
      obtain ⟨d0, d1, d2, d3, d4, d5⟩ := HC.out _ hJ
      go_simp
      exact hK (.string (t.i)) _ hJ (Below.refl _ _) rfl
    refine Inv.from_cons _ _ _ _ rfl (fun _ a w hJ hF F K hK => ?_) ?_
    · have hz : a.tmps.size = 18 := hF.size
      have e5 : a.tmps[5]? = some (.string (p2)) := Inv2.some_slot (by rw [hz]; exact Nat.le_of_ble_eq_true rfl) (F 2 (by kernel_rfl) 5 rfl)
      have e7 : a.tmps[7]? = some (.string (t.i)) := Inv2.some_slot (by rw [hz]; exact Nat.le_of_ble_eq_true rfl) (F 4 (by kernel_rfl) 7 rfl)
      clear F hF hz
      go_simp
      rw [if_neg (by omega), ← Hp5.out]
      go_simp
      exact hK (.string p5) _ hJ (Below.refl _ _) rfl
    refine Inv.from_cons _ _ _ _ rfl (fun _ a w hJ hF F K hK => ?_) ?_
    · have hz : a.tmps.size = 18 := hF.size
      have e8 : a.tmps[8]? = some (.string (p5)) := Inv2.some_slot (by rw [hz]; exact Nat.le_of_ble_eq_true rfl) (F 5 (by kernel_rfl) 8 rfl)
      clear F hF hz
      go_simp
      rw [if_neg (by omega), ← Hp6.out]
      go_simp
      exact hK (.string p6) _ hJ (Below.refl _ _) rfl
    refine Inv.from_cons _ _ _ _ rfl (fun _ a w hJ hF F K hK => ?_) ?_
    · have hz : a.tmps.size = 18 := hF.size
      have e1 : a.tmps[1]? = some (.pointer (some ⟨b, 0, none⟩)) := Inv2.some_slot (by rw [hz]; exact Nat.le_of_ble_eq_true rfl) (hF.slot 1 (by kernel_rfl))
      clear F hF hz
      go_simp
      exact hK (.pointer (some ⟨b, 2, none⟩)) _ hJ (Below.refl _ _) rfl
    refine Inv.from_cons _ _ _ _ rfl (fun _ a w hJ hF F K hK => ?_) ?_
    · have hz : a.tmps.size = 18 := hF.size
      have e10 : a.tmps[10]? = some (.pointer (some ⟨b, 2, none⟩)) := Inv2.some_slot (by rw [hz]; exact Nat.le_of_ble_eq_true rfl) (F 7 (by kernel_rfl) 10 rfl)
      clear F hF hz
      obtain ⟨d0, d1, d2, d3, d4, d5⟩ := HC.out _ hJ
      go_simp
      exact hK (.string (t.r)) _ hJ (Below.refl _ _) rfl
    refine Inv.from_cons _ _ _ _ rfl (fun _ a w hJ hF F K hK => ?_) ?_
    · have hz : a.tmps.size = 18 := hF.size
      have e9 : a.tmps[9]? = some (.string (p6)) := Inv2.some_slot (by rw [hz]; exact Nat.le_of_ble_eq_true rfl) (F 6 (by kernel_rfl) 9 rfl)
      have e11 : a.tmps[11]? = some (.string (t.r)) := Inv2.some_slot (by rw [hz]; exact Nat.le_of_ble_eq_true rfl) (F 8 (by kernel_rfl) 11 rfl)
      clear F hF hz
      go_simp
      rw [if_neg (by omega), ← Hp9.out]
      go_simp
      exact hK (.string p9) _ hJ (Below.refl _ _) rfl
    refine Inv.from_cons _ _ _ _ rfl (fun _ a w hJ hF F K hK => ?_) ?_
    · have hz : a.tmps.size = 18 := hF.size
      have e12 : a.tmps[12]? = some (.string (p9)) := Inv2.some_slot (by rw [hz]; exact Nat.le_of_ble_eq_true rfl) (F 9 (by kernel_rfl) 12 rfl)
      clear F hF hz
      go_simp
      rw [if_neg (by omega), ← Hpa.out]
      go_simp
      exact hK (.string pa) _ hJ (Below.refl _ _) rfl
    refine Inv.from_cons _ _ _ _ rfl (fun _ a w hJ hF F K hK => ?_) ?_
    · have hz : a.tmps.size = 18 := hF.size
      have e1 : a.tmps[1]? = some (.pointer (some ⟨b, 0, none⟩)) := Inv2.some_slot (by rw [hz]; exact Nat.le_of_ble_eq_true rfl) (hF.slot 1 (by kernel_rfl))
      clear F hF hz
      go_simp
      exact hK (.pointer (some ⟨b, 3, none⟩)) _ hJ (Below.refl _ _) rfl
    refine Inv.from_cons _ _ _ _ rfl (fun _ a w hJ hF F K hK => ?_) ?_
    · have hz : a.tmps.size = 18 := hF.size
      have e14 : a.tmps[14]? = some (.pointer (some ⟨b, 3, none⟩)) := Inv2.some_slot (by rw [hz]; exact Nat.le_of_ble_eq_true rfl) (F 11 (by kernel_rfl) 14 rfl)
      clear F hF hz
      obtain ⟨d0, d1, d2, d3, d4, d5⟩ := HC.out _ hJ
      go_simp
      exact hK (.agg #[.string t.u.k, .string t.u.i, .string t.u.r]) _ hJ (Below.refl _ _) rfl
    refine Inv.from_cons _ _ _ _ rfl (fun _ a w hJ hF F K hK => ?_) ?_
    · have hz : a.tmps.size = 18 := hF.size
      have e15 : a.tmps[15]? = some (.agg #[.string t.u.k, .string t.u.i, .string t.u.r]) := Inv2.some_slot (by rw [hz]; exact Nat.le_of_ble_eq_true rfl) (F 12 (by kernel_rfl) 15 rfl)
      clear F hF hz
      have hh := HU.out w
      go_simp
      (with_reducible refine hh.mono ?_)
      rintro e' w' ⟨rfl, hb⟩
      go_simp
      exact hK _ _ (Below.step hJ hb) hb rfl
    refine Inv.from_cons _ _ _ _ rfl (fun _ a w hJ hF F K hK => ?_) ?_
    · have hz : a.tmps.size = 18 := hF.size
      have e13 : a.tmps[13]? = some (.string (pa)) := Inv2.some_slot (by rw [hz]; exact Nat.le_of_ble_eq_true rfl) (F 10 (by kernel_rfl) 13 rfl)
      have e16 : a.tmps[16]? = some (.string (us)) := Inv2.some_slot (by rw [hz]; exact Nat.le_of_ble_eq_true rfl) (F 13 (by kernel_rfl) 16 rfl)
      clear F hF hz
      go_simp
      rw [if_neg (by omega), ← Hpe.out]
      go_simp
      exact hK (.string pe) _ hJ (Below.refl _ _) rfl
    refine Inv.from_skip _ _ _ _ rfl ?_
    exact Inv.from_end _ _ _ _ (by decide +kernel)
  · intro o ho a w hJ hF F K hK
    injection (show some _ = some o from ho) with ho
    subst ho
    obtain ⟨f, hf⟩ : ∃ f : Nat → Value, ∀ i, a.tmps.getD i undef = f i := ⟨_, fun _ => rfl⟩
    have g1 : f 1 = (.pointer (some ⟨b, 0, none⟩)) := (hf 1).symm.trans (hF.slot 1 (by kernel_rfl))
    have g3 : f 3 = (.pointer (some ⟨b, 0, none⟩)) := (hf 3).symm.trans (F 0 (by decide) 3 rfl)
    have g4 : f 4 = (.string (t.k)) := (hf 4).symm.trans (F 1 (by decide) 4 rfl)
    have g5 : f 5 = (.string (p2)) := (hf 5).symm.trans (F 2 (by decide) 5 rfl)
    have g6 : f 6 = (.pointer (some ⟨b, 1, none⟩)) := (hf 6).symm.trans (F 3 (by decide) 6 rfl)
    have g7 : f 7 = (.string (t.i)) := (hf 7).symm.trans (F 4 (by decide) 7 rfl)
    have g8 : f 8 = (.string (p5)) := (hf 8).symm.trans (F 5 (by decide) 8 rfl)
    have g9 : f 9 = (.string (p6)) := (hf 9).symm.trans (F 6 (by decide) 9 rfl)
    have g10 : f 10 = (.pointer (some ⟨b, 2, none⟩)) := (hf 10).symm.trans (F 7 (by decide) 10 rfl)
    have g11 : f 11 = (.string (t.r)) := (hf 11).symm.trans (F 8 (by decide) 11 rfl)
    have g12 : f 12 = (.string (p9)) := (hf 12).symm.trans (F 9 (by decide) 12 rfl)
    have g13 : f 13 = (.string (pa)) := (hf 13).symm.trans (F 10 (by decide) 13 rfl)
    have g14 : f 14 = (.pointer (some ⟨b, 3, none⟩)) := (hf 14).symm.trans (F 11 (by decide) 14 rfl)
    have g15 : f 15 = (.agg #[.string t.u.k, .string t.u.i, .string t.u.r]) := (hf 15).symm.trans (F 12 (by decide) 15 rfl)
    have g16 : f 16 = (.string (us)) := (hf 16).symm.trans (F 13 (by decide) 16 rfl)
    have g17 : f 17 = (.string (pe)) := (hf 17).symm.trans (F 14 (by decide) 17 rfl)
    have ha := Frames.frame (show a.tmps.size = 18 from hF.size) hF.defers hf (l := [f 0, f 1, f 2, f 3, f 4, f 5, f 6, f 7, f 8, f 9, f 10, f 11, f 12, f 13, f 14, f 15, f 16, f 17]) rfl
    simp only [g1, g3, g4, g5, g6, g7, g8, g9, g10, g11, g12, g13, g14, g15, g16, g17] at ha
    clear F hF hf g1 g3 g4 g5 g6 g7 g8 g9 g10 g11 g12 g13 g14 g15 g16 g17
    subst ha
    have HB := Lib.hid (HB1.out.trans (hJ.mono HB1.out.size))
    clear hJ
    go_simp
    refine hK _ _ ?_
    clear hK
    go_wp2_with fail
    go_ret
    exact ⟨ret_str HS.out, HB.out⟩
  · intro hq; exact absurd hq (by decide +kernel)
end Go.Proofs.Ytpiojnphbanggaa.TupleRef
