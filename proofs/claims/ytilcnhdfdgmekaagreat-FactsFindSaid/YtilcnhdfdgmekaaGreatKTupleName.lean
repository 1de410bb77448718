/- The code's names and objects' names: a text, rune by rune. -/
import Derived.Test.YtilcnhdfdgmekaaGreatKTupleRefN
import Derived.Laws.RangeAny
import Derived.Lib.OthersKept
namespace Go.Proofs.YtilcnhdfdgmekaaGreat.TupleName
open Go.RowKit Base KeyPlain TuplePlain TupleRef

def lowN (r : Nat) : Bool := decide (97 ≤ r) && decide (r ≤ 122)
def digN (r : Nat) : Bool := decide (48 ≤ r) && decide (r ≤ 57)
set_option maxHeartbeats 1600000 in
theorem letter_any (r : Nat) (w : World) :
    Calls Tryz.prog 75 #[.int .i32 (r : Int)] w fun e w' => e = .returned (.bool (lowN r)) ∧ w = w' := by
  unfold lowN
  go_enter Tryz.func75, Tryz.ntmps75
  by_cases h1 : 97 ≤ r
  · have i1 : (97 : Int) ≤ (r : Int) := by omega
    by_cases h2 : r ≤ 122
    · have i2 : (r : Int) ≤ (122 : Int) := by omega
      have HF := Lib.hid (show (decide (97 ≤ r) && decide (r ≤ 122)) = true from by simp [h1, h2])
      clear h1 h2
      go_wp2_with fail
      go_ret
      exact ⟨ret_bool HF.out.symm, rfl⟩
    · have i2 : ¬ (r : Int) ≤ (122 : Int) := by omega
      have HF := Lib.hid (show (decide (97 ≤ r) && decide (r ≤ 122)) = false from by simp [h2])
      clear h1 h2
      go_wp2_with fail
      go_ret
      exact ⟨ret_bool HF.out.symm, rfl⟩
  · have i1 : ¬ (97 : Int) ≤ (r : Int) := by omega
    have HF := Lib.hid (show (decide (97 ≤ r) && decide (r ≤ 122)) = false from by simp [h1])
    clear h1
    go_wp2_with fail
    go_ret
    exact ⟨ret_bool HF.out.symm, rfl⟩
set_option maxHeartbeats 1600000 in
theorem digit_any (r : Nat) (w : World) :
    Calls Tryz.prog 76 #[.int .i32 (r : Int)] w fun e w' => e = .returned (.bool (digN r)) ∧ w = w' := by
  unfold digN
  go_enter Tryz.func76, Tryz.ntmps76
  by_cases h1 : 48 ≤ r
  · have i1 : (48 : Int) ≤ (r : Int) := by omega
    by_cases h2 : r ≤ 57
    · have i2 : (r : Int) ≤ (57 : Int) := by omega
      have HF := Lib.hid (show (decide (48 ≤ r) && decide (r ≤ 57)) = true from by simp [h1, h2])
      clear h1 h2
      go_wp2_with fail
      go_ret
      exact ⟨ret_bool HF.out.symm, rfl⟩
    · have i2 : ¬ (r : Int) ≤ (57 : Int) := by omega
      have HF := Lib.hid (show (decide (48 ≤ r) && decide (r ≤ 57)) = false from by simp [h2])
      clear h1 h2
      go_wp2_with fail
      go_ret
      exact ⟨ret_bool HF.out.symm, rfl⟩
  · have i1 : ¬ (48 : Int) ≤ (r : Int) := by omega
    have HF := Lib.hid (show (decide (48 ≤ r) && decide (r ≤ 57)) = false from by simp [h1])
    clear h1
    go_wp2_with fail
    go_ret
    exact ⟨ret_bool HF.out.symm, rfl⟩
def nameF (k r : Nat) : Bool := lowN r || (decide (0 < k) && (digN r || decide (r = 95)))
def idF (_k r : Nat) : Bool := lowN r || digN r || decide (r = 45) || decide (r = 95) || decide (r = 46)
set_option maxHeartbeats 1600000 in
theorem name1_any (k r : Nat) (w : World) :
    Calls Tryz.prog 74 #[.int .i64 (k : Int), .int .i32 (r : Int)] w fun e w' => e = .returned (.bool (nameF k r)) ∧ w = w' := by
  have c1 := fun w => letter_any r w
  have c2 := fun w => digit_any r w
  unfold nameF
  generalize lowN r = b1 at *
  generalize digN r = b2 at *
  go_enter Tryz.func74, Tryz.ntmps74
  cases b1 with
  | true =>
    go_wp2_with fail
    (with_reducible refine (c1 _).mono ?_)
    rintro e w' ⟨rfl, rfl⟩
    go_wp2_with fail
    go_ret
    exact ⟨ret_bool (by simp), rfl⟩
  | false =>
    by_cases h0 : 0 < k
    · have i0 : (0 : Int) < (k : Int) := by omega
      cases b2 with
      | true =>
        have HF := Lib.hid (show (false || (decide (0 < k) && (true || decide (r = 95)))) = true from by simp [h0])
        clear h0
        go_wp2_with fail
        (with_reducible refine (c1 _).mono ?_)
        rintro e w' ⟨rfl, rfl⟩
        go_wp2_with fail
        (with_reducible refine (c2 _).mono ?_)
        rintro e w' ⟨rfl, rfl⟩
        go_wp2_with fail
        go_ret
        exact ⟨ret_bool HF.out.symm, rfl⟩
      | false =>
        have e5 : ((r : Int) == 95) = decide (r = 95) := by rw [Bool.eq_iff_iff]; simp; omega
        have HF := Lib.hid (show (false || (decide (0 < k) && (false || decide (r = 95)))) = ((r : Int) == 95) from by simp only [e5, h0]; simp)
        clear h0 e5
        go_wp2_with fail
        (with_reducible refine (c1 _).mono ?_)
        rintro e w' ⟨rfl, rfl⟩
        go_wp2_with fail
        (with_reducible refine (c2 _).mono ?_)
        rintro e w' ⟨rfl, rfl⟩
        go_wp2_with fail
        go_ret
        exact ⟨ret_bool HF.out.symm, rfl⟩
    · have i0 : ¬ (0 : Int) < (k : Int) := by omega
      have HF := Lib.hid (show (false || (decide (0 < k) && (b2 || decide (r = 95)))) = false from by simp [h0])
      clear h0
      go_wp2_with fail
      (with_reducible refine (c1 _).mono ?_)
      rintro e w' ⟨rfl, rfl⟩
      go_wp2_with fail
      go_ret
      exact ⟨ret_bool HF.out.symm, rfl⟩
set_option maxHeartbeats 1600000 in
theorem id1_any (k r : Nat) (w : World) :
    Calls Tryz.prog 87 #[.int .i64 (k : Int), .int .i32 (r : Int)] w fun e w' => e = .returned (.bool (idF k r)) ∧ w = w' := by
  have c1 := fun w => letter_any r w
  have c2 := fun w => digit_any r w
  unfold idF
  generalize lowN r = b1 at *
  generalize digN r = b2 at *
  go_enter Tryz.func87, Tryz.ntmps87
  cases b1 with
  | true =>
    go_wp2_with fail
    (with_reducible refine (c1 _).mono ?_)
    rintro e w' ⟨rfl, rfl⟩
    go_wp2_with fail
    go_ret
    exact ⟨ret_bool (by simp), rfl⟩
  | false =>
    cases b2 with
    | true =>
      go_wp2_with fail
      (with_reducible refine (c1 _).mono ?_)
      rintro e w' ⟨rfl, rfl⟩
      go_wp2_with fail
      (with_reducible refine (c2 _).mono ?_)
      rintro e w' ⟨rfl, rfl⟩
      go_wp2_with fail
      go_ret
      exact ⟨ret_bool (by simp), rfl⟩
    | false =>
      by_cases h4 : r = 45
      · have i4 : ((r : Int) == 45) = true := by rw [beq_iff_eq]; omega
        have HG4 := Lib.hid (show (false || false || decide (r = 45) || decide (r = 95) || decide (r = 46)) = true from by simp [h4])
        clear h4
        go_wp2_with fail
        (with_reducible refine (c1 _).mono ?_)
        rintro e w' ⟨rfl, rfl⟩
        go_wp2_with fail
        (with_reducible refine (c2 _).mono ?_)
        rintro e w' ⟨rfl, rfl⟩
        go_wp2_with fail
        go_ret
        exact ⟨ret_bool HG4.out.symm, rfl⟩
      · have i4 : ((r : Int) == 45) = false := by rw [beq_eq_false_iff_ne]; omega
        by_cases h5 : r = 95
        · have i5 : ((r : Int) == 95) = true := by rw [beq_iff_eq]; omega
          have HG5 := Lib.hid (show (false || false || decide (r = 45) || decide (r = 95) || decide (r = 46)) = true from by simp [h5])
          clear h5
          go_wp2_with fail
          (with_reducible refine (c1 _).mono ?_)
          rintro e w' ⟨rfl, rfl⟩
          go_wp2_with fail
          (with_reducible refine (c2 _).mono ?_)
          rintro e w' ⟨rfl, rfl⟩
          go_wp2_with fail
          go_ret
          exact ⟨ret_bool HG5.out.symm, rfl⟩
        · have i5 : ((r : Int) == 95) = false := by rw [beq_eq_false_iff_ne]; omega
          have HG := Lib.hid (show (false || false || decide (r = 45) || decide (r = 95) || decide (r = 46)) = ((r : Int) == 46) from by rw [Bool.eq_iff_iff]; simp; omega)
          clear h4 h5
          go_wp2_with fail
          (with_reducible refine (c1 _).mono ?_)
          rintro e w' ⟨rfl, rfl⟩
          go_wp2_with fail
          (with_reducible refine (c2 _).mono ?_)
          rintro e w' ⟨rfl, rfl⟩
          go_wp2_with fail
          go_ret
          exact ⟨ret_bool HG.out.symm, rfl⟩
/-! a text, rune by rune -/
def allF (f : Nat → Nat → Bool) : Nat → List UInt8 → Bool
  | _, [] => true
  | k, c :: l => f k c.toNat && allF f (k + 1) l
theorem dec_f (f : Nat → Nat → Bool) (hf : ∀ k r, 128 ≤ r → f k r = false) (s : ByteArray) (k : Nat) (h : k < s.size) :
    f k (Utf8.decode s k).1 = f k s[k].toNat ∧ (f k s[k].toNat = true → (Utf8.decode s k).2 = 1) := by
  by_cases ha : s[k].toNat < 128
  · rw [decode_ascii s k h ha]; exact ⟨rfl, fun _ => rfl⟩
  · have h1 := hf k _ (decode_high s k h (by omega)).1
    have h2 := hf k s[k].toNat (by omega)
    rw [h1, h2]
    exact ⟨rfl, fun q => Bool.noConfusion q⟩
theorem name_hi (k r : Nat) (h : 128 ≤ r) : nameF k r = false := by
  simp only [nameF, lowN, digN, Bool.or_eq_false_iff, Bool.and_eq_false_iff, decide_eq_false_iff_not]; omega
theorem id_hi (k r : Nat) (h : 128 ≤ r) : idF k r = false := by
  simp only [idF, lowN, digN, Bool.or_eq_false_iff, Bool.and_eq_false_iff, decide_eq_false_iff_not]; omega
set_option maxHeartbeats 3200000 in
theorem name_consists (s : ByteArray) (m : Nat) (w : World) (hs : s.size ≤ 4611686018427387904) :
    Calls Tryz.prog 73 #[.string s, .int .i64 (m : Int), .func (.func 74) #[] #[]] w fun e w' => e = .returned (.bool (decide (1 ≤ s.size) && (decide (s.size ≤ m) && allF nameF 0 (bl s)))) ∧ Below w.heap.size w w' := by
  go_enter Tryz.func73, Tryz.ntmps73
  by_cases h1 : 1 ≤ s.size
  · have i1 : ¬ (s.size : Int) < (1 : Int) := by omega
    by_cases h2 : s.size ≤ m
    · have i2 : ¬ (m : Int) < (s.size : Int) := by omega
      have HE := Lib.hid (show (decide (1 ≤ s.size) && (decide (s.size ≤ m) && allF nameF 0 (bl s))) = allF nameF 0 (bl s) from by simp [h1, h2])
      clear h1 h2
      go_wp2_with fail
      go_loopw [7, 8] (fun _ _ wr => ∃ k : Nat, k ≤ s.size ∧ wr = w.iter s k ∧ allF nameF 0 (bl s) = allF nameF k ((bl s).drop k)) (fun _ _ wr => s.size - wr.iterPos w.heap.size)
      case atStart => exact ⟨0, by omega, rfl, rfl⟩
      case round =>
        obtain ⟨k, hk, rfl, hp⟩ := hrel
        have HB := Lib.hid (show Below w.heap.size w (w.iter s k) from al w _)
        by_cases hlt : k < s.size
        · have hd := dec_f nameF name_hi s k hlt
          rw [show (bl s).drop k = s[k] :: (bl s).drop (k + 1) from ba_drop_cons s k hlt] at hp
          simp only [allF] at hp
          obtain ⟨hd1, hd2⟩ := hd
          rw [← hd1] at hp hd2
          have hnx : ∀ ty, (Instr.next (.pointer (some ⟨w.heap.size, 0, none⟩)) true ty).run Tryz.prog (w.iter s k) = _ := fun ty => run_next_any w s k ty hlt
          have c1 := fun w => name1_any k (Utf8.decode s k).1 w
          generalize (Utf8.decode s k).1 = r at *
          generalize hwd : (Utf8.decode s k).2 = wd at *
          clear hd1 hwd
          generalize nameF k r = b at *
          cases b with
          | true =>
            have h3 : wd = 1 := hd2 rfl
            subst h3
            rw [Bool.true_and] at hp
            have HP := Lib.hid hp
            clear hp hd2
            go_wp2_with fail
            (with_reducible refine (c1 _).mono ?_)
            rintro e w' ⟨rfl, rfl⟩
            go_wp2_with fail
            go_roundw
            case rel => exact ⟨k + 1, by omega, rfl, HP.out⟩
            case measure => simp; omega
          | false =>
            rw [Bool.false_and] at hp
            have HP := Lib.hid hp
            clear hp hd2
            go_wp2_with fail
            (with_reducible refine (c1 _).mono ?_)
            rintro e w' ⟨rfl, rfl⟩
            go_wp2_with fail
            go_ret
            exact ⟨ret_bool (by rw [HE.out, HP.out]), al w _⟩
        · have hnx : ∀ ty, (Instr.next (.pointer (some ⟨w.heap.size, 0, none⟩)) true ty).run Tryz.prog (w.iter s k) = _ := fun ty => run_next_end w s k ty hlt
          rw [List.drop_of_length_le (show (bl s).length ≤ k by rw [bl_size]; omega)] at hp
          have HP := Lib.hid hp
          clear hp
          go_wp2_with fail
          go_ret
          exact ⟨ret_bool (by rw [HE.out, HP.out]; rfl), HB.out⟩
    · have i2 : (m : Int) < (s.size : Int) := by omega
      have HE := Lib.hid (show (decide (1 ≤ s.size) && (decide (s.size ≤ m) && allF nameF 0 (bl s))) = false from by simp [h2])
      clear h1 h2
      go_wp2_with fail
      go_ret
      exact ⟨ret_bool HE.out.symm, Below.refl _ _⟩
  · have i1 : (s.size : Int) < (1 : Int) := by omega
    have HE := Lib.hid (show (decide (1 ≤ s.size) && (decide (s.size ≤ m) && allF nameF 0 (bl s))) = false from by simp [h1])
    clear h1
    go_wp2_with fail
    go_ret
    exact ⟨ret_bool HE.out.symm, Below.refl _ _⟩
set_option maxHeartbeats 3200000 in
theorem id_consists (s : ByteArray) (m : Nat) (w : World) (hs : s.size ≤ 4611686018427387904) :
    Calls Tryz.prog 73 #[.string s, .int .i64 (m : Int), .func (.func 87) #[] #[]] w fun e w' => e = .returned (.bool (decide (1 ≤ s.size) && (decide (s.size ≤ m) && allF idF 0 (bl s)))) ∧ Below w.heap.size w w' := by
  go_enter Tryz.func73, Tryz.ntmps73
  by_cases h1 : 1 ≤ s.size
  · have i1 : ¬ (s.size : Int) < (1 : Int) := by omega
    by_cases h2 : s.size ≤ m
    · have i2 : ¬ (m : Int) < (s.size : Int) := by omega
      have HE := Lib.hid (show (decide (1 ≤ s.size) && (decide (s.size ≤ m) && allF idF 0 (bl s))) = allF idF 0 (bl s) from by simp [h1, h2])
      clear h1 h2
      go_wp2_with fail
      go_loopw [7, 8] (fun _ _ wr => ∃ k : Nat, k ≤ s.size ∧ wr = w.iter s k ∧ allF idF 0 (bl s) = allF idF k ((bl s).drop k)) (fun _ _ wr => s.size - wr.iterPos w.heap.size)
      case atStart => exact ⟨0, by omega, rfl, rfl⟩
      case round =>
        obtain ⟨k, hk, rfl, hp⟩ := hrel
        have HB := Lib.hid (show Below w.heap.size w (w.iter s k) from al w _)
        by_cases hlt : k < s.size
        · have hd := dec_f idF id_hi s k hlt
          rw [show (bl s).drop k = s[k] :: (bl s).drop (k + 1) from ba_drop_cons s k hlt] at hp
          simp only [allF] at hp
          obtain ⟨hd1, hd2⟩ := hd
          rw [← hd1] at hp hd2
          have hnx : ∀ ty, (Instr.next (.pointer (some ⟨w.heap.size, 0, none⟩)) true ty).run Tryz.prog (w.iter s k) = _ := fun ty => run_next_any w s k ty hlt
          have c1 := fun w => id1_any k (Utf8.decode s k).1 w
          generalize (Utf8.decode s k).1 = r at *
          generalize hwd : (Utf8.decode s k).2 = wd at *
          clear hd1 hwd
          generalize idF k r = b at *
          cases b with
          | true =>
            have h3 : wd = 1 := hd2 rfl
            subst h3
            rw [Bool.true_and] at hp
            have HP := Lib.hid hp
            clear hp hd2
            go_wp2_with fail
            (with_reducible refine (c1 _).mono ?_)
            rintro e w' ⟨rfl, rfl⟩
            go_wp2_with fail
            go_roundw
            case rel => exact ⟨k + 1, by omega, rfl, HP.out⟩
            case measure => simp; omega
          | false =>
            rw [Bool.false_and] at hp
            have HP := Lib.hid hp
            clear hp hd2
            go_wp2_with fail
            (with_reducible refine (c1 _).mono ?_)
            rintro e w' ⟨rfl, rfl⟩
            go_wp2_with fail
            go_ret
            exact ⟨ret_bool (by rw [HE.out, HP.out]), al w _⟩
        · have hnx : ∀ ty, (Instr.next (.pointer (some ⟨w.heap.size, 0, none⟩)) true ty).run Tryz.prog (w.iter s k) = _ := fun ty => run_next_end w s k ty hlt
          rw [List.drop_of_length_le (show (bl s).length ≤ k by rw [bl_size]; omega)] at hp
          have HP := Lib.hid hp
          clear hp
          go_wp2_with fail
          go_ret
          exact ⟨ret_bool (by rw [HE.out, HP.out]; rfl), HB.out⟩
    · have i2 : (m : Int) < (s.size : Int) := by omega
      have HE := Lib.hid (show (decide (1 ≤ s.size) && (decide (s.size ≤ m) && allF idF 0 (bl s))) = false from by simp [h2])
      clear h1 h2
      go_wp2_with fail
      go_ret
      exact ⟨ret_bool HE.out.symm, Below.refl _ _⟩
  · have i1 : (s.size : Int) < (1 : Int) := by omega
    have HE := Lib.hid (show (decide (1 ≤ s.size) && (decide (s.size ≤ m) && allF idF 0 (bl s))) = false from by simp [h1])
    clear h1
    go_wp2_with fail
    go_ret
    exact ⟨ret_bool HE.out.symm, Below.refl _ _⟩
theorem nameF_zero (c : UInt8) : nameF 0 c.toNat = low c := by
  rw [Bool.eq_iff_iff, low_iff]; simp [nameF, lowN]
theorem nameF_succ (k : Nat) (c : UInt8) : nameF (k + 1) c.toNat = nch c := by
  rw [Bool.eq_iff_iff, nch_iff]; simp [nameF, lowN, digN]
theorem idF_ich (k : Nat) (c : UInt8) : idF k c.toNat = ich c := by
  rw [Bool.eq_iff_iff, ich_iff]; simp [idF, lowN, digN]; omega
theorem allF_name (k : Nat) (l : List UInt8) : allF nameF (k + 1) l = l.all nch := by
  induction l generalizing k with
  | nil => rfl
  | cons c l ih => simp only [allF, List.all_cons, ih, nameF_succ]
theorem allF_id (k : Nat) (l : List UInt8) : allF idF k l = l.all ich := by
  induction l generalizing k with
  | nil => rfl
  | cons c l ih => simp only [allF, List.all_cons, ih, idF_ich]
theorem name_told (s : ByteArray) : (decide (1 ≤ s.size) && (decide (s.size ≤ 12) && allF nameF 0 (bl s))) = nameL (bl s) := by
  rw [← bl_size]
  cases bl s with
  | nil => rfl
  | cons c l =>
    simp only [allF, nameL, allF_name, nameF_zero, List.length_cons]
    rw [Bool.eq_iff_iff]
    simp only [Bool.and_eq_true, decide_eq_true_eq]
    constructor
    · rintro ⟨_, a, b, c⟩; exact ⟨⟨b, c⟩, by omega⟩
    · rintro ⟨⟨b, c⟩, a⟩; exact ⟨by omega, by omega, b, c⟩
theorem id_told (s : ByteArray) : (decide (1 ≤ s.size) && (decide (s.size ≤ 16) && allF idF 0 (bl s))) = idL (bl s) := by
  rw [← bl_size, allF_id, id_pre]
  cases decide (1 ≤ (bl s).length) <;> cases decide ((bl s).length ≤ 16) <;> cases (bl s).all ich <;> rfl
theorem name_wide (s : ByteArray) (w : World) (hs : s.size ≤ 4611686018427387904) : Calls Tryz.prog 53 #[.string s] w fun e w' => e = .returned (.bool (nameL (bl s))) ∧ Below w.heap.size w w' := by
  have hc := name_consists s 12 w hs
  rw [name_told, show ((12 : Nat) : Int) = 12 from rfl] at hc
  generalize nameL (bl s) = b at *
  go_enter Tryz.func53, Tryz.ntmps53
  go_wp2_with fail
  (with_reducible refine hc.mono ?_)
  rintro e w' ⟨rfl, hb⟩
  go_wp2_with fail
  go_ret
  exact ⟨rfl, hb⟩
theorem name_any (s : ByteArray) (w : World) (hs : s.size ≤ 4611686018427387904) : Calls Tryz.prog 53 #[.string s] w fun e w' => e = .returned (.bool (nameL (bl s))) ∧ Below w.heap.size w w' := name_wide s w (by omega)
theorem id_any (s : ByteArray) (w : World) (hs : s.size ≤ 4611686018427387904) : Calls Tryz.prog 77 #[.string s] w fun e w' => e = .returned (.bool (idL (bl s))) ∧ Below w.heap.size w w' := by
  have hc := id_consists s 16 w hs
  rw [id_told, show ((16 : Nat) : Int) = 16 from rfl] at hc
  generalize idL (bl s) = b at *
  go_enter Tryz.func77, Tryz.ntmps77
  go_wp2_with fail
  (with_reducible refine hc.mono ?_)
  rintro e w' ⟨rfl, hb⟩
  go_wp2_with fail
  go_ret
  exact ⟨rfl, hb⟩
end Go.Proofs.YtilcnhdfdgmekaaGreat.TupleName
