/- Contracts of write and read: a number as four bytes. -/
import Derived.Test.YtcnblgienombeaaPageSmall
import Derived.Laws.BitsAllLaws
namespace Go.Proofs.Ytcnblgienombeaa.PageBytes
open Go.RowKit Base PagePlain PageSmall SumMem

/-- block b is the bytes l, and may be written -/
abbrev Arr (w : World) (b : Nat) (t : TypeId) (l : List UInt8) : Prop := At w b t (bv l).toArray
theorem Arr.cell {w : World} {b : Nat} {t : TypeId} {l : List UInt8} (h : Arr w b t l) (k : Nat) (hk : k < l.length) : w.cell? ⟨b, k, none⟩ = some (.int .u8 (l[k].toNat : Int)) := by
  rw [At.cell h]; simp [bv, hk]
theorem Arr.set {w : World} {b : Nat} {t : TypeId} {l : List UInt8} (h : Arr w b t l) (k : Nat) (x : UInt8) : Arr (w.setCell ⟨b, k, none⟩ (.int .u8 (x.toNat : Int))) b t (l.set k x) := by
  have := At.set h k (.int .u8 (x.toNat : Int))
  unfold Arr
  have e : (bv l).toArray.setIfInBounds k (.int .u8 (x.toNat : Int)) = (bv (l.set k x)).toArray := by
    simp [bv, List.map_set]
  rw [← e]; exact this
theorem Arr.row {w : World} {b : Nat} {t : TypeId} {l : List UInt8} (h : Arr w b t l) : Row w w.heap.size (some ⟨b, 0, none⟩) (bv l) := fun k v hv => by
  refine ⟨_, rfl, At.lt h, ?_⟩
  rw [add_zero_block, At.cell h]
  simpa using hv
theorem Arr.rowX {w : World} {b g : Nat} {t : TypeId} {l : List UInt8} (h : Arr w b t l) (hg : b ≠ g) : SumOf.RowX w g (some ⟨b, 0, none⟩) (bv l) := fun k v hv => by
  refine ⟨_, rfl, At.lt h, hg, ?_⟩
  rw [add_zero_block, At.cell h]
  simpa using hv
theorem Arr.only {w w' : World} {b g : Nat} {t : TypeId} {l : List UInt8} (h : Arr w b t l) (ho : Only g w w') (hg : b ≠ g) : Arr w' b t l :=
  (ho.block b (At.lt h) (fun e => hg (Option.some.inj e))).trans h
theorem Arr.below {w w' : World} {b : Nat} {t : TypeId} {l : List UInt8} (h : Arr w b t l) (hb : Below w.heap.size w w') : Arr w' b t l := (hb.block b (At.lt h)).trans h

/-- the lowest k bytes of n, put from the last place of four on -/
def put4 (l : List UInt8) (o n : Nat) : Nat → List UInt8
  | 0 => l
  | k + 1 => (put4 l o n k).set (o + (3 - k)) (b8 (n / 256 ^ k))
theorem put4_len (l : List UInt8) (o n k : Nat) : (put4 l o n k).length = l.length := by
  induction k with
  | zero => rfl
  | succ k ih => simp [put4, ih]
theorem put4_all (l : List UInt8) (o n : Nat) (h : o + 4 ≤ l.length) : put4 l o n 4 = splice l o (be4 n) := by
  have e1 : l = l.take o ++ (l.drop o) := (List.take_append_drop o l).symm
  have h2 : 4 ≤ (l.drop o).length := by rw [List.length_drop]; omega
  have h3 : (l.take o).length = o := by rw [List.length_take]; omega
  have h4 : splice l o (be4 n) = l.take o ++ (be4 n ++ (l.drop o).drop 4) := by
    unfold splice; rw [be4_len, List.drop_drop, List.append_assoc]
  rw [h4]
  generalize l.drop o = r at *
  generalize l.take o = a at *
  subst e1
  subst h3
  match r, h2 with
  | x :: y :: z :: t :: r, _ =>
    simp only [put4]
    simp [List.set_append_right, be4]

set_option maxRecDepth 100000 in
set_option maxHeartbeats 800000 in
theorem write_any (w : World) (b o m c n : Nat) (t : TypeId) (l : List UInt8) (h : Arr w b t l) (ho : o + 4 ≤ l.length) (hm : 4 ≤ m) (hn : n < 4294967296) :
    Calls Try.prog 31 #[.slice (some ⟨b, o, none⟩) m c, .int .u32 n] w fun e w' => e = .returned (.tuple #[]) ∧ Arr w' b t (splice l o (be4 n)) ∧ Only b w w' := by
  rw [← put4_all l o n ho]
  go_enter Try.func31, Try.ntmps31
  go_wp2_with fail
  go_loopw [1, 5] (fun v i wr' => ∃ k : Nat, k ≤ 4 ∧ i = .int .i64 k ∧ v = .int .u32 ((n / 256 ^ k : Nat) : Int) ∧ Arr wr' b t (put4 l o n k) ∧ Only b w wr') (fun _ i _ => 4 - (intOf i).toNat)
  case atStart => exact ⟨0, by omega, rfl, by simp, h, Only.refl w b⟩
  case round =>
    obtain ⟨k, hk, rfl, rfl, ha, hb⟩ := hrel
    by_cases hlt : k < 4
    · have hk3 : o + (3 - k) < (put4 l o n k).length := by rw [put4_len]; omega
      have hc := ha.cell (o + (3 - k)) hk3
      have hf := At.frozen ha (o + (3 - k))
      have HS := Lib.hid (ha.set (o + (3 - k)) (b8 (n / 256 ^ k)))
      have HD := Lib.hid (show n / 256 ^ (k + 1) = n / 256 ^ k / 256 by rw [Nat.pow_succ, Nat.div_div_eq_div_mul])
      have HW := Lib.hid (show put4 l o n (k + 1) = (put4 l o n k).set (o + (3 - k)) (b8 (n / 256 ^ k)) from rfl)
      have HB := Lib.hid (show ((b8 (n / 256 ^ k)).toNat : Int) = ((n / 256 ^ k : Nat) : Int) % 256 by rw [b8_nat]; omega)
      have hnk : n / 256 ^ k < 4294967296 := Nat.lt_of_le_of_lt (Nat.div_le_self _ _) hn
      generalize (put4 l o n k)[o + (3 - k)] = x at *
      generalize n / 256 ^ k = q at *
      go_wp2_with fail
      go_roundw
      case rel =>
        refine ⟨k + 1, by omega, by go_num, by rw [HD.out]; go_num, ?_, Only.set hb _ _⟩
        have := HS.out
        rw [HB.out] at this
        rw [HW.out]
        exact this
      case measure => simp [intOf]; omega
    · obtain rfl : k = 4 := by omega
      go_wp2_with fail
      go_returns
      exact ⟨rfl, ha, hb⟩
theorem or_word (m : Nat) (c : UInt8) (hm : m < 16777216) : bits .or .u32 ((m : Int) * 256) (c.toNat : Int) = ((m * 256 + c.toNat : Nat) : Int) := by
  have hc : c.toNat < 256 := UInt8.toNat_lt c
  have h := Nat.shiftLeft_add_eq_or_of_lt (UInt8.toNat_lt c) m
  simp only [Nat.shiftLeft_eq] at h
  rw [show ((m : Int) * 256) = ((m * 256 : Nat) : Int) by omega, u32_or_nat _ _ (by omega) (by omega), ← h]
/-- the number of the first k bytes -/
def rdk (l : List UInt8) : Nat → Nat
  | 0 => 0
  | k + 1 => rdk l k * 256 + gt l k
theorem rdk_lt (l : List UInt8) (k : Nat) : rdk l k < 256 ^ k := by
  induction k with
  | zero => simp [rdk]
  | succ k ih =>
    have := gt_lt l k
    simp only [rdk, Nat.pow_succ]
    omega
theorem rdk_all (l : List UInt8) : rdk l 4 = rd4 l 0 := by simp [rdk, rd4]
set_option maxHeartbeats 800000 in
theorem read_any (w : World) (A : Option Addr) (m c : Nat) (l : List UInt8) (hm : m = l.length) (h : Row w w.heap.size A (bv l)) (hl : 4 ≤ l.length) (hc : l.length ≤ c) :
    Calls Try.prog 35 #[.slice A m c] w fun e w' => e = .returned (.int .u32 (rd4 l 0 : Nat)) ∧ w = w' := by
  subst hm
  rw [← rdk_all]
  go_enter Try.func35, Try.ntmps35
  go_wp2_with fail
  go_loop [3, 9] (fun v i => ∃ k : Nat, k ≤ 4 ∧ i = .int .i64 k ∧ v = .int .u32 (rdk l k : Nat)) (fun _ i => 4 - (intOf i).toNat)
  case atStart => exact ⟨0, by omega, rfl, rfl⟩
  case round =>
    obtain ⟨k, hk, rfl, rfl⟩ := hrel
    by_cases hlt : k < 4
    · have HS := Lib.hid (show rdk l (k + 1) = rdk l k * 256 + l[k].toNat by rw [← gt_get l k (by omega)]; rfl)
      obtain ⟨ad, rfl, hb, hcell⟩ := h.get k (by rw [bv_len]; omega)
      simp only [bv, List.getElem_map] at hcell
      have hlt2 : rdk l k < 16777216 := by
        have h1 := rdk_lt l k
        have h2 : 256 ^ k ≤ 256 ^ 3 := Nat.pow_le_pow_right (by omega) (by omega)
        omega
      have HO := Lib.hid (or_word (rdk l k) l[k] hlt2)
      have hx8 := UInt8.toNat_lt l[k]
      generalize rdk l k = r at *
      generalize l[k] = x at *
      go_wp2_with fail
      go_round
      case rel => exact ⟨k + 1, by omega, by go_num, by rw [HS.out, ← HO.out]⟩
      case measure => simp [intOf]; omega
    · obtain rfl : k = 4 := by omega
      go_wp2_with fail
      go_ret
      exact ⟨rfl, rfl⟩
end Go.Proofs.Ytcnblgienombeaa.PageBytes
