/- Contracts of the answer's Put and Get, and of key.After. -/
import Derived.Test.YtpiojnphbanggaaKeyGet
namespace Go.Proofs.Ytpiojnphbanggaa.KeyRef
open Go.RowKit KeyPlain Base KeyPut KeyGet

/-! Put, by definition -/
theorem str_append (x y : ByteArray) : x ++ y = ⟨(x.data.toList ++ y.data.toList).toArray⟩ := ba_ext (by simp)
theorem put_byte {x p : ByteArray} {l : List UInt8} {k : Nat} (hx : x.data.toList = l ++ esc (p.data.toList.take k)) (h : k < p.size) (hz : ¬ p[k] = 0) : (x ++ p.extract k (k + 1)).data.toList = l ++ esc (p.data.toList.take (k + 1)) := by
  rw [esc_other p k h hz, str_append]
  simp only [hx, Lib.extract_data, ba_drop_cons p k h]
  simp
theorem put_zero {x p : ByteArray} {l : List UInt8} {k : Nat} (hx : x.data.toList = l ++ esc (p.data.toList.take k)) (h : k < p.size) (hz : p[k] = 0) : (x ++ p.extract k (k + 1) ++ ⟨#[255]⟩).data.toList = l ++ esc (p.data.toList.take (k + 1)) := by
  rw [esc_zero p k h hz, str_append, str_append]
  simp only [hx, Lib.extract_data, ba_drop_cons p k h, hz]
  simp
theorem put_end {x p : ByteArray} {ps : List ByteArray} {i k : Nat} (hi : i < ps.length) (hp : ps[i] = p) (hx : x.data.toList = kput (lst (ps.take i)) ++ esc (p.data.toList.take k)) (h : ¬ k < p.size) : (x ++ ⟨#[0, 0]⟩).data.toList = kput (lst (ps.take (i + 1))) := by
  rw [take_kput ps i hi, str_append, hp]
  rw [List.take_of_length_le (l := p.data.toList) (by rw [ba_len]; omega)] at hx
  simp only [hx, kpart]
  simp
theorem len_of {x : ByteArray} {l : List UInt8} (h : x.data.toList = l) : x.size = l.length := by rw [← h, ba_len]

set_option maxHeartbeats 1000000 in
theorem refPut_any (A : Option Addr) (c : Nat) (ps : List ByteArray) (w : World) (hr : Row w w.heap.size A (ps.map .string)) (hn : ps.length ≤ maxLen) (hsz : (kput (lst ps)).length ≤ 300000) :
    Calls Try.prog 50 #[.slice A ps.length c] w fun e w' => e = .returned (.string ⟨(kput (lst ps)).toArray⟩) ∧ w = w' := by
  unfold maxLen at hn
  go_enter Try.func50, Try.ntmps50
  go_wp2_with fail
  go_loop [3, 4] (fun z i => ∃ (k : Nat) (x : ByteArray), k ≤ ps.length ∧ i = .int .i64 k ∧ z = .string x ∧ x.data.toList = kput (lst (ps.take k))) (fun _ i => ps.length - (intOf i).toNat)
  case atStart => exact ⟨0, _, by omega, rfl, rfl, by simp [lst, kput]⟩
  case round =>
    obtain ⟨i, x, hi, rfl, rfl, hpre⟩ := hrel
    by_cases h1 : i < ps.length
    · obtain ⟨ad, rfl, hb, hc⟩ := hr.get i (by simpa using h1)
      simp only [List.getElem_map] at hc
      have hle := take_len_le ps i h1
      have HP := Lib.hid hpre
      clear hpre
      obtain ⟨p, hp⟩ : ∃ p, p = ps[i] := ⟨_, rfl⟩
      have HPI := Lib.hid hp.symm
      rw [← hp] at hc hle
      clear hp
      go_wp2_with fail
      go_loop [3, 5] (fun z j => ∃ (k : Nat) (y : ByteArray), k ≤ p.size ∧ j = .int .i64 k ∧ z = .string y ∧ y.data.toList = kput (lst (ps.take i)) ++ esc (p.data.toList.take k)) (fun _ j => p.size - (intOf j).toNat)
      case atStart => exact ⟨0, x, by omega, rfl, rfl, by rw [HP.out]; simp [esc]⟩
      case round =>
        obtain ⟨k, y, hk, rfl, rfl, hy⟩ := hrel
        have hyl := len_of hy
        rw [List.length_append] at hyl
        have hel := esc_take_len p k
        have hys : y.size ≤ 900000 := by omega
        have HY := Lib.hid hy
        clear hy hyl hel
        by_cases h2 : k < p.size
        · by_cases hz : p[k] = 0
          · have hzb : ((p[k].toNat : Int) == 0) = true := beq_of p[k] 0 hz
            have HZ := Lib.hid (put_zero HY.out h2 hz)
            clear hz
            go_wp2_with fail
            go_round
            case rel => exact ⟨k + 1, _, by omega, by go_num, rfl, HZ.out⟩
            case measure => simp [intOf]; omega
          · have hzb : ((p[k].toNat : Int) == 0) = false := beq_no p[k] 0 hz
            have HZ := Lib.hid (put_byte HY.out h2 hz)
            clear hz
            go_wp2_with fail
            go_round
            case rel => exact ⟨k + 1, _, by omega, by go_num, rfl, HZ.out⟩
            case measure => simp [intOf]; omega
        · have HZ := Lib.hid (put_end h1 HPI.out HY.out h2)
          go_wp2_with fail
          go_round
          case rel => exact ⟨i + 1, _, by omega, by go_num, rfl, HZ.out⟩
          case measure => simp [intOf]; omega
    · have HX := Lib.hid (show x = ⟨(kput (lst ps)).toArray⟩ from ba_ext (by rw [hpre, List.take_of_length_le (by omega)]))
      clear hpre
      go_wp2_with fail
      go_ret
      exact ⟨ret_str HX.out, rfl⟩

/-! Get, by definition -/
def Gave (s : ByteArray) (w : World) (e : Ending) (w' : World) : Prop :=
  Below w.heap.size w w' ∧ ((∃ (ps : List ByteArray) (A : Option Addr) (c : Nat), s.data.toList = kput (lst ps) ∧ e = .returned (.tuple #[.slice A ps.length c, .bool true]) ∧ Own w' w.heap.size 9 A c (ps.map .string))
    ∨ ((∀ qs, s.data.toList ≠ kput qs) ∧ ∃ v, e = .returned (.tuple #[v, .bool false])))
theorem gave_no {s : ByteArray} {w w' : World} {ps : List (List UInt8)} {x : List UInt8} {v : Value} (hb : Below w.heap.size w w') (h : s.data.toList = kput ps ++ x) (hx : x ≠ []) (hf : kfirst x = none) :
    Gave s w (.returned (.tuple #[v, .bool false])) w' := ⟨hb, .inr ⟨fun qs => by rw [h]; exact kput_no hx hf qs, v, rfl⟩⟩
theorem gave_end {s x : ByteArray} {w w' : World} {ps : List ByteArray} {A : Option Addr} {c k : Nat} {o : Bool} (hb : Below w.heap.size w w') (hk : ¬ k < s.size) (h : s.data.toList.take k = kput (lst ps) ++ esc x.data.toList) (ho : o = !x.data.toList.isEmpty)
    (hown : Own w' w.heap.size 9 A c (ps.map .string)) : Gave s w (.returned (.tuple #[.slice A ps.length c, .bool (!o)])) w' := by
  rw [List.take_of_length_le (by rw [ba_len]; omega)] at h
  cases e : x.data.toList with
  | nil =>
    rw [e] at h ho
    simp only [esc, List.append_nil] at h
    subst ho
    exact ⟨hb, .inl ⟨ps, A, c, h, rfl, hown⟩⟩
  | cons d l =>
    rw [e] at h ho
    subst ho
    refine gave_no hb h ?_ ?_
    · by_cases g : d = 0 <;> simp [esc, g]
    · have := kfirst_esc (d :: l) []
      rw [List.append_nil] at this
      rw [this]; rfl
theorem tail_none {s x : ByteArray} {ps : List (List UInt8)} {k : Nat} (h : s.data.toList.take k = kput ps ++ esc x.data.toList) (h1 : k < s.size) (hz : s[k] = 0) (hq : ¬ k + 1 < s.size ∨ ∃ h2 : k + 1 < s.size, ¬ s[k + 1] = 0 ∧ ¬ s[k + 1] = 255) :
    s.data.toList = kput ps ++ (esc x.data.toList ++ s.data.toList.drop k) ∧ (esc x.data.toList ++ s.data.toList.drop k) ≠ [] ∧ kfirst (esc x.data.toList ++ s.data.toList.drop k) = none := by
  refine ⟨by rw [← List.append_assoc, ← h, List.take_append_drop], by rw [ba_drop_cons s k h1]; simp, ?_⟩
  rw [kfirst_esc, ba_drop_cons s k h1, hz]
  rcases hq with g | ⟨h2, g1, g2⟩
  · rw [List.drop_of_length_le (by rw [ba_len]; omega)]; rfl
  · rw [ba_drop_cons s (k + 1) h2]; simp [kfirst, g1, g2]
theorem gstep_other {s x : ByteArray} {l : List UInt8} {k : Nat} (h : s.data.toList.take k = l ++ esc x.data.toList) (h1 : k < s.size) (hz : ¬ s[k] = 0) : s.data.toList.take (k + 1) = l ++ esc (x ++ s.extract k (k + 1)).data.toList := by
  rw [ba_take_snoc s k h1, h, str_append]
  simp only [Lib.extract_data, ba_drop_cons s k h1]
  simp [esc_append, esc, hz]
theorem gstep_zero {s x : ByteArray} {l : List UInt8} {k : Nat} (h : s.data.toList.take k = l ++ esc x.data.toList) (h1 : k < s.size) (hz : s[k] = 0) (h2 : k + 1 < s.size) (hq : s[k + 1] = 255) : s.data.toList.take (k + 2) = l ++ esc (x ++ ⟨#[0]⟩).data.toList := by
  rw [ba_take_snoc s (k + 1) h2, ba_take_snoc s k h1, h, str_append, hz, hq]
  simp [esc_append, esc]
theorem gstep_part {s x : ByteArray} {ps : List ByteArray} {k : Nat} (h : s.data.toList.take k = kput (lst ps) ++ esc x.data.toList) (h1 : k < s.size) (hz : s[k] = 0) (h2 : k + 1 < s.size) (hq : s[k + 1] = 0) : s.data.toList.take (k + 2) = kput (lst (ps ++ [x])) ++ esc [] := by
  rw [ba_take_snoc s (k + 1) h2, ba_take_snoc s k h1, h, hz, hq]
  simp [lst, kput_append, kput, kpart, esc]
theorem gsize {s x : ByteArray} {ps : List ByteArray} {k : Nat} (h : s.data.toList.take k = kput (lst ps) ++ esc x.data.toList) : ps.length + x.size ≤ k := by
  have h1 : ∀ l : List UInt8, l.length ≤ (esc l).length := by
    intro l
    induction l with
    | nil => simp
    | cons c l ih => by_cases h : c = 0 <;> simp [esc, h] <;> omega
  have h2 : ∀ l : List (List UInt8), l.length ≤ (kput l).length := by
    intro l
    induction l with
    | nil => simp
    | cons c l ih => simp [kput, kpart]; omega
  have h3 := congrArg List.length h
  have h4 := List.length_take_le k s.data.toList
  have h5 := h1 x.data.toList
  have h6 := h2 (lst ps)
  rw [List.length_append] at h3
  rw [ba_len] at h5
  rw [lst_len] at h6
  omega
theorem open_byte (x s : ByteArray) (k : Nat) (h1 : k < s.size) : true = !(x ++ s.extract k (k + 1)).data.toList.isEmpty := by
  rw [str_append]; simp only [Lib.extract_data, ba_drop_cons s k h1]; simp
theorem open_zero (x : ByteArray) : true = !(x ++ ⟨#[0]⟩).data.toList.isEmpty := by rw [str_append]; simp

/-! After -/
theorem tail_all {s : ByteArray} {k : Nat} (hk : k < s.size) (h : s.data.toList = s.data.toList.take (k + 1) ++ List.replicate (s.size - (k + 1)) 255) (hc : s[k] = 255) : s.data.toList = s.data.toList.take k ++ List.replicate (s.size - k) 255 := by
  have e : s.size - k = (s.size - (k + 1)) + 1 := by omega
  rw [ba_take_snoc s k hk, hc] at h
  rw [e, List.replicate_succ]
  simpa using h
theorem after_yes {s : ByteArray} {k : Nat} (hk : k < s.size) (h : s.data.toList = s.data.toList.take (k + 1) ++ List.replicate (s.size - (k + 1)) 255) (hc : ¬ s[k] = 255) : after s.data.toList = some (s.data.toList.take k ++ [s[k] + 1]) := by
  rw [h, after_tail, ba_take_snoc s k hk, after_snoc _ _ hc]
  congr 1
  rw [List.take_append_of_le_length (by rw [List.length_append, List.length_take, ba_len]; simp; omega)]
  rw [List.take_append_of_le_length (by rw [List.length_take, ba_len]; omega), List.take_take]
  simp
theorem after_no {s : ByteArray} (h : s.data.toList = s.data.toList.take 0 ++ List.replicate (s.size - 0) 255) : after s.data.toList = none := by
  rw [h, after_tail]; rfl
def Aft (s : ByteArray) (w : World) (e : Ending) (w' : World) : Prop :=
  Below w.heap.size w w' ∧ match after s.data.toList with
    | some a => e = .returned (.tuple #[.string ⟨a.toArray⟩, .bool true])
    | none => e = .returned (.tuple #[.string ⟨#[]⟩, .bool false])
theorem aft_no {s : ByteArray} {w w' : World} (hb : Below w.heap.size w w') (h : after s.data.toList = none) : Aft s w (.returned (.tuple #[.string ⟨#[]⟩, .bool false])) w' := by
  refine ⟨hb, ?_⟩
  rw [h]
theorem aft_yes {s : ByteArray} {w w' : World} {a : List UInt8} (hb : Below w.heap.size w w') (h : after s.data.toList = some a) : Aft s w (.returned (.tuple #[.string ⟨a.toArray⟩, .bool true])) w' := by
  refine ⟨hb, ?_⟩
  rw [h]
theorem bv_set {s : ByteArray} {k : Nat} (hk : k < s.size) (hc : ¬ s[k] = 255) : (bv (s.extract 0 (k + 1)).data.toList).set k (.int .u8 ((s[k].toNat : Int) + 1)) = bv (s.data.toList.take k ++ [s[k] + 1]) := by
  have hlt := UInt8.toNat_lt s[k]
  have hcn : s[k].toNat ≠ 255 := fun g => hc (UInt8.toNat_inj.1 (by simpa using g))
  have hs : (s[k] + 1).toNat = s[k].toNat + 1 := by rw [UInt8.toNat_add]; simp; omega
  have hl : (s.data.toList.take k).length = k := by rw [List.length_take, ba_len]; omega
  rw [Lib.extract_data, List.drop_zero, Nat.sub_zero, ba_take_snoc s k hk, bv_append, bv_append, List.set_append_right _ _ (by rw [bv_len]; omega), bv_len, hl]
  simp [bv, hs]

end Go.Proofs.Ytpiojnphbanggaa.KeyRef
